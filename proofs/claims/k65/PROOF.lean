import PyProof.Rows.All
import KE.KIsAll
import OpenK.KMore
import KE.LcSums
import KE.KBools
import KE.KxBytes
import Lean
import PyProof.EqAt
import PyProof.EqKinds
import PyProof.TupleCall
import KE.KEqSeq
import PyProof.NeKinds
import PyProof.FitsBits
import PyProof.Rows.SumAny
import PyProof.Rows.SetFrom
import PyProof.SetRoads
import PyProof.ListRange
import KE.KSortTup
import KE.KSortKey
import KE.KLam
import KE.KNestM
import PyProof.Rows.MinMaxN
import KE.KRevIter
import PyProof.MaxThree
import PyProof.AutoSeq1
import PyProof.FactsAll.list_3
import KE.KDictList
import KE.KDictLaws
import PyProof.CallRoads
import PyProof.MinMaxWalk
import PyProof.WalkInts
import PyProof.Rows.CallKwBuiltin
import PyProof.Defs
import PyProof.Rows.SeqMore
import PyProof.SeqI3
import Wide.FinOn
import PySem.Challenge.RW_hourtable_k65_fewest_moved
set_option Elab.async false
set_option linter.all false
set_option maxRecDepth 100000
set_option bootstrap.genMatcherCode false
open List renaming length_map → aa, getD_eq_getElem?_getD → af, getElem?_eq_some_iff → ao, length_append → au, mem_singleton → aw, getElem?_map → ax, mem_cons_of_mem → ay, mem_append_right → aA, map_append → aE, mem_cons → aF, size_toArray → aG, mem_append → aH, range → aJ, mem_append_left → aK, length_cons → aP, mem_of_getElem? → aW, length_range → aY, getElem_mem → bb, mem_map → bc, take_add_one → bj, take_length → bp, mem_cons_self → bu, getElem?_append_right → bw, replicate → bx, nodup_cons → bz, length_take → bK, map_cons → bM, mem_range → bT, foldl_cons → bV, nodup_iff_pairwise_ne → bY, getElem_of_mem → cn, mem_filter → cp, not_mem_nil → cx, getElem?_append_left → cI, foldl_append → cR, length_filter_le → cX, map_map → cY, append_nil → dg, lookup_cons → dm, length_drop → dt, length_singleton → dH, length_replicate → dI, length_eq_zero_iff → dJ, getElem?_set_ne → dN, getElem?_set_self → dU, length_reverse → d7, lookup → eM, filter_cons → eN, reverse_cons → eZ, toList_toArray → e8, getElem?_range → fb, length_set → fj, dropLast_concat → fO, filter_append → fZ, pairwise_map → gB, getElem_toArray → gC, map_congr_left → gZ, length_pos_iff → g9, all_eq_true → ia, range_succ → ir, find?_cons → iu, countP_cons → ja, replicate_succ → jj, toArray → jQ, take_of_length_le → jR, nodup_nil → jS, nodup_append → jT, append_assoc → jU, any_eq_false → jV, getElem_map → j9, getElem_inj → ka, any_cons → kh, mem_of_mem_take → km, length_nil → kJ, mem_replicate → kX, getElem_range → kY, eq_nil_iff_forall_not_mem → qL
open PySem renaming Value → ae, wpAny_bind → ai, Addr → ak, Shared → av, wpAny_pure → aL, wpAny → aU, Program → aX, sizeLine → bg, FuncData → bh, starEach → br, model → bt, World → bC, boot_len → bD, Heap → bL, mainGlobals → bO, Around → bS, Str → bU, wpAny_mono → cf, mem_of_lookup → cu, Stmt → cL, NameKind → cQ, wpAny_field → cU, wpAny_holding → cW, wpAny_callSpecial?_slot → dQ, wpAny_setField_rec → dX, wpAny_seqItems → dY, wpAny_Call_Name_kw → dZ, eval → eE, wpAny_newObj_type → eG, wpAny_tryCatch → eK, Builtin → eQ, backTo → eR, lookup_relabel_local → eV, Spec → eY, wpAny_truthy_bool → fm, wpAny_pyIter_list → fq, compareOp → ft, Scope → fG, foldedSetIterable → fT, Arguments → fU, wpAny_letGo → gh, sizeLine_eq → gi, wpAny_call_entry → gk, codeAny_builtin → gQ, wpAny_updateSeq → iS, wpAny_passesOwn → iT, binaryOp → iW, plainId_quiet → iX, codeAny → i9, sysModules → jk, recursionLimit → jn, rawInt → jo, pyNext → jB, intItems → jK, call → jZ, Paired → j4, attributeBase → kR, wpAny_loadPart' → kZ, importedModules → k6, wpAny_pyIter_tuple → l5
open PySem.Heap renaming get?_push_of_some → aq, lt_size → aI, get?_push_size → aQ, SameBut → cy, size_push → dh, get?_update_ne → hV, get?_update_other → il
open PySem.W renaming Frag → ar, mg_none_of → bZ, nsIn → cJ, findIn → cM, codeHdIn → df, fnOf → dE, kia_one → eF, keepIn → eS, emptyDict → eU, instObj → gj, mg_of → gz, codeIn → iH, kitOne → jC, plainGet → j3, callWith_K → kM
open Nat renaming le_refl → az, lt_of_lt_of_le → aM, le_trans → aN, zero_le → bo, ne_of_lt → bB, lt_of_le_of_lt → bX, ne_of_gt → cE, lt_of_le_of_ne → fH, lt_irrefl → fM, sub_self → gJ, lt_succ_of_lt → gL, mul_assoc → gO, mul_comm → jd, lt_succ_self → jf, le_of_lt → jg, lt_succ_iff_lt_or_eq → jA
open Option renaming map_eq_some_iff → aO, map_some → gm
open Bool renaming false_ne_true → aZ, and_eq_true → cz, not_eq_true' → jW, eq_iff_iff → kK, eq_false_iff → lV
open PySem.F renaming plainAttrs_list → bf, type_list_append → bQ, slot_list_append → bR, type_list_pop → fg, slot_list_pop → fh, plain_min_loop → ig, plain_max_loop → ij, slot_tuple_iterator_next → ji, slot_enumerate_next → ko, args_tuple_add_2 → lr, entry_tuple_add → lR
open Option.some renaming inj → bE
open PySem.PassesOwn renaming never → bH
open PyProof.Rows renaming seqObj → bJ, slot_tuple_getitem → dG, callWith_type1 → fN, get?_update_seq → fV, boot_tuple → iG
open Int renaming toNat_natCast → cb, eq_ofNat_of_zero_le → cG, emod_lt_of_pos → dO, emod_nonneg → eI, toNat_of_nonneg → fe, emod_add_mul_ediv → fE, emod_eq_of_lt → fP, le_refl → fW, zero_mul → gM, zero_add → iq, mul_ediv_add_emod → iI, add_mul_emod_self_left → i7, mul_zero → jh, mul_add → kI
open Array renaming length_toList → cj, getElem?_eq_getElem → d5, getElem?_toList → j6
open PySem.Str renaming ofString → cq
open Ne renaming symm → cH
open PySem.Obj renaming mapSeq → cK
open False renaming elim → cT
open PySem.Builtin.SmallTypes renaming nextOf → cV, ownedTupleIsFree → fF, ownedTupleHandOut → ib
open PySem.Builtin.Range renaming rangeSize → d9, small → iE
open Classical renaming byContradiction → e7
open Pure renaming pure → fQ
open PySem.Challenge renaming rw_hourtable_k65_fewest_moved → fY
open PySem.Heap.SameBut renaming update → gn
open PySem.Around renaming under_plainId → gu
open PySem.Builtin.Builtins renaming bindParams → gP
open PySem.Builtin.Slice renaming slicePlaces → iw, sliceAdjust → ki
open PySem.Builtin.Tuple renaming tupleExact → iJ
open PySem.W.Fast renaming te14364793385576792824 → iM, te14289696077712309145 → iN, te14082659384304107361 → iP, te10274390034422433532 → iQ, te1435165496053646825 → iY, te4187177175401517315 → mU
open PySem.Builtin.List renaming listTooLong → iR
open MonadExcept renaming tryCatch → jG
open ToString renaming toString → jH
open PySem.Calls renaming callWith_builtin → jN
noncomputable section
abbrev rN:=@if_neg
abbrev rO:=@if_pos
abbrev rQ:=@absurd
abbrev rR:=@decide_eq_true
abbrev rS:=@decide_eq_false
abbrev rT:=@of_decide_eq_true
abbrev rV:=@congrArg
set_option maxHeartbeats 4000000
theorem gE {α:Type}{l:List α}{i:Nat}(h:i<l.length):l[i]? =some l[i]:=List.getElem?_eq_getElem h
variable {A:bS}{As ch fp:List ak}{B:Prop}{C Da L Ls T0 T1 Tb0 a dx f f1 f2 f3 f4 kS qs:ak}{E Q:ae→av→Prop}{K:ar}{M:PySem.Model}{N fr loose ps:List PySem.Str}{P prog:aX}{R:PySem.Result→av→Prop}{T:String}{Ts:List (List Int)}{XP:(PySem.Str→Option ae)→bL→Prop}{YP:bC→bL→Prop}{aR pins':List (ak×PySem.Obj)}{apos lp p0 p1 p2 pos pos' spos:PySem.Pos}{b be d lo y z:Int}{base h h':bL}{body e ea elt iter re tg value:PySem.Expr}{cl:List (PySem.Str×ak)}{d':PySem.Drawn}{e1 i iy j m n t':Nat}{env:PySem.Env}{es ifs:List PySem.Expr}{fd fd1 fd2 fd3 fd4 fd5:bh}{fz:ak→Option PySem.Obj}{g':Array PySem.GenState}{gs hs ns ts:List Int}{hi:Option Int}{items:Array ae}{its old us vs:List ae}{js l tk π:List Nat}{key:Nat→Int}{keys:List (Option PySem.Expr)}{ks:List (Int×Int)}{kw:List (PySem.Str×ae)}{lq name q q0 q1 qual x y0:PySem.Str}{mA mg:PySem.Str→Option ae}{oI ob:PySem.Obj}{op:PySem.CmpOp}{osl:Array (Option ae)}{outer:List PySem.Env}{p:Array Nat}{params:fU}{s s':av}{scope:fG}{st:cL}{u was:ae}{w:bC}{α:Type}
namespace L2
open PySem PySem.Spec PyProof.Rows
def jy (s:cL):fU:=match s with
 | .FunctionDef _ a _ _ _ _ _ _ _ _=>a
 | _=>{ posonlyargs:=[],args:=[],vararg:=none,kwonlyargs:=[],kw_defaults:=[],kwarg:=none,defaults:=[] }
def fX (s:cL):List cL:=match s with
 | .FunctionDef _ _ b _ _ _ _ _ _ _=>b
 | _=>[]
def defScope (s:cL):fG:=match s with
 | .FunctionDef _ _ _ _ _ _ sc _ _ _=>sc
 | _=>{ kind:= .function,names:=[],isGenerator:=false,isCoroutine:=false }
end L2
namespace HN
open PySem L2 PyProof.Rows
def top (i:Nat):cL:=PySem.Challenge.pw_hourtable_k65_fewest_moved.main.body.getD i (.Pass ⟨0,0,0,0⟩)
def clsOf (s:cL)(i:Nat):cL:=match s with
 | .ClassDef _ _ _ body _ _ _ _ _ _ _=>body.getD i (.Pass ⟨0,0,0,0⟩)
 | s=>s
structure Df (K:ar)(x:Str)(st:cL)(f:ak):Prop where
 n:cJ K bO x=some (some (.ref f))
 l:∃ (oc:ae) (od an:Option ak) (sl:Array (Option ae)) (kV dc pm cd ct:ae),K.lookup f=some ⟨oc,od,.func (dE x x (jy st) (fX st) (defScope st) .none kV dc pm an cd ct),sl⟩∧iH K cd x=true∧eS K (.ref f)=true
def Facts (K:ar):Prop:=∀ C:Prop,(∀ {f1 f2 f3 f4 f5 f6 f7 f8 f9 f10 f11 f12 f13 f14 f15 f16 f17 f18 f19 f20 f21 f22 f23 f24 f25 f26 f27 f28 f29 f30 f31 f32 f33 f34 f35 f36 f37 f38 f39 f40 f41 f42 f43 f44 f45 f46 f47 f48 f49 f50 f51 f52 f53 f54 f55 f56 f57 f58 f59:ak} {t1 t2:Tok} {xC xi xs xt:ak} {odI anI odS anS odT anT:Option ak} {slI slS slT:Array (Option ae)} {ocI kVI dcI pmI ctI ocS kVS dcS pmS cdS ctS ocT kVT dcT pmT cdT ctT:ae},(Df K "width_of" (top 7) f1) →
 (Df K "leads_from" (top 10) f2) →
 (Df K "leads_to" (top 11) f3) →
 (Df K "first_bounds" (top 14) f4) →
 (Df K "sum_of" (top 15) f5) →
 (Df K "beats_of" (top 16) f6) →
 (Df K "is_dead" (top 17) f7) →
 (Df K "spans_by_width" (top 20) f8) →
 (Df K "forest_of" (top 21) f9) →
 (Df K "steps_from" (top 22) f10) →
 (Df K "way_between" (top 23) f11) →
 (Df K "ring_by" (top 24) f12) →
 (Df K "cases_of" (top 25) f13) →
 (Df K "rings_of" (top 26) f14) →
 (Df K "spread_of" (top 27) f15) →
 (Df K "rest_by" (top 29) f16) →
 (Df K "with_bound" (top 37) f17) →
 (Df K "rings_over" (top 46) f18) →
 (Df K "middle_of" (top 48) f19) →
 (Df K "dead_leaf" (top 49) f20) →
 (Df K "table_by" (top 50) f21) →
 (Df K "tables_that_fit" (top 51) f22) →
 (Df K "tree_from" (top 52) f23) →
 (Df K "tree_by" (top 53) f24) →
 (Df K "table_for" (top 54) f25) →
 (Df K "is_whole" (top 4) f26) →
 (Df K "is_within" (top 5) f27) →
 (Df K "is_step" (top 9) f28) →
 (Df K "is_way" (top 12) f29) →
 (Df K "is_ring" (top 13) f30) →
 (Df K "is_headed" (top 33) f31) →
 (Df K "is_cut" (top 34) f32) →
 (Df K "is_leaf" (top 36) f33) →
 (Df K "sides_of" (top 38) f34) →
 (Df K "leaves_in" (top 39) f35) →
 (Df K "is_right" (top 40) f36) →
 (Df K "shown_by" (top 43) f37) →
 (Df K "parts_of" (top 56) f38) →
 (Df K "shifts_between" (top 57) f39) →
 (Df K "moved_in_parts" (top 58) f40) →
 (Df K "commonest" (top 59) f41) →
 (Df K "held_at_most" (top 60) f42) →
 (Df K "others_in" (top 61) f43) →
 (Df K "fewest_moved" (top 62) f44) →
 (Df K "_law_cell_at" (top 64) f45) →
 (Df K "_law_box" (top 65) f46) →
 (Df K "_law_draw" (top 66) f47) →
 (Df K "_law_small" (top 67) f48) →
 (Df K "_law_kept" (top 68) f49) →
 (Df K "_law_all_kept" (top 69) f50) →
 (Df K "_law_tables" (top 70) f51) →
 (Df K "_law_table" (top 71) f52) →
 (Df K "_law_fitting" (top 72) f53) →
 (Df K "_law_is_table" (top 73) f54) →
 (Df K "_law_moved" (top 74) f55) →
 (Df K "_law_least" (top 75) f56) →
 (Df K "_law_right" (top 76) f57) →
 (Df K "_law_crowded" (top 77) f58) →
 (Df K "law" (top 78) f59) →
 (cJ K bO "MOST_CASES" =some (some (.int 4096 t1))) →
 (cJ K bO "MOST_LEAVES_WALKED" =some (some (.int 20000 t2))) →
 (cJ K bO "isinstance" =some none) →
 (cJ K bO "int" =some none) →
 (cJ K bO "bool" =some none) →
 (cJ K bO "tuple" =some none) →
 (cJ K bO "len" =some none) →
 (cJ K bO "min" =some none) →
 (cJ K bO "all" =some none) →
 (cJ K bO "range" =some none) →
 (cJ K bO "enumerate" =some none) →
 (cJ K bO "zip" =some none) →
 (cJ K bO "sum" =some none) →
 (cJ K bO "list" =some none) →
 (cJ K bO "max" =some none) →
 (cJ K bO "set" =some none) →
 (cJ K bO "sorted" =some none) →
 (cJ K bO "reversed" =some none) →
 (cJ K bO "str" =some none) →
 (cJ K bO "Cuts" =some (some (.ref xC))) →
 (j3 K xC Str.empty=true) →
 (PySem.W.hasDictIn K xC=true) →
 (PySem.W.plainOver K xC=true) →
 (cM K (.ref xC) "__setattr__" =some (some (.builtin "object.__setattr__"))) →
 (cM K (.ref xC) "first_case" =some none) →
 (cM K (.ref xC) "touched" =some none) →
 (cM K (.ref xC) "order" =some none) →
 (PySem.W.makesIn K xC=true) →
 (cM K (.ref xC) "__init__" =some (some (.ref xi))) →
 (PySem.W.isFn K (.ref xi)=true) →
 (eS K (.ref xC)=true) →
 (K.lookup xi=some ⟨ocI,odI,.func (dE "__init__" "Cuts.__init__" (jy (clsOf (top 47) 0)) (fX (clsOf (top 47) 0)) (defScope (clsOf (top 47) 0)) .none kVI dcI pmI anI (.ref 273) ctI),slI⟩) →
 (iH K (.ref 273) "Cuts.__init__" =true) →
 (eS K (.ref xi)=true) →
 (cM K (.ref xC) "span_to_cut" =some (some (.ref xs))) →
 (PySem.W.isFn K (.ref xs)=true) →
 (eS K (.ref xs)=true) →
 (K.lookup xs=some ⟨ocS,odS,.func (dE "span_to_cut" "Cuts.span_to_cut" (jy (clsOf (top 47) 1)) (fX (clsOf (top 47) 1)) (defScope (clsOf (top 47) 1)) .none kVS dcS pmS anS cdS ctS),slS⟩) →
 (iH K cdS "Cuts.span_to_cut" =true) →
 (cM K (.ref xC) "sides" =some (some (.ref xt))) →
 (PySem.W.isFn K (.ref xt)=true) →
 (eS K (.ref xt)=true) →
 (K.lookup xt=some ⟨ocT,odT,.func (dE "sides" "Cuts.sides" (jy (clsOf (top 47) 2)) (fX (clsOf (top 47) 2)) (defScope (clsOf (top 47) 2)) .none kVT dcT pmT anT cdT ctT),slT⟩) →
 (iH K cdT "Cuts.sides" =true) →
 (∃ (oc:ae) (od an:Option ak) (sl:Array (Option ae)) (kV dc pm ct:ae),K.lookup f8=some ⟨oc,od,.func (dE "spans_by_width" "spans_by_width" (jy (top 20)) (fX (top 20)) (defScope (top 20)) .none kV dc pm an (.ref 137) ct),sl⟩) →
 (df K 137 133=true) →
 (df K 273 271=true) →
 (∃ (oc:ae) (od an:Option ak) (sl:Array (Option ae)) (kV dc pm ct:ae),K.lookup f25=some ⟨oc,od,.func (dE "table_for" "table_for" (jy (top 54)) (fX (top 54)) (defScope (top 54)) .none kV dc pm an (.ref 341) ct),sl⟩) →
 (df K 341 337=true) →
 (∃ (oc:ae) (od an:Option ak) (sl:Array (Option ae)) (kV dc pm ct:ae),K.lookup f41=some ⟨oc,od,.func (dE "commonest" "commonest" (jy (top 59)) (fX (top 59)) (defScope (top 59)) .none kV dc pm an (.ref 367) ct),sl⟩) →
 (df K 367 363=true) →
 (∃ (oc:ae) (od an:Option ak) (sl:Array (Option ae)) (kV dc pm ct:ae),K.lookup f44=some ⟨oc,od,.func (dE "fewest_moved" "fewest_moved" (jy (top 62)) (fX (top 62)) (defScope (top 62)) .none kV dc pm an (.ref 382) ct),sl⟩) →
 (df K 382 380=true)→C)→C
def Wp:Prop:=∀ {q:aX} {loose:List Str} {XP:(Str→Option ae)→bL→Prop} {YP:bC→bL→Prop} {d:DefRec} {K:Params→ar},d.params.defaults=[]→d.name = "law" →(∀ (w:bC) (h:bL),YP w h→(K w.params).In h∧∀ T∈([133,271,337,363,380]:List ak),h.get? T=some (PySem.W.tabObj #[]))→(∀ w:bC,∀ T∈([133,271,337,363,380]:List ak),∃ c,df (K w.params) c T=true)→(∀ w:bC,PySem.W.noTabs (K w.params)=true)→(∀ w:bC,Facts (K w.params))→PySem.W.WalkO q loose XP YP (fY).row.toRowW d [] (fun f vs=>PySem.call f vs)
end HN
section
open PySem PySem.W PyProof.Rows
def HN.seenOf:aX:={ PySem.Challenge.pw_hourtable_k65_fewest_moved with main:={ PySem.Challenge.pw_hourtable_k65_fewest_moved.main with body:=[1,2,4,5,7,9,10,11,12,13,14,15,16,17,18,20,21,22,23,24,25,26,27,29,31,32,33,34,35,36,37,38,39,40,41,42,43,45,46,47,48,49,50,51,52,53,54,56,57,58,59,60,61,62,64,65,66,67,68,69,70,71,72,73,74,75,76,77,78].map HN.top } }
def HN.isSeen (s:av):Bool:=xlAt HN.seenOf [] s && recOk (RowW.records (OpenRow.toRowW (OpenLaw.row fY))) s
local macro_rules
 | `(tactic| o_head $H:term) => `(tactic| (refine holds_open (q := HN.seenOf) (loose := []) (XP := XL HN.seenOf []) (Xt := HN.isSeen) (Yf := Hook.obs $H) (Ya := Hook.val $H) (YP := Hook.says $H) (N := 2809) ?_ (Hook.of $H) (Hook.keeps $H) (fun s e => xl_of s (Bool.and_eq_true_iff.mp e).1) XL.keeps (by rfl) (by rfl) (by rfl) (fun s e => recFacts_of (Bool.and_eq_true_iff.mp e).2) ?_ ?_ ?_ ?_ ?_ ?_))
theorem HN.left_two {σ β:Type}{e:Option σ}{f:σ→α}{g:σ→β}{a:α}{b:β}(h1:e.map f=some a)(h2:e.map g=some b):e.map (fun s=>(f s,g s))=some (a,b):=by
 cases e with
 | none=>cases h1
 | some s=>injection h1 with h1;injection h2 with h2;show some (f s,g s)=_;rw [h1,h2]
theorem HN.left_pr {σ β:Type}{e:Option σ}{f:σ→α×β}{a:α×β}(h1:e.map (fun s=>(f s).1)=some a.1)(h2:e.map (fun s=>(f s).2)=some a.2):e.map f=some a:=by
 cases e with
 | none=>cases h1
 | some s=>injection h1 with h1;injection h2 with h2;exact rV some (Prod.ext h1 h2)
set_option maxRecDepth 100000 in
set_option maxHeartbeats 0 in
theorem HN.head0 (W:HN.Wp)(Lf:∀ w:bC,(openEnds treeTable PySem.Challenge.rw_hourtable_k65_fewest_moved.row.prog w 2809).map (openSeen HN.seenOf [] (k6 PySem.Challenge.rw_hourtable_k65_fewest_moved.row.prog.main.body) HN.isSeen true)=some (openGood HN.seenOf [])):PySem.Challenge.rw_hourtable_k65_fewest_moved.Holds:=by
 w_on;refine holds_law (by decide +kernel) fun said=>?_;k_head
 ·exact fun w=>HN.left_two (Lf w) (by unfold openEnds fencedOpening topFrom;rewrite [iQ,iN,iM,iY,iP];kernel_rfl)
 ·rfl
 ·assumption
 ·decide +kernel
 ·exact ⟨rfl,rfl,rfl,rfl,rfl,by decide +kernel⟩
 ·w_witness2
 k_fill
 refine W rfl rfl (fun w h Y=>⟨PySem.W.km_in_of Y,fun T hT=>PySem.W.km_tabs_of Y T (by revert hT;revert T;decide)⟩) (fun w T hT=>by
  simp only [aF,cx,or_false] at hT
  rcases hT with rfl | rfl | rfl | rfl | rfl
  ·exact ⟨137,by kernel_rfl⟩
  ·exact ⟨273,by kernel_rfl⟩
  ·exact ⟨341,by kernel_rfl⟩
  ·exact ⟨367,by kernel_rfl⟩
  ·exact ⟨382,by kernel_rfl⟩
  ) (fun w=>by kernel_rfl) ?F
 case F =>
  intro w C k;refine' k ?_ ?_ ?_ ?_ ?_ ?_ ?_ ?_ ?_ ?_ ?_ ?_ ?_ ?_ ?_ ?_ ?_ ?_ ?_ ?_ ?_ ?_ ?_ ?_ ?_ ?_ ?_ ?_ ?_ ?_ ?_ ?_ ?_ ?_ ?_ ?_ ?_ ?_ ?_ ?_ ?_ ?_ ?_ ?_ ?_ ?_ ?_ ?_ ?_ ?_ ?_ ?_ ?_ ?_ ?_ ?_ ?_ ?_ ?_ ?y1 ?y2 ?z1 ?z2 ?z3 ?z4 ?z5 ?z6 ?z7 ?z8 ?z9 ?z10 ?z11 ?z12 ?z13 ?z14 ?z15 ?z16 ?z17 ?w1 ?w2 ?w3 ?w4 ?w5 ?w6 ?w7 ?w8 ?w9 ?w10 ?w11 ?w12 ?w13 ?w14 ?w15 ?w16 ?w17 ?w18 ?w19 ?w20 ?w21 ?w22 ?w23 ?w24 ?w25 ?wc0 ?wh0 ?wh1 ?wc2 ?wh2 ?wc3 ?wh3 ?wc4 ?wh4
  all_goals first | exact ⟨by k_is,_,_,_,_,_,_,_,_,_,by k_is,by k_is,by k_is⟩ | skip
  (case y1=>k_is);(case y2=>k_is);(case z1=>k_is);(case z2=>k_is);(case z3=>k_is);(case z4=>k_is);(case z5=>k_is);(case z6=>k_is);(case z7=>k_is);(case z8=>k_is);(case z9=>k_is);(case z10=>k_is);(case z11=>k_is);(case z12=>k_is);(case z13=>k_is);(case z14=>k_is);(case z15=>k_is);(case z16=>k_is);(case z17=>k_is)
  (case w1=>k_is)
  (case w2=>k_is)
  (case w3=>k_is)
  (case w4=>k_is)
  (case w5=>k_is)
  (case w6=>k_is)
  (case w7=>k_is)
  (case w8=>k_is)
  (case w9=>k_is)
  (case w10=>k_is)
  (case w11=>k_is)
  (case w12=>k_is)
  (case w13=>k_is)
  (case w14=>k_is)
  (case w15=>k_is)
  (case w16=>k_is)
  (case w17=>k_is)
  (case w18=>k_is)
  (case w19=>k_is)
  (case w20=>k_is)
  (case w21=>k_is)
  (case w22=>k_is)
  (case w23=>k_is)
  (case w24=>k_is)
  (case w25=>k_is)
  (case wc0=>exact ⟨_,_,_,_,_,_,_,_,by k_is⟩)
  (case wh0=>kernel_rfl)
  (case wh1=>kernel_rfl)
  (case wc2=>exact ⟨_,_,_,_,_,_,_,_,by k_is⟩)
  (case wh2=>kernel_rfl)
  (case wc3=>exact ⟨_,_,_,_,_,_,_,_,by k_is⟩)
  (case wh3=>kernel_rfl)
  (case wc4=>exact ⟨_,_,_,_,_,_,_,_,by k_is⟩)
  (case wh4=>kernel_rfl)
set_option maxHeartbeats 0 in
theorem HN.left1 (w:bC):(openEnds treeTable PySem.Challenge.rw_hourtable_k65_fewest_moved.row.prog w 2809).map (fun s=>(openSeen HN.seenOf [] (k6 PySem.Challenge.rw_hourtable_k65_fewest_moved.row.prog.main.body) HN.isSeen true s).1)=some (openGood HN.seenOf []).1:=by
 unfold openEnds fencedOpening topFrom;rewrite [iQ,iN,iM,iY,iP,mU];kernel_rfl
set_option maxHeartbeats 0 in
theorem HN.left2 (w:bC):(openEnds treeTable PySem.Challenge.rw_hourtable_k65_fewest_moved.row.prog w 2809).map (fun s=>(openSeen HN.seenOf [] (k6 PySem.Challenge.rw_hourtable_k65_fewest_moved.row.prog.main.body) HN.isSeen true s).2)=some (openGood HN.seenOf []).2:=by
 unfold openEnds fencedOpening topFrom;rewrite [iQ,iN,iM,iY,iP,mU];kernel_rfl
theorem HN.leftA (w:bC):(openEnds treeTable PySem.Challenge.rw_hourtable_k65_fewest_moved.row.prog w 2809).map (openSeen HN.seenOf [] (k6 PySem.Challenge.rw_hourtable_k65_fewest_moved.row.prog.main.body) HN.isSeen true)=some (openGood HN.seenOf []):=HN.left_pr (f:=openSeen HN.seenOf [] (k6 PySem.Challenge.rw_hourtable_k65_fewest_moved.row.prog.main.body) HN.isSeen true) (HN.left1 w) (HN.left2 w)
end
local macro_rules
 | `(⋯) => `(by lia)
local macro_rules
 | `(∅) => `(by simp)
local macro_rules
 | `(⇑$_) => `(by trivial)
local macro_rules
 | `(↥$_) => `(by decide)
local macro_rules
 | `(tactic|apply $e) => `(tactic|refine $e)
set_option hygiene false in
local macro_rules
 | `(tactic|specialize $e) => `(tactic|refine $e (by contradiction) (fun cdv A outer s H vs Q E hr h=>?_))
namespace L2
open PySem PySem.Spec PyProof.Rows
abbrev Key:=Sum Int Str
def keyIs:Key→ae→Bool
 | .inl k,v=>ae.isInt k v
 | .inr x,v=>ae.isStrOf x v
def keyH (w:bC):Key→Int
 | .inl k=>hashInt k
 | .inr x=>hashStr w x
def gX:∀ {k:Key} {v:ae},keyIs k v=true→(∃ i t,k=Sum.inl i∧v=ae.int i t)∨(∃ x t,k=Sum.inr x∧v=ae.str x t)
 | .inl i,v,h=>by
  obtain ⟨t,e⟩:=ae.isInt_shape (k:=i) (v:=v) h;exact .inl ⟨i,t,rfl,e⟩
 | .inr x,v,h=>by
  obtain ⟨t,e⟩:=ae.isStrOf_shape (x:=x) (v:=v) h;exact .inr ⟨x,t,rfl,e⟩
def keyIs_int (i:Int)(t:Tok):keyIs (.inl i) (.int i t)=true:=by simp [keyIs,ae.isInt]
def keyIs_str (x:Str)(t:Tok):keyIs (.inr x) (.str x t)=true:=by simp [keyIs,ae.isStrOf]
def key_ll (a b:Int):decide ((Sum.inl a:Key)=Sum.inl b)=(a == b):=by
 by_cases e:a=b
 ·subst e;simp
 ·have h:¬ (Sum.inl a:Key)=Sum.inl b:=fun q=>e (Sum.inl.inj q)
  rw [rS h];exact (beq_eq_false_iff_ne.mpr e).symm
def key_rr (a b:Str):decide ((Sum.inr a:Key)=Sum.inr b)=decide (a=b):=by
 by_cases e:a=b
 ·subst e;simp
 ·have h:¬ (Sum.inr a:Key)=Sum.inr b:=fun q=>e (Sum.inr.inj q)
  rw [rS h,rS e]
def key_lr (a:Int)(b:Str):decide ((Sum.inl a:Key)=Sum.inr b)=false:=rS (fun q=>nomatch q)
def key_rl (a:Str)(b:Int):decide ((Sum.inr a:Key)=Sum.inl b)=false:=rS (fun q=>nomatch q)
def ie (prog:aX)(w:bC):PySem.KeyKind prog w Key where
 is:=keyIs
 hash:=keyH w
 inj:=fun v a b ha hb=>by
  rcases gX ha with ⟨i,t,rfl,rfl⟩ | ⟨x,t,rfl,rfl⟩
  ·rcases gX hb with ⟨j,u,rfl,e⟩ | ⟨y,u,rfl,e⟩
   ·injection e with e1 _;rw [e1]
   ·exact nomatch e
  ·rcases gX hb with ⟨j,u,rfl,e⟩ | ⟨y,u,rfl,e⟩
   ·exact nomatch e
   ·injection e with e1 _;rw [e1]
 byValue:=fun k v h=>by
  rcases gX h with ⟨i,t,rfl,rfl⟩ | ⟨x,t,rfl,rfl⟩ <;> rfl
 pyHash:=fun hv h=>by
  rcases gX hv with ⟨i,t,rfl,rfl⟩ | ⟨x,t,rfl,rfl⟩
  ·exact wpAny_pyHash_int h
  ·exact wpAny_pyHash_str h
 eqBool:=fun hu hv h=>by
  rcases gX hu with ⟨i,t,rfl,rfl⟩ | ⟨x,t,rfl,rfl⟩
  ·rcases gX hv with ⟨j,u,rfl,rfl⟩ | ⟨y,u,rfl,rfl⟩
   ·rw [key_ll] at h;exact wpAny_eqBool_int h
   ·rw [key_lr] at h;exact SeqAt.EqAt.int_str i t y u _ _ _ _ h
  ·rcases gX hv with ⟨j,u,rfl,rfl⟩ | ⟨y,u,rfl,rfl⟩
   ·rw [key_rl] at h;exact SeqAt.EqAt.str_int x t j u _ _ _ _ h
   ·rw [key_rr] at h;exact wpAny_eqBool_str h
 «strs» := fun k x t v h=>by
  rcases gX h with ⟨i,u,rfl,e⟩ | ⟨y,u,rfl,e⟩
  ·exact nomatch e
  ·injection e with e1 _
   subst e1;cases v <;> rfl
def mixKind_int (prog:aX)(w:bC)(i:Int)(t:Tok):(ie prog w).is (.inl i) (.int i t)=true:=keyIs_int i t
def mixKind_str (prog:aX)(w:bC)(x:Str)(t:Tok):(ie prog w).is (.inr x) (.str x t)=true:=keyIs_str x t
inductive V where
 | non | bl (b:Bool) | int (i:Int) | str (x:Str) | byt (b:Array UInt8) | flt (b:UInt64) | ref (a:ak) | ty (n:String)
 deriving DecidableEq
def gq:V→ae→Prop
 | .non,u=>u=ae.none
 | .bl b,u=>u=ae.bool b
 | .int i,u=>∃ t,u=ae.int i t
 | .str x,u=>∃ t,u=ae.str x t
 | .byt b,u=>∃ t,u=ae.bytes b t
 | .flt b,u=>∃ t,u=ae.float b t
 | .ref a,u=>u=ae.ref a
 | .ty n,u=>u=ae.type n
abbrev gw:List V→List ae→Prop:=j4 gq
def gw.length {xs:List V}(r:gw xs us):xs.length=us.length:=Paired.length r
def gw.get:∀ {xs:List V} {us:List ae} {i:Nat} {x:V},gw xs us→xs[i]? =some x→∃ u,us[i]? =some u∧gq x u
 | _,_,_,_,.nil,e=>by simp at e
 | _,_,0,_,.cons r _,e=>by simp at e;subst e;exact ⟨_,rfl,r⟩
 | _,_,i+1,x,.cons _ t,e=>by
  obtain ⟨u,h1,h2⟩:=gw.get (i:=i) (x:=x) t (by simpa using e);exact ⟨u,by simpa using h1,h2⟩
def gw.set {x:V}{u:ae}(r:gq x u):∀ {xs:List V} {us:List ae} (i:Nat),gw xs us→gw (xs.set i x) (us.set i u)
 | _,_,_,.nil=> .nil
 | _,_,0,.cons _ t=> .cons r t
 | _,_,i+1,.cons q t=> .cons q (gw.set r i t)
def gw.append:∀ {xs ys:List V} {us ws:List ae},gw xs us→gw ys ws→gw (xs++ys) (us++ws)
 | _,_,_,_,.nil,s=>s
 | _,_,_,_,.cons r t,s=> .cons r (gw.append t s)
def gw.take:∀ {xs:List V} {us:List ae} (n:Nat),gw xs us→gw (xs.take n) (us.take n)
 | _,_,0,_=> .nil
 | _,_,_+1,.nil=> .nil
 | _,_,n+1,.cons r t=> .cons r (gw.take n t)
def gw.drop:∀ {xs:List V} {us:List ae} (n:Nat),gw xs us→gw (xs.drop n) (us.drop n)
 | _,_,0,r=>r
 | _,_,_+1,.nil=> .nil
 | _,_,n+1,.cons _ t=>gw.drop n t
def RelO:Option V→Option ae→Prop
 | some v,some u=>gq v u
 | none,none=>True
 | _,_=>False
def KV {κ:Type}:List (κ×V)→List (κ×ae)→Prop:=j4 fun (p:κ×V) (q:κ×ae)=>p.1=q.1∧gq p.2 q.2
def kV:Key→V
 | .inl i=> .int i
 | .inr x=> .str x
inductive HO where
 | lst (xs:List V)
 | tup (xs:List V)
 | dK (kvs:List (Key×V)) | dT (kvs:List (List Key×V))
 | set (S:Int→Bool) (n:Nat)
 | ins (C dx:ak) (fs:List (Str×V))
 | own (x:ak)
 | xd (fs:List (Str×V))
 | met (f x:ak)
 | rng (lo hi:Int)
 | frz (o:Obj) (u:HO)
 | tbl (ps:Array ae)
 | ext (φ:bL→Prop)
abbrev Hp:=ak→Option HO
def upd (H:Hp)(a:ak)(o:HO):Hp:=fun b=>if b=a then some o else H b
def aV {H:Hp}{o:HO}:upd H a o a=some o:=by unfold upd;rw [rO rfl]
def bq {H:Hp}{b:ak}{o:HO}(h:b≠a):upd H a o b=H b:=by unfold upd;rw [rN h]
def fR {H:Hp}{b:ak}{o u:HO}(h:H a=some o)(h':H b=some u)(d:o≠u):a≠b:=by
 intro e;subst e;rw [h] at h';exact d (bE h')
def bF {H:Hp}{b:ak}{o:HO}(h:H a=some o)(h':H b=none):a≠b:=by
 intro e;subst e;rw [h] at h';cases h'
def mX (h:bL)(a:ak)(items:Array ae):Prop:=∃ o,h.get? a=some o∧o.cls= .type "tuple" ∧o.dict=none∧∃ n,o.data= .seq items n
def mX.tup {h:bL}{a:ak}{items:Array ae}(p:mX h a items):IsTup h a items:=let ⟨o,e,c,_,n,d⟩:=p;⟨o,e,c,n,d⟩
def mX.lt (p:mX h a items):a<h.objs.size:=p.tup.lt
def mX.new (h:bL)(items:Array ae):mX (h.push { cls:= .type "tuple",data:= .seq items }) h.objs.size items:=⟨_,aQ _ rfl,rfl,rfl,_,rfl⟩
section
variable (P:aX) (w:bC)
def jz (H:Hp)(h:bL)(a:ak):HO→Prop
 | .lst xs=>xs.length≤bg∧∃ (its:List ae) (n:Nat),gw xs its∧h.get? a=some { cls:= .type "list",data:= .seq its.toArray n }
 | .tup xs=>xs.length≤bg∧∃ its:List ae,gw xs its∧mX h a its.toArray
 | .dK kvs=>kvs.length≤bg∧(a == jk)=false∧∃ vs,KV kvs vs∧h.DictOf (ie P w) a vs
 | .dT kvs=>kvs.length≤bg∧(a == jk)=false∧∃ xs:List (List Key×ak×ae),
   j4 (fun (p:List Key×V) (q:List Key×ak×ae)=>p.1=q.1∧H q.2.1=some (.tup (p.1.map kV))∧gq p.2 q.2.2) kvs xs ∧
   ∃ o es ep,h.get? a=some o∧o.ExactDict∧o.data= .dict es ep∧es.toList=xs.map (entryOfKey (tupleKind (ie P w)))∧(xs.map (·.1)).Nodup
 | .set S n=>h.SetOf (intKind P w) a S n
 | .ins C dx fs=>H dx=some (.own a)∧fs.length≤1000∧dx≠a∧h.get? a=some (gj C dx) ∧
   ∃ mA,h.Ns1 dx mA∧(∀ f,RelO (fs.lookup f) (mA f))∧PySem.Within mA (fs.map (·.1))
 | .own _=>∃ o,h.get? a=some o
 | .xd fs=>∃ mA,h.Ns1 a mA∧∀ f,RelO (fs.lookup f) (mA f)
 | .rng lo hi=>∃ t u v,h.get? a=some { cls:= .type "range",data:= .fields #[.int lo t,.int hi u,.int 1 v] }
 | .frz o u=>h.get? a=some o∧jz H h a u
 | .tbl ps=>h.get? a=some { cls:= .none,data:= .fields ps }
 | .met f x=>h.get? a=some (PySem.W.methodObj (.ref f) (.ref x))
 | .ext φ=>φ h∧(∃ o,h.get? a=some o)∧∀ h1 h2:bL,φ h1→(∀ o,h1.get? a=some o→h2.get? a=some o)→φ h2
def HOk (H:Hp)(h:bL):Prop:=∀ a o,H a=some o→jz P w H h a o
end
section
variable {H H':Hp}{o:HO}
def jz.lt (x:jz P w H h a o):a<h.objs.size:=by
 cases o with
 | lst xs=>obtain ⟨_,_,_,_,e⟩:=x;exact aI e
 | tup xs=>obtain ⟨_,_,_,p⟩:=x;exact p.lt
 | dK kvs=>obtain ⟨_,_,_,_,o,_,_,e,_⟩:=x;exact aI e
 | dT kvs=>obtain ⟨_,_,_,_,o,_,_,e,_⟩:=x;exact aI e
 | set S n=>obtain ⟨o,_,_,_,e,_⟩:=x;exact aI e
 | ins C dx fs=>obtain ⟨_,_,_,e,_⟩:=x;exact aI e
 | own y=>obtain ⟨_,e⟩:=x;exact aI e
 | xd fs=>obtain ⟨_,⟨_,_,_,e,_⟩,_⟩:=x;exact aI e
 | rng lo hi=>obtain ⟨_,_,_,e⟩:=x;exact aI e
 | frz ob u=>obtain ⟨e,_⟩:=x;exact aI e
 | tbl ps=>exact aI (show h.get? a=some _ from x)
 | met f y=>exact aI (show h.get? a=some _ from x)
 | ext φ=>obtain ⟨_,⟨_,e⟩,_⟩:=x;exact aI e
def Paired.mapP {α β:Type}{F G:α→β→Prop}:∀ {l₁:List α} {l₂:List β},j4 F l₁ l₂→(∀ a b,F a b→G a b)→j4 G l₁ l₂
 | _,_,.nil,_=> .nil
 | _,_,.cons r t,f=> .cons (f _ _ r) (Paired.mapP t f)
def jz.stay (x:jz P w H h a o)(k:∀ b u,(b=a∨H b=some (.own a))→h.get? b=some u→h'.get? b=some u)
  (ho:∀ b,H b=some (.own a)→H' b=some (.own a)) (ht:∀ b xs,H b=some (.tup xs)→H' b=some (.tup xs)):jz P w H' h' a o:=by
 induction o with
 | lst xs=>obtain ⟨z,its,n,r,e⟩:=x;exact ⟨z,its,n,r,k _ _ (.inl rfl) e⟩
 | tup xs=>obtain ⟨z,its,r,ob,e,c⟩:=x;exact ⟨z,its,r,ob,k _ _ (.inl rfl) e,c⟩
 | dK kvs=>obtain ⟨z,y,vs,r,ob,es,ep,e,c⟩:=x;exact ⟨z,y,vs,r,ob,es,ep,k _ _ (.inl rfl) e,c⟩
 | dT kvs =>
  obtain ⟨z,y,xs,r,ob,es,ep,e,c⟩:=x;exact ⟨z,y,xs,Paired.mapP r fun p q z=>⟨z.1,ht _ _ z.2.1,z.2.2⟩,ob,es,ep,k _ _ (.inl rfl) e,c⟩
 | set S n=>obtain ⟨ob,es,ep,t,e,c⟩:=x;exact ⟨ob,es,ep,t,k _ _ (.inl rfl) e,c⟩
 | ins C dx fs =>
  obtain ⟨d,z,ne,e,mA,⟨od,es,ep,e2,c⟩,r⟩:=x;exact ⟨ho _ d,z,ne,k _ _ (.inl rfl) e,mA,⟨od,es,ep,k _ _ (.inr d) e2,c⟩,r⟩
 | own y=>obtain ⟨ob,e⟩:=x;exact ⟨ob,k _ _ (.inl rfl) e⟩
 | xd fs=>obtain ⟨mA,⟨od,es,ep,e,c⟩,r⟩:=x;exact ⟨mA,⟨od,es,ep,k _ _ (.inl rfl) e,c⟩,r⟩
 | rng lo hi=>obtain ⟨t,u,v,e⟩:=x;exact ⟨t,u,v,k _ _ (.inl rfl) e⟩
 | frz ob u ih=>obtain ⟨e,q⟩:=x;exact ⟨k _ _ (.inl rfl) e,ih q⟩
 | tbl ps =>
  have e:h.get? a=some { cls:= .none,data:= .fields ps }:=x;show h'.get? a=some { cls:= .none,data:= .fields ps };exact k a _ (.inl rfl) e
 | met f y =>
  have e:h.get? a=some (PySem.W.methodObj (.ref f) (.ref y)):=x;show h'.get? a=some (PySem.W.methodObj (.ref f) (.ref y));exact k a _ (.inl rfl) e
 | ext φ=>obtain ⟨p,⟨o,e⟩,st⟩:=x;exact ⟨st _ _ p fun o q=>k _ _ (.inl rfl) q,⟨o,k _ _ (.inl rfl) e⟩,st⟩
def HOk.lt (x:HOk P w H h)(e:H a=some o):a<h.objs.size:=(x a o e).lt
def HOk.fresh (x:HOk P w H h)(e:h.objs.size≤a):H a=none:=by
 cases q:H a with
 | none=>rfl
 | some u=>exact rQ (aM (x.lt q) e) (fM _)
def HOk.kept (x:HOk P w H h)(k:∀ b u,h.get? b=some u→h'.get? b=some u):HOk P w H h':=fun a o e =>
 (x a o e).stay (fun b u _ q=>k b u q) (fun _ q=>q) fun _ _ q=>q
def HOk.laid (x:HOk P w H h)(k:∀ b u,h.get? b=some u→h'.get? b=some u)(hp:h.objs.size≤a)(new:jz P w (upd H a o) h' a o):HOk P w (upd H a o) h':=fun b u e=>by
 have hn:=x.fresh hp
 by_cases hb:b=a
 ·subst hb;rw [aV] at e;cases e;exact new
 ·rw [bq hb] at e
  exact (x b u e).stay (fun c v _ q=>k c v q) (fun c q=>by rw [bq (bF q hn)];exact q) fun c xs q=>by rw [bq (bF q hn)];exact q
end
def Rd (H:Hp)(a:ak)(u:HO):Prop:=H a=some u∨∃ o,H a=some (.frz o u)
def Rd.of {H:Hp}{u:HO}(h:H a=some u):Rd H a u:= .inl h
def Rd.ok {H:Hp}{u:HO}(r:Rd H a u)(x:HOk P w H h):jz P w H h a u:=by
 rcases r with r | ⟨o,r⟩
 ·exact x a u r
 ·obtain ⟨_,q⟩:=x a _ r
  exact q
def Mut:Option HO→Prop
 | some (.lst _)=>True
 | some (.dK _)=>True
 | some (.dT _)=>True
 | some (.set _ _)=>True
 | some (.ins _ _ _)=>True
 | some (.ext _)=>True
 | _=>False
section
variable {H:Hp}{x e:ak}{o':HO}
def HOk.write (ok:HOk P w H h)(mu:Mut (H x))(he:e=x∨H e=some (.own x))(k:∀ b u,b≠e→h.get? b=some u→h'.get? b=some u)(heo:∃ u,h'.get? e=some u)
  (new:jz P w (upd H x o') h' x o'):HOk P w (upd H x o') h':=fun b u q=>by
 have nown:∀ c y,H c=some (.own y)→c≠x:=fun c y r z=>by subst z;rw [r] at mu;exact mu
 have ntup:∀ c xs,H c=some (.tup xs)→c≠x:=fun c xs r z=>by subst z;rw [r] at mu;exact mu
 by_cases hb:b=x
 ·subst hb;rw [aV] at q;cases q;exact new
 ·rw [bq hb] at q
  by_cases hbe:b=e
  ·have q':H b=some (.own x):=by
    rcases he with z | z
    ·exact rQ (hbe.trans z) hb
    ·rw [hbe];exact z
   rw [q] at q';cases q';obtain ⟨v,hv⟩:=heo;exact ⟨v,by rw [hbe];exact hv⟩
  ·apply (ok b u q).stay (fun c v hc r=>k c v ?_ r) (fun c r=>by rw [bq (nown c b r)];exact r) fun c xs r=>by rw [bq (ntup c xs r)];exact r
   rcases hc with rfl | hc
   ·exact hbe
   ·rintro rfl
    rcases he with z | z
    ·exact nown c b hc z
    ·rw [hc] at z;cases z;exact hb rfl
end
structure Un (fs ex:List ak)(H H':Hp)(h h':bL):Prop where
 keep:∀ b o,h.get? b=some o→H b=none→b ∉ fs→b ∉ ex→h'.get? b=some o
 slot:∀ b o,h.get? b=some o→H b=none→b∈fs→b ∉ ex→∃ sl,h'.get? b=some { o with slots:=sl }
 free:∀ b o,h.get? b=some o→H b=none→b ∉ ex→H' b=none
 there:∀ b o,h.get? b=some o→b ∉ ex→∃ o',h'.get? b=some o'
 tups:∀ b xs,H b=some (.tup xs)→H' b=some (.tup xs)
 frzs:∀ b o u,H b=some (.frz o u)→H' b=some (.frz o u)
 tbls:∀ b ps,H b=some (.tbl ps)→∃ more,H' b=some (.tbl (ps++more))
section
variable {fs fs' ex ex':List ak}{H H1 H2:Hp}{h1 h2:bL}{x e:ak}{o:HO}
def Un.any (u:Un fs ex H H1 h h1){b:ak}(q:h.get? b=some ob)(n:H b=none)(hx:b ∉ ex):∃ sl,h1.get? b=some { ob with slots:=sl }:=by
 by_cases hb:b∈fs
 ·exact u.slot b ob q n hb hx
 ·exact ⟨ob.slots,u.keep b ob q n hb hx⟩
def Un.kept (k:∀ b u,h.get? b=some u→h'.get? b=some u):Un fs ex H H h h' :=
 ⟨fun b ob q _ _ _=>k b ob q,fun b ob q _ _ _=>⟨ob.slots,k b ob q⟩,fun _ _ _ n _=>n,fun b ob q _=>⟨ob,k b ob q⟩,fun _ _ q=>q,fun _ _ _ q=>q,fun _ ps q=>⟨#[],by rw [q];simp⟩⟩
def Un.refl:Un fs ex H H h h:=Un.kept fun _ _ q=>q
def Un.laid (k:∀ b u,h.get? b=some u→h'.get? b=some u)(hp:h.objs.size≤a)(hn:H a=none):Un fs ex H (upd H a o) h h' where
 keep:=fun b u q _ _ _=>k b u q
 slot:=fun b u q _ _ _=>⟨u.slots,k b u q⟩
 free:=fun b u q n _=>by rw [bq (bB (aM (aI q) hp))];exact n
 there:=fun b u q _=>⟨u,k b u q⟩
 tups:=fun b xs q=>by rw [bq (bF q hn)];exact q
 frzs:=fun b u xs q=>by rw [bq (bF q hn)];exact q
 tbls:=fun b ps q=>⟨#[],by rw [bq (bF q hn),q];simp⟩
def Un.write (mu:Mut (H x))(he:e=x∨H e=some (.own x))(k:∀ b u,b≠e→h.get? b=some u→h'.get? b=some u)(heo:∃ u,h'.get? e=some u):Un fs ex H (upd H x o) h h':=by
 have hx:∀ b,H b=none→b≠x:=fun b n z=>by subst z;rw [n] at mu;exact mu
 have hb:∀ b,H b=none→b≠e:=fun b n z=>by
  subst z
  rcases he with r | r
  ·exact hx b n r
  ·rw [n] at r;cases r
 have hm:∀ b u,H b=some u→¬ Mut (some u)→b≠x:=fun b u q nm z=>by subst z;rw [q] at mu;exact nm mu
 apply ⟨fun b u q n _ _=>k b u (hb b n) q,fun b u q n _ _=>⟨u.slots,k b u (hb b n) q⟩,fun b u q n _=>by rw [bq (hx b n)];exact n,fun b u q _=>?_,
  fun b xs q=>by rw [bq (hm b _ q fun z=>z)];exact q,fun b u xs q=>by rw [bq (hm b _ q fun z=>z)];exact q,fun b ps q=>⟨#[],by rw [bq (hm b _ q fun z=>z),q];simp⟩⟩
 by_cases hbe:b=e
 ·subst hbe;exact heo
 ·exact ⟨u,k b u hbe q⟩
end
def trk (h:bL)(H:Hp):List ak:=(aJ h.objs.size).filter fun a=>(H a).isSome
def hidT (h:bL)(H:Hp):bL:=PySem.W.hideAll h (trk h H)
def hidT_size (h:bL)(H:Hp):(hidT h H).objs.size=h.objs.size:=PySem.W.hideAll_size _ _
def hidT_get {H:Hp}{b:ak}{o:Obj}(e:h.get? b=some o)(n:H b=none):(hidT h H).get? b=some o :=
 PySem.W.hideAll_get _ e fun hm=>by
  have q:(H b).isSome=true:=(cp.mp hm).2;rw [n] at q;simp at q
def of_hidT {H:Hp}{b:ak}{o:Obj}(e:(hidT h H).get? b=some o):h.get? b=some o∧H b=none:=by
 have e':h.get? b=some o:=PySem.W.of_hideAll (trk h H) e;apply ⟨e',?_⟩;cases q:H b with
 | none=>rfl
 | some x =>
  have hm:b∈trk h H:=cp.mpr ⟨bT.mpr (aI e'),by simp [q]⟩;have z:(hidT h H).get? b=none:=PySem.W.hideAll_none (trk h H) hm;rw [z] at e;cases e
structure Mod (K:ar)(mg:Str→Option ae)(base:bL):Prop where
 kin:K.In base
 glob:base.Ns bO mg
 blt:∃ mb,base.Ns builtinsNs mb∧∀ x:Str,x ≠ "__name__" →mb x=bootBuiltins x
 nolimit:base.NoLimit
structure Cx where
 prog:aX
 w:bC
 K:ar
 mg:Str→Option ae
 base:bL
 A:bS
 N:List Str
 s₀:av
 H₀:Hp
 env:Env
 outer:List Env
 stack:List Env
 ex:List ak
 fn:Str→Bool
 calm:Bool
 pn:List (ak×Obj)
 xe:ae→av→Prop
def frs (l:List Env):List ak:=l.filterMap (·.frame)
abbrev Cx.fs (X:Cx):List ak:=frs X.outer
def Vis (sc:fG)(x:Str):Prop:=sc.names.lookup x=some .local∨sc.names.lookup x=some .cell∨sc.names.lookup x=some .free
def Loc (sc:fG)(x:Str):Prop:=sc.names.lookup x=some .local∨sc.names.lookup x=some .cell
def Look (env:Env)(h:bL)(m:Str→Option ae)(x:Str)(u:ae):Prop :=
 (env.kindOf x=some .local∧m x=some u)∨((env.kindOf x=some .cell∨env.kindOf x=some .free)∧∃ c,env.cells.lookup x=some c∧h.IsCell c (some u))
structure Cx.Ok (X:Cx):Prop where
 mod:Mod X.K X.mg X.base
 kind:X.env.scope.kind= .function
 glob:X.env.globals=bO
 blt:X.env.builtins=builtinsNs
 above:X.s₀.heap.objs.size≤X.env.locals
 inj:∀ x y c,X.env.cells.lookup x=some c→X.env.cells.lookup y=some c→x=y
 has:∀ x,(X.env.kindOf x=some .cell∨X.env.kindOf x=some .free)→∃ c,X.env.cells.lookup x=some c
 cab:∀ x c,X.fn x=true→X.env.cells.lookup x=some c→X.s₀.heap.objs.size≤c
 hd:X.calm=true→X.A.handled=none
 frames:X.A.frames=some X.stack
 stk:X.stack=X.outer∨(X.stack=X.env::X.outer∧X.env.frame=some X.env.locals)
 exf:∀ b∈X.ex,b≠X.env.locals∧∀ x c,X.env.cells.lookup x=some c→c≠b
 bs:∀ b o,X.base.get? b=some o→X.s₀.heap.get? b=some o∧X.H₀ b=none
 bsz:X.base.objs.size≤X.s₀.heap.objs.size
 noex:∀ b o,X.base.get? b=some o→b ∉ X.ex
 exfs:∀ b∈X.ex,b ∉ X.fs
 funs:X.s₀.heap.FunFrames X.base X.outer
 frf:∀ b∈X.fs,X.H₀ b=none
structure Inv (X:Cx)(aR:List (ak×Obj))(σ:List (Option V))(H:Hp)(s:av):Prop where
 ok:X.Ok
 os:s.os=X.s₀.os
 bare:AllBare s.gens
 base:Un X.fs X.ex X.H₀ H X.s₀.heap s.heap
 loc:∃ m,s.heap.Ns X.env.locals m∧∀ (i:Nat) (x:Str) (v:V),X.N[i]? =some x→σ[i]? =some (some v)→Vis X.env.scope x→∃ u,gq v u∧Look X.env s.heap m x u
 cell:∀ x c,X.env.cells.lookup x=some c→∃ v,s.heap.IsCell c v
 free:H X.env.locals=none
 freeC:∀ x c,X.env.cells.lookup x=some c→H c=none
 pin:∀ p∈X.pn++aR,s.heap.get? p.1=some p.2∧H p.1=none∧p.1≠X.env.locals∧p.1 ∉ X.fs∧∀ v,p.2.data≠ .cell v
 hok:HOk X.prog X.w H s.heap
 len:σ.length=X.N.length
section
variable {X:Cx}{σ:List (Option V)}{H H':Hp}
def Cx.Ok.nofr (ok:X.Ok){b:ak}{o:Obj}(e:X.base.get? b=some o):b ∉ X.fs:=fun hb=>by
 have:=(ok.funs.mem hb).1;rw [e] at this;cases this
def Inv.bs (I:Inv X aR σ H s):∀ b o,X.base.get? b=some o→s.heap.get? b=some o∧H b=none:=fun b o e =>
 ⟨I.base.keep b o (I.ok.bs b o e).1 (I.ok.bs b o e).2 (I.ok.nofr e) (I.ok.noex b o e),I.base.free b o (I.ok.bs b o e).1 (I.ok.bs b o e).2 (I.ok.noex b o e)⟩
def Inv.bk (I:Inv X aR σ H s):∀ b o,X.base.get? b=some o→s.heap.get? b=some o:=fun b o e=>(I.bs b o e).1
def Inv.mod (I:Inv X aR σ H s):Mod X.K X.mg X.base:=I.ok.mod
def Inv.kIn (I:Inv X aR σ H s):X.K.In s.heap:=I.ok.mod.kin.keeps I.bk
def Inv.nolimit (I:Inv X aR σ H s):s.heap.NoLimit:=I.ok.mod.nolimit.keeps I.bk
def Inv.lt (I:Inv X aR σ H s):X.env.locals<s.heap.objs.size:=let ⟨_,hn,_⟩:=I.loc;hn.lt
def Inv.sz (I:Inv X aR σ H s):X.s₀.heap.objs.size≤s.heap.objs.size:=aN I.ok.above (jg I.lt)
def Inv.nofs (I:Inv X aR σ H s)(h:s.heap.objs.size≤a):a ∉ X.fs:=fun hb=>by
 obtain ⟨_,o,ho,_⟩:=I.ok.funs.mem hb;exact rQ (aM (aI ho) (aN I.sz h)) (fM _)
def Inv.cne (I:Inv X aR σ H s):∀ x c,X.env.cells.lookup x=some c→c≠X.env.locals:=fun x c e z=>by
 obtain ⟨v,o,ho,hd⟩:=I.cell x c e;obtain ⟨m,⟨o',es,ep,ho',hd',_⟩,_⟩:=I.loc;rw [z,ho'] at ho;cases ho;rw [hd'] at hd;cases hd
def Inv.funs (I:Inv X aR σ H s):s.heap.FunFrames X.base X.outer:=by
 have all:∀ (l:List Env),(∀ b∈frs l,b∈X.fs)→X.s₀.heap.FunFrames X.base l→s.heap.FunFrames X.base l:=by
  intro l
  induction l with
  | nil=>intro _ _;trivial
  | cons env r ih =>
   intro hs hl;obtain ⟨hk,⟨L,o,hf,hn,ho,hd⟩,hr⟩:=hl;have hL:L∈X.fs:=hs L (by unfold frs;rw [List.filterMap_cons,hf];exact bu);obtain ⟨sl,e⟩:=I.base.slot L o ho (I.ok.frf L hL) hL fun z=>I.ok.exfs L z hL
   exact ⟨hk,⟨L,_,hf,hn,e,hd⟩,ih (fun b hb=>hs b (by unfold frs;rw [List.filterMap_cons,hf];exact ay _ hb)) hr⟩
 exact all X.outer (fun _ hb=>hb) I.ok.funs
def Inv.stack (I:Inv X aR σ H s):s.heap.FunFrames X.base X.stack:=by
 rcases I.ok.stk with e | ⟨e,hf⟩
 ·rw [e];exact I.funs
 ·rw [e]
  obtain ⟨m,hn,_⟩:=I.loc;apply .cons (by rw [I.ok.kind];decide) hf hn ?_ I.funs;exact bL.get?_none_of_le (aN I.ok.bsz I.ok.above)
def Inv.stkSub (I:Inv X aR σ H s):∀ b∈frs X.stack,b∈X.env.locals::X.fs:=fun b hb=>by
 rcases I.ok.stk with e | ⟨e,hf⟩
 ·rw [e] at hb;exact ay _ hb
 ·rw [e] at hb
  unfold frs at hb;rw [List.filterMap_cons,hf] at hb;exact hb
def Inv.stkFree (I:Inv X aR σ H s):∀ b∈frs X.stack,H b=none:=fun b hb=>by
 rcases aF.mp (I.stkSub b hb) with e | hb
 ·rw [e];exact I.free
 ·obtain ⟨_,o,ho,_⟩:=I.ok.funs.mem hb
  exact I.base.free b o ho (I.ok.frf b hb) fun z=>I.ok.exfs b z hb
def Inv.step (I:Inv X aR σ H s)
  (hch:∀ b∈ch,(b∈X.ex∨X.s₀.heap.objs.size≤b)∧b≠X.env.locals∧(∀ x c,X.env.cells.lookup x=some c→c≠b)∧∀ p∈X.pn++aR,p.1≠b)
  (keep:∀ b o,b≠X.env.locals→b ∉ X.fs→b ∉ ch→s.heap.get? b=some o→H b=none→h'.get? b=some o)
  (slot:∀ b o,b≠X.env.locals→b∈X.fs→b ∉ ch→s.heap.get? b=some o→H b=none→∃ sl,h'.get? b=some { o with slots:=sl }) (free:∀ b o,b ∉ ch→s.heap.get? b=some o→H b=none→H' b=none)
  (there:∀ b o,b ∉ ch→s.heap.get? b=some o→∃ o',h'.get? b=some o')
  (tups:∀ b xs,H b=some (.tup xs)→H' b=some (.tup xs)) (frzs:∀ b o u,H b=some (.frz o u)→H' b=some (.frz o u)) (tbls:∀ b ps,H b=some (.tbl ps)→∃ more,H' b=some (.tbl (ps++more)))
  (ns:∀ m,s.heap.Ns X.env.locals m→h'.Ns X.env.locals m) (hok:HOk X.prog X.w H' h') (hg:AllBare g') :
  Inv X aR σ H' { s with heap:=h',gens:=g',drawn:=d',toks:=t' }:=by
 have neL:∀ b o,X.s₀.heap.get? b=some o→b≠X.env.locals:=fun b o e=>bB (aM (aI e) I.ok.above)
 have neC:∀ b o,X.s₀.heap.get? b=some o→b ∉ X.ex→b ∉ ch:=fun b o e hx hb=>by
  rcases (hch b hb).1 with z | z
  ·exact hx z
  ·exact rQ (aM (aI e) z) (fM _)
 have cellK:∀ x c,X.env.cells.lookup x=some c→∀ v,s.heap.IsCell c v→h'.IsCell c v:=fun x c e v ⟨o,ho,hd⟩=>by
  have nch:c ∉ ch:=fun z=>(hch c z).2.2.1 x c e rfl
  by_cases hc:c∈X.fs
  ·obtain ⟨sl,q⟩:=slot c o (I.cne x c e) hc nch ho (I.freeC x c e)
   exact ⟨_,q,hd⟩
  ·exact ⟨o,keep c o (I.cne x c e) hc nch ho (I.freeC x c e),hd⟩
 apply ⟨I.ok,I.os,hg,⟨fun b o e n hb hx=>?_,fun b o e n hb hx=>?_,fun b o e n hx=>?_,fun b o e hx=>?_,fun b xs e=>tups b xs (I.base.tups b xs e),fun b o xs e=>frzs b o xs (I.base.frzs b o xs e),fun b ps e=>?_⟩,?_,fun x c e=>?_,?_,fun x c e=>?_,fun p hp=>?_,hok,I.len⟩
 ·exact keep b o (neL b o e) hb (neC b o e hx) (I.base.keep b o e n hb hx) (I.base.free b o e n hx)
 ·obtain ⟨sl,e1⟩:=I.base.slot b o e n hb hx
  obtain ⟨sl',e2⟩:=slot b _ (neL b o e) hb (neC b o e hx) e1 (I.base.free b o e n hx);exact ⟨sl',e2⟩
 ·obtain ⟨o',e1⟩:=I.base.there b o e hx
  exact free b o' (neC b o e hx) e1 (I.base.free b o e n hx)
 ·obtain ⟨o',e1⟩:=I.base.there b o e hx
  exact there b o' (neC b o e hx) e1
 ·obtain ⟨m1,e1⟩:=I.base.tbls b ps e
  obtain ⟨m2,e2⟩:=tbls b _ e1;exact ⟨m1++m2,by rw [e2,Array.append_assoc]⟩
 ·obtain ⟨m,hn,hl⟩:=I.loc
  apply ⟨m,ns m hn,fun i x v e1 e2 e3=>?_⟩;obtain ⟨u,r,l⟩:=hl i x v e1 e2 e3;apply ⟨u,r,?_⟩
  rcases l with l | ⟨k,c,e,z⟩
  ·exact .inl l
  ·exact .inr ⟨k,c,e,cellK x c e _ z⟩
 ·obtain ⟨v,z⟩:=I.cell x c e
  exact ⟨v,cellK x c e v z⟩
 ·obtain ⟨m,⟨o,_,_,ho,_⟩,_⟩:=I.loc
  exact free _ o (fun z=>(hch _ z).2.1 rfl) ho I.free
 ·obtain ⟨v,o,ho,hd⟩:=I.cell x c e
  exact free c o (fun z=>(hch c z).2.2.1 x c e rfl) ho (I.freeC x c e)
 ·obtain ⟨e,n,ne,nf,d⟩:=I.pin p hp
  have nch:p.1 ∉ ch:=fun z=>(hch p.1 z).2.2.2 p hp rfl
  exact ⟨keep p.1 p.2 ne nf nch e n,free p.1 p.2 nch e n,ne,nf,d⟩
def Inv.un (I:Inv X aR σ H s)(u:Un X.fs [] H H' s.heap h')(hok:HOk X.prog X.w H' h'):Inv X aR σ H' { s with heap:=h',toks:=t' }:=by
 obtain ⟨m,⟨o,es,ep,ho,r⟩,_⟩:=id I.loc;obtain ⟨sl,hL⟩:=u.any ho I.free ∅;exact I.step (g':=s.gens) (d':=s.drawn) (ch:=[]) (fun _ z=>nomatch z) (fun b o _ hb _ e n=>u.keep b o e n hb ∅) (fun b o _ hb _ e n=>u.slot b o e n hb ∅) (fun b o _ e n=>u.free b o e n ∅) (fun b o _ e=>u.there b o e ∅) u.tups u.frzs u.tbls (fun m' hm=>by
  obtain ⟨o',es',ep',ho',r'⟩:=hm;rw [ho] at ho';cases ho';exact ⟨_,es',ep',hL,r'⟩) hok I.bare
def Inv.call (I:Inv X aR σ H s)(u:Un (frs X.stack) ch H H' s.heap h')(hok:HOk X.prog X.w H' h')(hg:AllBare g')
  (hch:∀ b∈ch,(b∈X.ex∨X.s₀.heap.objs.size≤b)∧b≠X.env.locals∧(∀ x c,X.env.cells.lookup x=some c→c≠b)∧∀ p∈X.pn++aR,p.1≠b) :
  Inv X aR σ H' { s with heap:=h',gens:=g',drawn:=d',toks:=t' }:=by
 obtain ⟨m,⟨o,es,ep,ho,r⟩,_⟩:=id I.loc;obtain ⟨sl,hL⟩:=u.any ho I.free fun z=>(hch _ z).2.1 rfl
 exact I.step (ch:=ch) hch (fun b o hL hb hc e n=>u.keep b o e n (fun z=>(aF.mp (I.stkSub b z)).elim hL hb) hc) (fun b o _ _ hc e n=>u.any e n hc) (fun b o hc e n=>u.free b o e n hc) (fun b o hc e=>u.there b o e hc) u.tups u.frzs u.tbls (fun m' hm=>by
  obtain ⟨o',es',ep',ho',r'⟩:=hm;rw [ho] at ho';cases ho';exact ⟨_,es',ep',hL,r'⟩) hok hg
def Inv.turned {it:ak}(I:Inv X aR σ H s)(k:∀ b o,b≠it→s.heap.get? b=some o→h'.get? b=some o)(hn:H it=none)(hL:it≠X.env.locals)
  (h1:it∈X.ex∨X.s₀.heap.objs.size≤it) (h2:∀ x c,X.env.cells.lookup x=some c→c≠it) (h3:∀ p∈X.pn++aR,p.1≠it):Inv X aR σ H { s with heap:=h',toks:=t' }:=by
 have nit:∀ b u,H b=some u→b≠it:=fun b u e z=>by rw [z,hn] at e;cases e
 apply I.step (g':=s.gens) (d':=s.drawn) (ch:=[it]) (fun b hb=>?_) (fun b o _ _ hc e _=>k b o (fun z=>hc (by simp [z])) e) (fun b o _ _ hc e _=>⟨o.slots,k b o (fun z=>hc (by simp [z])) e⟩) (fun _ _ _ _ n=>n)
  (fun b o hc e=>⟨o,k b o (fun z=>hc (by simp [z])) e⟩) (fun _ _ e=>e) (fun _ _ _ e=>e) (fun b ps e=>⟨#[],by rw [e];simp⟩) (fun m hm=>?_) (fun b u e=>?_) I.bare
 ·have e:b=it:=by simpa using hb
  subst e;exact ⟨h1,hL,h2,h3⟩
 ·obtain ⟨o,es,ep,ho,r⟩:=hm
  exact ⟨o,es,ep,k _ o (cH hL) ho,r⟩
 ·apply (I.hok b u e).stay (fun c v hc q=>k c v ?_ q) (fun _ q=>q) fun _ _ q=>q
  rcases hc with z | z
  ·rw [z];exact nit b u e
  ·exact nit c _ z
def Inv.tok (I:Inv X aR σ H s)(t:Nat):Inv X aR σ H { s with toks:=t }:=I.un (h':=s.heap) (t':=t) Un.refl I.hok
def Inv.kept (I:Inv X aR σ H s)(k:∀ b u,s.heap.get? b=some u→h'.get? b=some u):Inv X aR σ H { s with heap:=h',toks:=t' }:=I.un (Un.kept k) (I.hok.kept k)
def Inv.laid {o:HO}(I:Inv X aR σ H s)(k:∀ b u,s.heap.get? b=some u→h'.get? b=some u)(hp:s.heap.objs.size≤a)(new:jz X.prog X.w (upd H a o) h' a o) :
  Inv X aR σ (upd H a o) { s with heap:=h',toks:=t' }:=I.un (Un.laid k hp (I.hok.fresh hp)) (I.hok.laid k hp new)
def Inv.write {x e:ak}{o:HO}(I:Inv X aR σ H s)(mu:Mut (H x))(he:e=x∨H e=some (.own x))(k:∀ b u,b≠e→s.heap.get? b=some u→h'.get? b=some u)(heo:∃ u,h'.get? e=some u)
  (new:jz X.prog X.w (upd H x o) h' x o):Inv X aR σ (upd H x o) { s with heap:=h',toks:=t' }:=I.un (Un.write mu he k heo) (I.hok.write mu he k heo new)
def Inv.pins_of (I:Inv X aR σ H s)(h:∀ p∈pins',s.heap.get? p.1=some p.2∧H p.1=none∧p.1≠X.env.locals∧p.1 ∉ X.fs∧∀ v,p.2.data≠ .cell v):Inv X pins' σ H s :=
 ⟨I.ok,I.os,I.bare,I.base,I.loc,I.cell,I.free,I.freeC,fun p hp=>(aH.mp hp).elim (fun z=>I.pin p (aK _ z)) (h p),I.hok,I.len⟩
def nodup_ix (hN:N.Nodup)(a:N[i]? =some x)(b:N[j]? =some x):i=j:=by
 obtain ⟨h1,e1⟩:=ao.mp a;obtain ⟨h2,e2⟩:=ao.mp b;exact (ka hN).mp (e1.trans e2.symm)
def store_ok2 {v:V}{Q:Unit→av→Prop}(I:Inv X aR σ H s)(hN:X.N.Nodup)(hi:X.N[i]? =some x)(hx:Loc X.env.scope x)(r:gq v u)
  (h:∀ s',Inv X aR (σ.set i (some v)) H s'→(∃ a,cy a s.heap s'.heap∧(a=X.env.locals∨X.env.cells.lookup x=some a))→Q () s') (hf:X.fn x=true∨X.env.scope.names.lookup x=some .local:=by first | exact .inl rfl | exact .inr rfl | assumption):aU M A (storeName X.env x u) Q E s:=by
 obtain ⟨m,hn,hl⟩:=id I.loc;have hcls:(X.env.scope.kind == .class || (X.env.scope.kind == .module && X.env.locals != X.env.globals))=false:=by rw [I.ok.kind];rfl
 have hiσ:i<σ.length:=by rw [I.len];exact (ao.mp hi).1
 have cne:=I.cne;have tracked:∀ {a:ak} {h':bL},(∃ o,s.heap.get? a=some o∧H a=none)→cy a s.heap h'→HOk X.prog X.w H h':=fun {a h'} ha hs b ob e=>by
  obtain ⟨_,_,hfree⟩:=ha;apply (I.hok b ob e).stay (fun c w' hc q=>(hs.2 c ?_).trans q) (fun _ q=>q) fun _ _ q=>q
  rintro rfl
  rcases hc with rfl | hc
  ·rw [hfree] at e;cases e
  ·rw [hfree] at hc;cases hc
 rcases hx with hk | hk
 ·apply wpAny_storeName_local hk hn (fun h' hn' hs=>?_) hcls
  obtain ⟨oL,_,_,hoL,_⟩:=id hn;apply h _ ⟨I.ok,I.os,I.bare,⟨fun b o e n hb hx=>?_,fun b o e n hb hx=>?_,I.base.free,fun b o e hx=>?_,I.base.tups,I.base.frzs,I.base.tbls⟩,⟨_,hn',fun j y v' e1 e2 e3=>?_⟩,fun y c e=>?_,I.free,I.freeC,fun p hp=>?_,tracked ⟨oL,hoL,I.free⟩ hs,by simpa using I.len⟩ ⟨_,hs,.inl rfl⟩
  ·exact (hs.2 b (bB (aM (aI e) I.ok.above))).trans (I.base.keep b o e n hb hx)
  ·obtain ⟨sl,e1⟩:=I.base.slot b o e n hb hx
   exact ⟨sl,(hs.2 b (bB (aM (aI e) I.ok.above))).trans e1⟩
  ·obtain ⟨o',e1⟩:=I.base.there b o e hx
   exact ⟨o',(hs.2 b (bB (aM (aI e) I.ok.above))).trans e1⟩
  ·by_cases hj:j=i
   ·subst hj
    rw [hi] at e1;cases e1;rw [dU hiσ] at e2;cases e2;exact ⟨u,r,.inl ⟨hk,∅⟩⟩
   ·rw [dN (cH hj)] at e2
    obtain ⟨u',r',q⟩:=hl j y v' e1 e2 e3;apply ⟨u',r',?_⟩
    rcases q with ⟨k,e⟩ | ⟨k,c,e,z⟩
    ·apply .inl ⟨k,?_⟩
     have:y≠x:=fun e=>hj (nodup_ix hN e1 (e ▸ hi))
     simp [this,e]
    ·exact .inr ⟨k,c,e,z.sameBut hs (cne y c e)⟩
  ·obtain ⟨w',z⟩:=I.cell y c e
   exact ⟨w',z.sameBut hs (cne y c e)⟩
  ·obtain ⟨e,n,ne,nf,d⟩:=I.pin p hp
   exact ⟨(hs.2 p.1 ne).trans e,n,ne,nf,d⟩
 ·have hfn:X.fn x=true:=by
   rcases hf with z | z
   ·exact z
   ·rw [z] at hk;cases hk
  obtain ⟨c,hc⟩:=I.ok.has x (.inl hk);obtain ⟨w',z⟩:=I.cell x c hc;apply wpAny_storeName_cell I.ok.kind hk hc z (fun h' hc' hs=>?_);obtain ⟨oc,hoc,hocd⟩:=id z;apply h { s with heap:=h' } ⟨I.ok,I.os,I.bare,⟨fun b o e n hb hx=>?_,fun b o e n hb hx=>?_,I.base.free,fun b o e hx=>?_,I.base.tups,I.base.frzs,I.base.tbls⟩,⟨m,hn.sameBut hs (cH (cne x c hc)),fun j y v' e1 e2 e3=>?_⟩,fun y c' e=>?_,I.free,I.freeC,fun p hp=>?_,tracked ⟨oc,hoc,I.freeC x c hc⟩ hs,by simpa using I.len⟩ ⟨c,hs,.inr hc⟩
  ·exact (hs.2 b (bB (aM (aI e) (I.ok.cab x c hfn hc)))).trans (I.base.keep b o e n hb hx)
  ·obtain ⟨sl,e1⟩:=I.base.slot b o e n hb hx
   exact ⟨sl,(hs.2 b (bB (aM (aI e) (I.ok.cab x c hfn hc)))).trans e1⟩
  ·obtain ⟨o',e1⟩:=I.base.there b o e hx
   exact ⟨o',(hs.2 b (bB (aM (aI e) (I.ok.cab x c hfn hc)))).trans e1⟩
  ·by_cases hj:j=i
   ·subst hj
    rw [hi] at e1;cases e1;rw [dU hiσ] at e2;cases e2;exact ⟨u,r,.inr ⟨.inl hk,c,hc,hc'⟩⟩
   ·rw [dN (cH hj)] at e2
    obtain ⟨u',r',q⟩:=hl j y v' e1 e2 e3;apply ⟨u',r',?_⟩
    rcases q with q | ⟨k,c',e,z'⟩
    ·exact .inl q
    ·apply .inr ⟨k,c',e,z'.sameBut hs ?_⟩
     rintro rfl;exact hj (nodup_ix hN e1 (I.ok.inj _ _ _ e hc ▸ hi))
  ·by_cases hcc:c'=c
   ·subst hcc;exact ⟨_,hc'⟩
   ·obtain ⟨w2,z2⟩:=I.cell y c' e
    exact ⟨w2,z2.sameBut hs hcc⟩
  ·obtain ⟨e,n,ne,nf,d⟩:=I.pin p hp
   apply ⟨(hs.2 p.1 ?_).trans e,n,ne,nf,d⟩;intro q;rw [q,hoc] at e;have q':oc=p.2:=bE e;exact d w' (by rw [←q'];exact hocd)
def store_ok {v:V}{Q:Unit→av→Prop}(I:Inv X aR σ H s)(hN:X.N.Nodup)(hi:X.N[i]? =some x)(hx:Loc X.env.scope x)(r:gq v u)
  (h:∀ s',Inv X aR (σ.set i (some v)) H s'→Q () s') (hf:X.fn x=true∨X.env.scope.names.lookup x=some .local:=by first | exact .inl rfl | exact .inr rfl | assumption):aU M A (storeName X.env x u) Q E s :=
 store_ok2 I hN hi hx r (fun s' I' _=>h s' I') hf
def Inv.call' (I:Inv X aR σ H s)(ho:s'.os=s.os)(u:Un (frs X.stack) ch H H' s.heap s'.heap)(hok:HOk X.prog X.w H' s'.heap)(hg:AllBare s'.gens)
  (hch:∀ b∈ch,(b∈X.ex∨X.s₀.heap.objs.size≤b)∧b≠X.env.locals∧(∀ x c,X.env.cells.lookup x=some c→c≠b)∧∀ p∈X.pn++aR,p.1≠b):Inv X aR σ H' s':=by
 obtain ⟨h',g',d',t',o'⟩:=s';have e:o'=s.os:=ho;subst e;exact I.call (g':=g') (t':=t') (d':=d') u hok hg hch
end
abbrev XK:=ae→Option ak→Hp→Prop
abbrev St:=List (Option V)
abbrev VK:=V→Hp→Prop
abbrev TE:=St→Hp→VK→Prop
abbrev TT:=St→Hp→(Bool→Hp→Prop)→Prop
abbrev TA:=St→Hp→(List V→Hp→Prop)→Prop
end L2
variable {H H' H1 H2 Hc:L2.Hp}{Hf:L2.Hp→Prop}{X:L2.Cx}{kvs:List (List L2.Key×L2.V)}{o:L2.HO}{t:L2.TA}{ta te tl tr:L2.TE}{trs:List (L2.TE×L2.TE)}{tt:L2.TT}{v:L2.V}{xs ys zs:List L2.V}{σ:L2.St}
namespace L2
open PySem PySem.Spec PyProof.Rows
structure lE where
 nx:St→Hp→Prop
 rt:VK
 bk:St→Hp→Prop:=fun _ _=>False
 ct:St→Hp→Prop:=fun _ _=>False
abbrev TS:=lE→St→Hp→Prop
def EP (X:Cx)(aR:List (ak×Obj))(σ:St)(Q:VK)(u:ae)(s':av):Prop:=∃ v H',Inv X aR σ H' s'∧gq v u∧Q v H'
def TP (X:Cx)(aR:List (ak×Obj))(σ:St)(Q:Bool→Hp→Prop)(b:Bool)(s':av):Prop:=∃ H',Inv X aR σ H' s'∧Q b H'
def AP (X:Cx)(aR:List (ak×Obj))(σ:St)(Q:List V→Hp→Prop)(us:List ae)(s':av):Prop:=∃ vs H',Inv X aR σ H' s'∧gw vs us∧Q vs H'
def SP (X:Cx)(aR:List (ak×Obj))(D:lE)(f:Flow)(s':av):Prop :=
 match f with
 | .next=>∃ σ' H',Inv X aR σ' H' s'∧D.nx σ' H'
 | .brk=>∃ σ' H',Inv X aR σ' H' s'∧D.bk σ' H'
 | .cont=>∃ σ' H',Inv X aR σ' H' s'∧D.ct σ' H'
 | .ret u=>∃ v σ' H',Inv X aR σ' H' s'∧gq v u∧D.rt v H'
def PE (X:Cx)(e:Expr)(t:TE):Prop :=
 ∀ (aR:List (ak×Obj)) (s:av) (σ:St) (H:Hp) (Q:VK),Inv X aR σ H s→t σ H Q→aU (bt X.prog X.w) X.A (eE e X.env) (EP X aR σ Q) X.xe s
def PT (X:Cx)(e:Expr)(t:TT):Prop :=
 ∀ (aR:List (ak×Obj)) (s:av) (σ:St) (H:Hp) (Q:Bool→Hp→Prop),Inv X aR σ H s→t σ H Q→aU (bt X.prog X.w) X.A (isTrue e X.env (eE e X.env)) (TP X aR σ Q) X.xe s
def PW (X:Cx)(e:Expr)(t:TT):Prop :=
 ∀ (whole:Sem ae) (aR:List (ak×Obj)) (s:av) (σ:St) (H:Hp) (Q:Bool→Hp→Prop),Inv X aR σ H s→t σ H Q→aU (bt X.prog X.w) X.A (isTrue e X.env whole) (TP X aR σ Q) X.xe s
def PW.pt {t:TT}(h:PW X e t):PT X e t:=h _
def PA (X:Cx)(es:List Expr)(t:TA):Prop :=
 ∀ (pos:Pos) (aR:List (ak×Obj)) (s:av) (σ:St) (H:Hp) (Q:List V→Hp→Prop),Inv X aR σ H s→t σ H Q→aU (bt X.prog X.w) X.A (spliced (eR pos (br es X.env))) (AP X aR σ Q) X.xe s
def PS (X:Cx)(st:cL)(t:TS):Prop :=
 ∀ (aR:List (ak×Obj)) (s:av) (σ:St) (H:Hp) (D:lE),Inv X aR σ H s→t D σ H→aU (bt X.prog X.w) X.A (exec st X.env) (SP X aR D) X.xe s
def PSs (X:Cx)(st:List cL)(t:TS):Prop :=
 ∀ (aR:List (ak×Obj)) (s:av) (σ:St) (H:Hp) (D:lE),Inv X aR σ H s→t D σ H→aU (bt X.prog X.w) X.A (execs st X.env) (SP X aR D) X.xe s
def thn {t:Sem α}{Q Q':α→av→Prop}(h:aU M A t Q E s)(hQ:∀ a s,Q a s→Q' a s):aU M A t Q' E s:=cf h hQ fun _ _ x=>x
section
inductive HasV (o:Option (Option V))(k:V→Prop):Prop
 | mk (v:V)(h:o=some (some v))(q:k v):HasV o k
inductive IsBl (x:V)(k:Bool→Prop):Prop
 | mk (c:Bool)(h:x= .bl c)(q:k c):IsBl x k
def tVar (i:Nat):TE:=fun σ H Q=>HasV σ[i]? fun v=>Q v H
def tC (v:V):TE:=fun _ H Q=>Q v H
def pe_var (hN:X.N[i]? =some x)(hv:Vis X.env.scope x)(hd:(x == ("__debug__" :Str))=false:=by decide)(hcd:(x == ("__classdict__" :Str))=false:=by decide):PE X (.Name x pos) (tVar i):=by
 intro aR s σ H Q I h;obtain ⟨v,e,h⟩:=h;obtain ⟨m,hn,hl⟩:=I.loc;obtain ⟨u,r,l⟩:=hl i x v hN e hv;have fin:EP X aR σ Q u s:=⟨v,H,I,r,h⟩
 rcases l with ⟨hk,hm⟩ | ⟨hk,c,hc,iD⟩
 ·exact wpAny_Name (wpAny_loadName_local I.ok.kind hk hn hm fin) hd
 ·rcases hk with hk | hk
  ·exact wpAny_Name (wpAny_loadName_cell I.ok.kind hk hc iD fin) hd
  ·exact wpAny_Name (wpAny_loadName_free I.ok.kind hk hc iD fin hcd) hd
def bI {i j pos}:PE X (.Constant (.int i) j pos) (tC (.int i)):=fun _ _ _ H _ I h=>wpAny_Constant_int ⟨.int i,H,I.tok _,⟨_,rfl⟩,h⟩
def mV {b j pos}:PE X (.Constant (.bool b) j pos) (tC (.bl b)):=fun _ _ _ H _ I h=>Constant_bool ⟨.bl b,H,I,rfl,h⟩
def oR {j pos}:PE X (.Constant .none j pos) (tC .non):=fun _ _ _ H _ I h=>Constant_none ⟨.non,H,I,rfl,h⟩
def kB {x j pos}:PE X (.Constant (.str x) j pos) (tC (.str x)):=fun _ _ _ H _ I h=>Calls.Constant_str ⟨.str x,H,I.tok _,⟨_,rfl⟩,h⟩
def Gl (X:Cx)(x:Str):Prop:=X.env.kindOf x=some .globalImplicit
def ld_glob (I:Inv X aR σ H s)(hg:Gl X x)(hm:X.mg x=some u)(h:Q u s)
  (hd:(x == ("__debug__" :Str))=false:=by decide):aU (bt X.prog X.w) X.A (eE (.Name x pos) X.env) Q E s :=
 Calls.Name_function_global I.ok.kind hg (Calls.loadGlobal_global (by rw [I.ok.glob];exact I.mod.glob.keeps I.bk) hm h) hd
def mE (I:Inv X aR σ H s)(hg:Gl X x)(hm:X.mg x=none)(hv:bootBuiltins x=some u)(h:Q u s)
  (hn:x ≠ "__name__" := by decide) (hd:(x == ("__debug__" :Str))=false:=by decide):aU (bt X.prog X.w) X.A (eE (.Name x pos) X.env) Q E s:=by
 obtain ⟨mb,h1,h2⟩:=I.mod.blt;exact Calls.Name_function_global I.ok.kind hg (Calls.loadGlobal_builtin (by rw [I.ok.glob];exact I.mod.glob.keeps I.bk) hm (by rw [I.ok.blt];exact h1.keeps I.bk) ((h2 x hn).trans hv) h) hd
def pe_glob (hg:Gl X x)(hm:X.mg x=some u)(r:gq v u)(hd:(x == ("__debug__" :Str))=false:=by decide):PE X (.Name x pos) (tC v) :=
 fun _ _ _ H _ I h=>ld_glob I hg hm ⟨v,H,I,r,h⟩ hd
def pe_bltn (hg:Gl X x)(hm:X.mg x=none)(hv:bootBuiltins x=some u)(r:gq v u)(hn:x ≠ "__name__" := by decide)(hd:(x == ("__debug__" :Str))=false:=by decide):PE X (.Name x pos) (tC v) :=
 fun _ _ _ H _ I h=>mE I hg hm hv ⟨v,H,I,r,h⟩ hn hd
variable {a b:Expr}{tb:TE}
def PC (X:Cx)(op:CmpOp)(a b:Expr)(t:TE):Prop :=
 ∀ (aR:List (ak×Obj)) (s:av) (σ:St) (H:Hp) (Q:VK),Inv X aR σ H s→t σ H Q →
  aU (bt X.prog X.w) X.A (eE a X.env) (fun v s₁=>aU (bt X.prog X.w) X.A (eE b X.env) (fun u s₂=>aU (bt X.prog X.w) X.A (ft op v u) (EP X aR σ Q) X.xe s₂) X.xe s₁) X.xe s
def tB (t:TE):TT:=fun σ H Q=>t σ H fun x H1=>IsBl x fun c=>Q c H1
def pt_cmp {t:TE}(h:PC X op a b t)(h1:behindInMarks op b=false:=by first | exact nobehind _ ↥0 ↥0 | rfl):PT X (.Compare a [op] [b] pos) (tB t):=by
 intro aR s σ H Q I hw;apply wpAny_isTrue_Compare1 (thn (h aR s σ H _ I hw) fun v s1 h1=>thn h1 fun u s2 h2=>thn h2 fun c s3 ⟨x,H1,I1,r1,q1⟩=>?_) h1;obtain ⟨d,rfl,q⟩:=q1;cases r1;exact fm ⟨H1,I1,q⟩
def iK {t:TE}(h:PE X e t)(he:∀ whole,isTrue e X.env whole=(do let v ← whole;standAt e.pos;holding [v] (truthy v)):=by intro _;rfl):PT X e (tB t):=by
 intro aR s σ H Q I hw;apply isTrue_plain (thn (h aR s σ H _ I hw) fun v s1 ⟨x,H1,I1,r1,q1⟩=>?_) (he _);obtain ⟨d,rfl,q⟩:=q1;cases r1;exact fm ⟨H1,I1,q⟩
variable {tA tB':TT} {rest:List Expr}
def tAnd (t u:TT):TT:=fun σ H Q=>t σ H fun c H1=>if c=true then u σ H1 Q else Q false H1
def tOr (t u:TT):TT:=fun σ H Q=>t σ H fun c H1=>if c=true then Q true H1 else u σ H1 Q
def tNot (t:TT):TT:=fun σ H Q=>t σ H fun c H1=>Q (!c) H1
def pw_and1 (ha:PT X a tA):PW X (.BoolOp .And [a] pos) tA:=by
 intro wh aR s σ H Q I h;apply isTrue_and (thn (ha aR s σ H Q I h) fun c s1 e=>?_);cases c with
 | true=>exact isTrue_and_nil e
 | false=>exact e
def mm (ha:PT X a tA):PW X (.BoolOp .Or [a] pos) tA:=by
 intro wh aR s σ H Q I h;apply isTrue_or (thn (ha aR s σ H Q I h) fun c s1 e=>?_);cases c with
 | false=>exact isTrue_or_nil e
 | true=>exact e
def pw_and (ha:PT X a tA)(hb:PW X (.BoolOp .And (b::rest) pos) tB'):PW X (.BoolOp .And (a::b::rest) pos) (tAnd tA tB'):=by
 intro wh aR s σ H Q I h;apply isTrue_and (thn (ha aR s σ H _ I h) fun c s1 ⟨H1,I1,q1⟩=>?_);cases c with
 | true=>exact hb wh aR s1 σ H1 Q I1 q1
 | false=>exact ⟨H1,I1,q1⟩
def oF (ha:PT X a tA)(hb:PW X (.BoolOp .Or (b::rest) pos) tB'):PW X (.BoolOp .Or (a::b::rest) pos) (tOr tA tB'):=by
 intro wh aR s σ H Q I h;apply isTrue_or (thn (ha aR s σ H _ I h) fun c s1 ⟨H1,I1,q1⟩=>?_);cases c with
 | true=>exact ⟨H1,I1,q1⟩
 | false=>exact hb wh aR s1 σ H1 Q I1 q1
def j7 (ha:PT X a tA):PT X (.UnaryOp .Not a pos) (tNot tA):=by
 intro aR s σ H Q I h;exact isTrue_not (ha aR s σ H (fun c H1=>Q (!c) H1) I h)
def tAndV (ta tb:TE):TE:=fun σ H Q=>ta σ H fun x H1=>IsBl x fun c=>if c=true then tb σ H1 Q else Q (.bl false) H1
def tNotV (ta:TE):TE:=fun σ H Q=>ta σ H fun x H1=>IsBl x fun c=>Q (.bl (!c)) H1
def pe_one {op}{t:TE}(h:PE X a t):PE X (.BoolOp op [a] pos) t:=fun aR s σ H Q I hw=>BoolOp_one (h aR s σ H Q I hw)
def oT (ha:PE X a ta)(hb:PE X (.BoolOp .And (b::rest) pos) tb):PE X (.BoolOp .And (a::b::rest) pos) (tAndV ta tb):=by
 intro aR s σ H Q I h;apply BoolOp_and (thn (ha aR s σ H _ I h) fun v s1 ⟨x,H1,I1,r1,q1⟩=>?_);obtain ⟨c,rfl,q1⟩:=q1;cases r1;apply fm ?_;cases c with
 | true=>exact hb aR s1 σ H1 Q I1 q1
 | false=>exact ⟨.bl false,H1,I1,rfl,q1⟩
def pe_not (ha:PE X a ta):PE X (.UnaryOp .Not a pos) (tNotV ta):=by
 intro aR s σ H Q I h;apply UnaryOp_ (thn (ha aR s σ H _ I h) fun v s1 ⟨x,H1,I1,r1,q1⟩=>?_);obtain ⟨c,rfl,q1⟩:=q1;cases r1;exact not_of (fm ⟨.bl (!c),H1,I1,rfl,q1⟩)
def tIf (t:TT)(ta tb:TE):TE:=fun σ H Q=>t σ H fun c H1=>if c=true then ta σ H1 Q else tb σ H1 Q
def ph {c:Expr}(hc:PT X c tA)(ha:PE X a ta)(hb:PE X b tb):PE X (.IfExp c a b pos) (tIf tA ta tb):=by
 intro aR s σ H Q I h;apply wpAny_IfExp (thn (hc aR s σ H _ I h) fun d s1 ⟨H1,I1,q1⟩=>?_);cases d with
 | true=>exact ha aR s1 σ H1 Q I1 q1
 | false=>exact hb aR s1 σ H1 Q I1 q1
end
def SqL (K:ar)(H:Hp)(a:ak)(xs:List V):Prop :=
 Rd H a (.lst xs) ∨
  ∃ (o:Obj) (its:Array ae) (n:Nat),K.lookup a=some o∧o.cls= .type "list" ∧o.dict=none∧o.data= .seq its n∧its.size≤bg∧gw xs its.toList
def SqT (K:ar)(H:Hp)(a:ak)(xs:List V):Prop :=
 Rd H a (.tup xs) ∨
  ∃ (o:Obj) (its:Array ae) (n:Nat),K.lookup a=some o∧o.cls= .type "tuple" ∧o.data= .seq its n∧its.size≤bg∧gw xs its.toList
def absV:ae→Option V
 | .none=>some .non
 | .bool b=>some (.bl b)
 | .int i _=>some (.int i)
 | .str x _=>some (.str x)
 | .bytes b _=>some (.byt b)
 | .float b _=>some (.flt b)
 | .ref a=>some (.ref a)
 | .type n=>some (.ty n)
 | _=>none
def gq.abs {x:V}(r:gq x u):absV u=some x:=by
 cases x with
 | non=>cases r;rfl
 | bl _=>cases r;rfl
 | int _=>obtain ⟨t,rfl⟩:=r;rfl
 | str _=>obtain ⟨t,rfl⟩:=r;rfl
 | byt _=>obtain ⟨t,rfl⟩:=r;rfl
 | flt _=>obtain ⟨t,rfl⟩:=r;rfl
 | ref _=>cases r;rfl
 | ty _=>cases r;rfl
def gq.inj {x y:V}(r:gq x u)(q:gq y u):x=y:=bE (r.abs.symm.trans q.abs)
def gw.inj:∀ {xs ys:List V} {us:List ae},gw xs us→gw ys us→xs=ys
 | _,_,_,.nil,.nil=>rfl
 | _,_,_,.cons r t,.cons r' t'=>by rw [r.inj r',gw.inj t t']
def SqL.of (h:H a=some (.lst xs)):SqL K H a xs:= .inl (.inl h)
def SqT.of (h:H a=some (.tup xs)):SqT K H a xs:= .inl (.inl h)
def Inv.list (I:Inv X aR σ H s)(h:SqL X.K H a xs):∃ its:List ae,gw xs its∧PlainL s.heap a its.toArray∧xs.length≤bg:=by
 rcases h with h | ⟨o,its,n,hk,hc,hd,hs,hz,r⟩
 ·obtain ⟨z,its,n,r,e⟩:=h.ok I.hok
  exact ⟨its,r,⟨_,n,e,rfl,rfl,rfl⟩,z⟩
 ·apply ⟨its.toList,r,⟨o,n,I.kIn a o hk,hc,hd,by simpa using hs⟩,?_⟩
  have e:=r.length;simp only [cj] at e;lia
def Inv.tuple (I:Inv X aR σ H s)(h:SqT X.K H a xs):∃ its:List ae,gw xs its∧IsTup s.heap a its.toArray∧xs.length≤bg:=by
 rcases h with h | ⟨o,its,n,hk,hc,hs,hz,r⟩
 ·obtain ⟨z,its,r,p⟩:=h.ok I.hok
  exact ⟨its,r,p.tup,z⟩
 ·apply ⟨its.toList,r,⟨o,I.kIn a o hk,hc,n,by simpa using hs⟩,?_⟩
  have e:=r.length;simp only [cj] at e;lia
def Inv.list_inj (I:Inv X aR σ H s)(h:SqL X.K H a xs)(h':SqL X.K H a ys):xs=ys:=by
 obtain ⟨its,r,⟨o,n,e,_,_,d⟩,_⟩:=I.list h;obtain ⟨its',r',⟨o',n',e',_,_,d'⟩,_⟩:=I.list h';rw [e] at e';cases e';rw [d] at d';injection d' with d1 _
 have:its=its':=by simpa using rV Array.toList d1
 subst this;exact r.inj r'
def Inv.tuple_inj (I:Inv X aR σ H s)(h:SqT X.K H a xs)(h':SqT X.K H a ys):xs=ys:=by
 obtain ⟨its,r,⟨o,e,_,n,d⟩,_⟩:=I.tuple h;obtain ⟨its',r',⟨o',e',_,n',d'⟩,_⟩:=I.tuple h';rw [e] at e';cases e';rw [d] at d';injection d' with d1 _
 have:its=its':=by simpa using rV Array.toList d1
 subst this;exact r.inj r'
abbrev Cx.wish (X:Cx)(E:ae→av→Prop):Cx:={ X with xe:=E }
abbrev Cx.nox (X:Cx):Cx:=X.wish fun _ _=>False
def Cx.Ok.wish (ok:X.Ok)(E:ae→av→Prop):(X.wish E).Ok :=
 ⟨ok.mod,ok.kind,ok.glob,ok.blt,ok.above,ok.inj,ok.has,ok.cab,ok.hd,ok.frames,ok.stk,ok.exf,ok.bs,ok.bsz,ok.noex,ok.exfs,ok.funs,ok.frf⟩
def Cx.Ok.unwish (ok:(X.wish E).Ok):X.Ok :=
 ⟨ok.mod,ok.kind,ok.glob,ok.blt,ok.above,ok.inj,ok.has,ok.cab,ok.hd,ok.frames,ok.stk,ok.exf,ok.bs,ok.bsz,ok.noex,ok.exfs,ok.funs,ok.frf⟩
def Inv.wish (I:Inv X aR σ H s)(E:ae→av→Prop):Inv (X.wish E) aR σ H s:=⟨I.ok.wish E,I.os,I.bare,I.base,I.loc,I.cell,I.free,I.freeC,I.pin,I.hok,I.len⟩
def Inv.unwish (I:Inv (X.wish E) aR σ H s):Inv X aR σ H s:=⟨I.ok.unwish,I.os,I.bare,I.base,I.loc,I.cell,I.free,I.freeC,I.pin,I.hok,I.len⟩
def SP.unwish {D:lE}{f:Flow}(h:SP (X.wish E) aR D f s'):SP X aR D f s':=by
 cases f with
 | next=>obtain ⟨σ',H',I,q⟩:=h;exact ⟨σ',H',I.unwish,q⟩
 | brk=>obtain ⟨σ',H',I,q⟩:=h;exact ⟨σ',H',I.unwish,q⟩
 | cont=>obtain ⟨σ',H',I,q⟩:=h;exact ⟨σ',H',I.unwish,q⟩
 | ret u=>obtain ⟨v,σ',H',I,r,q⟩:=h;exact ⟨v,σ',H',I.unwish,r,q⟩
def PSs.nox {st:List cL}{t:TS}(h:PSs X.nox st t):PSs X st t:=fun aR s σ H D I hw =>
 cf (h aR s σ H D (I.wish _) hw) (fun _ _ q=>q.unwish) fun _ _ z=>cT z
section
variable {rest:List cL}{t u:TS}
def tNext:TS:=fun D σ H=>D.nx σ H
def tSeq (t u:TS):TS:=fun D σ H=>t { D with nx:=u D } σ H
def dv:PSs X [] tNext:=fun _ _ σ H _ I h=>wpAny_execs_nil ⟨σ,H,I,h⟩
def pss_cons (h1:PS X st t)(h2:PSs X rest u):PSs X (st::rest) (tSeq t u):=by
 intro aR s σ H D I h;apply wpAny_execs_cons (thn (h1 aR s σ H { D with nx:=u D } I h) fun f s1 q=>?_);cases f with
 | next =>
  obtain ⟨σ',H',I',q⟩:=q;exact h2 aR s1 σ' H' D I' q
 | ret v=>exact q
 | brk=>exact q
 | cont=>exact q
def cw (h1:PS X st t):PSs X [st] t:=by
 intro aR s σ H D I h;apply wpAny_execs_cons (thn (h1 aR s σ H D I h) fun f s1 q=>?_);cases f with
 | next=>exact wpAny_execs_nil q
 | ret v=>exact q
 | brk=>exact q
 | cont=>exact q
def Inv.quiet (I:Inv X aR σ H s):interactive X.env=false:=by simp [interactive,I.ok.kind]
def tDrop (te:TE):TS:=fun D σ H=>te σ H fun _ H1=>D.nx σ H1
def iB (he:PE X e te)(hs:swapsWith e none pos.line X.env=fQ false:=by rfl):PS X (.Expr e pos) (tDrop te):=by
 intro aR s σ H D I h;exact wpAny_Expr_any (thn (he aR s σ H _ I h) fun v s1 ⟨x,H1,I1,r1,q1⟩=>⟨σ,H1,I1,q1⟩) I.quiet hs
def tRet (te:TE):TS:=fun D σ H=>te σ H D.rt
def b9 (he:PE X e te):PS X (.Return (some e) pos) (tRet te):=by
 intro aR s σ H D I h;exact wpAny_Return_some (thn (he aR s σ H _ I h) fun v s1 ⟨x,H1,I1,r1,q1⟩=>⟨x,σ,H1,I1,r1,q1⟩)
def tIfS (c:TT)(t u:TS):TS:=fun D σ H=>c σ H fun b H1=>if b=true then t D σ H1 else u D σ H1
def gF {c:Expr}{a b:List cL}{tc:TT}(hc:PT X c tc)(ha:PSs X a t)(hb:PSs X b u):PS X (.If c a b pos) (tIfS tc t u):=by
 intro aR s σ H D I h;apply wpAny_If (thn (hc aR s σ H _ I h) fun d s1 ⟨H1,I1,q1⟩=>?_);cases d with
 | true=>exact ha aR s1 σ H1 D I1 q1
 | false=>exact hb aR s1 σ H1 D I1 q1
end
abbrev TG:=V→St→Hp→(St→Hp→Prop)→Prop
abbrev TGs:=List V→St→Hp→(St→Hp→Prop)→Prop
def PG (X:Cx)(target:Expr)(t:TG):Prop :=
 ∀ (aR:List (ak×Obj)) (s:av) (σ:St) (H:Hp) (v:V) (u:ae) (Q:St→Hp→Prop),Inv X aR σ H s→gq v u→t v σ H Q →
  aU (bt X.prog X.w) X.A (assign target X.env u) (fun _ s'=>∃ σ' H',Inv X aR σ' H' s'∧Q σ' H') X.xe s
def PGs (X:Cx)(ts:List Expr)(t:TGs):Prop :=
 ∀ (aR:List (ak×Obj)) (s:av) (σ:St) (H:Hp) (vs:List V) (us:List ae) (Q:St→Hp→Prop),Inv X aR σ H s→gw vs us→t vs σ H Q →
  aU (bt X.prog X.w) X.A (assignInOrder ((assignEach ts X.env).map (·.2)) us) (fun _ s'=>∃ σ' H',Inv X aR σ' H' s'∧Q σ' H') X.xe s
abbrev TSet:=V→V→V→Hp→(Hp→Prop)→Prop
def PSet (X:Cx)(t:TSet):Prop :=
 ∀ (aR:List (ak×Obj)) (s:av) (σ:St) (H:Hp) (o i v:V) (ov iv u:ae) (Q:Hp→Prop),Inv X aR σ H s→gq o ov→gq i iv→gq v u→t o i v H Q →
  aU (bt X.prog X.w) X.A (setItem ov iv u) (fun _ s'=>∃ H',Inv X aR σ H' s'∧Q H') X.xe s
abbrev TIp:=V→V→Hp→VK→Prop
def PIp (X:Cx)(op:Operator)(t:TIp):Prop :=
 ∀ (aR:List (ak×Obj)) (s:av) (σ:St) (H:Hp) (x y:V) (v u:ae) (Q:VK),Inv X aR σ H s→gq x v→gq y u→t x y H Q →
  aU (bt X.prog X.w) X.A (inplaceOp op v u) (EP X aR σ Q) X.xe s
def oK (i:Nat):TG:=fun v σ H Q=>Q (σ.set i (some v)) H
def oJ (hN:X.N.Nodup)(hi:X.N[i]? =some x)(hx:Loc X.env.scope x)(hf:X.fn x=true∨X.env.scope.names.lookup x=some .local:=by first | exact .inl rfl | exact .inr rfl | assumption):PG X (.Name x pos) (oK i):=by
 intro aR s σ H v u Q I r h;exact wpAny_assign_Name (store_ok I hN hi hx r (fun s' I'=>⟨_,H,I',h⟩) hf)
def gNil:TGs:=fun vs σ H Q=>vs=[]∧Q σ H
def gCons (t:TG)(u:TGs):TGs:=fun vs σ H Q=>∃ v r,vs=v::r∧t v σ H fun σ' H'=>u r σ' H' Q
def p7:PGs X [] gNil:=by
 intro aR s σ H vs us Q I r h;obtain ⟨e,h⟩:=h;subst e;cases r;exact assignInOrder_nil ⟨σ,H,I,h⟩
def ju {t:TG}{u:TGs}(h1:PG X e t)(h2:PGs X es u)
  (hs:(assignEach (e::es) X.env).map (·.2)=assign e X.env::(assignEach es X.env).map (·.2):=by rfl):PGs X (e::es) (gCons t u):=by
 intro aR s σ H vs us Q I r h;obtain ⟨v,vr,e1,h⟩:=h;subst e1;cases r with
 | cons r rr =>
  rw [hs];apply assignInOrder_cons (thn (h1 aR s σ H _ _ _ I r h) fun _ s1 ⟨σ1,H1,I1,q1⟩=>?_);exact h2 aR s1 σ1 H1 _ _ Q I1 rr q1
def gTup (K:ar)(n:Nat)(t:TGs):TG:=fun v σ H Q=>∃ a xs,v= .ref a∧SqT K H a xs∧xs.length=n∧t xs σ H Q
def pg_tup {k:Nat}{t:TGs}(hc:X.calm=true)(h:PGs X es t)
  (hn:(assignEach es X.env).length=n:=by rfl) (hst:(assignEach es X.env).findIdx? (·.1)=none:=by rfl):PG X (.Tuple es k pos) (gTup X.K n t):=by
 intro aR s σ H v u Q I r hw;obtain ⟨a,xs,e1,hq,hl,hw⟩:=hw;subst e1;cases r;obtain ⟨its,rv,ht,hz⟩:=I.tuple hq;apply assign_Tuple_tuple (I.ok.hd hc) ht (by simp [hn,←hl,rv.length]) hst fun h' hx=>?_
 have I1:Inv X aR σ H { s with heap:=h' }:=I.kept (t':=s.toks) fun b o e=>hx b o (bB (aI e)) e
 exact h aR _ σ H xs _ Q I1 (by simpa using rv) hw
def gSub (to ti:TE)(t:TSet):TG:=fun v σ H Q=>to σ H fun o H1=>ti σ H1 fun i H2=>t o i v H2 fun H3=>Q σ H3
def rf {o i:Expr}{to ti:TE}{t:TSet}(ho:PE X o to)(hi:PE X i ti)(hs:PSet X t)
  (ha:∀ v,assign (.Subscript o i pos) X.env v=(do
   let ov ← holding [v] (eE o X.env)
   let iv ← holding [v,ov] (eE i X.env)
   standAt pos
   holding [v,ov,iv] (setItem ov iv v)
   release [v,ov,iv] []):=by intro _;rfl):PG X (.Subscript o i pos) (gSub to ti t):=by
 intro aR s σ H v u Q I r h;rw [ha];apply ai (cW (thn (ho aR s σ H _ I h) fun ov s1 ⟨x,H1,I1,r1,q1⟩=>?_));apply ai (cW (thn (hi aR s1 σ H1 _ I1 q1) fun iv s2 ⟨y,H2,I2,r2,q2⟩=>?_));apply ai (wpAny_standAt (ai (cW (thn (hs aR s2 σ H2 x y v ov iv u _ I2 r1 r2 r q2) fun _ s3 ⟨H3,I3,q3⟩=>?_))));exact wpAny_release ⟨σ,H3,I3,q3⟩
def tAsg (te:TE)(g:TG):TS:=fun D σ H=>te σ H fun x H1=>g x σ H1 D.nx
def oQ {g:TG}(he:PE X e te)(hg:PG X tg g)(hs:swapsWithSole [tg] e pos.line X.env=fQ false:=by rfl)(hw:swappedStores [tg] e X.env=fQ none:=by rfl)
  (h1:(assignEach [tg] X.env).map (·.2)=[assign tg X.env]:=by rfl):PS X (.Assign [tg] e pos) (tAsg te g):=by
 intro aR s σ H D I h;apply wpAny_Assign_stores (thn (he aR s σ H _ I h) fun v s1 ⟨x,H1,I1,r1,q1⟩=>?_) hs hw;rw [h1];exact thn (hg aR s1 σ H1 x v _ I1 r1 q1) fun _ s2 q=>q
def ps_set (hN:X.N.Nodup)(hi:X.N[i]? =some x)(hx:Loc X.env.scope x)(he:PE X e te)(hs:swapsWith e (some (.Name x pos')) pos.line X.env=fQ false:=by rfl)(hf:X.fn x=true∨X.env.scope.names.lookup x=some .local:=by first | exact .inl rfl | exact .inr rfl | assumption) :
  PS X (.Assign [.Name x pos'] e pos) (tAsg te (oK i)):=by
 intro aR s σ H D I h;apply wpAny_Assign_Name (thn (he aR s σ H _ I h) fun v s1 ⟨y,H1,I1,r1,q1⟩=>?_) hs;exact store_ok I1 hN hi hx r1 (fun s2 I2=>⟨_,H1,I2,q1⟩) hf
def tAug (i:Nat)(te:TE)(ti:TIp):TS:=fun D σ H=>∃ x,σ[i]? =some (some x)∧te σ H fun y H1=>ti x y H1 fun z H2=>D.nx (σ.set i (some z)) H2
def ps_aug {op:Operator}{ti:TIp}(hN:X.N.Nodup)(hi:X.N[i]? =some x)(hx:Loc X.env.scope x)(he:PE X e te)(ho:PIp X op ti)(hf:X.fn x=true∨X.env.scope.names.lookup x=some .local:=by first | exact .inl rfl | exact .inr rfl | assumption) :
  PS X (.AugAssign (.Name x pos') op e pos) (tAug i te ti):=by
 intro aR s σ H D I h;obtain ⟨v,e1,h⟩:=h;obtain ⟨m,hn,hl⟩:=I.loc;have vis:Vis X.env.scope x:=by rcases hx with k | k;exact .inl k;exact .inr (.inl k)
 obtain ⟨u,r,l⟩:=hl i x v hi e1 vis;apply wpAny_AugAssign_Name ?_;have go:aU (bt X.prog X.w) X.A (eE e X.env) (fun w s₂=>aU (bt X.prog X.w) X.A (inplaceOp op u w) (fun r s₃=>aU (bt X.prog X.w) X.A (storeName X.env x r) (fun _=>SP X aR D .next) X.xe s₃) X.xe s₂) X.xe s:=by
  apply thn (he aR s σ H _ I h) fun w s1 ⟨y,H1,I1,r1,q1⟩=>?_
  apply thn (ho aR s1 σ H1 v y u w _ I1 r r1 q1) fun z s2 ⟨zv,H2,I2,r2,q2⟩=>?_
  exact store_ok I2 hN hi hx r2 (fun s3 I3=>⟨_,H2,I3,q2⟩) hf
 rcases l with ⟨hk,hm⟩ | ⟨hk,c,hc,iD⟩
 ·exact wpAny_loadName_local I.ok.kind hk hn hm go
 ·rcases hk with hk | hk
  ·exact wpAny_loadName_cell I.ok.kind hk hc iD go
  ·rcases hx with k | k
   ·have:X.env.scope.names.lookup x=some .free:=hk
    rw [k] at this;cases this
   ·have:X.env.scope.names.lookup x=some .free:=hk
    rw [k] at this;cases this
def ipI (f:Int→Int→Int):TIp:=fun x y H Q=>∃ i j,x= .int i∧y= .int j∧Q (.int (f i j)) H
def ip_add:PIp X .Add (ipI fun i j=>i+j):=by
 intro aR s σ H x y v u Q I r1 r2 h;obtain ⟨i,j,e1,e2,q⟩:=h;subst e1;subst e2;obtain ⟨t,rfl⟩:=r1;obtain ⟨t',rfl⟩:=r2;exact iadd_int ⟨.int _,H,I.tok _,⟨_,rfl⟩,q⟩
def ip_sub:PIp X .Sub (ipI fun i j=>i - j):=by
 intro aR s σ H x y v u Q I r1 r2 h;obtain ⟨i,j,e1,e2,q⟩:=h;subst e1;subst e2;obtain ⟨t,rfl⟩:=r1;obtain ⟨t',rfl⟩:=r2;exact isub_int ⟨.int _,H,I.tok _,⟨_,rfl⟩,q⟩
def tWhile (c:TT)(tb:TS):TS:=fun D σ H=>∃ W:Nat→St→Hp→Prop,(∃ m,W m σ H)∧∀ m σ H,W m σ H →
 c σ H fun b H1=>if b=true then ∃ N:St→Hp→Prop,(∀ σ' H',N σ' H'→∃ m',m'<m∧W m' σ' H')∧tb { D with nx:=N,ct:=N,bk:=D.nx } σ H1 else D.nx σ H1
def mM {c:Expr}{body:List cL}{tc:TT}{tb:TS}(hp:PassesOwn (bt X.prog X.w) X.A X.env X.xe)(hc:PT X c tc)(hb:PSs X body tb):PS X (.While c body [] pos) (tWhile tc tb):=by
 intro aR s σ H D I h;obtain ⟨W,⟨m0,w0⟩,turn⟩:=h;apply wpAny_While (codeAny_whileLoop (fun n s'=>∃ σ' H',Inv X aR σ' H' s'∧W n σ' H') ?_ m0 ⟨σ,H,I,w0⟩);rintro n s1 ⟨σ1,H1,I1,w1⟩;apply iT hp (thn (hc aR s1 σ1 H1 _ I1 (turn n σ1 H1 w1)) fun b s2 ⟨H2,I2,q2⟩=>?_);cases b with
 | true =>
  obtain ⟨N,hN,q2⟩:=q2;rw [rO rfl];apply iT hp (thn (hb aR s2 σ1 H2 _ I2 q2) fun f s3 q3=>?_);cases f with
  | next =>
   obtain ⟨σ3,H3,I3,n3⟩:=q3;obtain ⟨m',hm,w3⟩:=hN σ3 H3 n3;exact ⟨m',hm,σ3,H3,I3,w3⟩
  | cont =>
   obtain ⟨σ3,H3,I3,n3⟩:=q3;obtain ⟨m',hm,w3⟩:=hN σ3 H3 n3;exact ⟨m',hm,σ3,H3,I3,w3⟩
  | brk=>exact q3
  | ret v=>exact q3
 | false =>
  rw [rN aZ];exact wpAny_execs_nil ⟨σ1,H2,I2,q2⟩
structure It where
 go:Nat→Hp→Prop
 yld:Nat→Hp→V→Hp→Prop
 stop:Nat→Hp→Prop
def FpOk (X:Cx)(aR:List (ak×Obj))(H:Hp)(b:ak):Prop :=
 H b=none∧b≠X.env.locals∧b ∉ X.fs∧(b∈X.ex∨X.s₀.heap.objs.size≤b)∧(∀ x c,X.env.cells.lookup x=some c→c≠b)∧∀ p∈X.pn++aR,p.1≠b
def Inv.fpOk {b:ak}(I:Inv X aR σ H s)(hb:s.heap.objs.size≤b)(hn:H' b=none):FpOk X aR H' b:=by
 apply ⟨hn,cE (aM I.lt hb),I.nofs hb,.inr (aN I.sz hb),fun x c e z=>?_,fun p hp z=>?_⟩
 ·obtain ⟨v,q⟩:=I.cell x c e
  exact rQ (aM q.lt (by rw [z];exact hb)) (fM _)
 ·exact rQ (aM (aI (I.pin p hp).1) (by rw [z];exact hb)) (fM _)
structure Turn (P:aX)(w:bC)(K:ar)(tg:Expr)(J:It)(fp:List ak)(it:ak)(tn:Nat→bL→Prop):Prop where
 mem:it∈fp
 obj:∀ i h,tn i h→∀ b∈fp,∃ o,h.get? b=some o∧∀ v,o.data≠ .cell v
 keep:∀ i h h',tn i h→(∀ b∈fp,∀ o,h.get? b=some o→h'.get? b=some o)→tn i h'
 item:∀ (X:Cx),X.prog=P→X.w=w→X.K=K→X.calm=true→∀ (i:Nat) (aR:List (ak×Obj)) (s:av) (σ:St) (H:Hp) (E:ae→av→Prop),Inv X aR σ H s→(∀ b∈fp,FpOk X aR H b)→tn i s.heap→J.go i H →
  aU (bt P w) X.A (jB (.ref it)) (fun r s1=>∃ u,r=some u ∧
   aU (bt P w) X.A (letOwnedTupleGo tg (.ref it) u) (fun _ s2=>∃ x H',Inv X aR σ H' s2∧gq x u∧J.yld i H x H'∧tn (i+1) s2.heap∧∀ b∈fp,H' b=none) E s1) E s
 done:∀ (X:Cx),X.prog=P→X.w=w→X.K=K→X.calm=true→∀ (i:Nat) (aR:List (ak×Obj)) (s:av) (σ:St) (H:Hp) (E:ae→av→Prop),Inv X aR σ H s→(∀ b∈fp,FpOk X aR H b)→tn i s.heap→J.stop i H →
  aU (bt P w) X.A (jB (.ref it)) (fun r s1=>r=none∧Inv X aR σ H s1) E s
 self:∀ (A:bS) (i:Nat) (s:av) (Q:ae→av→Prop) (E:ae→av→Prop),tn i s.heap→Q (.ref it) s→aU (bt P w) A (pyIter (.ref it)) Q E s
abbrev TI:=St→Hp→(It→Hp→Prop)→Prop
def PIE (X:Cx)(aR:List (ak×Obj))(σ:St)(tg:Expr)(R:It→Hp→Prop)(itv:ae)(s2:av):Prop :=
 ∃ (it:ak) (fp:List ak) (tn:Nat→bL→Prop) (J:It) (H':Hp),itv= .ref it∧Inv X aR σ H' s2∧Turn X.prog X.w X.K tg J fp it tn∧tn 0 s2.heap∧(∀ b∈fp,FpOk X aR H' b)∧R J H'
def PI (X:Cx)(tg iter:Expr)(wi:TI):Prop :=
 ∀ (aR:List (ak×Obj)) (s:av) (σ:St) (H:Hp) (R:It→Hp→Prop),Inv X aR σ H s→wi σ H R →
  aU (bt X.prog X.w) X.A (eE iter X.env) (fun v s1=>aU (bt X.prog X.w) X.A (pyIter v) (PIE X aR σ tg R) X.xe s1) X.xe s
def go_of {it:ak}{o:Obj}{n:String}{vs:Array ae}{Q:Unit→av→Prop}(ho:s.heap.get? it=some o)(hc:o.cls= .type n)(hd:o.data= .fields vs)
  (hn:["enumerate","zip","dict_itemiterator","dict_reverseitemiterator","odict_iterator","itertools.zip_longest","itertools.pairwise"].contains n=false) (hQ:Q () s):aU M A (letOwnedTupleGo tg (.ref it) u) Q E s:=by
 unfold letOwnedTupleGo;cases tg <;> first
  | exact aL hQ
  | (cases u <;> first
    | exact aL hQ
    | (apply ai (wpAny_load ho ?_)
       rw [hc,hd];show aU M A (if (["enumerate","zip","dict_itemiterator","dict_reverseitemiterator","odict_iterator","itertools.zip_longest","itertools.pairwise"].contains n && vs[0]? == some (jo _))=true then _ else _) Q E s;rw [rN (by intro h;rw [hn,Bool.false_and] at h;cases h)];exact aL hQ))
def Itl (K:ar)(a:ak):It :=
 ⟨fun i H=>∃ xs x,SqL K H a xs∧xs[i]? =some x,fun i H x H'=>H'=H∧∀ xs,SqL K H a xs→xs[i]? =some x,fun i H=>∃ xs,SqL K H a xs∧xs.length≤i⟩
def Itt (K:ar)(a:ak):It :=
 ⟨fun i H=>∃ xs x,SqT K H a xs∧xs[i]? =some x,fun i H x H'=>H'=H∧∀ xs,SqT K H a xs→xs[i]? =some x,fun i H=>∃ xs,SqT K H a xs∧xs.length≤i⟩
def Itr (lo:Int)(n:Nat):It:=⟨fun i _=>i<n,fun i H x H'=>H'=H∧x= .int (lo+i),fun i _=>n≤i⟩
def turn_list (a it:ak):Turn P w K tg (Itl K a) [it] it (fun i h=>h.IsListIter it a i) where
 mem:=by simp
 obj:=fun i h st b hb=>by
  have e:b=it:=by simpa using hb
  subst e;obtain ⟨o,e,c,d⟩:=st;exact ⟨o,e,fun v z=>by rw [d] at z;cases z⟩
 keep:=fun i h h' st k=>st.at fun o e=>k it ∅ o e
 item:=by
  intro X hP hw hK hc i aR s σ H E I hf st hg;subst hP hw hK;obtain ⟨xs,x,hq,hx⟩:=hg;obtain ⟨its,rv,p,hz⟩:=I.list hq;obtain ⟨u,hu,ru⟩:=rv.get hx;obtain ⟨f0,f1,f2,f3,f4,f5⟩:=hf it ∅;apply wpAny_pyNext_list_item st p.isList (x:=u) (by simpa using hu) fun h' st' sb=>?_
  have I1:Inv X aR σ H { s with heap:=h' }:=I.turned (t':=s.toks) (fun b o hb e=>(sb.2 b hb).trans e) f0 f1 f3 f4 f5;obtain ⟨o,e,c,d⟩:=id st';exact ⟨u,rfl,go_of (s:={ s with heap:=h' }) e c d ↥0 ⟨x,H,I1,ru,⟨rfl,fun ys hy=>by rw [I.list_inj hy hq];exact hx⟩,st',fun b hb=>(hf b hb).1⟩⟩
 done:=by
  intro X hP hw hK hc i aR s σ H E I hf st hg;subst hP hw hK;obtain ⟨xs,hq,hx⟩:=hg;obtain ⟨its,rv,p,hz⟩:=I.list hq;obtain ⟨f0,f1,f2,f3,f4,f5⟩:=hf it ∅;have hl:=rv.length;exact wpAny_pyNext_list_end (I.ok.hd hc) st p.isList (by simp;lia) fun h' eb=>⟨rfl,I.turned (t':=s.toks) (fun b o hb e=>eb b o hb e) f0 f1 f3 f4 f5⟩
 self:=fun _ _ _ _ _ st h=>wpAny_pyIter_listiter st h
def turn_tuple (a it:ak):Turn P w K tg (Itt K a) [it] it (fun i h=>h.IsTupleIter it a i) where
 mem:=by simp
 obj:=fun i h st b hb=>by
  have e:b=it:=by simpa using hb
  subst e;obtain ⟨o,e,c,d⟩:=st;exact ⟨o,e,fun v z=>by rw [d] at z;cases z⟩
 keep:=fun i h h' st k=>st.at fun o e=>k it ∅ o e
 item:=by
  intro X hP hw hK hc i aR s σ H E I hf st hg;subst hP hw hK;obtain ⟨xs,x,hq,hx⟩:=hg;obtain ⟨its,rv,p,hz⟩:=I.tuple hq;obtain ⟨u,hu,ru⟩:=rv.get hx;obtain ⟨f0,f1,f2,f3,f4,f5⟩:=hf it ∅;apply wpAny_pyNext_tuple_item st (show s.heap.IsTuple a its.toArray from p) (x:=u) (by simpa using hu) fun h' st' sb=>?_
  have I1:Inv X aR σ H { s with heap:=h' }:=I.turned (t':=s.toks) (fun b o hb e=>(sb.2 b hb).trans e) f0 f1 f3 f4 f5;obtain ⟨o,e,c,d⟩:=id st';exact ⟨u,rfl,go_of (s:={ s with heap:=h' }) e c d ↥0 ⟨x,H,I1,ru,⟨rfl,fun ys hy=>by rw [I.tuple_inj hy hq];exact hx⟩,st',fun b hb=>(hf b hb).1⟩⟩
 done:=by
  intro X hP hw hK hc i aR s σ H E I hf st hg;subst hP hw hK;obtain ⟨xs,hq,hx⟩:=hg;obtain ⟨its,rv,p,hz⟩:=I.tuple hq;obtain ⟨f0,f1,f2,f3,f4,f5⟩:=hf it ∅;have hl:=rv.length;exact wpAny_pyNext_tuple_end (I.ok.hd hc) st (show s.heap.IsTuple a its.toArray from p) (by simp;lia) fun h' eb=>⟨rfl,I.turned (t':=s.toks) (fun b o hb e=>eb b o hb e) f0 f1 f3 f4 f5⟩
 self:=fun _ _ _ _ _ st h=>wpAny_pyIter_tupleiter st h
def turn_range (it:ak)(lo:Int)(n:Nat):Turn P w K tg (Itr lo n) [it] it (fun i h=>IsRangeIter h it (lo+(i:Nat) * 1) ((n:Int) - (i:Nat)) 1) where
 mem:=by simp
 obj:=fun i h st b hb=>by
  have e:b=it:=by simpa using hb
  subst e;exact ⟨_,st,fun v z=>by
   have z':Data.fields _=Data.cell v:=z;cases z'⟩
 keep:=fun i h h' st k=>k it ∅ _ st
 item:=by
  intro X hP hw hK hc i aR s σ H E I hf st hg;subst hP hw hK;obtain ⟨f0,f1,f2,f3,f4,f5⟩:=hf it ∅;have W:=Walks.range (prog:=X.prog) (w:=X.w) (I.ok.hd hc) it lo 1 n;apply W.item i s _ _ hg st fun v h' tk hv st' kk=>?_
  obtain ⟨t,rfl⟩:=hv;have I1:Inv X aR σ H { s with heap:=h',toks:=tk }:=I.turned (fun b o hb e=>kk b o (by simpa using hb) e) f0 f1 f3 f4 f5;apply ⟨_,rfl,go_of (s:={ s with heap:=h',toks:=tk }) (n := "range_iterator") st' rfl rfl ↥0 ⟨.int (lo+i),H,I1,⟨t,?_⟩,⟨rfl,rfl⟩,st',fun b hb=>(hf b hb).1⟩⟩;rw [Int.mul_one]
 done:=by
  intro X hP hw hK hc i aR s σ H E I hf st hg;subst hP hw hK;obtain ⟨f0,f1,f2,f3,f4,f5⟩:=hf it ∅;exact wpAny_pyNext_range_end (I.ok.hd hc) st (by have:n≤i:=hg;lia) fun h' eb=>⟨rfl,I.turned (t':=s.toks) (fun b o hb e=>eb b o hb e) f0 f1 f3 f4 f5⟩
 self:=fun _ _ _ _ _ st h=>wpAny_pyIter_rangeiter st h
def iList (K:ar)(tl:TE):TI:=fun σ H R=>tl σ H fun x H1=>∃ a,x= .ref a∧(∃ xs,SqL K H1 a xs)∧R (Itl K a) H1
def iTup (K:ar)(tl:TE):TI:=fun σ H R=>tl σ H fun x H1=>∃ a,x= .ref a∧(∃ xs,SqT K H1 a xs)∧R (Itt K a) H1
def gH {l:Expr}(hl:PE X l tl):PI X tg l (iList X.K tl):=by
 intro aR s σ H R I h;apply thn (hl aR s σ H _ I h) fun v s1 ⟨x,H1,I1,r1,q1⟩=>?_
 obtain ⟨a,e,⟨xs,hq⟩,q⟩:=q1;subst e;cases r1;obtain ⟨its,rv,p,hz⟩:=I1.list hq;apply fq p.isList ?_;apply ⟨s1.heap.objs.size,[s1.heap.objs.size],_,_,H1,rfl,I1.kept (t':=s1.toks) fun b o e=>aq _ e,turn_list a _,⟨_,aQ _ rfl,rfl,rfl⟩,fun b hb=>?_,q⟩;have e:b=s1.heap.objs.size:=by simpa using hb
 subst e;exact I1.fpOk (az _) (I1.hok.fresh (az _))
def mr {l:Expr}(hl:PE X l tl):PI X tg l (iTup X.K tl):=by
 intro aR s σ H R I h;apply thn (hl aR s σ H _ I h) fun v s1 ⟨x,H1,I1,r1,q1⟩=>?_
 obtain ⟨a,e,⟨xs,hq⟩,q⟩:=q1;subst e;cases r1;obtain ⟨its,rv,p,hz⟩:=I1.tuple hq;apply l5 (show s1.heap.IsTuple a its.toArray from p) ?_;apply ⟨s1.heap.objs.size,[s1.heap.objs.size],_,_,H1,rfl,I1.kept (t':=s1.toks) fun b o e=>aq _ e,turn_tuple a _,⟨_,aQ _ rfl,rfl,rfl⟩,fun b hb=>?_,q⟩;have e:b=s1.heap.objs.size:=by simpa using hb
 subst e;exact I1.fpOk (az _) (I1.hok.fresh (az _))
def range_it {R:It→Hp→Prop}{hi:Int}{t u v:Tok}{tk:Nat}(I:Inv X aR σ H s)(h1: -(2 ^ 62)≤lo)(h2:lo<2 ^ 62)(h3: -(2 ^ 62)≤hi)(h4:hi<2 ^ 62)
  (q:R (Itr lo (hi - lo).toNat) H):aU (bt X.prog X.w) X.A (pyIter (.ref s.heap.objs.size)) (PIE X aR σ tg R) E { s with heap:=s.heap.push { cls:= .type "range",data:= .fields #[.int lo t,.int hi u,.int 1 v] },toks:=tk }:=by
 apply wpAny_pyIter_range (IsRange.new ..) (small_one h1 h2 h3 h4) ?_;have I1:Inv X aR σ H { s with heap:=s.heap.push { cls:= .type "range",data:= .fields #[.int lo t,.int hi u,.int 1 v] },toks:=tk }:=I.kept fun b o e=>aq _ e
 apply ⟨(s.heap.push { cls:= .type "range",data:= .fields #[.int lo t,.int hi u,.int 1 v] }).objs.size,[(s.heap.push { cls:= .type "range",data:= .fields #[.int lo t,.int hi u,.int 1 v] }).objs.size],_,_,H,rfl,
  I1.kept (t':=tk) fun b o e=>aq _ e,turn_range _ lo (hi - lo).toNat,?_,fun b hb=>?_,q⟩
 ·have e1:lo+((0:Nat):Int) * 1=lo:=by simp
  have e2:(((hi - lo).toNat:Nat):Int) - ((0:Nat):Int)=d9 lo hi 1:=by rw [rangeSize_one];split <;> lia
  show IsRangeIter _ _ (lo+((0:Nat):Int) * 1) ((((hi - lo).toNat:Nat):Int) - ((0:Nat):Int)) 1;rw [e1,e2];exact aQ _ rfl
 ·have e:b=(s.heap.push { cls:= .type "range",data:= .fields #[.int lo t,.int hi u,.int 1 v] }).objs.size:=by simpa using hb
  subst e;exact I1.fpOk (az _) (I1.hok.fresh (az _))
def iRng1 (ta:TA):TI:=fun σ H R=>ta σ H fun vs H1=>∃ j:Int,vs=[.int j]∧ -(2 ^ 62)≤j∧j<2 ^ 62∧R (Itr 0 j.toNat) H1
def gG {a:Expr}{ta:TA}{p:Pos}(hg:Gl X "range")(hm:X.mg "range" =none)(ha:PA X [a] ta)(hs:br [a] X.env=[(false,eE a X.env)]:=by rfl):PI X tg (.Call (.Name "range" p) [a] [] pos) (iRng1 ta):=by
 intro aR s σ H R I h;apply Call_ (mE I hg hm boot_range (fN (thn (ha pos aR s σ H _ I h) fun us s1 ⟨vs,H1,I1,r1,q1⟩=>?_) hs rfl));obtain ⟨j,e,q1,q2,q⟩:=q1;subst e;cases r1 with
 | cons r rr =>
  cases rr;obtain ⟨t,rfl⟩:=r;exact call_range_1 (range_it I1 ⋯ ⋯ q1 q2 (by simpa using q))
def tFor (wi:TI)(g:TG)(tb:TS):TS:=fun D σ H=>wi σ H fun J H1=>∃ W:Nat→Nat→St→Hp→Prop,(∃ m,W 0 m σ H1)∧∀ i m σ H,W i m σ H →
 (J.stop i H∧D.nx σ H)∨(J.go i H∧∃ N:St→Hp→Prop,(∀ σ' H',N σ' H'→∃ m',m'<m∧W (i+1) m' σ' H')∧∀ x H',J.yld i H x H'→g x σ H' fun σ2 H2=>tb { D with nx:=N,ct:=N,bk:=D.nx } σ2 H2)
def pinsAt (fp:List ak)(h:bL):List (ak×Obj):=fp.filterMap fun b=>(h.get? b).map fun o=>(b,o)
def mP {b:ak}{o:Obj}(hb:b∈fp)(e:h.get? b=some o):(b,o)∈pinsAt fp h:=List.mem_filterMap.mpr ⟨b,hb,by rw [e];rfl⟩
def of_pinsAt {p:ak×Obj}(hp:p∈pinsAt fp h):p.1∈fp∧h.get? p.1=some p.2:=by
 obtain ⟨b,hb,e⟩:=List.mem_filterMap.mp hp;cases q:h.get? b with
 | none=>rw [q] at e;cases e
 | some o =>
  rw [q] at e;have e':(b,o)=p:=bE e;subst e';exact ⟨hb,q⟩
def Inv.pinned (I:Inv X aR σ H s)(hf:∀ b∈fp,FpOk X aR H b)(ho:∀ b∈fp,∃ o,s.heap.get? b=some o∧∀ v,o.data≠ .cell v):Inv X (aR++pinsAt fp s.heap) σ H s :=
 I.pins_of fun p hp=>(aH.mp hp).elim (fun z=>I.pin p (aA _ z)) fun z=>by
  obtain ⟨hb,e⟩:=of_pinsAt z;obtain ⟨f0,f1,f2,_⟩:=hf p.1 hb;obtain ⟨o,e',d⟩:=ho p.1 hb;rw [e] at e';cases e';exact ⟨e,f0,f1,f2,d⟩
def Inv.unpinned {pl:List (ak×Obj)}(I:Inv X (aR++pl) σ H s):Inv X aR σ H s:=I.pins_of fun p hp=>I.pin p (aA _ (aK _ hp))
def iL {body:List cL}{wi:TI}{g:TG}{tb:TS}(hp:PassesOwn (bt X.prog X.w) X.A X.env X.xe)(hc:X.calm=true)(hi:PI X tg iter wi)(hg:PG X tg g)(hb:PSs X body tb)
  (hs:∀ x,fT iter X.env x=fQ x:=by intro _;rfl):PS X (.For tg iter body [] pos) (tFor wi g tb):=by
 intro aR s σ H D I h;apply wpAny_For (thn (hi aR s σ H _ I h) fun v s1 h1=>thn h1 fun itv s2 h2=>?_) hs;obtain ⟨it,fp,tn,J,H2,e,I2,T,st2,f2,W,⟨m0,w0⟩,turn⟩:=h2;subst e;have stat:∀ {H':Hp},(∀ b∈fp,H' b=none)→∀ b∈fp,FpOk X aR H' b:=fun hn b hb=>⟨hn b hb,(f2 b hb).2⟩
 apply codeAny_forLoop_any (fun n s'=>∃ i σ' H',Inv X aR σ' H' s'∧tn i s'.heap∧(∀ b∈fp,H' b=none)∧W i n σ' H') ?_ m0 ⟨0,σ,H2,I2,st2,fun b hb=>(f2 b hb).1,w0⟩;rintro n s3 ⟨i,σ3,H3,I3,st3,fr3,w3⟩
 rcases turn i n σ3 H3 w3 with ⟨stop,qn⟩ | ⟨go,N,hN,step⟩
 ·apply iT hp (thn (T.done X rfl rfl rfl hc i aR s3 σ3 H3 X.xe I3 (stat fr3) st3 stop) fun r s4 ⟨hr,I4⟩=>?_)
  subst hr;exact wpAny_execs_nil ⟨σ3,H3,I4,qn⟩
 ·apply iT hp (thn (T.item X rfl rfl rfl hc i aR s3 σ3 H3 X.xe I3 (stat fr3) st3 go) fun r s4 ⟨u,hr,h4⟩=>?_)
  subst hr;apply iT hp (thn h4 fun _ s5 ⟨x,H5,I5,r5,y5,st5,fr5⟩=>?_);have I5':=I5.pinned (stat fr5) (T.obj _ _ st5);apply iT hp (thn (hg _ s5 σ3 H5 x u _ I5' r5 (step x H5 y5)) fun _ s6 ⟨σ6,H6,I6,q6⟩=>?_);apply iT hp (thn (hb _ s6 σ6 H6 _ I6 q6) fun f s7 q7=>?_);have again:∀ {σ7:St} {H7:Hp},Inv X (aR++pinsAt fp s5.heap) σ7 H7 s7→N σ7 H7→∃ m,m<n∧∃ i σ' H',Inv X aR σ' H' s7∧tn i s7.heap∧(∀ b∈fp,H' b=none)∧W i m σ' H':=fun {σ7 H7} I7 n7=>by
   obtain ⟨m',hm,w7⟩:=hN σ7 H7 n7;apply ⟨m',hm,i+1,σ7,H7,I7.unpinned,T.keep _ _ _ st5 fun b hb o e=>(I7.pin (b,o) (aA _ (aA _ (mP hb e)))).1,fun b hb=>?_,w7⟩;obtain ⟨o,e,d⟩:=T.obj _ _ st5 b hb;exact (I7.pin (b,o) (aA _ (aA _ (mP hb e)))).2.1
  cases f with
  | next=>obtain ⟨σ7,H7,I7,n7⟩:=q7;exact again I7 n7
  | cont=>obtain ⟨σ7,H7,I7,n7⟩:=q7;exact again I7 n7
  | brk=>obtain ⟨σ7,H7,I7,q7⟩:=q7;exact ⟨σ7,H7,I7.unpinned,q7⟩
  | ret v=>obtain ⟨x7,σ7,H7,I7,r7,q7⟩:=q7;exact ⟨x7,σ7,H7,I7.unpinned,r7,q7⟩
def jx {g:TG}{tb:TS}{D:lE}(Pv:Nat→St→Hp→Prop)(h0:Pv 0 σ H)(hl:∀ i σ H,i≤xs.length→Pv i σ H→SqL K H a xs)
  (hs:∀ i x σ H,xs[i]? =some x→Pv i σ H→g x σ H fun σ2 H2=>tb { D with nx:=Pv (i+1),ct:=Pv (i+1),bk:=D.nx } σ2 H2) (hd:∀ σ H,Pv xs.length σ H→D.nx σ H) :
  ∃ W:Nat→Nat→St→Hp→Prop,(∃ m,W 0 m σ H)∧∀ i m σ H,W i m σ H →
   ((Itl K a).stop i H∧D.nx σ H)∨((Itl K a).go i H∧∃ N:St→Hp→Prop,(∀ σ' H',N σ' H'→∃ m',m'<m∧W (i+1) m' σ' H')∧∀ x H',(Itl K a).yld i H x H'→g x σ H' fun σ2 H2=>tb { D with nx:=N,ct:=N,bk:=D.nx } σ2 H2):=by
 apply ⟨fun i m σ H=>m=xs.length - i∧i≤xs.length∧Pv i σ H,⟨xs.length,∅,bo _,h0⟩,?_⟩;rintro i m σ H ⟨rfl,hi,p⟩;have q:=hl i σ H hi p
 by_cases hlt:i<xs.length
 ·apply .inr ⟨⟨xs,xs[i],q,by simp [hlt]⟩,Pv (i+1),fun σ' H' p'=>⟨xs.length - (i+1),⋯,rfl,hlt,p'⟩,fun x H' y=>?_⟩
  obtain ⟨e,y⟩:=y;subst e;exact hs i x σ _ (y xs q) p
 ·have e:i=xs.length:=by lia
  subst e;exact .inl ⟨⟨xs,q,az _⟩,hd σ H p⟩
def for_tup {g:TG}{tb:TS}{D:lE}(Pv:Nat→St→Hp→Prop)(h0:Pv 0 σ H)(hl:∀ i σ H,i≤xs.length→Pv i σ H→SqT K H a xs)
  (hs:∀ i x σ H,xs[i]? =some x→Pv i σ H→g x σ H fun σ2 H2=>tb { D with nx:=Pv (i+1),ct:=Pv (i+1),bk:=D.nx } σ2 H2) (hd:∀ σ H,Pv xs.length σ H→D.nx σ H) :
  ∃ W:Nat→Nat→St→Hp→Prop,(∃ m,W 0 m σ H)∧∀ i m σ H,W i m σ H →
   ((Itt K a).stop i H∧D.nx σ H)∨((Itt K a).go i H∧∃ N:St→Hp→Prop,(∀ σ' H',N σ' H'→∃ m',m'<m∧W (i+1) m' σ' H')∧∀ x H',(Itt K a).yld i H x H'→g x σ H' fun σ2 H2=>tb { D with nx:=N,ct:=N,bk:=D.nx } σ2 H2):=by
 apply ⟨fun i m σ H=>m=xs.length - i∧i≤xs.length∧Pv i σ H,⟨xs.length,∅,bo _,h0⟩,?_⟩;rintro i m σ H ⟨rfl,hi,p⟩;have q:=hl i σ H hi p
 by_cases hlt:i<xs.length
 ·apply .inr ⟨⟨xs,xs[i],q,by simp [hlt]⟩,Pv (i+1),fun σ' H' p'=>⟨xs.length - (i+1),⋯,rfl,hlt,p'⟩,fun x H' y=>?_⟩
  obtain ⟨e,y⟩:=y;subst e;exact hs i x σ _ (y xs q) p
 ·have e:i=xs.length:=by lia
  subst e;exact .inl ⟨⟨xs,q,az _⟩,hd σ H p⟩
def lh {g:TG}{tb:TS}{D:lE}(Pv:Nat→St→Hp→Prop)(h0:Pv 0 σ H)
  (hs:∀ i σ H,i<n→Pv i σ H→g (.int (lo+i)) σ H fun σ2 H2=>tb { D with nx:=Pv (i+1),ct:=Pv (i+1),bk:=D.nx } σ2 H2) (hd:∀ σ H,Pv n σ H→D.nx σ H) :
  ∃ W:Nat→Nat→St→Hp→Prop,(∃ m,W 0 m σ H)∧∀ i m σ H,W i m σ H →
   ((Itr lo n).stop i H∧D.nx σ H)∨((Itr lo n).go i H∧∃ N:St→Hp→Prop,(∀ σ' H',N σ' H'→∃ m',m'<m∧W (i+1) m' σ' H')∧∀ x H',(Itr lo n).yld i H x H'→g x σ H' fun σ2 H2=>tb { D with nx:=N,ct:=N,bk:=D.nx } σ2 H2):=by
 apply ⟨fun i m σ H=>m=n - i∧i≤n∧Pv i σ H,⟨n,∅,bo _,h0⟩,?_⟩;rintro i m σ H ⟨rfl,hi,p⟩
 by_cases hlt:i<n
 ·apply .inr ⟨hlt,Pv (i+1),fun σ' H' p'=>⟨n - (i+1),⋯,rfl,hlt,p'⟩,fun x H' y=>?_⟩
  obtain ⟨e,y⟩:=y;subst e y;exact hs i σ _ hlt p
 ·have e:i=n:=by lia
  subst e;exact .inl ⟨az _,hd σ H p⟩
abbrev R2:=V→V→Hp→VK→Prop
def OpR (X:Cx)(f:ae→ae→Sem ae)(r:R2):Prop :=
 ∀ (aR:List (ak×Obj)) (s:av) (σ:St) (H:Hp) (x y:V) (v u:ae) (Q:VK),Inv X aR σ H s→gq x v→gq y u→r x y H Q →
  aU (bt X.prog X.w) X.A (f v u) (EP X aR σ Q) X.xe s
def UnR (X:Cx)(f:ae→Sem ae)(r:V→Hp→VK→Prop):Prop :=
 ∀ (aR:List (ak×Obj)) (s:av) (σ:St) (H:Hp) (x:V) (v:ae) (Q:VK),Inv X aR σ H s→gq x v→r x H Q →
  aU (bt X.prog X.w) X.A (f v) (EP X aR σ Q) X.xe s
def jO (X:Cx)(f:ae)(r:List V→Hp→VK→Prop):Prop :=
 ∀ (aR:List (ak×Obj)) (s:av) (σ:St) (H:Hp) (xs:List V) (us:List ae) (Q:VK),Inv X aR σ H s→gw xs us→r xs H Q →
  aU (bt X.prog X.w) X.A (jZ f us) (EP X aR σ Q) X.xe s
def tOp (r:R2)(ta tb:TE):TE:=fun σ H Q=>ta σ H fun x H1=>tb σ H1 fun y H2=>r x y H2 Q
def tUn (r:V→Hp→VK→Prop)(ta:TE):TE:=fun σ H Q=>ta σ H fun x H1=>r x H1 Q
inductive rI (C:Int→Int→Prop)(g:Int→Int→V)(x:V)(y:V)(H:Hp)(Q:VK):Prop
 | mk (i j:_)(_:x= .int i)(_:y= .int j)(_:C i j)(_:Q (g i j) H)
inductive rI0 (g:Int→Int→V)(x:V)(y:V)(H:Hp)(Q:VK):Prop
 | mk (i j:_)(_:x= .int i)(_:y= .int j)(_:Q (g i j) H)
inductive rU (g:Int→V)(x:V)(H:Hp)(Q:VK):Prop
 | mk (i:_)(_:x= .int i)(_:Q (g i) H)
section
variable {a b c:Expr}{tb tc:TE}
def binT (ha:PE X a ta)(hb:PE X b tb){R:V→V→Hp→Prop}(I:Inv X aR σ H s)
  (h:ta σ H fun x H1=>tb σ H1 fun y H2=>R x y H2) {f:ae→ae→Sem ae}
  (hf:∀ v u s2 x y H2,Inv X aR σ H2 s2→gq x v→gq y u→R x y H2→aU (bt X.prog X.w) X.A (f v u) Q X.xe s2) :
  aU (bt X.prog X.w) X.A (eE a X.env) (fun v s₁=>aU (bt X.prog X.w) X.A (eE b X.env) (fun u s₂=>aU (bt X.prog X.w) X.A (f v u) Q X.xe s₂) X.xe s₁) X.xe s:=by
 apply thn (ha aR s σ H _ I h) fun v s1 ⟨x,H1,I1,r1,q1⟩=>?_
 apply thn (hb aR s1 σ H1 _ I1 q1) fun u s2 ⟨y,H2,I2,r2,q2⟩=>?_
 exact hf v u s2 x y H2 I2 r1 r2 q2
def c9 {op:Operator}{r:R2}(ho:OpR X (iW op) r)(ha:PE X a ta)(hb:PE X b tb):PE X (.BinOp a op b pos) (tOp r ta tb):=by
 intro aR s σ H Q I h;exact wpAny_BinOp (binT ha hb I h fun v u s2 x y H2 I2 rx ry q=>ho aR s2 σ H2 x y v u Q I2 rx ry q)
def pe_un {op:UnaryOp}{r:V→Hp→VK→Prop}(ho:UnR X (unaryOp op) r)(ha:PE X a ta):PE X (.UnaryOp op a pos) (tUn r ta):=by
 intro aR s σ H Q I h;exact UnaryOp_ (thn (ha aR s σ H _ I h) fun v s1 ⟨x,H1,I1,r1,q1⟩=>ho aR s1 σ H1 x v Q I1 r1 q1)
def opI {f:ae→ae→Sem ae}{C:Int→Int→Prop}{g:Int→Int→Int}
  (rule:∀ (i j:Int) (t u:Tok) (s:av) (Q:ae→av→Prop) (E:ae→av→Prop),C i j→Q (.int (g i j) s.toks) { s with toks:=s.toks+1 }→aU (bt X.prog X.w) X.A (f (.int i t) (.int j u)) Q E s) :
  OpR X f (rI C fun i j=> .int (g i j)):=by
 intro aR s σ H x y v u Q I rx ry h;obtain ⟨i,j,rfl,rfl,hc,q⟩:=h;obtain ⟨t,rfl⟩:=rx;obtain ⟨t',rfl⟩:=ry;exact rule i j t t' s _ _ hc ⟨.int (g i j),H,I.tok _,⟨_,rfl⟩,q⟩
def opI0 {f:ae→ae→Sem ae}{g:Int→Int→Int}
  (rule:∀ (i j:Int) (t u:Tok) (s:av) (Q:ae→av→Prop) (E:ae→av→Prop),Q (.int (g i j) s.toks) { s with toks:=s.toks+1 }→aU (bt X.prog X.w) X.A (f (.int i t) (.int j u)) Q E s) :
  OpR X f (rI0 fun i j=> .int (g i j)):=by
 intro aR s σ H x y v u Q I rx ry h;obtain ⟨i,j,rfl,rfl,q⟩:=h;obtain ⟨t,rfl⟩:=rx;obtain ⟨t',rfl⟩:=ry;exact rule i j t t' s _ _ ⟨.int (g i j),H,I.tok _,⟨_,rfl⟩,q⟩
def opB0 {f:ae→ae→Sem ae}{g:Int→Int→Bool}
  (rule:∀ (i j:Int) (t u:Tok) (s:av) (Q:ae→av→Prop) (E:ae→av→Prop),Q (.bool (g i j)) s→aU (bt X.prog X.w) X.A (f (.int i t) (.int j u)) Q E s) :
  OpR X f (rI0 fun i j=> .bl (g i j)):=by
 intro aR s σ H x y v u Q I rx ry h;obtain ⟨i,j,rfl,rfl,q⟩:=h;obtain ⟨t,rfl⟩:=rx;obtain ⟨t',rfl⟩:=ry;exact rule i j t t' s _ _ ⟨.bl (g i j),H,I,rfl,q⟩
def CDiv (i j:Int):Prop:=0<j∧j<1073741824
def CMul (i j:Int):Prop:=(-(2 ^ 64)<i∧i<2 ^ 64)∨(-(2 ^ 64)<j∧j<2 ^ 64)
def CMul.ok {i j:Int}(h:CMul i j):IntMulOk i j:=by
 rcases h with ⟨h1,h2⟩ | ⟨h1,h2⟩
 ·exact .of_left (intBits_le_64 h1 h2)
 ·exact .of_right (intBits_le_64 h1 h2)
def iC:OpR X (iW .Add) (rI0 fun i j=> .int (i+j)):=opI0 fun _ _ _ _ _ _ _ q=>add_int q
def j8:OpR X (iW .Sub) (rI0 fun i j=> .int (i - j)):=opI0 fun _ _ _ _ _ _ _ q=>sub_int q
def nZ:OpR X (iW .Mult) (rI CMul fun i j=> .int (i * j)):=opI fun _ _ _ _ _ _ _ hc q=>mul_int q hc.ok
def op_fdiv:OpR X (iW .FloorDiv) (rI CDiv fun i j=> .int (i / j)):=opI fun i j _ _ _ _ _ hc q=>by
 have h1:(0:Int)<j:=hc.1;have h2:j<1073741824:=hc.2;exact floordiv_int ⋯ (by rw [Int.fdiv_eq_ediv_of_nonneg i ⋯];exact q) (.inl (PyProof.noPylong_small ⋯))
def l3:OpR X (iW .Mod) (rI (fun _ j=>0<j) fun i j=> .int (i % j)):=opI fun i j _ _ _ _ _ hc q=>by
 have h1:(0:Int)<j:=hc;exact mod_int' ⋯ (by rw [Int.fmod_eq_emod_of_nonneg i ⋯];exact q)
def unI {f:ae→Sem ae}{g:Int→Int}
  (rule:∀ (i:Int) (t:Tok) (s:av) (Q:ae→av→Prop) (E:ae→av→Prop),Q (.int (g i) s.toks) { s with toks:=s.toks+1 }→aU (bt X.prog X.w) X.A (f (.int i t)) Q E s) :
  UnR X f (rU fun i=> .int (g i)):=by
 intro aR s σ H x v Q I rx h;obtain ⟨i,rfl,q⟩:=h;obtain ⟨t,rfl⟩:=rx;exact rule i t s _ _ ⟨.int (g i),H,I.tok _,⟨_,rfl⟩,q⟩
def qS:UnR X (unaryOp .USub) (rU fun i=> .int (-i)):=unI fun _ _ _ _ _ q=>neg_int q
end
def scal:V→V→Bool
 | .non,.non=>true | .non,.int _=>true | .int _,.non=>true | .non,.bl _=>true | .bl _,.non=>true | .non,.str _=>true | .str _,.non=>true
 | .int _,.int _=>true | .bl _,.bl _=>true | .str _,.str _=>true | .byt _,.byt _=>true
 | .int _,.str _=>true | .str _,.int _=>true | .bl _,.str _=>true | .str _,.bl _=>true
 | _,_=>false
def rEq:R2:=fun x y H Q=>scal x y=true∧Q (.bl (decide (x=y))) H
def rNe:R2:=fun x y H Q=>scal x y=true∧Q (.bl (!decide (x=y))) H
def dec_int {i j:Int}:decide (V.int i=V.int j)=(i == j):=by
 rw [kK];simp
def dec_bl {i j:Bool}:decide (V.bl i=V.bl j)=(i == j):=by
 rw [kK];simp
def dec_str {i j:Str}:decide (V.str i=V.str j)=(i == j):=by
 rw [kK];simp
def dec_byt {i j:Array UInt8}:decide (V.byt i=V.byt j)=(i.toList == j.toList):=by
 rw [kK];cases i;cases j;simp
section
variable {a b c:Expr}{tb tc:TE}
def fB {Q:VK}{k k':Bool}(I:Inv X aR σ H s)(q:Q (.bl k) H)(e:k=k'):EP X aR σ Q (.bool k') s:=by
 subst e;exact ⟨.bl k,H,I,rfl,q⟩
def kD:OpR X (ft .Eq) rEq:=by
 intro aR s σ H x y v u Q I rx ry h;obtain ⟨hs,q⟩:=h;cases x with
 | non =>
  cases rx;cases y with
  | non=>cases ry;exact PySem.EqNone.eq_none_none (fB I q ∅)
  | bl j=>cases ry;exact PySem.EqNone.eq_none_bool (fB I q ∅)
  | int j=>obtain ⟨t',rfl⟩:=ry;exact PySem.EqNone.eq_none_int (fB I q ∅)
  | str j=>obtain ⟨t',rfl⟩:=ry;exact PySem.EqNone.eq_none_str (fB I q ∅)
  | _=>exact rQ (show false=true from hs) aZ
 | bl i =>
  cases rx;cases y with
  | non=>cases ry;exact PySem.EqNone.eq_bool_none (fB I q ∅)
  | bl j=>cases ry;exact eq_bool (fB I q dec_bl)
  | str j=>obtain ⟨t',rfl⟩:=ry;exact PySem.EqMixed.eq_bool_str (fB I q ∅)
  | _=>exact rQ (show false=true from hs) aZ
 | int i =>
  obtain ⟨t,rfl⟩:=rx;cases y with
  | non=>cases ry;exact PySem.EqNone.eq_int_none (fB I q ∅)
  | int j=>obtain ⟨t',rfl⟩:=ry;exact eq_int (fB I q dec_int)
  | str j=>obtain ⟨t',rfl⟩:=ry;exact PySem.EqMixed.eq_int_str (fB I q ∅)
  | _=>exact rQ (show false=true from hs) aZ
 | str i =>
  obtain ⟨t,rfl⟩:=rx;cases y with
  | non=>cases ry;exact PySem.EqNone.eq_str_none (fB I q ∅)
  | bl j=>cases ry;exact PySem.EqMixed.eq_str_bool (fB I q ∅)
  | int j=>obtain ⟨t',rfl⟩:=ry;exact PySem.EqMixed.eq_str_int (fB I q ∅)
  | str j=>obtain ⟨t',rfl⟩:=ry;exact eq_str (fB I q dec_str)
  | _=>exact rQ (show false=true from hs) aZ
 | byt i =>
  obtain ⟨t,rfl⟩:=rx;cases y with
  | byt j=>obtain ⟨t',rfl⟩:=ry;exact PySem.W.eq_bytes (fB I q dec_byt)
  | _=>exact rQ (show false=true from hs) aZ
 | _=>cases y <;> exact rQ (show false=true from hs) aZ
def op_ne:OpR X (ft .NotEq) rNe:=by
 intro aR s σ H x y v u Q I rx ry h;obtain ⟨hs,q⟩:=h;cases x with
 | non =>
  cases rx;cases y with
  | non=>cases ry;exact PySem.EqNone.ne_none_none (fB I q ∅)
  | bl j=>cases ry;exact PySem.EqNone.ne_none_bool (fB I q ∅)
  | int j=>obtain ⟨t',rfl⟩:=ry;exact PySem.EqNone.ne_none_int (fB I q ∅)
  | str j=>obtain ⟨t',rfl⟩:=ry;exact PySem.EqNone.ne_none_str (fB I q ∅)
  | _=>exact rQ (show false=true from hs) aZ
 | bl i =>
  cases rx;cases y with
  | non=>cases ry;exact PySem.EqNone.ne_bool_none (fB I q ∅)
  | bl j=>cases ry;exact ne_bool (fB I q (rV not dec_bl))
  | str j=>obtain ⟨t',rfl⟩:=ry;exact PySem.EqMixed.ne_bool_str (fB I q ∅)
  | _=>exact rQ (show false=true from hs) aZ
 | int i =>
  obtain ⟨t,rfl⟩:=rx;cases y with
  | non=>cases ry;exact PySem.EqNone.ne_int_none (fB I q ∅)
  | int j=>obtain ⟨t',rfl⟩:=ry;exact ne_int (fB I q (rV not dec_int))
  | str j=>obtain ⟨t',rfl⟩:=ry;exact PySem.EqMixed.ne_int_str (fB I q ∅)
  | _=>exact rQ (show false=true from hs) aZ
 | str i =>
  obtain ⟨t,rfl⟩:=rx;cases y with
  | non=>cases ry;exact PySem.EqNone.ne_str_none (fB I q ∅)
  | bl j=>cases ry;exact PySem.EqMixed.ne_str_bool (fB I q ∅)
  | int j=>obtain ⟨t',rfl⟩:=ry;exact PySem.EqMixed.ne_str_int (fB I q ∅)
  | str j=>obtain ⟨t',rfl⟩:=ry;exact ne_str (fB I q (rV not dec_str))
  | _=>exact rQ (show false=true from hs) aZ
 | byt i =>
  obtain ⟨t,rfl⟩:=rx;cases y with
  | byt j=>obtain ⟨t',rfl⟩:=ry;exact PySem.W.ne_bytes (fB I q (rV not dec_byt))
  | _=>exact rQ (show false=true from hs) aZ
 | _=>cases y <;> exact rQ (show false=true from hs) aZ
def op_lt:OpR X (ft .Lt) (rI0 fun i j=> .bl (decide (i<j))):=opB0 fun _ _ _ _ _ _ _ q=>lt_int q
def op_le:OpR X (ft .LtE) (rI0 fun i j=> .bl (decide (i≤j))):=opB0 fun _ _ _ _ _ _ _ q=>le_int q
def op_gt:OpR X (ft .Gt) (rI0 fun i j=> .bl (decide (j<i))):=opB0 fun _ _ _ _ _ _ _ q=>gt_int q
def op_ge:OpR X (ft .GtE) (rI0 fun i j=> .bl (decide (j≤i))):=opB0 fun _ _ _ _ _ _ _ q=>ge_int q
def op_isN:OpR X (ft .Is) (fun x y H Q=>y= .non∧Q (.bl (decide (x= .non))) H):=by
 intro aR s σ H x y v u Q I rx ry h;obtain ⟨rfl,q⟩:=h;cases ry;apply is_none_gen (fB I q ?_);cases x <;> first
  | (cases rx;rfl)
  | (obtain ⟨t,rfl⟩:=rx;rfl)
def cP (b:Expr)(h:op≠ .In:=by decide)(h2:op≠ .NotIn:=by decide):behindInMarks op b=false:=by
 have e1:(op == CmpOp.In)=false:=by cases op <;> first | rfl | exact rQ rfl h
 have e2:(op == CmpOp.NotIn)=false:=by cases op <;> first | rfl | exact rQ rfl h2
 cases b <;> simp [behindInMarks,e1,e2]
def jI {r:R2}(ho:OpR X (ft op) r)(ha:PE X a ta)(hb:PE X b tb)(hm:behindInMarks op b=false):PE X (.Compare a [op] [b] pos) (tOp r ta tb):=by
 intro aR s σ H Q I h;exact wpAny_Compare1 (binT ha hb I h fun v u s2 x y H2 I2 rx ry q=>ho aR s2 σ H2 x y v u Q I2 rx ry q) hm
def tTest (t:TE):TT:=fun σ H Q=>t σ H fun x H'=>IsBl x fun k=>Q k H'
def cA {r:R2}(ho:OpR X (ft op) r)(ha:PE X a ta)(hb:PE X b tb)(hm:behindInMarks op b=false):PT X (.Compare a [op] [b] pos) (tTest (tOp r ta tb)):=by
 intro aR s σ H Q I h;apply wpAny_isTrue_Compare1 (thn (ha aR s σ H _ I h) fun v s1 ⟨x,H1,I1,r1,q1⟩=>thn (hb aR s1 σ H1 _ I1 q1) fun u s2 ⟨y,H2,I2,r2,q2⟩ =>
  thn (ho aR s2 σ H2 x y v u _ I2 r1 r2 q2) fun c s3 ⟨z,H3,I3,r3,k,e,q3⟩=>?_) hm
 subst e;cases r3;exact fm ⟨H3,I3,q3⟩
def tChain (r r':R2)(ta tb tc:TE):TE:=fun σ H Q=>ta σ H fun x H1=>tb σ H1 fun y H2=>r x y H2 fun z H3=>∃ k,z= .bl k ∧
 (if k=true then tc σ H3 fun w' H4=>r' y w' H4 Q else Q (.bl false) H3)
def pe_chain {op':CmpOp}{r r':R2}(ho:OpR X (ft op) r)(ho':OpR X (ft op') r')(ha:PE X a ta)(hb:PE X b tb)(hc:PE X c tc)
  (hm:lastMarks [op,op'] [b,c]=false:=by with_unfolding_all rfl):PE X (.Compare a [op,op'] [b,c] pos) (tChain r r' ta tb tc):=by
 intro aR s σ H Q I h;apply Compare_chain (thn (ha aR s σ H _ I h) fun v s1 ⟨x,H1,I1,r1,q1⟩=>chain_link (thn (hb aR s1 σ H1 _ I1 q1) fun u s2 ⟨y,H2,I2,r2,q2⟩ =>
  thn (ho aR s2 σ H2 x y v u _ I2 r1 r2 q2) fun d s3 ⟨z,H3,I3,r3,k,e,q3⟩=>?_)) hm
 subst e;cases r3;apply fm ?_;cases k with
 | false=>exact ite_ff ⟨.bl false,H3,I3,rfl,q3⟩
 | true=>exact ite_tt (chain_last (thn (hc aR s3 σ H3 _ I3 q3) fun w' s4 ⟨z',H4,I4,r4,q4⟩=>ho' aR s4 σ H4 y z' u w' Q I4 r2 r4 q4))
def line63:(bg:Nat)<2 ^ 63:=by rw [gi];decide
def nN {x:V}(r:gw [x] us):∃ u,us=[u]∧gq x u:=by
 cases r with
 | cons r1 r2=>cases r2;exact ⟨_,rfl,r1⟩
def vals2 {x y:V}(r:gw [x,y] us):∃ u w',us=[u,w']∧gq x u∧gq y w':=by
 cases r with
 | cons r1 r2 =>
  cases r2 with
  | cons r3 r4=>cases r4;exact ⟨_,_,rfl,r1,r3⟩
def call_max2 (hc:X.calm=true):jO X (.builtin "max") (fun xs H Q=>∃ i j,xs=[.int i,.int j]∧Q (.int (if j > i then j else i)) H):=by
 intro aR s σ H xs us Q I r h;obtain ⟨i,j,rfl,q⟩:=h;obtain ⟨u,w',rfl,⟨t,rfl⟩,⟨t',rfl⟩⟩:=vals2 r;apply max_two_ints (I.ok.hd hc) fun h' tk k=>⟨_,H,I.kept k,?_,q⟩
 by_cases hj:j > i
 ·rw [rO hj,rO hj];exact ⟨_,rfl⟩
 ·rw [rN hj,rN hj];exact ⟨_,rfl⟩
def qG (hc:X.calm=true):jO X (.builtin "min") (fun xs H Q=>∃ i j,xs=[.int i,.int j]∧Q (.int (if j<i then j else i)) H):=by
 intro aR s σ H xs us Q I r h;obtain ⟨i,j,rfl,q⟩:=h;obtain ⟨u,w',rfl,⟨t,rfl⟩,⟨t',rfl⟩⟩:=vals2 r;apply min_two_ints (I.ok.hd hc) fun h' tk k=>⟨_,H,I.kept k,?_,q⟩
 by_cases hj:j<i
 ·rw [rO hj,rO hj];exact ⟨_,rfl⟩
 ·rw [rN hj,rN hj];exact ⟨_,rfl⟩
end
structure ObjM (h:bL)(x dx C:ak)(mA:Str→Option ae):Prop where
 obj:h.get? x=some (gj C dx)
 ns:h.Ns1 dx mA
 ne:dx≠x
def lookIn_ns (n:h.Ns1 dx mA):∃ od,h.get? dx=some od∧∀ name,PySem.W.lookIn name od=some (mA name):=by
 obtain ⟨o,es,ep,ho,hd,hk,_,hm⟩:=n;apply ⟨o,ho,fun name=>?_⟩;have e:=hm name;unfold nsFind findBy at e;rw [←Array.find?_toList] at e;unfold PySem.W.lookIn;rw [hd]
 dsimp only
 split
 ·rename_i y q
  rw [q] at e;exact rV some e
 ·rename_i q
  rw [q] at e;have a:es.toList.any (·.refKey)=false:=by
   rw [jV];intro y hy;obtain ⟨z,t,hkey⟩:=hk y (Array.mem_toList_iff.mp hy);simp [DictEntry.refKey,hkey]
  have a':¬ es.toList.any (·.refKey)=true:=by rw [a];exact aZ
  rw [rN a'];exact rV some e
def ObjM.look {x:ak}(I:ObjM h x dx C mA):∃ od,PySem.W.InstAt h x (gj C dx) C (some od)∧∀ name,PySem.W.lookIn name od=some (mA name) :=
 let ⟨od,ho,hl⟩:=lookIn_ns I.ns
 ⟨od,⟨I.obj,rfl,rfl,ho⟩,hl⟩
section
variable {x:ak}{v:ae}
def get_map {expr:Bool}(X:K.In s.heap)(I:ObjM s.heap x dx C mA)(hg:j3 K C name=true)(hh:PySem.W.hasDictIn K C=true)
  (ha:cM K (.ref C) name=some none) (hv:mA name=some v) (hv':PySem.W.handedIn v=true) (h:Q v { s with toks:=s.toks+1 }) :
  aU (bt prog w) A (getAttr (.ref x) name expr) Q E s:=by
 obtain ⟨od,J,hl⟩:=I.look;exact PySem.W.get_value X J (PySem.W.plainGet_of hg).1 (PySem.W.findObj_own hh ha rfl (by rw [hl,hv])) hv' h
def get_meth {pl:Sem Bool}{Q:ae×List ae→av→Prop}(X:K.In s.heap)(I:ObjM s.heap x dx C mA)(hg:j3 K C name=true)
  (hf:cM K (.ref C) name=some (some (.ref f))) (ht:PySem.W.isFn K (.ref f)=true) (hv:mA name=none) (h:Q (.ref f,[.ref x]) s) :
  aU (bt prog w) A (getMethod (.ref x) name pl) Q E s:=by
 obtain ⟨od,J,hl⟩:=I.look;exact PySem.W.method_fn X J (PySem.W.plainGet_of hg).1 (PySem.W.plainGet_of hg).2 hf (beq_iff_eq.mp ht) (by show (PySem.W.lookIn name od).map (·.isSome)=some false;rw [hl,hv];rfl) h
def set_map {ns:List Str}{Q:Unit→av→Prop}(X:K.In s.heap)(I:ObjM s.heap x dx C mA)
  (hs:cM K (.ref C) "__setattr__" =some (some (.builtin "object.__setattr__"))) (hp:PySem.W.plainOver K C=true) (ht:PySem.W.takerIn K C name=some none) (hh:PySem.W.hasDictIn K C=true)
  (hw:PySem.Within mA ns) (hsz:ns.length≤bg)
  (h:∀ h',ObjM h' x dx C (fun y=>if y=name then some v else mA y)→cy dx s.heap h'→Q () { s with heap:=h',toks:=s.toks+2 }) :
  aU (bt prog w) A (setAttr (.ref x) name v) Q E s:=by
 obtain ⟨od,J,hl⟩:=I.look;apply PySem.W.set_plain X J hs (PySem.W.osa_open (s:={ s with toks:=s.toks+1 }) (r:=none) X J hp ht fun b=>?_);obtain ⟨cd,hc,hd'⟩:=PySem.W.any_some hh;have hx:s.heap.get? x=some ⟨.ref C,some dx,.plain,#[]⟩:=I.obj;apply ai (aL (ai (ai (wpAny_loadPart hx (ai (PySem.W.Looks.here (s:={ s with toks:=s.toks+1 }) (PySem.W.looks_clsIn X hc) ?_))))));rw [hd'];apply aL (a:=some dx) (ai (aL (ai ?_)));apply wpAny_nsSet1 (s:={ s with toks:=s.toks+1 }) I.ns fun h' hn2 hs2=>?_
 obtain ⟨oD,esD,epD,hoD,hdD,hcD⟩:=hn2.count (PySem.Within.cons name v hw);apply ai (wpAny_lookBehind hoD (by rw [hdD];exact pastItsLine_dict (aN hcD (by rw [aP];lia))) ?_);exact aL (h _ ⟨(hs2.2 _ (cH I.ne)).trans I.obj,hn2,I.ne⟩ hs2)
def make_map (X:K.In s.heap)(hm:PySem.W.makesIn K C=true)
  (hi:cM K (.ref C) "__init__" =some (some (.ref f))) (hf:PySem.W.typeIn K (.ref f)=some (.type "function"))
  (h:i9 (bt prog w) (A.under (.builtin "type.__call__" ⟨.ref C::vs,kw⟩)) (.call (.ref f) ⟨.ref (s.heap.objs.size+1)::vs,kw⟩) (PySem.W.InitBack (s.heap.objs.size+1) R)
   {s with heap:=(s.heap.push eU).push (gj C s.heap.objs.size) }) :
  i9 (bt prog w) A (.call (.ref C) ⟨vs,kw⟩) R s:=by
 obtain ⟨hh,g,d,t,os⟩:=s;exact PySem.W.make_core (PySem.W.makes_of X hm) (PySem.W.looks_findIn X hi) (fun self=>PySem.W.bind_fn X self hf) (.inl rfl) h
end
def nM (f:Str)(v:V):List (Str×V)→List (Str×V)
 | []=>[(f,v)]
 | (g,x)::r=>if g=f then (g,v)::r else (g,x)::nM f v r
def qg (f g:Str)(v:V):∀ fs:List (Str×V),(nM f v fs).lookup g=if g=f then some v else fs.lookup g
 | []=>by
  show eM g [(f,v)]=_
  by_cases h:g=f
  ·have hb:(g == f)=true:=beq_iff_eq.mpr h
   simp only [eM,hb,rO h]
  ·have hb:(g == f)=false:=beq_eq_false_iff_ne.mpr h
   simp only [eM,hb,rN h]
 | (k,x)::r=>by
  have ih:=qg f g v r;rw [show nM f v ((k,x)::r)=(if k=f then (k,v)::r else (k,x)::nM f v r) from rfl]
  by_cases hk:k=f
  ·rw [rO hk]
   by_cases h:g=k
   ·have hb:(g == k)=true:=beq_iff_eq.mpr h
    simp only [eM,hb,rO (h.trans hk)]
   ·have hb:(g == k)=false:=beq_eq_false_iff_ne.mpr h
    simp only [eM,hb,rN (fun e:g=f=>h (e.trans hk.symm))]
  ·rw [rN hk]
   by_cases h:g=k
   ·have hb:(g == k)=true:=beq_iff_eq.mpr h
    simp only [eM,hb,rN (fun e:g=f=>hk (h.symm.trans e))]
   ·have hb:(g == k)=false:=beq_eq_false_iff_ne.mpr h
    simp only [eM,hb];exact ih
def qj (f:Str)(v:V):∀ fs:List (Str×V),f∈(nM f v fs).map (·.1)∧∀ g,g∈fs.map (·.1)→g∈(nM f v fs).map (·.1)
 | []=>⟨by simp [nM],fun g h=>by simp at h⟩
 | (k,x)::r=>by
  obtain ⟨i1,i2⟩:=qj f v r;rw [show nM f v ((k,x)::r)=(if k=f then (k,v)::r else (k,x)::nM f v r) from rfl]
  by_cases hk:k=f
  ·rw [rO hk]
   subst hk;exact ⟨∅,fun g h=>by simpa using h⟩
  ·rw [rN hk]
   apply ⟨?_,fun g h=>?_⟩
   ·rw [bM]
    exact ay _ i1
   ·rw [bM] at h ⊢
    rcases aF.mp h with e | e
    ·exact aF.mpr (.inl e)
    ·exact ay _ (i2 g e)
def qi (f:Str)(v:V):∀ fs:List (Str×V),(nM f v fs).length≤fs.length+1
 | []=>by simp [nM]
 | (k,x)::r=>by
  have ih:=qi f v r;rw [show nM f v ((k,x)::r)=(if k=f then (k,v)::r else (k,x)::nM f v r) from rfl]
  by_cases hk:k=f
  ·rw [rO hk,aP,aP];lia
  ·rw [rN hk,aP,aP];lia
def RelO.some_of {o:Option ae}(r:RelO (some v) o):∃ u,o=some u∧gq v u:=by
 cases o with
 | none=>exact (show False from r).elim
 | some u=>exact ⟨u,rfl,r⟩
def RelO.none_of {o:Option ae}(r:RelO none o):o=none:=by
 cases o with
 | none=>rfl
 | some u=>exact (show False from r).elim
def handed_of (r:gq v u):PySem.W.handedIn u=true:=by
 cases v with
 | non=>cases (show u=ae.none from r);rfl
 | bl b=>cases (show u=ae.bool b from r);rfl
 | int i=>obtain ⟨t,e⟩:=(show ∃ t,u=ae.int i t from r);cases e;rfl
 | str x=>obtain ⟨t,e⟩:=(show ∃ t,u=ae.str x t from r);cases e;rfl
 | byt b=>obtain ⟨t,e⟩:=(show ∃ t,u=ae.bytes b t from r);cases e;rfl
 | flt b=>obtain ⟨t,e⟩:=(show ∃ t,u=ae.float b t from r);cases e;rfl
 | ref a=>cases (show u=ae.ref a from r);rfl
 | ty n=>cases (show u=ae.type n from r);rfl
section
variable {fs fs':List (Str×V)}
def ins_get (hok:HOk P w H h)(e:H a=some (.ins C dx fs)):∃ mA,ObjM h a dx C mA∧(∀ f,RelO (fs.lookup f) (mA f))∧PySem.Within mA (fs.map (·.1))∧fs.length≤1000∧H dx=some (.own a):=by
 obtain ⟨d,z,ne,ob,mA,n,r,q⟩:=(show jz P w H h a (.ins C dx fs) from hok a _ e);exact ⟨mA,⟨ob,n,ne⟩,r,q,z,d⟩
end
structure Cls (K:ar)(C:ak):Prop where
 pg:j3 K C Str.empty=true
 hd:PySem.W.hasDictIn K C=true
 po:PySem.W.plainOver K C=true
 sa:cM K (.ref C) "__setattr__" =some (some (.builtin "object.__setattr__"))
def Cls.get (c:Cls K C)(f:Str):j3 K C f=true:=c.pg
def oq (K:ar)(C:ak)(f:Str):Prop:=cM K (.ref C) f=some none
def oq.taker {f:Str}(n:oq K C f):PySem.W.takerIn K C f=some none:=by
 unfold PySem.W.takerIn;rw [show cM K (.ref C) f=some none from n];rfl
structure Meth (K:ar)(C:ak)(m:Str)(f:ak):Prop where
 at_:cM K (.ref C) m=some (some (.ref f))
 fn:PySem.W.isFn K (.ref f)=true
 kp:eS K (.ref f)=true
section
variable {fs:List (Str×V)}{f:Str}
def getattr_ok {b:Bool}(I:Inv X aR σ H s)(e:H a=some (.ins C dx fs))(c:Cls X.K C)(n:oq X.K C f)(l:fs.lookup f=some v)
  (h:∀ u s',Inv X aR σ H s'→gq v u→Q u s'):aU (bt X.prog X.w) A (getAttr (.ref a) f b) Q E s:=by
 obtain ⟨mA,O,r,_,_,_⟩:=ins_get I.hok e;obtain ⟨u,hu,ru⟩:=RelO.some_of (v:=v) (o:=mA f) (by rw [←l];exact r f);exact get_map I.kIn O (c.get f) c.hd n hu (handed_of ru) (h u _ (I.tok _) ru)
def getmeth_ok {m:Str}{g:ak}{pl:Sem Bool}{Q:ae×List ae→av→Prop}(I:Inv X aR σ H s)(e:H a=some (.ins C dx fs))(c:Cls X.K C)(k:Meth X.K C m g)(l:fs.lookup m=none)
  (h:Q (.ref g,[.ref a]) s):aU (bt X.prog X.w) A (getMethod (.ref a) m pl) Q E s:=by
 obtain ⟨mA,O,r,_,_,_⟩:=ins_get I.hok e;have hn:mA m=none:=RelO.none_of (by rw [←l];exact r m);exact get_meth I.kIn O (c.get m) k.at_ k.fn hn h
def setattr_ok {y:V}{Q:Unit→av→Prop}(I:Inv X aR σ H s)(e:H a=some (.ins C dx fs))(c:Cls X.K C)(n:oq X.K C f)(hl:fs.length<1000)(ry:gq y u)
  (h:∀ s',Inv X aR σ (upd H a (.ins C dx (nM f y fs))) s'→Q () s'):aU (bt X.prog X.w) A (setAttr (.ref a) f u) Q E s:=by
 obtain ⟨mA,O,r,wi,_,ho⟩:=ins_get I.hok e;have hz:(fs.map (·.1)).length≤bg:=by rw [aa,gi];lia
 apply set_map I.kIn O c.sa c.po n.taker c.hd wi hz fun h' O' sb=>h _ ?_
 have hd:∃ o,h'.get? dx=some o:=let ⟨o,_,_,e',_⟩:=O'.ns;⟨o,e'⟩;apply I.write (x:=a) (e:=dx) (by rw [e];exact True.intro) (.inr ho) (fun b q hb z=>(sb.2 b hb).trans z) hd ?_;apply ⟨by rw [bq O.ne];exact ho,?_,O.ne,O'.obj,_,O'.ns,fun g=>?_,fun g hg=>?_⟩
 ·have:=qi f y fs;lia
 ·show RelO ((nM f y fs).lookup g) (if g=f then some u else mA g)
  rw [qg]
  by_cases q:g=f
  ·rw [rO q,rO q];exact ry
  ·rw [rN q,rN q];exact r g
 ·by_cases q:g=f
  ·rw [q];exact (qj f y fs).1
  ·apply (qj f y fs).2 g (wi g fun z=>hg ?_)
   show (if g=f then some u else mA g)=none;rw [rN q];exact z
def Inv.made (I:Inv X aR σ H s):Inv X aR σ (upd (upd H s.heap.objs.size (.own (s.heap.objs.size+1))) (s.heap.objs.size+1) (.ins C s.heap.objs.size []))
  {s with heap:=(s.heap.push eU).push (gj C s.heap.objs.size) }:=by
 have e1:(s.heap.push eU).get? s.heap.objs.size=some eU:=aQ s.heap rfl;have e2:((s.heap.push eU).push (gj C s.heap.objs.size)).get? (s.heap.objs.size+1)=some (gj C s.heap.objs.size):=by
  have:=aQ (s.heap.push eU) (o:=gj C s.heap.objs.size) rfl
  rwa [dh] at this
 have e3:(s.heap.push eU).Ns s.heap.objs.size (fun _=>none):=⟨eU,#[],_,e1,rfl,(fun e he=>rQ he ∅),fun _=>rfl⟩;have I1:=I.laid (a:=s.heap.objs.size) (o:= .own (s.heap.objs.size+1)) (h':=s.heap.push eU) (t':=s.toks) (fun b u q=>aq _ q) (az _) ⟨_,e1⟩;apply I1.laid (a:=s.heap.objs.size+1) (o:= .ins C s.heap.objs.size []) (t':=s.toks) (fun b u q=>aq _ q) (Nat.le_of_eq (dh _ _)) ?_;have ne:s.heap.objs.size≠s.heap.objs.size+1:=bB (jf _);apply ⟨by rw [bq ne,aV],bo _,ne,e2,fun _=>none,(bL.Ns1.of_empty e3).at fun o q=>aq _ q,fun _=>True.intro,fun y hy=>rQ rfl hy⟩
def attr_of {f:Str}(hb:kR e f env (eE e env)=eE e env)
  (h:aU (bt prog w) A (eE e env) (fun o s₁=>aU (bt prog w) A (getAttr o f true) Q E s₁) E s):aU (bt prog w) A (eE (.Attribute e f pos) env) Q E s :=
 Attribute_any_ h (by rw [arm_eval_Attribute,hb])
end
def tFld (K:ar)(ta:TE)(f:Str):TE:=fun σ H Q=>ta σ H fun x H1=>∃ a C dx fs v,x= .ref a∧H1 a=some (.ins C dx fs)∧Cls K C∧oq K C f∧fs.lookup f=some v∧Q v H1
def sFld (K:ar)(ta tv:TE)(f:Str):TS:=fun D σ H=>tv σ H fun y H1=>ta σ H1 fun x H2=>∃ a C dx fs,x= .ref a∧H2 a=some (.ins C dx fs)∧Cls K C∧oq K C f∧fs.length<1000 ∧
 D.nx σ (upd H2 a (.ins C dx (nM f y fs)))
section
variable {o:Expr}{f:Str}{tpos:Pos}{tv:TE}
def pe_fld (he:PE X e ta)(hb:kR e f X.env (eE e X.env)=eE e X.env):PE X (.Attribute e f pos) (tFld X.K ta f):=by
 intro aR s σ H Q I h;apply attr_of hb (thn (he aR s σ H _ I h) fun u s1 ⟨x,H1,I1,rx,a,C,dx,fs,v,ex,ea,c,n,l,q⟩=>?_);subst ex;obtain rfl:u=ae.ref a:=rx;exact getattr_ok I1 ea c n l fun u' s2 I2 ru=>⟨v,H1,I2,ru,q⟩
def ps_fld (ha:PE X o ta)(hv:PE X value tv)(hs:swapsWith value (some (.Attribute o f pos')) pos.line X.env=fQ false):PS X (.Assign [.Attribute o f pos'] value pos) (sFld X.K ta tv f):=by
 intro aR s σ H D I h;apply plainObj_wpAny_Assign_Attribute (thn (hv aR s σ H _ I h) fun u s1 ⟨y,H1,I1,ry,q⟩=>thn (ha aR s1 σ H1 _ I1 q) fun ov s2 ⟨x,H2,I2,rx,a,C,dx,fs,ex,ea,c,n,l,q2⟩=>?_) hs;subst ex;obtain rfl:ov=ae.ref a:=rx;exact setattr_ok I2 ea c n l ry fun s3 I3=>⟨σ,_,I3,q2⟩
end
section
variable {c:ae}{b:Bool}
inductive TyOf (K:ar)(H:Hp):V→ae→Prop where
 | non:TyOf K H .non (.type "NoneType")
 | bl (x:Bool):TyOf K H (.bl x) (.type "bool")
 | int (i:Int):TyOf K H (.int i) (.type "int")
 | str (x:Str):TyOf K H (.str x) (.type "str")
 | flt (x:UInt64):TyOf K H (.flt x) (.type "float")
 | lst {a:ak} {xs:List V} (e:H a=some (.lst xs)):TyOf K H (.ref a) (.type "list")
 | frz {a:ak} {o:Obj} {xs:List V} (e:H a=some (.frz o (.lst xs))):TyOf K H (.ref a) (.type "list")
 | tup {a:ak} {xs:List V} (e:H a=some (.tup xs)):TyOf K H (.ref a) (.type "tuple")
 | dK {a:ak} {kvs:List (Key×V)} (e:H a=some (.dK kvs)):TyOf K H (.ref a) (.type "dict")
 | dT {a:ak} {kvs:List (List Key×V)} (e:H a=some (.dT kvs)):TyOf K H (.ref a) (.type "dict")
 | ins {a C dx:ak} {fs:List (Str×V)} (e:H a=some (.ins C dx fs)) (cl:Cls K C) (ha:cM K (.ref C) "__class__" =some (some (.builtin "object.__class__")))
   (hn:PySem.W.specialIn K (.builtin "object.__class__") "__get__" =some (some (.builtin "getset_descriptor.__get__"))) (htk:PySem.W.takesIn K (.builtin "object.__class__")=some true)
   (hm:PySem.W.mroIn K C (.type "object")=some true):TyOf K H (.ref a) (.ref C)
def isinst_ok {x:V}{t:ae}(I:Inv X aR σ H s)(rx:gq x u)(ty:TyOf X.K H x t)(e:jC X.K t c=some b)(h:∀ tk,Q (.bool b) { s with toks:=tk }) :
  aU (bt X.prog X.w) A (jZ (.builtin "isinstance") [u,c]) Q E s:=by
 cases ty with
 | non=>cases (show u=ae.none from rx);exact eF PySem.W.kitx_none I.kIn True.intro e (fun z=>nomatch z) h
 | bl y=>cases (show u=ae.bool y from rx);exact eF PySem.W.kitx_bool I.kIn True.intro e (fun z=>nomatch z) h
 | int i=>obtain ⟨t,q⟩:=(show ∃ t,u=ae.int i t from rx);cases q;exact eF PySem.W.kitx_int I.kIn True.intro e (fun z=>nomatch z) h
 | str y=>obtain ⟨t,q⟩:=(show ∃ t,u=ae.str y t from rx);cases q;exact eF PySem.W.kitx_str I.kIn True.intro e (fun z=>nomatch z) h
 | flt y=>obtain ⟨t,q⟩:=(show ∃ t,u=ae.float y t from rx);cases q;exact eF PySem.W.kitx_float I.kIn True.intro e (fun z=>nomatch z) h
 | @lst a xs ea =>
  cases (show u=ae.ref a from rx);obtain ⟨_,_,n,_,h1⟩:=(show jz X.prog X.w H s.heap a (.lst xs) from I.hok a _ ea);exact eF PySem.W.kitx_list I.kIn ⟨_,h1,rfl⟩ e (fun z=>nomatch z) h
 | @frz a ob xs ea =>
  cases (show u=ae.ref a from rx);obtain ⟨_,_,_,n,_,h1⟩:=(show jz X.prog X.w H s.heap a (.frz ob (.lst xs)) from I.hok a _ ea);exact eF PySem.W.kitx_list I.kIn ⟨_,h1,rfl⟩ e (fun z=>nomatch z) h
 | @tup a xs ea =>
  cases (show u=ae.ref a from rx);obtain ⟨_,_,_,p⟩:=(show jz X.prog X.w H s.heap a (.tup xs) from I.hok a _ ea);obtain ⟨o,h1,h2,_⟩:=p;exact eF PySem.W.kitx_tuple I.kIn ⟨o,h1,h2⟩ e (fun z=>nomatch z) h
 | @dK a kvs ea =>
  cases (show u=ae.ref a from rx);obtain ⟨_,_,vs,_,p⟩:=(show jz X.prog X.w H s.heap a (.dK kvs) from I.hok a _ ea);obtain ⟨o,es,ep,h1,h2,_⟩:=p;exact eF PySem.W.kitx_dict I.kIn ⟨o,h1,h2.1⟩ e (fun z=>nomatch z) h
 | @dT a kvs ea =>
  cases (show u=ae.ref a from rx);obtain ⟨_,_,xs,_,o,es,ep,h1,h2,_⟩:=(show jz X.prog X.w H s.heap a (.dT kvs) from I.hok a _ ea);exact eF PySem.W.kitx_dict I.kIn ⟨o,h1,h2.1⟩ e (fun z=>nomatch z) h
 | @ins a C dx fs ea cl ha hn htk hm =>
  cases (show u=ae.ref a from rx);obtain ⟨mA,O,_⟩:=ins_get I.hok ea;obtain ⟨od,J,_⟩:=O.look;exact eF (PySem.W.kitx_own (cl.get _) cl.hd ha hn htk hm) I.kIn J e (fun z=>nomatch z) h
end
structure ik (k:Nat)(A:bS):Prop where
 hd:A.handled=none
 dp:A.depth+3 * k+5<jn
 un:A.units+16 * k+200<cLine
def ik.mono {k:Nat}(r:ik k A)(h:j≤k):ik j A:=⟨r.hd,by have:=r.dp;lia,by have:=r.un;lia⟩
def ik.deeper {k:Nat}(r:ik (k+1) A)(env:Env):ik k (A.deeper env) :=
 ⟨r.hd,by have:=r.dp;show A.depth+1+3 * k+5<_;lia,by have:=r.un;show A.units+3+16 * k+200<_;lia⟩
def ik.in1 {k:Nat}(r:ik (k+1) A):ik k A.in1 :=
 ⟨r.hd,by have:=r.dp;show A.depth+3 * k+5<_;lia,by have:=r.un;show A.units+1+16 * k+200<_;lia⟩
def make_depth:(A.under (.builtin "type.__call__" ⟨.ref C::us,kw⟩)).depth=A.depth+1:=by
 first | rfl | simp [bS.under,Code.weight,Code.isCreation,Code.isGuard,Code.isCaller,Code.frames,Code.isFrame,guardIds]
def make_units:(A.under (.builtin "type.__call__" ⟨.ref C::us,kw⟩)).units=A.units+1:=by
 first | rfl | simp [bS.under,Code.cUnits,Code.frames,Code.isFrame]
def ik.make {k:Nat}(r:ik (k+1) A)(C:ak)(us:List ae)(kw:List (Str×ae)):ik k (A.under (.builtin "type.__call__" ⟨.ref C::us,kw⟩)) :=
 ⟨r.hd,by have:=r.dp;rw [make_depth];lia,by have:=r.un;rw [make_units];lia⟩
def ik.depth {k:Nat}(r:ik k A):A.depth<jn:=by have:=r.dp;lia
def ik.units {k:Nat}(r:ik k A):A.units+64<cLine:=by have:=r.un;lia
def ik.units0 {k:Nat}(r:ik k A):A.units<cLine:=by have:=r.un;lia
def tNil:TA:=fun _ H Q=>Q [] H
def nR (ta:TE)(tr:TA):TA:=fun σ H Q=>ta σ H fun x H1=>tr σ H1 fun xs H2=>Q (x::xs) H2
def aD:PA X [] tNil:=fun _ _ _ _ H Q I h=>Calls.spliced_nil ⟨[],H,I,.nil,h⟩
def ag (ha:PE X e te)(hr:PA X es t)(hs:br (e::es) X.env=(false,eE e X.env)::br es X.env:=by rfl):PA X (e::es) (nR te t):=by
 intro pos aR s σ H Q I h;rw [hs];show aU _ _ (spliced ((false,eE e X.env)::eR pos (br es X.env))) _ _ s;apply Calls.spliced_cons (thn (ha aR s σ H _ I h) fun u s1 ⟨x,H1,I1,r1,q1⟩=>?_);exact thn (hr pos aR s1 σ H1 _ I1 q1) fun us s2 ⟨xs,H2,I2,r2,q2⟩=>⟨x::xs,H2,I2,.cons r1 r2,q2⟩
def tTup (t:TA):TE:=fun σ H Q=>t σ H fun xs H1=>xs.length≤bg∧∀ p,H1 p=none→Q (.ref p) (upd H1 p (.tup xs))
def tLst (t:TA):TE:=fun σ H Q=>t σ H fun xs H1=>xs.length≤bg∧∀ p,H1 p=none→Q (.ref p) (upd H1 p (.lst xs))
def pe_tup {x1}(h:PA X es t):PE X (.Tuple es x1 pos) (tTup t):=by
 intro aR s σ H Q I hq;apply wpAny_Tuple_spliced (thn (h pos aR s σ H _ I hq) fun us s1 ⟨xs,H1,I1,r,z,q⟩=>⟨by rw [←r.length];exact z,?_⟩);have hf:H1 s1.heap.objs.size=none:=I1.hok.fresh (az _);apply ⟨.ref s1.heap.objs.size,upd H1 s1.heap.objs.size (.tup xs),I1.laid (t':=s1.toks) (fun b u e=>aq _ e) (az _) ?_,rfl,q _ hf⟩;exact ⟨z,us,r,⟨_,aQ _ rfl,rfl,rfl,_,rfl⟩⟩
def jv (h:PA X es t):PE X (.List es pos) (tLst t):=by
 intro aR s σ H Q I hq;apply wpAny_List_spliced (thn (h pos aR s σ H _ I hq) fun us s1 ⟨xs,H1,I1,r,z,q⟩=>⟨by rw [←r.length];exact z,?_⟩);have hf:H1 s1.heap.objs.size=none:=I1.hok.fresh (az _);apply ⟨.ref s1.heap.objs.size,upd H1 s1.heap.objs.size (.lst xs),I1.laid (t':=s1.toks) (fun b u e=>aq _ e) (az _) ?_,rfl,q _ hf⟩;exact ⟨z,us,0,r,aQ _ rfl⟩
abbrev Sp:=List V→Hp→VK→XK→Prop
abbrev CXT:=List Env→Hp→av→XK→ae→av→Prop
structure Env0 (P:aX)(w:bC)(K:ar)(mg:Str→Option ae)(base:bL)(A:bS)(outer:List Env)(s:av)(H:Hp):Prop where
 frames:A.frames=some outer
 mod:Mod K mg base
 bs:∀ b o,base.get? b=some o→s.heap.get? b=some o∧H b=none
 bsz:base.objs.size≤s.heap.objs.size
 funs:s.heap.FunFrames base outer
 frf:∀ b∈frs outer,H b=none
 hok:HOk P w H s.heap
 bare:AllBare s.gens
def CE (outer:List Env)(P:aX)(w:bC)(H:Hp)(s:av)(Q:VK)(u:ae)(s':av):Prop :=
 ∃ v H',s'.os=s.os∧AllBare s'.gens∧Un (frs outer) [] H H' s.heap s'.heap∧HOk P w H' s'.heap∧gq v u∧Q v H'
def CR (CX:CXT)(outer:List Env)(P:aX)(w:bC)(H:Hp)(s:av)(Q:VK)(E:XK)(r:Result)(s':av):Prop :=
 match r with
 | .ok (.ret u)=>CE outer P w H s Q u s'
 | .ok _=>False
 | .error e=>CX outer H s E e s'
structure cO (P:aX)(w:bC)(K:ar)(mg:Str→Option ae)(base:bL)(CX:CXT)(k:Nat)(f:ak)(fd:bh)(ps:List Str)(sp:Sp):Prop where
 len:∀ vs H Q E,sp vs H Q E→vs.length=ps.length
 run:∀ (A:bS) (outer:List Env) (s:av) (H:Hp) (args:Args) (us:List ae) (vs:List V) (Q:VK) (E:XK),ik k A→Env0 P w K mg base A outer s H→BindsTo s fd args (ps.zip us)→gw vs us→sp vs H Q E →
  i9 (bt P w) A (.call (.ref f) args) (CR CX outer P w H s Q E) s
def Env0.make (e:Env0 P w K mg base A outer s H)(C:ak)(us:List ae)(kw:List (Str×ae)) :
  Env0 P w K mg base (A.under (.builtin "type.__call__" ⟨.ref C::us,kw⟩)) outer s H:=⟨by first | exact e.frames | (simpa [bS.under,Code.envs,Code.isFrame,pushEnvs] using e.frames),e.mod,e.bs,e.bsz,e.funs,e.frf,e.hok,e.bare⟩
def Inv.env0 (I:Inv X aR σ H s):Env0 X.prog X.w X.K X.mg X.base X.A X.stack s H :=
 ⟨I.ok.frames,I.ok.mod,I.bs,aN I.ok.bsz I.sz,I.stack,I.stkFree,I.hok,I.bare⟩
def Inv.after {Q:VK}(I:Inv X aR σ H s)(h:CE X.stack X.prog X.w H s Q u s'):EP X aR σ Q u s':=by
 obtain ⟨v,H',os,bare,un,hok,r,q⟩:=h;obtain ⟨hh,g,d,t,os'⟩:=s';obtain rfl:os'=s.os:=os;exact ⟨v,H',I.call (h':=hh) (g':=g) (d':=d) (t':=t) (ch:=[]) un hok bare (fun b z=>rQ z ∅),r,q⟩
def tCall (sp:Sp)(dvs:List V)(E:XK)(t:TA):TE:=fun σ H Q=>t σ H fun vs H1=>sp (vs++dvs) H1 Q E
def tMeth (C:ak)(m:Str)(sp:Sp)(dvs:List V)(E:XK)(ta:TE)(t:TA):TE:=fun σ H Q=>ta σ H fun x H1=>∃ a dx fs,x= .ref a∧H1 a=some (.ins C dx fs)∧fs.lookup m=none ∧
 t σ H1 fun vs H2=>sp (x::(vs++dvs)) H2 Q E
def tMake (C:ak)(sp:Sp)(dvs:List V)(E:XK)(t:TA):TE:=fun σ H Q=>t σ H fun vs H1=>∀ x dx,H1 x=none→H1 dx=none→dx≠x →
 sp (.ref x::(vs++dvs)) (upd (upd H1 dx (.own x)) x (.ins C dx [])) (fun v H2=>v= .non∧Q (.ref x) H2) E
def oO (K:ar)(fd:bh)(ps:List Str)(ds:List ae):Prop :=
 ∀ (s:av) (us:List ae),K.In s.heap→(us++ds).length=ps.length→BindsTo s fd ⟨us,[]⟩ (ps.zip (us++ds))
def oO.all (h:∀ us:List ae,us.length=ps.length→bindArgs fd ⟨us,[]⟩=fQ (ps.zip us)):oO K fd ps []:=fun s us _ hl=>by
 rw [dg] at hl ⊢;exact .of_eq (h us hl)
def rK (CX:CXT)(X:Cx)(E:XK):Prop:=∀ (aR:List (ak×Obj)) (σ:St) (H:Hp) (s:av) (e:ae) (s':av),Inv X aR σ H s→CX X.stack H s E e s'→X.xe e s'
section
variable {CX:CXT}{k:Nat}{sp:Sp}{dvs:List V}{ds:List ae}{E:XK}{m:Str}{p:Pos}{o:Expr}
def run_fn {Q:VK}{vs:List V}(F:cO X.prog X.w X.K X.mg X.base CX k f fd ps sp)(hr:ik k X.A)(hb:oO X.K fd ps ds)(hd:gw dvs ds)(hx:rK CX X E)
  (I:Inv X aR σ H s) (r:gw vs us) (h:sp (vs++dvs) H Q E):aU (bt X.prog X.w) X.A (jZ (.ref f) us) (EP X aR σ Q) X.xe s:=by
 have r2:gw (vs++dvs) (us++ds):=r.append hd;have hl:(us++ds).length=ps.length:=by rw [←r2.length];exact F.len _ _ _ _ h
 apply wpAny_call (codeAny_mono (F.run X.A X.stack s H ⟨us,[]⟩ (us++ds) (vs++dvs) Q E hr I.env0 (hb s us I.kIn hl) r2 h) fun r s' hq=>?_);cases r with
 | error e=>exact hx aR σ H s e s' I hq
 | ok fl =>
  cases fl with
  | ret u=>exact I.after hq
  | next=>exact cT hq
  | brk=>exact cT hq
  | cont=>exact cT hq
def pe_call (F:cO X.prog X.w X.K X.mg X.base CX k f fd ps sp)(hr:ik k X.A)(hg:Gl X x)(hm:X.mg x=some (.ref f))(hk:eS X.K (.ref f)=true)(hb:oO X.K fd ps ds)(hd:gw dvs ds)(hx:rK CX X E)
  (ha:PA X (e::es) t) (hdb:(x == ("__debug__" :Str))=false:=by decide) (he:br (e::es) X.env=(false,eE e X.env)::br es X.env:=by rfl) (hpl:(eR pos (br es X.env)).any (·.1)=false:=by rfl) :
  PE X (.Call (.Name x p) (e::es) [] pos) (tCall sp dvs E t):=by
 intro aR s σ H Q I h;apply dZ (ld_glob I hg hm ?_ hdb);apply kM (h₀:=X.base) I.ok.mod.kin hk (thn (ha pos aR s σ H _ I h) fun us s1 ⟨vs,H1,I1,r,q⟩=>⟨I1.kIn,?_⟩) he hpl;exact run_fn F hr hb hd hx I1 r q
def pe_meth {pl:Sem Bool}(he:PE X o ta)(c:Cls X.K C)(hm:Meth X.K C m f)(F:cO X.prog X.w X.K X.mg X.base CX k f fd ps sp)(hr:ik k X.A)(hb:oO X.K fd ps ds)(hd:gw dvs ds)(hx:rK CX X E)(ha:PA X (e::es) t)
  (hst:br (e::es) X.env=(false,eE e X.env)::br es X.env:=by rfl) (hpl:(eR pos (br es X.env)).any (·.1)=false:=by rfl)
  (ht:eE (.Call (.Attribute o m apos) (e::es) [] pos) X.env=(do
   let ov ← eE o X.env
   standAt apos.atName
   let (f,first) ← holding [ov] (getMethod ov m pl)
   callWith pos f first (eR pos (br (e::es) X.env)) (backToKw pos (keywordEach [] X.env))):=by rfl) :
  PE X (.Call (.Attribute o m apos) (e::es) [] pos) (tMeth C m sp dvs E ta t):=by
 intro aR s σ H Q I h;apply PySem.W.methodCall_KW (pl:=pl) (thn (he aR s σ H _ I h) fun u s1 ⟨x,H1,I1,rx,a,dx,fs,ex,ea,l,q⟩=>?_) ht;subst ex;obtain rfl:u=ae.ref a:=rx;apply getmeth_ok I1 ea c hm l ?_;apply kM (first:=[.ref a]) (h₀:=X.base) I.ok.mod.kin hm.kp (thn (ha pos aR s1 σ H1 _ I1 q) fun us s2 ⟨vs,H2,I2,r,q2⟩=>⟨I2.kIn,?_⟩) hst hpl;exact run_fn (us:= .ref a::us) (vs:= .ref a::vs) F hr hb hd hx I2 (.cons rfl r) q2
structure Mk (K:ar)(C f:ak):Prop where
 makes:PySem.W.makesIn K C=true
 init:cM K (.ref C) "__init__" =some (some (.ref f))
 fn:PySem.W.isFn K (.ref f)=true
 kp:eS K (.ref C)=true
def run_make {Q:VK}{vs:List V}(M:Mk X.K C f)(F:cO X.prog X.w X.K X.mg X.base CX k f fd ps sp)(hr:ik (k+1) X.A)(hb:oO X.K fd ps ds)(hd:gw dvs ds)
  (hx:rK CX X E) (I:Inv X aR σ H s) (r:gw vs us)
  (h:∀ x dx,H x=none→H dx=none→dx≠x→sp (.ref x::(vs++dvs)) (upd (upd H dx (.own x)) x (.ins C dx [])) (fun v H2=>v= .non∧Q (.ref x) H2) E) :
  aU (bt X.prog X.w) X.A (jZ (.ref C) us) (EP X aR σ Q) X.xe s:=by
 have hq:=h (s.heap.objs.size+1) s.heap.objs.size (I.hok.fresh (Nat.le_succ _)) (I.hok.fresh (az _)) (bB (jf _));have I2:=Inv.made (C:=C) I;have r2:gw (V.ref (s.heap.objs.size+1)::(vs++dvs)) (ae.ref (s.heap.objs.size+1)::(us++ds)):= .cons rfl (r.append hd);have hl:(ae.ref (s.heap.objs.size+1)::us++ds).length=ps.length:=by
  have e:=r2.length;rw [F.len _ _ _ _ hq] at e;exact e.symm
 apply wpAny_call (make_map (f:=f) I.kIn M.makes M.init (beq_iff_eq.mp M.fn) (codeAny_mono (F.run _ X.stack _ _ ⟨ae.ref (s.heap.objs.size+1)::us,[]⟩ (ae.ref (s.heap.objs.size+1)::(us++ds)) _ _ E (hr.make C us [])
  (I2.env0.make C us []) (hb _ (ae.ref (s.heap.objs.size+1)::us) I2.kIn hl) r2 hq) fun r s' hq'=>?_))
 cases r with
 | error e=>exact hx aR σ _ _ e s' I2 hq'
 | ok fl =>
  cases fl with
  | ret u =>
   obtain ⟨v,H',I3,rv,ev,q3⟩:=I2.after hq';subst ev;exact ⟨rv,⟨V.ref (s.heap.objs.size+1),H',I3,rfl,q3⟩⟩
  | next=>exact cT hq'
  | brk=>exact cT hq'
  | cont=>exact cT hq'
def pe_make (M:Mk X.K C f)(F:cO X.prog X.w X.K X.mg X.base CX k f fd ps sp)(hr:ik (k+1) X.A)(hg:Gl X x)(hm:X.mg x=some (.ref C))(hb:oO X.K fd ps ds)(hd:gw dvs ds)(hx:rK CX X E)
  (ha:PA X (e::es) t) (hdb:(x == ("__debug__" :Str))=false:=by decide) (he:br (e::es) X.env=(false,eE e X.env)::br es X.env:=by rfl) (hpl:(eR pos (br es X.env)).any (·.1)=false:=by rfl) :
  PE X (.Call (.Name x p) (e::es) [] pos) (tMake C sp dvs E t):=by
 intro aR s σ H Q I h;apply dZ (ld_glob I hg hm ?_ hdb);apply kM (h₀:=X.base) I.ok.mod.kin M.kp (thn (ha pos aR s σ H _ I h) fun us s1 ⟨vs,H1,I1,r,q⟩=>⟨I1.kIn,?_⟩) he hpl;exact run_make M F hr hb hd hx I1 r q
end
structure bW (N P:List Str)(sc:fG):Prop where
 kind:sc.kind= .function
 co:sc.isCoroutine=false
 gen:sc.isGenerator=false
 nd:N.Nodup
 pre:N.take P.length=P
 par:∀ x∈P,sc.names.lookup x=some .local∨sc.names.lookup x=some .cell
 nofree:∀ y∈sc.names,y.2≠ .free
def bindL_out {kindOf:Str→Option cQ}{x:Str}:∀ {binds:List (Str×ae)} {m:Str→Option ae},(∀ v,(x,v) ∉ binds)→bindL kindOf binds m x=m x
 | [],_,_=>rfl
 | (n,v)::r,m,h=>by
  unfold bindL;rw [bindL_out fun w hw=>h w (ay _ hw)];split
  ·have:x≠n:=by rintro rfl;exact h v bu
   simp [this]
  ·rfl
def bindC_out {kindOf:Str→Option cQ}{x:Str}:∀ {binds:List (Str×ae)} {m:Str→Option ae},(∀ v,(x,v) ∉ binds)→bindC kindOf binds m x=m x
 | [],_,_=>rfl
 | (n,v)::r,m,h=>by
  unfold bindC;rw [bindC_out fun w hw=>h w (ay _ hw)];split
  ·rfl
  ·have:x≠n:=by rintro rfl;exact h v bu
   simp [this]
def bindL_get {kindOf:Str→Option cQ}{x:Str}{v:ae}:∀ {P:List Str} {vs:List ae} {i:Nat} {m:Str→Option ae},P.Nodup→P[i]? =some x→vs[i]? =some v→kindOf x=some .local →
  bindL kindOf (P.zip vs) m x=some v
 | [],_,_,_,_,h,_,_=>by simp at h
 | _::_,[],_,_,_,_,h,_=>by simp at h
 | p::P,w::vs,0,m,nd,h1,h2,hk=>by
  simp at h1 h2;subst h1;subst h2;show bindL kindOf ((p,w)::P.zip vs) m p=_;unfold bindL;rw [bindL_out fun v hv=>(bz.mp nd).1 (List.of_mem_zip hv).1,rO hk];simp
 | p::P,w::vs,i+1,m,nd,h1,h2,hk=>by
  show bindL kindOf ((p,w)::P.zip vs) m x=_;unfold bindL;exact bindL_get (i:=i) (bz.mp nd).2 (by simpa using h1) (by simpa using h2) hk
def bindC_get {kindOf:Str→Option cQ}{x:Str}{v:ae}:∀ {P:List Str} {vs:List ae} {i:Nat} {m:Str→Option ae},P.Nodup→P[i]? =some x→vs[i]? =some v→kindOf x≠some .local →
  bindC kindOf (P.zip vs) m x=some v
 | [],_,_,_,_,h,_,_=>by simp at h
 | _::_,[],_,_,_,_,h,_=>by simp at h
 | p::P,w::vs,0,m,nd,h1,h2,hk=>by
  simp at h1 h2;subst h1;subst h2;show bindC kindOf ((p,w)::P.zip vs) m p=_;unfold bindC;rw [bindC_out fun v hv=>(bz.mp nd).1 (List.of_mem_zip hv).1,rN hk];simp
 | p::P,w::vs,i+1,m,nd,h1,h2,hk=>by
  show bindC kindOf ((p,w)::P.zip vs) m x=_;unfold bindC;exact bindC_get (i:=i) (bz.mp nd).2 (by simpa using h1) (by simpa using h2) hk
def start (N:List Str)(vs:List V):St:=vs.map some++bx (N.length - vs.length) none
def cxOf (CX:CXT)(P:aX)(w:bC)(K:ar)(mg:Str→Option ae)(base:bL)(N:List Str)(qual:Str)(scope:fG)(f:ak)(cd:ae)(A:bS)(outer:List Env)(s:av)(H:Hp)(E:XK):Cx where
 prog:=P
 w:=w
 K:=K
 mg:=mg
 base:=base
 A:=A.deeper (envOfC qual scope s.heap.objs.size f cd)
 N:=N
 s₀:=s
 H₀:=H
 env:=envOfC qual scope s.heap.objs.size f cd
 outer:=outer
 stack:=envOfC qual scope s.heap.objs.size f cd::outer
 ex:=[]
 calm:=true
 fn:=fun _=>true
 pn:=[]
 xe:=fun e s'=>aU (bt P w) (A.deeper (envOfC qual scope s.heap.objs.size f cd)) (leaving (envOfC qual scope s.heap.objs.size f cd) e) (fun _ s''=>CX outer H s E e s'') (fun e' s''=>CX outer H s E e' s'') s'
def cell_has {sc:fG}(h:sc.names.lookup x=some .cell):∃ c,(cellsFrom n sc.names []).lookup x=some c:=by
 have q:=PySem.W.cellsFrom_some sc.names n [] (.inl h);exact Option.isSome_iff_exists.mp q
def inv_start {CX:CXT}{cd:ae}{s1:av}{E:XK}{vs:List V}
  (S:bW N ps scope) (hd:A.handled=none) (e0:Env0 P w K mg base A outer s H) (hl:vs.length=ps.length) (r:gw vs us)
  (x:InCallC s s.heap.objs.size (bindL (envOfC qual scope s.heap.objs.size f cd).kindOf (ps.zip us) fun _=>none) (cellsFrom (s.heap.objs.size+1) scope.names []) (bindC (envOfC qual scope s.heap.objs.size f cd).kindOf (ps.zip us) fun _=>none) s1) :
  Inv (cxOf CX P w K mg base N qual scope f cd A outer s H E) [] (start N vs) H s1:=by
 have hpl:ps.length≤N.length:=by have:=rV List.length S.pre;rw [bK] at this;lia
 obtain ⟨h1,tk,rfl,hk⟩:=x.done;have noA:∀ b:ak,b ∉ (cxOf CX P w K mg base N qual scope f cd A outer s H E).ex:=fun b z=>rQ (show b∈([]:List ak) from z) ∅
 apply ⟨⟨e0.mod,S.kind,rfl,rfl,az _,fun y z c h1 h2=>?_,fun y hy=>?_,fun y c _ h=>?_,fun _=>hd,bS.frames_deeper e0.frames,.inr ⟨rfl,rfl⟩,fun b z=>rQ z (noA b),e0.bs,e0.bsz,fun b _ _=>noA b,fun b z=>rQ z (noA b),e0.funs,e0.frf⟩,
  rfl,e0.bare,Un.kept hk,⟨_,x.toInCall.ns,fun i y v h1 h2 h3=>?_⟩,fun y c h=>⟨_,x.cell y c h⟩,e0.hok.fresh (az _),fun y c h=>?_,fun p hp=>rQ (show p∈([]:List (ak×Obj)) from hp) ∅,e0.hok.kept hk,?_⟩
 ·exact name_of_addr x.apart (cu h1) (cu h2)
 ·have hy:scope.names.lookup y=some .cell∨scope.names.lookup y=some .free:=hy
  rcases hy with hy | hy
  ·exact cell_has hy
  ·exact rQ rfl (S.nofree _ (cu hy))
 ·exact jg (x.above y c (cu h))
 ·have hi:i<vs.length:=by
   unfold start at h2
   by_cases hi:i<vs.length
   ·exact hi
   ·rw [bw (by simpa using hi)] at h2
    rw [List.getElem?_replicate] at h2;split at h2 <;> cases h2
  have ha:vs[i]? =some v:=by
   unfold start at h2;rw [cI (by simpa using hi),ax] at h2;cases e:vs[i]? with
   | none=>rw [e] at h2;cases h2
   | some a=>rw [e] at h2;cases h2;rfl
  obtain ⟨u,hu,rv⟩:=r.get ha;have hp:ps[i]? =some y:=by
   rw [←S.pre,List.getElem?_take_of_lt ⋯];exact h1
  have ndP:ps.Nodup:=by rw [←S.pre];exact S.nd.sublist (List.take_sublist _ _)
  apply ⟨u,rv,?_⟩
  rcases S.par y (aW hp) with k | k
  ·exact .inl ⟨k,bindL_get ndP hp hu k⟩
  ·obtain ⟨c,e⟩:=cell_has (n:=s.heap.objs.size+1) k
   apply .inr ⟨.inl k,c,e,?_⟩;have q:=x.cell y c e;rw [bindC_get ndP hp hu (by show scope.names.lookup y≠_;rw [k];decide)] at q;exact q
 ·exact e0.hok.fresh (jg (x.above y c (cu h)))
 ·unfold start
  show _=N.length;rw [au,aa,dI];lia
def fn_of {CX:CXT}{k:Nat}{body:List cL}{dV kV doc pm cdv ct oc:ae}{an od:Option ak}
  {sp:Sp} (lk:K.lookup f=some ⟨oc,od,.func (dE name qual params body scope dV kV doc pm an cdv ct),osl⟩) (hcd:iH K cdv qual=true) (S:bW N ps scope)
  (len:∀ vs H Q E,sp vs H Q E→vs.length=ps.length)
  (hbody:∀ (A:bS) (outer:List Env) (s:av) (H:Hp) (vs:List V) (Q:VK) (E:XK),ik k (A.deeper (envOfC qual scope s.heap.objs.size f cdv))→sp vs H Q E →
   ∃ t,PSs (cxOf CX P w K mg base N qual scope f cdv A outer s H E) body t∧t { nx:=fun _ H'=>Q .non H',rt:=Q } (start N vs) H) :
  cO P w K mg base CX (k+1) f (dE name qual params body scope dV kV doc pm an cdv ct) ps sp:=by
 apply ⟨len,fun A outer s H args us vs Q E hr e0 hb r hsp=>?_⟩;have hl:=len _ _ _ _ hsp;have KX:K.In s.heap:=e0.mod.kin.keeps fun b o e=>(e0.bs b o e).1
 have lim:s.heap.NoLimit:=e0.mod.nolimit.keeps fun b o e=>(e0.bs b o e).1
 have mH:∀ y∈ps.zip us,scope.names.lookup y.1=some .local∨(scope.names.lookup y.1=some .cell∧((cellsFrom (s.heap.objs.size+1) scope.names []).lookup y.1).isSome=true):=fun ⟨n,v⟩ hy=>by
  rcases S.par n (List.of_mem_zip hy).1 with q | q
  ·exact .inl q
  ·exact .inr ⟨q,PySem.W.cellsFrom_some _ _ _ (.inl q)⟩
 apply codeAny_call_function hr.depth (KX _ _ lk) rfl S.co S.gen rfl (PySem.W.codeRec_of KX hcd) (hb _ _ _ _ ?_);apply wpAny_newFunctionEnv_cells S.kind mH fun env he s1 x=>?_
 subst he;apply ⟨lim.keeps x.toInCall.keep,codeAny_func ?_⟩;obtain ⟨t,ht,hq⟩:=hbody A outer s H vs Q E (hr.deeper _) hsp;have I:Inv (cxOf CX P w K mg base N qual scope f cdv A outer s H E) [] (start N vs) H s1:=inv_start S hr.hd e0 hl r x;apply cf (ht [] s1 (start N vs) H _ I hq) (fun fl s' hs=>?_) fun e s' hs=>hs
 have fin:∀ {σ':St} {H':Hp} {v:V} {u:ae},Inv (cxOf CX P w K mg base N qual scope f cdv A outer s H E) [] σ' H' s'→gq v u→Q v H'→CE outer P w H s Q u s' :=
  fun {σ' H' v u} J rv q=>⟨v,H',J.os,J.bare,J.base,J.hok,rv,q⟩
 cases fl with
 | ret u =>
  obtain ⟨v,σ',H',J,rv,q⟩:=hs;exact fin J rv q
 | next =>
  obtain ⟨σ',H',J,q⟩:=hs;exact fin (v:=V.non) (u:=ae.none) J rfl q
 | brk =>
  obtain ⟨_,_,_,q⟩:=hs;exact cT q
 | cont =>
  obtain ⟨_,_,_,q⟩:=hs;exact cT q
section
variable {p:Pos}{id:String}{r:List V→Hp→VK→Prop}
def tCB (r:List V→Hp→VK→Prop)(t:TA):TE:=fun σ H Q=>t σ H fun vs H1=>r vs H1 Q
def cg (hc:jO X (.builtin id) r)(hg:Gl X x)(hm:X.mg x=none)(hv:bootBuiltins x=some (.builtin id))(ha:PA X (e::es) t)(hn:x ≠ "__name__" := by decide)(hdb:(x == ("__debug__" :Str))=false:=by decide)
  (he:br (e::es) X.env=(false,eE e X.env)::br es X.env:=by rfl) (hpl:(eR pos (br es X.env)).any (·.1)=false:=by rfl):PE X (.Call (.Name x p) (e::es) [] pos) (tCB r t):=by
 intro aR s σ H Q I h;apply dZ (mE I hg hm hv ?_ hn hdb);exact PyProof.Rows.callWith_builtin1 (thn (ha pos aR s σ H _ I h) fun us s1 ⟨vs,H1,I1,r1,q1⟩=>hc aR s1 σ H1 vs us Q I1 r1 q1) he hpl
def eP (hc:jO X (.type T) r)(hg:Gl X x)(hm:X.mg x=none)(hv:bootBuiltins x=some (.type T))(ha:PA X (e::es) t)(hn:x ≠ "__name__" := by decide)(hdb:(x == ("__debug__" :Str))=false:=by decide)
  (he:br (e::es) X.env=(false,eE e X.env)::br es X.env:=by rfl) (hpl:(eR pos (br es X.env)).any (·.1)=false:=by rfl):PE X (.Call (.Name x p) (e::es) [] pos) (tCB r t):=by
 intro aR s σ H Q I h;apply dZ (mE I hg hm hv ?_ hn hdb);exact fN (thn (ha pos aR s σ H _ I h) fun us s1 ⟨vs,H1,I1,r1,q1⟩=>hc aR s1 σ H1 vs us Q I1 r1 q1) he hpl
end
end L2
variable {CW:L2.St→L2.VK→L2.It→L2.Hp→Prop}{CX:L2.CXT}{g:L2.TG}{r:L2.R2}{wi:L2.TI}
namespace HT
open PySem PyProof.Rows
def cat_tup {t b:ak}{ws:List ae}(ht:IsTup s.heap t vs.toArray)(hb:IsTup s.heap b ws.toArray)(hv:vs≠[])
  (h1:ws=[]→Q (.ref t) s) (h2:ws≠[]→Q (.ref s.heap.objs.size) { s with heap:=s.heap.push { cls:= .type "tuple",data:= .seq (vs++ws).toArray } })
  (hsz:vs.length+ws.length≤bg):aU (bt prog w) A (iW .Add (.ref t) (.ref b)) Q E s:=by
 obtain ⟨⟨cls,dd,data,sl⟩,ho,hc,n,hd⟩:=id ht;obtain ⟨⟨cls2,dd2,data2,sl2⟩,ho2,hc2,n2,hd2⟩:=id hb;simp only at hc hd hc2 hd2;subst hc hd hc2 hd2;have e:vs.toArray++ws.toArray=(vs++ws).toArray:=by simp
 by_cases hw:ws=[]
 ·exact concat_meets ⟨_,ho,rfl⟩ ⟨_,ho2,rfl⟩ noFill_tuple_add seq_tuple_add PySem.F.slot_tuple_add lR (lr _ _)
   (tuple_addW1 t b vs.toArray ws.toArray n n2 dd dd2 sl sl2 (by simpa using hv) (by simp [hw])) ⟨ho,ho2,h1 hw⟩
 ·apply concat_meets ⟨_,ho,rfl⟩ ⟨_,ho2,rfl⟩ noFill_tuple_add seq_tuple_add PySem.F.slot_tuple_add lR (lr _ _)
   (tuple_addW2 t b vs.toArray ws.toArray n n2 dd dd2 sl sl2 (by simpa using hv) (by simpa using hw) (by rw [aG,aG];exact hsz)) ⟨ho,ho2,?_⟩
  rw [e];exact h2 hw
def sIx (n d:Nat):Option Int→Nat
 | none=>d
 | some v=>if v<0 then (v+(n:Int)).toNat else min v.toNat n
def sIx_nat (n d k:Nat):sIx n d (some (k:Int))=min k n:=by
 show (if (k:Int)<0 then ((k:Int)+(n:Int)).toNat else min (k:Int).toNat n)=min k n;rw [rN ⋯,cb]
def sIx_le (n d:Nat)(hd:d≤n)(o:Option Int):sIx n d o≤n:=by
 cases o with
 | none=>exact hd
 | some v =>
  show (if v<0 then (v+(n:Int)).toNat else min v.toNat n)≤n
  by_cases hv:v<0
  ·rw [rO hv];lia
  ·rw [rN hv];exact Nat.min_le_right _ _
def clip_eq (v:Int)(n d:Nat):(if v<0 then max (v+(n:Int)) 0 else min v (n:Int))=((sIx n d (some v):Nat):Int):=by
 show (if v<0 then max (v+(n:Int)) 0 else min v (n:Int))=(((if v<0 then (v+(n:Int)).toNat else min v.toNat n):Nat):Int)
 by_cases hv:v<0
 ·simp only [rO hv];lia
 ·simp only [rN hv];lia
def adjust_gen (lo hi:Option Int)(n:Nat):ki lo hi 1 (n:Int)=(((sIx n 0 lo:Nat):Int),((sIx n n hi:Nat):Int)):=by
 have h1:¬ ((1:Int)<0):=by lia
 unfold ki;simp only [h1,if_false];apply Prod.ext ?_ ?_
 ·cases lo with
  | none=>rfl
  | some v=>exact clip_eq v n 0
 ·cases hi with
  | none=>rfl
  | some v=>exact clip_eq v n n
def places_gen (i j:Nat):iw (i:Int) (j:Int) 1=j - i:=by
 unfold iw;have h1:(1:Int) > 0:=by lia
 simp only [h1,if_true,Int.ediv_one];split <;> lia
def qW {v:ae}{o:Option Int}{Q:Option Int→av→Prop}(p:IsPart v o)(h:Q o s):aU (bt prog w) A (eQ.Slice.slicePartIndex v) Q E s:=by
 cases p with
 | none=>exact slicePart_none h
 | int i t=>exact slicePart_int h
def sliceApplied_gen {sl:ak}{vl vu:ae}{lo:Option Int}{Q:Int×Int×Nat→av→Prop}(hs:s.heap.IsSliceOf sl vl vu .none)(pl:IsPart vl lo)(pu:IsPart vu hi)
  (h:Q (((sIx n 0 lo:Nat):Int),1,sIx n n hi - sIx n 0 lo) s):aU (bt prog w) A (eQ.Slice.sliceApplied (.ref sl) (fQ (n:Int))) Q E s:=by
 obtain ⟨os,hos,hcs,hds⟩:=id hs;unfold eQ.Slice.sliceApplied eQ.Slice.sliceFields;apply ai (ai (cU hos hds (x:=vl) rfl (ai (cU hos hds (x:=vu) rfl (ai (cU hos hds (x:= .none) rfl (aL ?_)))))));apply ai (slicePart_none ?_);show aU _ _ (if ((1:Int) == 0)=true then _ else _) _ _ s;rw [rN ↥0];apply ai (qW pl (ai (qW pu (ai (aL ?_)))));show aU _ _ (match ki lo hi 1 (n:Int) with | (lo,hi)=>fQ (lo,(1:Int),iw lo hi 1)) _ _ s;rw [adjust_gen lo hi n];show aU _ _ (fQ (((sIx n 0 lo:Nat):Int),(1:Int),iw ((sIx n 0 lo:Nat):Int) ((sIx n n hi:Nat):Int) 1)) _ _ s;rw [places_gen];exact aL h
def pick_gen (xs:Array ae)(i k:Nat):((aJ k).filterMap fun (m:Nat)=>xs[((i:Int)+(m:Int) * 1).toNat]?).toArray=((xs.toList.drop i).take k).toArray:=by
 have e:(fun (m:Nat)=>xs[((i:Int)+(m:Int) * 1).toNat]?)=fun m=>xs[i+m]? := by
  funext m
  have:((i:Int)+(m:Int) * 1).toNat=i+m:=by lia
  rw [this]
 rw [e];have:=pick_run xs i k;rw [List.filterMap_map] at this;have e2:((fun x=>xs[x]?) ∘ fun x=>i+x)=fun m=>xs[i+m]? := rfl
 rw [e2] at this;rw [this]
def getItem_tuple_cut {t sl:ak}{vl vu:ae}{lo:Option Int}(ht:IsTup s.heap t items)(hs:s.heap.IsSliceOf sl vl vu .none)(pl:IsPart vl lo)(pu:IsPart vu hi)
  (hw:¬ (sIx items.size 0 lo=0∧sIx items.size items.size hi=items.size))
  (h:Q (.ref s.heap.objs.size) { s with heap:=s.heap.push { cls:= .type "tuple",data:= .seq ((items.toList.drop (sIx items.size 0 lo)).take (sIx items.size items.size hi - sIx items.size 0 lo)).toArray } })
  (hsz:items.size≤bg):aU (bt prog w) A (getItem (.ref t) (.ref sl)) Q E s:=by
 have htake:sizeOk (.seq ((items.toList.drop (sIx items.size 0 lo)).take (sIx items.size items.size hi - sIx items.size 0 lo)).toArray):=by
  show ((items.toList.drop (sIx items.size 0 lo)).take (sIx items.size items.size hi - sIx items.size 0 lo)).toArray.size≤bg;rw [aG,bK,dt,cj];lia
 have hj:sIx items.size items.size hi≤items.size:=sIx_le _ _ (az _) hi;obtain ⟨os,hos,hcs,hds⟩:=id hs;have hTs:s.TypeIs (.ref sl) "slice" := ⟨os,hos,hcs⟩;unfold getItem
 try with_reducible apply cW ?_
 first | apply ai (aL ?_) | skip
 apply ai (wpAny_sequenceKey ht.typeIs ↥0 ?_);apply ai (dQ (name:=cq "__getitem__") ht.typeIs dG
  (gk dG ht.typeIs entry_tuple_getitem ?_ (args_tuple_getitem _ _)))
 show aU _ _ (eQ.Tuple.tupleItemsOf (.ref t) >>= _) _ _ s;apply ai (tupleItemsOf_ ht ?_);apply ai (wpAny_typeOf hTs ?_);rw [rO ↥0];apply ai (sliceApplied_gen hs pl pu ?_);have hno:¬ ((((sIx items.size 0 lo:Nat):Int) == 0 && (1:Int) == 1 && (sIx items.size items.size hi - sIx items.size 0 lo) == items.size)=true):=by
  intro q;rw [cz,cz] at q;have q1:((sIx items.size 0 lo:Nat):Int)=0:=eq_of_beq q.1.1;have q2:sIx items.size items.size hi - sIx items.size 0 lo=items.size:=eq_of_beq q.2;exact hw ⟨⋯,⋯⟩
 show aU _ _ (if (((sIx items.size 0 lo:Nat):Int) == 0 && (1:Int) == 1 && (sIx items.size items.size hi - sIx items.size 0 lo) == items.size)=true then _ else _) _ _ s;rw [rN hno,pick_gen]
 first
  | exact ai (m:=iJ _) (eG (aL ⟨_,rfl,aL h⟩) htake)
  | exact ai (m:=iJ _) (eG (ai (aL (aL ⟨_,rfl,aL h⟩))) htake)
  | exact ai (ai (m:=iJ _) (eG (aL (aL ⟨_,rfl,aL h⟩)) htake))
  | exact ai (ai (m:=iJ _) (eG (aL ⟨_,rfl,aL h⟩) htake))
end HT
namespace L2
open PySem PySem.Spec PyProof.Rows
abbrev TO:=St→Hp→(Option Int→Hp→Prop)→Prop
def PO (X:Cx)(e:Option Expr)(t:TO):Prop :=
 ∀ (aR:List (ak×Obj)) (s:av) (σ:St) (H:Hp) (Q:Option Int→Hp→Prop),Inv X aR σ H s→t σ H Q →
  aU (bt X.prog X.w) X.A (evalPart e X.env) (fun u s'=>∃ o H',Inv X aR σ H' s'∧IsPart u o∧Q o H') X.xe s
def tNoPart:TO:=fun _ H Q=>Q none H
def tPart (t:TE):TO:=fun σ H Q=>t σ H fun x H1=>∃ i,x= .int i∧Q (some i) H1
def intsAre_of:∀ {us:List ae},gw (ns.map V.int) us→IntsAre us ns:=by
 induction ns with
 | nil=>intro us r;rw [List.map_nil] at r;cases r;exact .nil
 | cons n ns ih =>
  intro us r;rw [bM] at r;cases r with
  | cons r1 r2 =>
   obtain ⟨t,e⟩:=r1;subst e;exact .cons n t (ih r2)
section
variable {lo hi:Option Expr}{tl th:TO}
def po_none:PO X none tNoPart:=by
 intro aR s σ H Q I h;rw [evalPart_none];exact aL ⟨none,H,I,.none,h⟩
def po_some (h:PE X e te):PO X (some e) (tPart te):=by
 intro aR s σ H Q I hw;rw [evalPart_some];apply thn (h aR s σ H _ I hw) fun u s1 ⟨x,H1,I1,r1,q1⟩=>?_
 obtain ⟨i,rfl,q⟩:=q1;obtain ⟨t,rfl⟩:=r1;exact ⟨some i,H1,I1,.int i t,q⟩
def SlR (X:Cx)(r:V→Option Int→Option Int→Hp→VK→Prop):Prop :=
 ∀ (aR:List (ak×Obj)) (s:av) (σ:St) (H:Hp) (x:V) (v vl vu:ae) (lo hi:Option Int) (sl:ak) (Q:VK),Inv X aR σ H s→gq x v→s.heap.IsSliceOf sl vl vu .none→IsPart vl lo→IsPart vu hi→r x lo hi H Q →
  ∃ T id,typeLookup (.type T) "__getitem__" =fQ (some (.builtin id))∧s.TypeIs v T∧aU (bt X.prog X.w) X.A (getItem v (.ref sl)) (EP X aR σ Q) X.xe s
def tSl (r:V→Option Int→Option Int→Hp→VK→Prop)(te:TE)(tl th:TO):TE:=fun σ H Q=>te σ H fun x H1=>tl σ H1 fun l H2=>th σ H2 fun u H3=>r x l u H3 Q
def pe_slice {r:V→Option Int→Option Int→Hp→VK→Prop}(hr:SlR X r)(he:PE X e te)(hl:PO X lo tl)(hu:PO X hi th):PE X (.Subscript e (.Slice lo hi none p2) pos) (tSl r te tl th):=by
 intro aR s σ H Q I h;apply Subscript_ (thn (he aR s σ H _ I h) fun v s1 ⟨x,H1,I1,r1,q1⟩=>?_);apply wpAny_Slice (thn (hl aR s1 σ H1 _ I1 q1) fun vl s2 ⟨l,H2,I2,pl,q2⟩=>thn (hu aR s2 σ H2 _ I2 q2) fun vu s3 ⟨u,H3,I3,pu,q3⟩=>?_);rw [evalPart_none];apply aL ?_;have I4:Inv X aR σ H3 { s3 with heap:=s3.heap.push { cls:= .type "slice",data:= .fields #[vl,vu,.none] } }:=I3.kept (t':=s3.toks) fun b ob q=>aq _ q
 obtain ⟨T,id,hT,ht,hg⟩:=hr aR { s3 with heap:=s3.heap.push { cls:= .type "slice",data:= .fields #[vl,vu,.none] } } σ H3 x v vl vu l u s3.heap.objs.size Q I4 r1 (bL.IsSliceOf.new ..) pl pu q3;show aU (bt X.prog X.w) X.A (subscriptTail e (.Slice lo hi none p2) v (.ref s3.heap.objs.size)) (EP X aR σ Q) X.xe { s3 with heap:=s3.heap.push { cls:= .type "slice",data:= .fields #[vl,vu,.none] } };exact tail_any (ops:=[.ref s3.heap.objs.size,v]) ht hT hg (by with_unfolding_all rfl)
def cutV (xs:List V)(lo hi:Option Int):List V:=(xs.drop (HT.sIx xs.length 0 lo)).take (HT.sIx xs.length xs.length hi - HT.sIx xs.length 0 lo)
def cutV_length (xs:List V)(lo hi:Option Int):(cutV xs lo hi).length≤xs.length:=by
 unfold cutV;rw [bK,dt];lia
def rSlT (K:ar):V→Option Int→Option Int→Hp→VK→Prop:=fun x lo hi H Q=>∃ a xs,x= .ref a∧SqT K H a xs ∧
 ¬ (HT.sIx xs.length 0 lo=0∧HT.sIx xs.length xs.length hi=xs.length)∧∀ p,H p=none→Q (.ref p) (upd H p (.tup (cutV xs lo hi)))
def sl_tup:SlR X (rSlT X.K):=by
 intro aR s σ H x v vl vu lo hi sl Q I rx hs pl pu h;obtain ⟨a,xs,rfl,hx,hw,q⟩:=h;cases rx;obtain ⟨its,r,ht,hz⟩:=I.tuple hx;have hlen:its.toArray.size=xs.length:=by rw [aG];exact r.length.symm
 apply ⟨"tuple",_,dG.lookup,ht.typeIs,?_⟩;apply HT.getItem_tuple_cut ht hs pl pu (by rw [hlen];exact hw) ?_ (by rw [hlen];exact hz);rw [hlen];apply ⟨.ref s.heap.objs.size,_,I.laid (t':=s.toks) (o:= .tup (cutV xs lo hi)) (fun b ob q=>aq _ q) (az _) ?_,rfl,q _ (I.hok.fresh (az _))⟩;exact ⟨aN (cutV_length xs lo hi) hz,_,(r.drop (HT.sIx xs.length 0 lo)).take (HT.sIx xs.length xs.length hi - HT.sIx xs.length 0 lo),mX.new _ _⟩
inductive rCatT (K:ar)(x:V)(y:V)(H:Hp)(Q:VK):Prop
 | mk (a b xs ys:_)(_:x= .ref a)(_:y= .ref b)(_:SqT K H a xs)(_:SqT K H b ys)(_:xs≠[])(_:xs.length+ys.length≤bg)(_:(ys=[]→Q (.ref a) H))(_:(ys≠[]→∀ p,H p=none→Q (.ref p) (upd H p (.tup (xs++ys)))))
def gw.nil_iff (r:gw xs us):us=[]↔xs=[]:=by
 cases r with
 | nil=>simp
 | cons _ _=>simp
def op_catT:OpR X (iW .Add) (rCatT X.K):=by
 intro aR s σ H x y v u Q I rx ry h;obtain ⟨a,b,xs,ys,rfl,rfl,ha,hb,hx,hz,q1,q2⟩:=h;cases rx;cases ry;obtain ⟨its,r1,p1,_⟩:=I.tuple ha;obtain ⟨its2,r2,p2,_⟩:=I.tuple hb;apply HT.cat_tup p1 p2 (fun z=>hx (r1.nil_iff.mp z)) (fun z=>⟨.ref a,H,I,rfl,q1 (r2.nil_iff.mp z)⟩) (fun z=>?_) (by rw [←r1.length,←r2.length];exact hz);apply ⟨.ref s.heap.objs.size,_,I.laid (t':=s.toks) (o:= .tup (xs++ys)) (fun b ob q=>aq _ q) (az _) ?_,rfl,q2 (fun w=>z (r2.nil_iff.mpr w)) _ (I.hok.fresh (az _))⟩;exact ⟨by rw [au];exact hz,_,r1.append r2,mX.new _ _⟩
end
def ixN (n:Nat)(i:Int):Option Nat:=if 0≤i then (if i<n then some i.toNat else none) else if -(n:Int)≤i then some (i+n).toNat else none
def atI {α:Type}(xs:List α)(i:Int):Option α:=(ixN xs.length i).bind fun j=>xs[j]?
def ixN_seq {i:Int}(h:ixN n i=some j):seqIndex? i n=some j∧j<n∧ -(n:Int)≤i∧i<n:=by
 unfold ixN at h
 by_cases h0:0≤i
 ·rw [rO h0] at h
  by_cases h1:i<n
  ·rw [rO h1] at h
   have e:i.toNat=j:=bE h;exact ⟨by rw [seqIndex_of h0 h1,e],⋯,⋯,h1⟩
  ·rw [rN h1] at h;cases h
 ·rw [rN h0] at h
  by_cases h1: -(n:Int)≤i
  ·rw [rO h1] at h
   have e:(i+n).toNat=j:=bE h;exact ⟨by rw [seqIndex_neg ⋯ h1,e],⋯,h1,⋯⟩
  ·rw [rN h1] at h;cases h
def atI_get {xs:List α}{i:Int}{v:α}(h:atI xs i=some v):∃ j,seqIndex? i xs.length=some j∧xs[j]? =some v∧j<xs.length∧ -(xs.length:Int)≤i∧i<xs.length:=by
 unfold atI at h;cases e:ixN xs.length i with
 | none=>rw [e] at h;cases h
 | some j =>
  rw [e] at h;obtain ⟨h1,h2,h3,h4⟩:=ixN_seq e;exact ⟨j,h1,h,h2,h3,h4⟩
def aS {xs:List α}{v:α}(h:xs[j]? =some v):atI xs (j:Int)=some v:=by
 have hj:j<xs.length:=(ao.mp h).1;have e:ixN xs.length (j:Int)=some j:=by
  unfold ixN;rw [rO ⋯,rO ⋯];simp
 unfold atI;rw [e];exact h
def PlainIx (b:Expr):Prop:=∀ o i,subscripted b false o i=operate [o,i] (getItem o i)
def IxR (X:Cx)(r:R2):Prop :=
 ∀ (value slice:Expr) (aR:List (ak×Obj)) (s:av) (σ:St) (H:Hp) (x y:V) (v u:ae) (Q:VK),Inv X aR σ H s→gq x v→gq y u→r x y H Q →
  subscripted slice false v u=operate [v,u] (getItem v u)→aU (bt X.prog X.w) X.A (subscriptTail value slice v u) (EP X aR σ Q) X.xe s
def MtR (X:Cx)(id:String)(r:V→List V→Hp→VK→Prop):Prop :=
 ∀ (aR:List (ak×Obj)) (s:av) (σ:St) (H:Hp) (x:V) (xs:List V) (v:ae) (us:List ae) (Q:VK),Inv X aR σ H s→gq x v→gw xs us→r x xs H Q →
  aU (bt X.prog X.w) X.A (jZ (.builtin id) (v::us)) (EP X aR σ Q) X.xe s
section
variable {a b:Expr}{tb:TE}
def IxR.or {r':R2}(h:IxR X r)(h':IxR X r'):IxR X (fun x y H Q=>r x y H Q∨r' x y H Q):=by
 intro value slice aR s σ H x y v u Q I rx ry q hs
 rcases q with q | q
 ·exact h value slice aR s σ H x y v u Q I rx ry q hs
 ·exact h' value slice aR s σ H x y v u Q I rx ry q hs
def fA (hr:IxR X r)(ha:PE X a ta)(hb:PE X b tb)(hs:PlainIx b):PE X (.Subscript a b pos) (tOp r ta tb):=by
 intro aR s σ H Q I h;exact Subscript_ (binT ha hb I h fun v u s2 x y H2 I2 rx ry q=>hr a b aR s2 σ H2 x y v u Q I2 rx ry q (hs _ _))
inductive rIxL (K:ar)(x:V)(y:V)(H:Hp)(Q:VK):Prop
 | mk (p xs i v:_)(_:x= .ref p)(_:y= .int i)(_:SqL K H p xs)(_:atI xs i=some v)(_:Q v H)
inductive rIxT (K:ar)(x:V)(y:V)(H:Hp)(Q:VK):Prop
 | mk (p xs i v:_)(_:x= .ref p)(_:y= .int i)(_:SqT K H p xs)(_:atI xs i=some v)(_:Q v H)
def gY:IxR X (rIxL X.K):=by
 intro value slice aR s σ H x y v u Q I rx ry h hs;obtain ⟨p,xs,i,z,rfl,rfl,hq,he,q⟩:=h;cases rx;obtain ⟨t,rfl⟩:=ry;obtain ⟨its,r,pl,hz⟩:=I.list hq;obtain ⟨j,h1,h2,h3,h4,h5⟩:=atI_get he;obtain ⟨w,ew,rw'⟩:=r.get h2;have hl:=r.length;have hn:=line63;have fin:EP X aR σ Q w s:=⟨z,H,I,rw',q⟩
 by_cases h0:0≤i
 ·have hj:i.toNat=j:=by
   rw [seqIndex_of h0 h5] at h1;exact bE h1
  exact item_listR pl.isList h0 ⋯ (by rw [hj];simpa using ew) fin hs
 ·have hj:(i+(its.toArray.size:Int)).toNat=j:=by
   rw [seqIndex_neg ⋯ h4] at h1;rw [aG,←hl];exact bE h1
  exact subscriptTail_builtinR (x:=w) pl.isList.typeIs slot_list_getitem.lookup
   (wpAny_getItem_list_neg (Q:=fun r s'=>r=w∧EP X aR σ Q r s') pl.isList ⋯ (by rw [aG] <;> lia) ⋯ (by rw [hj];simpa using ew) ⟨rfl,fin⟩) hs
def fk:IxR X (rIxT X.K):=by
 intro value slice aR s σ H x y v u Q I rx ry h hs;obtain ⟨p,xs,i,z,rfl,rfl,hq,he,q⟩:=h;cases rx;obtain ⟨t,rfl⟩:=ry;obtain ⟨its,r,pl,hz⟩:=I.tuple hq;obtain ⟨j,h1,h2,h3,h4,h5⟩:=atI_get he;obtain ⟨w,ew,rw'⟩:=r.get h2;have hl:=r.length;have hn:=line63;have fin:EP X aR σ Q w s:=⟨z,H,I,rw',q⟩;exact subscriptTail_builtinR (x:=w) pl.typeIs slot_tuple_getitem.lookup
  (getItem_tuple (j:=j) (Q:=fun r s'=>r=w∧EP X aR σ Q r s') pl ⋯ ⋯ (by rw [aG,←hl];exact h1) (by simpa using ew) ⟨rfl,fin⟩) hs
def mapSeq_set (its:List ae)(n j:Nat)(u:ae):cK (·.setIfInBounds j u) { cls:= .type "list",data:= .seq its.toArray n }={ cls:= .type "list",data:= .seq (its.set j u).toArray n }:=by
 simp [cK]
def Inv.lst {aR:List (ak×Obj)}{σ:St}{H:Hp}{s:av}{p:ak}{xs:List V}(I:Inv X aR σ H s)(h:H p=some (.lst xs)) :
  ∃ (its:List ae) (n:Nat),gw xs its∧s.heap.get? p=some { cls:= .type "list",data:= .seq its.toArray n }∧xs.length≤bg:=by
 obtain ⟨z,its,n,r,e⟩:=I.hok p _ h;exact ⟨its,n,r,e,z⟩
def Inv.lstUpd {p:ak}{its':List ae}{n':Nat}{f:Obj→Obj}(I:Inv X aR σ H s)(h:H p=some (.lst xs))
  (ho:s.heap.get? p=some { cls:= .type "list",data:= .seq its.toArray n }) (hf:f { cls:= .type "list",data:= .seq its.toArray n }={ cls:= .type "list",data:= .seq its'.toArray n' }) (r:gw ys its') (hz:ys.length≤bg) (t:Nat) :
  Inv X aR σ (upd H p (.lst ys)) { s with heap:=s.heap.update p f,toks:=t }:=by
 have e:(s.heap.update p f).get? p=some { cls:= .type "list",data:= .seq its'.toArray n' }:=by
  rw [bL.get?_update_self f ho (by rw [hf] <;> rfl),hf]
 apply I.write (x:=p) (e:=p) (by rw [h];trivial) (.inl rfl) (fun b u hb q=>(il _ _ (cH hb)).trans q) ⟨_,e⟩ ?_;exact ⟨hz,its',n',r,e⟩
def rSetL:V→V→V→Hp→(Hp→Prop)→Prop:=fun o i v H Q=>∃ p xs k j,o= .ref p∧i= .int k∧H p=some (.lst xs)∧ixN xs.length k=some j∧Q (upd H p (.lst (xs.set j v)))
def mL:PSet X rSetL:=by
 intro aR s σ H o i v ov iv u Q I ro ri rv h;obtain ⟨p,xs,k,j,rfl,rfl,hp,hj,q⟩:=h;cases ro;obtain ⟨t,rfl⟩:=ri;obtain ⟨its,n,r,ho,hz⟩:=I.lst hp;obtain ⟨h1,h2,h3,h4⟩:=ixN_seq hj;have hl:=r.length;have hn:=line63;have I':Inv X aR σ (upd H p (.lst (xs.set j v))) { s with heap:=s.heap.update p (cK (·.setIfInBounds j u)) } :=
  I.lstUpd hp ho (mapSeq_set its n j u) (r.set rv j) (by rw [fj];exact hz) s.toks
 by_cases h0:0≤k
 ·have hk:k.toNat=j:=by
   rw [seqIndex_of h0 h4] at h1;exact bE h1
  exact PySem.W.ki_setAt ho h0 ⋯ (by rw [aG,←hl];exact h4) (by rw [hk];exact ⟨_,I',q⟩)
 ·have hk:(k+(its.toArray.size:Int)).toNat=j:=by
   rw [seqIndex_neg ⋯ h3] at h1;rw [aG,←hl];exact bE h1
  exact PySem.W.ki_setBack ho ⋯ (by rw [aG,←hl];exact h3) ⋯ (by rw [hk];exact ⟨_,I',q⟩)
def flatV:V→Bool
 | .non=>true
 | .bl _=>true
 | .int _=>true
 | .str _=>true
 | _=>false
def eqV:V→V→Bool
 | .non,.non=>true
 | .bl a,.bl b=>a == b
 | .bl a,.int b=>(if a then 1 else 0) == b
 | .int a,.bl b=>a == (if b then 1 else 0)
 | .int a,.int b=>a == b
 | .str a,.str b=>a == b
 | _,_=>false
def jY {y x:V}{v:ae}(ry:gq y u)(rx:gq x v)(fy:flatV y=true)(fx:flatV x=true):SeqAt.EqAt A s u v (eqV y x):=by
 cases y with
 | non =>
  cases ry;cases x with
  | non=>cases rx;exact SeqAt.EqAt.same _
  | bl b=>cases rx;exact SeqAt.EqAt.none_bool b
  | int b=>obtain ⟨t,rfl⟩:=rx;exact SeqAt.EqAt.none_int b t
  | str b=>obtain ⟨t,rfl⟩:=rx;exact SeqAt.EqAt.none_str b t
  | _=>exact rQ (show false=true from fx) aZ
 | bl a =>
  cases ry;cases x with
  | non=>cases rx;exact SeqAt.EqAt.bool_none a
  | bl b=>cases rx;exact SeqAt.EqAt.bool_bool a b
  | int b=>obtain ⟨t,rfl⟩:=rx;exact SeqAt.EqAt.bool_int a b t
  | str b=>obtain ⟨t,rfl⟩:=rx;exact SeqAt.EqAt.bool_str a b t
  | _=>exact rQ (show false=true from fx) aZ
 | int a =>
  obtain ⟨t',rfl⟩:=ry;cases x with
  | non=>cases rx;exact SeqAt.EqAt.int_none a t'
  | bl b=>cases rx;exact SeqAt.EqAt.int_bool a t' b
  | int b=>obtain ⟨t,rfl⟩:=rx;exact SeqAt.EqAt.int_int a t' b t
  | str b=>obtain ⟨t,rfl⟩:=rx;exact SeqAt.EqAt.int_str a t' b t
  | _=>exact rQ (show false=true from fx) aZ
 | str a =>
  obtain ⟨t',rfl⟩:=ry;cases x with
  | non=>cases rx;exact SeqAt.EqAt.str_none a t'
  | bl b=>cases rx;exact SeqAt.EqAt.str_bool a t' b
  | int b=>obtain ⟨t,rfl⟩:=rx;exact SeqAt.EqAt.str_int a t' b t
  | str b=>obtain ⟨t,rfl⟩:=rx;exact SeqAt.EqAt.str_str a t' b t
  | _=>exact rQ (show false=true from fx) aZ
 | _=>exact rQ (show false=true from fy) aZ
def eqU (x:V)(u:ae):Bool:=match u with
 | .none=>eqV .non x
 | .bool b=>eqV (.bl b) x
 | .int i _=>eqV (.int i) x
 | .str z _=>eqV (.str z) x
 | _=>false
def eqU_of {x y:V}(r:gq y u)(f:flatV y=true):eqU x u=eqV y x:=by
 cases y with
 | non=>cases r;rfl
 | bl b=>cases r;rfl
 | int i=>obtain ⟨t,rfl⟩:=r;rfl
 | str z=>obtain ⟨t,rfl⟩:=r;rfl
 | _=>exact rQ (show false=true from f) aZ
def qH {x:V}:∀ {xs:List V} {us:List ae},gw xs us→xs.all flatV=true→us.any (eqU x)=xs.any fun y=>eqV y x
 | _,_,.nil,_=>rfl
 | y::xs,u::us,.cons r t,f=>by
  rw [List.all_cons,cz] at f;rw [kh,kh,eqU_of r f.1,qH t f.2]
def n5 {A:bS}{s:av}{x:V}{v:ae}(rx:gq x v)(fx:flatV x=true):∀ {xs:List V} {us:List ae},gw xs us→xs.all flatV=true→∀ u∈us,SeqAt.EqAt A s u v (eqU x u)
 | _,_,.nil,_=>fun u hu=>by cases hu
 | y::xs,u::us,.cons r t,f=>fun u' hu=>by
  rw [List.all_cons,cz] at f
  rcases aF.mp hu with rfl | hu
  ·rw [eqU_of r f.1];exact jY r rx f.1 fx
  ·exact n5 rx fx t f.2 u' hu
def inV (x:V)(xs:List V):Bool:=xs.any fun y=>eqV y x
inductive rIn (K:ar)(neg:Bool)(x:V)(y:V)(H:Hp)(Q:VK):Prop
 | mk (p xs:_)(_:y= .ref p)(_:(SqL K H p xs∨SqT K H p xs))(_:flatV x=true)(_:xs.all flatV=true)(_:Q (.bl (if neg then !inV x xs else inV x xs)) H)
def op_in_seq:OpR X (ft .In) (rIn X.K false):=by
 intro aR s σ H x y v u Q I rx ry h;obtain ⟨p,xs,rfl,hq,fx,fs,q⟩:=h;cases ry
 rcases hq with hq | hq
 ·obtain ⟨its,r,pl,hz⟩:=I.list hq
  apply SeqAt.in_listAt (eqU x) pl.isList (fun w hw=>n5 rx fx r fs w (by simpa using hw)) ⟨.bl _,H,I,rfl,?_⟩;rw [show its.toArray.any (eqU x)=its.any (eqU x) by simp,qH r fs];exact q
 ·obtain ⟨its,r,pl,hz⟩:=I.tuple hq
  apply SeqAt.in_tupleAt (eqU x) pl (fun w hw=>n5 rx fx r fs w (by simpa using hw)) ⟨.bl _,H,I,rfl,?_⟩;rw [show its.toArray.any (eqU x)=its.any (eqU x) by simp,qH r fs];exact q
def op_notIn_seq:OpR X (ft .NotIn) (rIn X.K true):=by
 intro aR s σ H x y v u Q I rx ry h;obtain ⟨p,xs,rfl,hq,fx,fs,q⟩:=h;cases ry
 rcases hq with hq | hq
 ·obtain ⟨its,r,pl,hz⟩:=I.list hq
  apply SeqAt.notIn_listAt (eqU x) pl.isList (fun w hw=>n5 rx fx r fs w (by simpa using hw)) ⟨.bl _,H,I,rfl,?_⟩;rw [show its.toArray.any (eqU x)=its.any (eqU x) by simp,qH r fs];exact q
 ·obtain ⟨its,r,pl,hz⟩:=I.tuple hq
  apply SeqAt.notIn_tupleAt (eqU x) pl (fun w hw=>n5 rx fx r fs w (by simpa using hw)) ⟨.bl _,H,I,rfl,?_⟩;rw [show its.toArray.any (eqU x)=its.any (eqU x) by simp,qH r fs];exact q
def bP:jO X (.builtin "len") (fun xs H Q=>∃ p ys,xs=[.ref p]∧(SqL X.K H p ys∨SqT X.K H p ys)∧Q (.int ys.length) H):=by
 intro aR s σ H xs us Q I r h;obtain ⟨p,ys,rfl,hq,q⟩:=h;obtain ⟨u,rfl,rx⟩:=nN r;cases rx;have hn:=line63
 rcases hq with hq | hq
 ·obtain ⟨its,r',pl,hz⟩:=I.list hq
  have hlen:=r'.length;exact Calls.call_len_list pl.isList (by simp only [aG] <;> lia) ⟨.int ys.length,H,I.tok _,⟨s.toks+1,by rw [aG,hlen]⟩,q⟩
 ·obtain ⟨its,r',pl,hz⟩:=I.tuple hq
  have hlen:=r'.length;exact len_tuple pl (by simp only [aG] <;> lia) ⟨.int ys.length,H,I.tok _,⟨s.toks+1,by rw [aG,hlen]⟩,q⟩
def oU:jO X (.type "list") (fun xs H Q=>∃ p ys,xs=[.ref p]∧(SqL X.K H p ys∨SqT X.K H p ys)∧∀ l,H l=none→Q (.ref l) (upd H l (.lst ys))):=by
 intro aR s σ H xs us Q I r h;obtain ⟨p,ys,rfl,hq,q⟩:=h;obtain ⟨u,rfl,rx⟩:=nN r;cases rx;have fin:∀ (its:List ae),gw ys its→ys.length≤bg→∀ (h':bL) (c':Nat),(∀ b o',s.heap.get? b=some o'→h'.get? b=some o') →
   h'.get? s.heap.objs.size=some { cls:= .type "list",dict:=none,data:= .seq its.toArray c',slots:= #[] }→EP X aR σ Q (.ref s.heap.objs.size) { s with heap:=h' }:=fun its r' hz h' c' kp e =>
  ⟨.ref s.heap.objs.size,_,I.laid (t':=s.toks) kp (az _) (show jz X.prog X.w _ h' _ (.lst ys) from ⟨hz,its,c',r',e⟩),rfl,q _ (I.hok.fresh (az _))⟩
 rcases hq with hq | hq
 ·obtain ⟨its,r',pl,hz⟩:=I.list hq
  have hlen:=r'.length;obtain ⟨o,ho,hc,n,hd⟩:=pl.isList;exact call_list_seq p (.inl rfl) ho hc hd (fun h' c' kp e=>fin its r' hz h' c' kp e) (by simp only [aG] <;> lia)
 ·obtain ⟨its,r',pl,hz⟩:=I.tuple hq
  have hlen:=r'.length;obtain ⟨o,ho,hc,n,hd⟩:=pl;exact call_list_seq p (.inr rfl) ho hc hd (fun h' c' kp e=>fin its r' hz h' c' kp e) (by simp only [aG] <;> lia)
def call_tuple_of:jO X (.type "tuple") (fun xs H Q=>∃ p ys,xs=[.ref p]∧((SqL X.K H p ys∧∀ l,H l=none→Q (.ref l) (upd H l (.tup ys)))∨(SqT X.K H p ys∧Q (.ref p) H))):=by
 intro aR s σ H xs us Q I r h;obtain ⟨p,ys,rfl,h⟩:=h;obtain ⟨u,rfl,rx⟩:=nN r;cases rx
 rcases h with ⟨hq,q⟩ | ⟨hq,q⟩
 ·obtain ⟨its,r',pl,hz⟩:=I.list hq
  have hlen:=r'.length;apply call_tuple_list pl.isList (fun h' kp=>?_) (by simp only [aG] <;> lia);have I1:Inv X aR σ H { s with heap:=h' }:=I.kept (t':=s.toks) kp;have I2:Inv X aR σ (upd H h'.objs.size (.tup ys)) { s with heap:=h'.push { cls:= .type "tuple",data:= .seq its.toArray } } :=
   I1.laid (t':=s.toks) (fun b o e=>aq _ e) (az _) (show jz X.prog X.w _ _ _ (.tup ys) from ⟨hz,its,r',mX.new _ _⟩)
  exact ⟨.ref h'.objs.size,_,I2,rfl,q _ (I1.hok.fresh (az _))⟩
 ·obtain ⟨its,r',pl,hz⟩:=I.tuple hq
  exact call_tuple_same pl ⟨.ref p,H,I,rfl,q⟩
def tyV (K:ar)(T:String)(x:V)(H:Hp):Prop:=match x with
 | .str _=>T = "str"
 | .int _=>T = "int"
 | .ref p=>(T = "list" ∧∃ xs,SqL K H p xs)∨(T = "tuple" ∧∃ o,K.lookup p=some o∧o.cls= .type "tuple" ∧o.dict=none) ∨
   (T = "dict" ∧((∃ kvs,H p=some (.dK kvs))∨∃ kvs,H p=some (.dT kvs)))∨(T = "set" ∧∃ S n,H p=some (.set S n))
 | _=>False
def tyV_is {x:V}{v:ae}(I:Inv X aR σ H s)(r:gq x v)(ty:tyV X.K T x H) :
  s.TypeIs v T∧∀ a,v= .ref a→∃ ob,s.heap.get? a=some ob∧ob.dict=none:=by
 cases x with
 | str z =>
  obtain ⟨t,rfl⟩:=r;cases (show T = "str" from ty);exact ⟨typeIs_str s z t,fun _ e=>nomatch e⟩
 | int i =>
  obtain ⟨t,rfl⟩:=r;cases (show T = "int" from ty);exact ⟨typeIs_int s i t,fun _ e=>nomatch e⟩
 | ref p =>
  cases r
  rcases ty with ⟨rfl,xs,hq⟩ | ⟨rfl,o,hk,hc,hd⟩ | ⟨rfl,hk⟩ | ⟨rfl,S,n,hk⟩
  ·obtain ⟨its,_,pl,_⟩:=I.list hq
   apply ⟨pl.isList.typeIs,fun a e=>?_⟩;cases e;obtain ⟨o,n,e,c,hd,_⟩:=pl;exact ⟨o,e,hd⟩
  ·apply ⟨⟨o,I.kIn p o hk,hc⟩,fun a e=>?_⟩
   cases e;exact ⟨o,I.kIn _ o hk,hd⟩
  ·have z:∃ o,s.heap.get? p=some o∧o.ExactDict:=by
    rcases hk with ⟨kvs,hk⟩ | ⟨kvs,hk⟩
    ·obtain ⟨_,_,_,_,o,_,_,e,ex,_⟩:=I.hok p _ hk
     exact ⟨o,e,ex⟩
    ·obtain ⟨_,_,_,_,o,_,_,e,ex,_⟩:=I.hok p _ hk
     exact ⟨o,e,ex⟩
   obtain ⟨o,e,ex⟩:=z;apply ⟨⟨o,e,ex.1⟩,fun a e2=>?_⟩;cases e2;exact ⟨o,e,ex.2.1⟩
  ·obtain ⟨o,_,_,_,e,ex,_⟩:=I.hok p _ hk
   apply ⟨⟨o,e,ex.1⟩,fun a e2=>?_⟩;cases e2;exact ⟨o,e,ex.2.1⟩
 | _=>exact cT ty
def tBM0 (K:ar)(T:String)(r:V→List V→Hp→VK→Prop)(to:TE):TE:=fun σ H Q=>to σ H fun x H1=>tyV K T x H1∧r x [] H1 Q
def tBM (K:ar)(T:String)(r:V→List V→Hp→VK→Prop)(to:TE)(t:TA):TE:=fun σ H Q=>to σ H fun x H1=>tyV K T x H1∧t σ H1 fun xs H2=>r x xs H2 Q
variable {o:Expr}{to:TE}{cpos:Pos}{id:String}{r:V→List V→Hp→VK→Prop}
def p8 (pa:PlainAttrs T)(slot:Slot T name id)(hty:typeOf (.builtin id)=fQ (.type "method_descriptor"))(hm:MtR X id r)(ho:PE X o to)
  (hbase:kR o name X.env (eE o X.env)=eE o X.env:=by rfl) (hline:(apos.endLine == cpos.line)=true:=by rfl):PE X (.Call (.Attribute o name apos) [] [] cpos) (tBM0 X.K T r to):=by
 intro aR s σ H Q I h;apply wpAny_Call_method0_late hbase hline (thn (ho aR s σ H _ I h) fun v s1 ⟨x,H1,I1,r1,ty,q1⟩=>?_);obtain ⟨h1,h2⟩:=tyV_is I1 r1 ty;exact ⟨T,id,pa,slot,hty,h1,h2,jN rfl (PySem.evalArgs_none (hm aR s1 σ H1 x [] v [] Q I1 r1 .nil q1))⟩
def l7 (pa:PlainAttrs T)(slot:Slot T name id)(hty:typeOf (.builtin id)=fQ (.type "method_descriptor"))(hm:MtR X id r)(ho:PE X o to)(ha:PA X (e::es) t)
  (hbase:kR o name X.env (eE o X.env)=eE o X.env:=by rfl)
  (hfew:((eR cpos (br (e::es) X.env)).all (fun x=> !x.1) && (backToKw cpos (keywordEach [] X.env)).all (fun x=>x.1.isSome)
   && decide ((e::es).length+([]:List Keyword).length+(if ([]:List Keyword).isEmpty then 0 else 1)<30))=true:=by rfl)
  (hline:(apos.endLine == cpos.line)=true:=by rfl) (hs:br (e::es) X.env=(false,eE e X.env)::br es X.env:=by rfl) (hplain:(eR cpos (br es X.env)).any (·.1)=false:=by rfl) :
  PE X (.Call (.Attribute o name apos) (e::es) [] cpos) (tBM X.K T r to t):=by
 intro aR s σ H Q I h;apply wpAny_Call_method_late hbase hfew hline rfl (thn (ho aR s σ H _ I h) fun v s1 ⟨x,H1,I1,r1,ty,q1⟩=>?_);obtain ⟨h1,h2⟩:=tyV_is I1 r1 ty;apply ⟨T,id,pa,slot,hty,h1,h2,?_⟩;have hA:=ha cpos aR s1 σ H1 _ I1 q1;rw [hs] at hA ⊢;apply jN (by show (false || (eR cpos (br es X.env)).any (·.1))=false;rw [hplain] <;> rfl) (Calls.evalArgs_plain ?_);exact thn hA fun us s2 ⟨vs,H2,I2,r2,q2⟩=>hm aR s2 σ H2 x vs v us Q I2 r1 r2 q2
end
def MtM (X:Cx)(id:String)(r:V→List V→Hp→VK→Prop):Prop :=
 ∀ (aR:List (ak×Obj)) (s:av) (σ:St) (H:Hp) (x:V) (xs:List V) (v:ae) (us:List ae) (Q:VK),Inv X aR σ H s→gq x v→gw xs us→r x xs H Q →
  aU (bt X.prog X.w) X.A (jZ (.builtin id) (v::us)) (EP X aR σ Q) X.xe s
def gw.one:∀ {x:V} {us:List ae},gw [x] us→∃ u,us=[u]∧gq x u
 | _,_,.cons r .nil=>⟨_,rfl,r⟩
def gw.zero:∀ {us:List ae},gw [] us→us=[]
 | _,.nil=>rfl
def gw.dropLast (h:gw xs us):gw xs.dropLast us.dropLast:=by
 induction h with
 | nil=>exact .nil
 | cons r t ih =>
  cases t with
  | nil=>exact .nil
  | cons q t'=>exact .cons r ih
def gw.rep {xs:List V}{us:List ae}(h:gw xs us):∀ k:Nat,gw (bx k xs).flatten (bx k us).flatten
 | 0=> .nil
 | k+1=>by
  rw [jj,jj,List.flatten_cons,List.flatten_cons];exact gw.append h (gw.rep h k)
def erase_last (l:List α):l.eraseIdx (l.length - 1)=l.dropLast:=by
 induction l with
 | nil=>rfl
 | cons a r ih =>
  cases r with
  | nil=>rfl
  | cons b r =>
   have e:(a::b::r).length - 1=((b::r).length - 1)+1:=by
    have h1:(a::b::r).length=r.length+2:=rfl;have h2:(b::r).length=r.length+1:=rfl;lia
   rw [e,List.eraseIdx_cons_succ,ih]
   all_goals rfl
def foldl_rep (its:List ae):∀ (k:Nat) (acc:List ae),
  List.foldl (fun x1 x2=>x1++x2) acc.toArray (bx k its.toArray)=(acc++(bx k its).flatten).toArray
 | 0,acc=>by simp
 | k+1,acc=>by
  have e:acc.toArray++its.toArray=(acc++its).toArray:=by simp
  have e2:(acc++its)++(bx k its).flatten=acc++(bx (k+1) its).flatten:=by
   rw [jj,List.flatten_cons,jU]
  rw [←e2,←foldl_rep its k (acc++its),←e,jj,bV]
section
variable {l b:ak}
def Inv.lset {its':List ae}{f:Array ae→Array ae}(I:Inv X aR σ H s)(hH:H l=some (.lst xs))
  (e:s.heap.get? l=some { cls:= .type "list",data:= .seq its.toArray n }) (hf:f its.toArray=its'.toArray) (hv:gw ys its') (hz:ys.length≤bg) :
  Inv X aR σ (upd H l (.lst ys)) { s with heap:=s.heap.update l (cK f),toks:=t' }:=by
 have q:=PySem.IsL.update e f;rw [hf] at q;apply I.write (x:=l) (e:=l) (by rw [hH];exact trivial) (.inl rfl) (fun b' u hb hu=>(il s.heap (cK f) (cH hb)).trans hu) ⟨_,q⟩ ?_;exact ⟨hz,its',_,hv,q⟩
def Inv.lnew (I:Inv X aR σ H s)(hv:gw ys its)(hz:ys.length≤bg) :
  Inv X aR σ (upd H s.heap.objs.size (.lst ys)) { s with heap:=s.heap.push { cls:= .type "list",data:= .seq its.toArray },toks:=t' } :=
 I.laid (fun _ _ q=>aq _ q) (az _) ⟨hz,its,0,hv,aQ _ rfl⟩
def Inv.fresh (I:Inv X aR σ H s):H s.heap.objs.size=none:=I.hok.fresh (az _)
def Inv.lstM (I:Inv X aR σ H s)(hH:H l=some (.lst xs)):xs.length≤bg∧∃ (its:List ae) (n:Nat),gw xs its∧xs.length=its.length∧s.heap.get? l=some { cls:= .type "list",data:= .seq its.toArray n }:=by
 obtain ⟨z,its,n,r,e⟩:=I.hok l _ hH;exact ⟨z,its,n,r,r.length,e⟩
def notLongL (h:n≤bg):iR n=false:=by
 unfold iR;exact rS ⋯
end
inductive rAppend (x:V)(vs:List V)(H:Hp)(Q:VK):Prop
 | mk (l xs y:_)(_:x= .ref l)(_:vs=[y])(_:H l=some (.lst xs))(_:xs.length<bg)(_:Q .non (upd H l (.lst (xs++[y]))))
def gc:MtM X "list.append" rAppend:=by
 intro aR s σ H x vs v us Q I rx rv h;obtain ⟨l,xs,y,rfl,rfl,hH,hz,q⟩:=h;cases rx;obtain ⟨u,rfl,ru⟩:=rv.one;obtain ⟨z,its,n,r,hl,e⟩:=I.lstM hH;apply call_meets F.slot_list_append ⟨_,e,rfl⟩ F.entry_list_append (F.args_list_append_2 _ _) (PySem.list_append l its.toArray n u (by rw [aG];lia)) ⟨e,?_⟩;apply ⟨.non,_,I.lset (its':=its++[u]) hH e ∅ (r.append (.cons ru .nil)) ?_,rfl,q⟩;rw [au,dH];lia
inductive rExtend (x:V)(vs:List V)(H:Hp)(Q:VK):Prop
 | mk (l b xs zs:_)(_:x= .ref l)(_:vs=[.ref b])(_:H l=some (.lst xs))(_:H b=some (.lst zs))(_:xs.length+zs.length≤bg)(_:Q .non (upd H l (.lst (xs++zs))))
def mt_extend:MtM X "list.extend" rExtend:=by
 intro aR s σ H x vs v us Q I rx rv h;obtain ⟨l,b,xs,zs,rfl,rfl,hH,hB,hz,q⟩:=h;cases rx;obtain ⟨u,rfl,ru⟩:=rv.one;cases ru;obtain ⟨z,its,n,r,hl,e⟩:=I.lstM hH;obtain ⟨z2,its2,n2,r2,hl2,e2⟩:=I.lstM hB;have hsz:its.toArray.size+its2.toArray.size≤bg:=by rw [aG,aG];lia
 have hlong:¬ (!its.toArray.isEmpty && iR (its.toArray.size+its2.toArray.size))=true:=by
  rw [notLongL hsz,Bool.and_false];exact aZ
 apply call_meets F.slot_list_extend ⟨_,e,rfl⟩ F.entry_list_extend (F.args_list_extend_2 _ _)
  (AutoSeq1.list_extend_list_list_0 l its.toArray n b its2.toArray n2 hlong (by rw [aG];lia) ⋯) ⟨e,e2,?_⟩
 apply ⟨.non,_,I.lset (its':=its++its2) hH e ∅ (r.append r2) ?_,rfl,q⟩;rw [au];lia
inductive rPop (x:V)(vs:List V)(H:Hp)(Q:VK):Prop
 | mk (l xs y:_)(_:x= .ref l)(_:vs=[])(_:H l=some (.lst xs))(_:xs[xs.length - 1]? =some y)(_:Q y (upd H l (.lst xs.dropLast)))
def qe:MtM X "list.pop" rPop:=by
 intro aR s σ H x vs v us Q I rx rv h;obtain ⟨l,xs,y,rfl,rfl,hH,hy,q⟩:=h;cases rx;have hus:=rv.zero;subst hus;obtain ⟨z,its,n,r,hl,e⟩:=I.lstM hH;obtain ⟨u,hu,ru⟩:=r.get hy;have hy':its.toArray[its.toArray.size - 1]? =some u:=by
  show its.toArray[its.length - 1]? =some u;rw [←j6,←hl];exact hu
 apply call_meets F.slot_list_pop ⟨_,e,rfl⟩ F.entry_list_pop (F.args_list_pop_1 _) (MeetsSeq.list_pop_last l its.toArray n u hy' (by rw [aG];lia)) ⟨e,?_⟩;apply ⟨y,_,I.lset (its':=its.dropLast) hH e ?_ r.dropLast ?_,ru,q⟩
 ·show its.toArray.eraseIdxIfInBounds (its.toArray.size - 1)=its.dropLast.toArray
  rw [aG,List.eraseIdxIfInBounds_toArray,erase_last]
 ·rw [List.length_dropLast]
  lia
inductive rCat (x:V)(y:V)(H:Hp)(Q:VK):Prop
 | mk (l b xs zs:_)(_:x= .ref l)(_:y= .ref b)(_:H l=some (.lst xs))(_:H b=some (.lst zs))(_:xs.length+zs.length≤bg)(_:∀ p,H p=none→Q (.ref p) (upd H p (.lst (xs++zs))))
def op_cat:OpR X (iW .Add) rCat:=by
 intro aR s σ H x y v u Q I rx ry h;obtain ⟨l,b,xs,zs,rfl,rfl,hH,hB,hz,q⟩:=h;cases rx;cases ry;obtain ⟨z,its,n,r,hl,e⟩:=I.lstM hH;obtain ⟨z2,its2,n2,r2,hl2,e2⟩:=I.lstM hB;apply PySem.P.add_list e e2 ?_ (by rw [aG,aG];lia);have ea:its.toArray++its2.toArray=(its++its2).toArray:=by simp
 rw [ea];exact ⟨.ref _,_,I.lnew (t':=s.toks) (r.append r2) (by rw [au];lia),rfl,q _ I.fresh⟩
inductive rRep (x:V)(y:V)(H:Hp)(Q:VK):Prop
 | mk (l k xs:_)(_:x= .ref l)(_:y= .int k)(_:H l=some (.lst xs))(_: -(2 ^ 63)≤k)(_:k<2 ^ 63)(_:xs.length * k.toNat≤bg)(_:∀ p,H p=none→Q (.ref p) (upd H p (.lst (bx k.toNat xs).flatten)))
def len_rep (xs:List α)(k:Nat):(bx k xs).flatten.length=k * xs.length:=by
 induction k with
 | zero=>simp
 | succ k ih=>rw [jj,List.flatten_cons,au,ih,Nat.succ_mul,Nat.add_comm]
def op_rep:OpR X (iW .Mult) rRep:=by
 intro aR s σ H x y v u Q I rx ry h;obtain ⟨l,k,xs,rfl,rfl,hH,h1,h2,hz,q⟩:=h;cases rx;obtain ⟨t,rfl⟩:=ry;obtain ⟨z,its,n,r,hl,e⟩:=I.lstM hH;have hlen:its.toArray.size * k.toNat≤bg:=by rw [aG,←hl];exact hz
 have hcap:¬ its.toArray.size * k.toNat > (2 ^ 63 - 1) / 8:=by
  have:(bg:Nat)≤(2 ^ 63 - 1) / 8:=by decide
  lia
 have hfit:¬ (!Builtin.List.listFitsIndex k)=true:=by
  rw [fitsIndex_both h1 h2];exact aZ
 have hlong:¬ iR (its.toArray.size * k.toNat)=true:=by
  rw [notLongL hlen];exact aZ
 have hnew:List.foldl (fun x1 x2=>x1++x2) #[] (bx (if its.toArray.isEmpty=true then 0 else k.toNat) its.toArray)=(bx k.toNat its).flatten.toArray:=by
  have f0:∀ m:Nat,List.foldl (fun x1 x2=>x1++x2) #[] (bx m its.toArray)=(bx m its).flatten.toArray:=fun m=>by
   have:=foldl_rep its m [];rw [List.nil_append] at this;exact this
  rw [f0];cases its with
  | nil=>simp
  | cons a r'=>rw [rN ∅]
 apply wpAny_binaryOp_repeat_ref (T := "list") (U := "int") ↥0 ⟨_,e,rfl⟩ (fun s'=>typeIs_int s' k t) noFill_list_mul F.fills_int_mul F.slot_int_rmul repeat_list F.slot_int_index.lookup
  (call_meets F.slot_int_rmul (typeIs_int s k t) F.entry_int_rmul (F.args_int_rmul_2 _ _) (int___rmul___int_list k t l its.toArray n)
   ⟨e,rfl,⟨_,e,rfl⟩,call_meets F.slot_list_mul ⟨_,e,rfl⟩ F.entry_list_mul (F.args_list_mul_2 _ _) (AutoListH.list___mul___list_int_3 l its.toArray n k t hfit hcap hlong) ⟨e,?_⟩⟩)
 rw [hnew];exact ⟨.ref _,_,I.lnew (t':=s.toks) (r.rep k.toNat) (by rw [len_rep,jd];exact hz),rfl,q _ I.fresh⟩
end L2
namespace Att
open PySem PySem.W PySem.Calls PyProof.Rows
def qk {P:Params}:∀ (ns:List Int) (vs:List ae),WellAll P h vs (ns.map WData.int)→IntsAre vs ns:=by
 intro ns
 induction ns with
 | nil =>
  intro vs w;rw [List.map_nil] at w;cases w;exact .nil
 | cons n ns ih =>
  intro vs w;rw [bM] at w;cases w with
  | cons a b =>
   cases a;exact .cons _ _ (ih _ b)
def script_of {l:OpenLaw}(hn:l.most=some n){P:Params}{args:List WData}{vals:List ae}
  (hpre:l.row.toRowW.claim.pre args=true) (hwl:WellAll P h vals args) :
  ∃ a vs ns,vals=[ae.ref a]∧args=[WData.list (ns.map WData.int)]∧h.get? a=some { cls:= .type "list",data:= .seq vs.toArray }∧IntsAre vs ns∧ns.length≤n:=by
 have hsh:WShape.hasAll [] args [.list .int]=true:=(pre_splitW hpre).1;have hc:l.pre.holds [] { args:=args }=true:=(pre_splitW hpre).2;obtain ⟨d,r,rfl,h1,h2⟩:=hasAllW_cons hsh;obtain rfl:=hasAllW_nil h2;obtain ⟨xs,rfl,h3⟩:=hasW_list h1;obtain ⟨ns,rfl⟩:=items_int h3;have hlen:ns.length≤n:=by
  unfold OpenLaw.pre at hc;have h4:(WTm.not (.lt (.lit (.int (n:Int))) (.len (.arg 0)))).holds [] { args:=[.list (ns.map .int)] }=true:=by
   have h4:=(holds_andW hc).1;rw [hn] at h4;exact h4
  have h5:=condW_of h4 (w_not (w_lt w_lit (w_len_list (w_arg rfl))));rw [aa] at h5;apply Nat.le_of_not_lt fun q=>?_
  have q':(n:Int)<((ns.length:Nat):Int):=by lia
  first
   | (rw [rR q'] at h5;exact rQ h5 ↥0)
   | (simp at h5;lia)
 cases hwl with
 | cons w1 w2 =>
  cases w2;cases w1 with
  | list ho hall=>exact ⟨_,_,ns,rfl,rfl,ho,qk ns _ hall,hlen⟩
def post_true (l:OpenLaw)(args:List WData):l.row.toRowW.claim.post args (.bool true) args=true :=
 postW_of (r:=l.row.toRowW) (X:=(true == true))
  (show WShape.has [] (.bool true) .bool=true by first | rfl | decide | simp [WShape.has,WShape.arms,WShape.armsAll])
  (show (WTm.eq .res (.lit (.bool true))).value [] { args:=args,res:=some (.bool true),after:=args }=some (.bool (true == true)) from w_eq_bool (w_res rfl) w_lit) rfl
def attach_call {l:OpenLaw}{q:aX}{d:DefRec}
  (hn:l.most=some n) (hdf:d.params.defaults=[])
  (jZ:∀ (w:bC) (s₀ s₁:av) (mg mb:Str→Option ae) (fa:ak) (o:Obj) (pm cd doc:ae) (a:ak) (vs:List ae) (ns:List Int),
   Ground q loose [] XP w s₀ mg mb s₁.heap→YP w s₁.heap →
   s₁.heap.get? fa=some o→o.data= .func (docDef d.name d.params d.body d.scope pm cd doc)→s₁.heap.CodeRec cd d.name→mg d.name=some (.ref fa) →
   s₁.heap.get? a=some { cls:= .type "list",data:= .seq vs.toArray }→IntsAre vs ns→ns.length≤n→s₁.gens= #[] →
   i9 (bt l.prog w) callerA (.call (.ref fa) ⟨[.ref a],[]⟩) (fun r s'=>r= .ok (.ret (.bool true))∧OldK s₁.heap s'.heap∧s'.os=s₁.os∧AllBare s'.gens) s₁) :
  WalkO q loose XP YP l.row.toRowW d [] (fun f vs=>PySem.call f vs):=by
 intro w s₀ s₁ mg mb G Y fa o pm cd doc dV kV ho hd hcd hD hmg hg args vals as hpre hlay hrd hwl hlo;obtain rfl:dV= .none:=Dflts.none hD hdf;obtain rfl:kV= .none:=Dflts.noKw hD;obtain ⟨a,vs,ns,rfl,rfl,hobj,hints,hlen⟩:=script_of hn hpre hwl;apply enter_call (codeAny_mono (jZ w s₀ s₁ mg mb fa o pm cd doc a vs ns G Y ho (fd_plain hd) hcd hmg hobj hints hlen hg) fun r s' hq=>?_);obtain ⟨rfl,h2,h3,h4⟩:=hq;exact ⟨.inl ⟨.bool true,.bool true,[],rfl,fun _=>rfl,.bool true,post_true l _,fun _=>⟨List.Pairwise.nil,fun _ hm=>(nomatch hm)⟩⟩,h2,h3,h4⟩
end Att
namespace L2
open PySem PySem.Spec PyProof.Rows
def pG:∀ {vs:List ae} {ns:List Int},IntsAre vs ns→gw (ns.map V.int) vs
 | _,_,.nil=> .nil
 | _,_,.cons n t h=> .cons ⟨t,rfl⟩ (pG h)
abbrev CX0:CXT:=fun _ _ _ _ _ _=>False
abbrev E0:XK:=fun _ _ _=>False
def pass0:rK CX0 X E0:=fun _ _ _ _ _ _ _ h=>h.elim
structure Fun (K:ar)(x qual:Str)(st:cL)(f:ak)(fd:bh):Prop where
 ex:∃ (oc:ae) (od:Option ak) (kV doc pm:ae) (an:Option ak) (cdv ct:ae) (osl:Array (Option ae)),
  fd=dE x qual (jy st) (fX st) (defScope st) .none kV doc pm an cdv ct∧K.lookup f=some ⟨oc,od,.func fd,osl⟩∧iH K cdv qual=true
 kp:eS K (.ref f)=true
def Fun.ok {k:Nat}{sp:Sp}(F:Fun K x qual st f fd)(S:bW N ps (defScope st))(len:∀ vs H Q E,sp vs H Q E→vs.length=ps.length)
  (hbody:∀ (cdv:ae) (A:bS) (outer:List Env) (s:av) (H:Hp) (vs:List V) (Q:VK) (E:XK),ik k (A.deeper (envOfC qual (defScope st) s.heap.objs.size f cdv))→sp vs H Q E →
   ∃ t,PSs (cxOf CX0 P w K mg base N qual (defScope st) f cdv A outer s H E).nox (fX st) t∧t { nx:=fun _ H'=>Q .non H',rt:=Q } (start N vs) H):cO P w K mg base CX0 (k+1) f fd ps sp:=by
 obtain ⟨oc,od,kV,doc,pm,an,cdv,ct,osl,rfl,lk,hcd⟩:=F.ex;apply fn_of lk hcd S len fun A outer s H vs Q E hr hsp=>?_
 obtain ⟨t,h,q⟩:=hbody cdv A outer s H vs Q E hr hsp;exact ⟨t,h.nox,q⟩
def Fun.binds (F:Fun K x qual st f fd)
  (h:∀ (kV doc pm:ae) (an:Option ak) (cdv ct:ae) (us:List ae),us.length=ps.length→bindArgs (dE x qual (jy st) (fX st) (defScope st) .none kV doc pm an cdv ct) ⟨us,[]⟩=fQ (ps.zip us)):oO K fd ps []:=by
 obtain ⟨oc,od,kV,doc,pm,an,cdv,ct,osl,rfl,lk,hcd⟩:=F.ex;exact .all (h kV doc pm an cdv ct)
def oh {oc:ae}{od an:Option ak}{kV doc pm cdv ct:ae}(l:K.lookup f=some ⟨oc,od,.func (dE x qual (jy st) (fX st) (defScope st) .none kV doc pm an cdv ct),osl⟩)
  (c:iH K cdv qual=true) (k:eS K (.ref f)=true):Fun K x qual st f (dE x qual (jy st) (fX st) (defScope st) .none kV doc pm an cdv ct):=⟨⟨oc,od,kV,doc,pm,an,cdv,ct,osl,rfl,l,c⟩,k⟩
def nS (h:n≤1000):n<bg:=bX h ↥0
def pv (i:Nat)(hN:X.N[i]? =some x:=by rfl)(hv:Vis X.env.scope x:=by first | exact Or.inl rfl | exact Or.inr (Or.inl rfl) | exact Or.inr (Or.inr rfl))(hd:(x == ("__debug__" :Str))=false:=by decide)
  (hcd:(x == ("__classdict__" :Str))=false:=by decide):PE X (.Name x pos) (tVar i):=pe_var hN hv hd hcd
def iteF {A:Prop}(h:B):if false=true then A else B:=by
 rw [rN aZ];exact h
def iteT {A:Prop}(h:A):if true=true then A else B:=by
 rw [rO rfl];exact h
def rp {c A:Prop}[Decidable c](h1:c→A)(h2:¬ c→B):if c then A else B:=by
 by_cases h:c
 ·rw [rO h]
  exact h1 h
 ·rw [rN h]
  exact h2 h
def bG (H H':Hp):Prop:=∀ b o,H b=some o→H' b=some o
def bG.refl (H:Hp):bG H H:=fun _ _ h=>h
def bG.trans (a:bG H H1)(b:bG H1 H2):bG H H2:=fun c o h=>b c o (a c o h)
def bG.free (e:bG H H'){l:ak}(h:H' l=Option.none):H l=Option.none:=by
 cases q:H l with
 | none=>rfl
 | some o =>
  rw [e l o q] at h;cases h
def bG.seq (e:bG H H')(h:SqL K H a xs):SqL K H' a xs:=by
 rcases h with (h | ⟨o,h⟩) | h
 ·exact .inl (.inl (e _ _ h))
 ·exact .inl (.inr ⟨o,e _ _ h⟩)
 ·exact .inr h
def op_fdivB:OpR X (iW .FloorDiv) (rI (fun _ j=>0<j∧j.natAbs.log2<9000) fun i j=> .int (i / j)):=opI fun i j _ _ _ _ _ hc q=>by
 have e:i.fdiv j=i / j:=Int.fdiv_eq_ediv_of_nonneg i (Int.le_of_lt hc.1);apply floordiv_int (by have:=hc.1;lia) ?_ (.inl (PyProof.noPylong_of_log2 hc.2));rw [e];exact q
def bools_of:∀ {bs:List Bool} {us:List ae},gw (bs.map V.bl) us→LSm.BoolsAre us bs
 | [],_,.nil=> .nil
 | b::bs,_,.cons r t=>by
  cases (show _=ae.bool b from r);exact .cons b (bools_of t)
def call_all (hc:X.calm=true):jO X (.builtin "all") (fun xs H Q=>∃ (p:ak) (bs:List Bool),xs=[.ref p]∧SqL X.K H p (bs.map V.bl)∧Q (.bl (bs.all id)) H):=by
 intro aR s σ H xs us Q I r h;obtain ⟨p,bs,rfl,hq,q⟩:=h;obtain ⟨u,rfl,ru⟩:=nN r;cases (show u=ae.ref p from ru);obtain ⟨its,rv,pl,hz⟩:=I.list hq;have hb:=bools_of rv;have hil:s.heap.IsList p its.toArray:=pl.isList;have plt:p<s.heap.objs.size:=by obtain ⟨_,e,_⟩:=hil;exact aI e
 apply call_all_walk (fq hil ⟨s.heap.objs.size,[s.heap.objs.size,p],[s.heap.objs.size],its.toArray.size,_,_,fun i=>(bs[i]?).getD true,rfl,
  Walks.list (A:=X.A.in1) (I.ok.hd hc) _ p (bB plt) its.toArray,⟨⟨_,aQ _ rfl,rfl,rfl⟩,hil.push _⟩,?_,?_⟩)
 ·intro i v s' Q' E' hP hT
  obtain ⟨b,e,rfl⟩:=hb.get i v (by simpa using hP);simp only [e,Option.getD_some] at hT;exact fm hT
 ·intro h' tk hk
  have e2:((aJ its.toArray.size).all fun i=>(bs[i]?).getD true)=bs.all id:=by
   rw [aG,hb.length];exact LSm.range_all bs
  rw [e2];exact ⟨.bl _,H,I.kept (LSm.kept_iter hk),rfl,q⟩
def op_eqL0 (hu:X.A.units<cLine):OpR X (ft .Eq) (fun x y H Q=>∃ a b xs,x= .ref a∧y= .ref b∧SqL X.K H a xs∧SqL X.K H b []∧Q (.bl xs.isEmpty) H):=by
 intro aR s σ H x y v u Q I rx ry h;obtain ⟨a,b,xs,rfl,rfl,ha,hb,q⟩:=h;cases (show v=ae.ref a from rx);cases (show u=ae.ref b from ry);obtain ⟨its,r1,p1,_⟩:=I.list ha;obtain ⟨its2,r2,p2,_⟩:=I.list hb;cases r2;cases r1 with
 | nil=>exact SeqAt.eq_listAt (e:=fun _=>true) p1.isList p2.isList rfl hu (fun j h1 _=>rQ h1 ∅) (fB I q ∅)
 | cons _ _=>exact SeqAt.eq_list_lengthsAt p1.isList p2.isList ∅ hu (fB I q ∅)
def tyn (H:Hp):V→Option String
 | .non=>some "NoneType"
 | .bl _=>some "bool"
 | .int _=>some "int"
 | .str _=>some "str"
 | .ref a=>match H a with
  | some (.lst _)=>some "list"
  | some (.tup _)=>some "tuple"
  | some (.dK _)=>some "dict"
  | _=>none
 | _=>none
def TyOf.byName (h:tyn H v=some T):TyOf K H v (.type T):=by
 cases v with
 | non=>cases h;exact .non
 | bl b=>cases h;exact .bl b
 | int i=>cases h;exact .int i
 | str x=>cases h;exact .str x
 | ref a =>
  simp only [tyn] at h;cases e:H a with
  | none=>rw [e] at h;cases h
  | some o =>
   rw [e] at h;cases o <;> first | (cases h;first | exact .lst e | exact .tup e | exact .dK e) | cases h
 | _=>cases h
def kit_tuple (K:ar)(h:T∈["NoneType","bool","int","str","list","tuple","dict"]):jC K (.type T) (.type "tuple")=some (T == "tuple"):=by
 simp only [aF,cx,or_false] at h
 rcases h with rfl | rfl | rfl | rfl | rfl | rfl | rfl <;> kernel_rfl
def kit_int (K:ar)(h:T∈["NoneType","bool","int","str","list","tuple","dict"]):jC K (.type T) (.type "int")=some (T == "int" || T == "bool"):=by
 simp only [aF,cx,or_false] at h
 rcases h with rfl | rfl | rfl | rfl | rfl | rfl | rfl <;> kernel_rfl
def kit_bool (K:ar)(h:T∈["NoneType","bool","int","str","list","tuple","dict"]):jC K (.type T) (.type "bool")=some (T == "bool"):=by
 simp only [aF,cx,or_false] at h
 rcases h with rfl | rfl | rfl | rfl | rfl | rfl | rfl <;> kernel_rfl
def tyn_mem (h:tyn H v=some T):T∈["NoneType","bool","int","str","list","tuple","dict"]:=by
 cases v with
 | non=>cases h;simp
 | bl b=>cases h;simp
 | int i=>cases h;simp
 | str x=>cases h;simp
 | ref a =>
  simp only [tyn] at h;cases e:H a with
  | none=>rw [e] at h;cases h
  | some o =>
   rw [e] at h;cases o <;> first | (cases h;simp;done) | cases h
 | _=>cases h
def lQ:jO X (.builtin "isinstance") (fun xs H Q=>∃ x n t b,xs=[x,.ty n]∧TyOf X.K H x t∧jC X.K t (.type n)=some b∧Q (.bl b) H):=by
 intro aR s σ H xs us Q I r h;obtain ⟨x,n,t,b,rfl,ty,e,q⟩:=h;obtain ⟨u,w',rfl,ru,rw'⟩:=vals2 r;cases (show w'=ae.type n from rw');exact isinst_ok I ru ty e fun tk=>⟨.bl b,H,I.tok tk,rfl,q⟩
def call_isTup:jO X (.builtin "isinstance") (fun xs H Q=>∃ x T,xs=[x,.ty "tuple"]∧tyn H x=some T∧Q (.bl (T == "tuple")) H) :=
 fun aR s σ H xs us Q I r ⟨x,T,e,hT,q⟩=>lQ aR s σ H xs us Q I r ⟨x,_,_,_,e,.byName hT,kit_tuple _ (tyn_mem hT),q⟩
def call_isInt:jO X (.builtin "isinstance") (fun xs H Q=>∃ x T,xs=[x,.ty "int"]∧tyn H x=some T∧Q (.bl (T == "int" || T == "bool")) H) :=
 fun aR s σ H xs us Q I r ⟨x,T,e,hT,q⟩=>lQ aR s σ H xs us Q I r ⟨x,_,_,_,e,.byName hT,kit_int _ (tyn_mem hT),q⟩
def call_isBool:jO X (.builtin "isinstance") (fun xs H Q=>∃ x T,xs=[x,.ty "bool"]∧tyn H x=some T∧Q (.bl (T == "bool")) H) :=
 fun aR s σ H xs us Q I r ⟨x,T,e,hT,q⟩=>lQ aR s σ H xs us Q I r ⟨x,_,_,_,e,.byName hT,kit_bool _ (tyn_mem hT),q⟩
inductive rCatA (K:ar)(x:V)(y:V)(H:Hp)(Q:VK):Prop
 | mk (a b xs ys:_)(_:x= .ref a)(_:y= .ref b)(_:H a=some (.tup xs))(_:H b=some (.tup ys))(_:xs.length+ys.length≤bg)(_:∀ p H',bG H H'→H' p=some (.tup (xs++ys))→Q (.ref p) H')
def mw:OpR X (iW .Add) (rCatA X.K):=by
 intro aR s σ H x y v u Q I rx ry h;obtain ⟨a,b,xs,ys,rfl,rfl,ha,hb,hz,q⟩:=h;cases xs with
 | cons x xs =>
  apply op_catT aR s σ H (.ref a) (.ref b) v u Q I rx ry ⟨a,b,_,ys,rfl,rfl,SqT.of ha,SqT.of hb,∅,hz,fun e=>?_,fun _ p hp=>?_⟩
  ·subst e
   exact q a H (bG.refl H) (by rw [dg];exact ha)
  ·exact q p _ (fun c o e=>by rw [bq (bF e hp)];exact e) aV
 | nil =>
  cases (show v=ae.ref a from rx);cases (show u=ae.ref b from ry);obtain ⟨its,r1,p1,_⟩:=I.tuple (SqT.of (K:=X.K) ha);obtain ⟨its2,r2,p2,_⟩:=I.tuple (SqT.of (K:=X.K) hb);cases r1;obtain ⟨⟨c1,d1,t1,l1⟩,o1,k1,n1,g1⟩:=id p1;obtain ⟨⟨c2,d2,t2,l2⟩,o2,k2,n2,g2⟩:=id p2;simp only at k1 g1 k2 g2;subst k1 g1 k2 g2;exact concat_meets ⟨_,o1,rfl⟩ ⟨_,o2,rfl⟩ noFill_tuple_add seq_tuple_add PySem.F.slot_tuple_add lR (lr _ _)
   (tuple_addW0 a b _ its2.toArray n1 n2 d1 d2 l1 l2 ∅) ⟨o1,o2,⟨.ref b,H,I,rfl,q b H (bG.refl H) hb⟩⟩
def gf (X:Cx)(scope:fG)(cl:List (Str×ak))(C:ak)(N:List Str)(s:av)(H:Hp)(ex:List ak):Cx :=
 { X with N:=N,s₀:=s,H₀:=H,env:=compEnvC scope cl C X.env,outer:=X.stack,ex:=ex,fn:=fun _=>false,pn:=[],xe:=fun _ _=>False }
def nG (hf:∀ y∈scope.names,y.2= .free→∃ c,env.cells.lookup y.1=some c) :
  ∃ cl,closureFor scope env=fQ cl∧(∀ x c,cl.lookup x=some c→env.cells.lookup x=some c)∧∀ y∈scope.names,y.2= .free→cl.lookup y.1=env.cells.lookup y.1:=by
 have aux:∀ (names:List (Str×cQ)) (acc:List (Str×ak)),(∀ y∈names,y.2= .free→∃ c,env.cells.lookup y.1=some c)→(∀ x c,acc.lookup x=some c→env.cells.lookup x=some c) →
   ∃ cl,(forIn names acc fun x r=>match x with
     | (name,kind)=>if (kind == cQ.free)=true then (cellOf env name >>= fun c=>fQ (ForInStep.yield ((name,c)::r))) else fQ (ForInStep.yield r):Sem (List (Str×ak)))=fQ cl ∧
    (∀ x c,cl.lookup x=some c→env.cells.lookup x=some c)∧(∀ x c,acc.lookup x=some c→cl.lookup x=some c)∧∀ y∈names,y.2= .free→cl.lookup y.1=env.cells.lookup y.1:=by
  intro names
  induction names with
  | nil=>intro acc _ ha;exact ⟨acc,rfl,ha,fun _ _ e=>e,fun y hy=>rQ hy ∅⟩
  | cons z r ih =>
   intro acc hn ha;obtain ⟨n,k⟩:=z;have hr:∀ y∈r,y.2= .free→∃ c,env.cells.lookup y.1=some c:=fun y hy=>hn y (ay _ hy)
   by_cases hk:k= .free
   ·subst hk
    obtain ⟨c,hc⟩:=hn (n,.free) bu rfl;have hc:env.cells.lookup n=some c:=hc;have ha':∀ x d,((n,c)::acc).lookup x=some d→env.cells.lookup x=some d:=fun x d e=>by
     rw [dm] at e;cases hx:x == n with
     | true =>
      rw [hx] at e;have e':c=d:=bE e;have ex:x=n:=eq_of_beq hx;rw [ex,←e'];exact hc
     | false=>rw [hx] at e;exact ha x d e
    obtain ⟨cl,e1,e2,e3,e4⟩:=ih ((n,c)::acc) hr ha';have iD:cellOf env n=fQ c:=by unfold cellOf;rw [hc]
    apply ⟨cl,?_,e2,fun x d e=>?_,fun y hy hy2=>?_⟩
    ·rw [List.forIn_cons]
     show ((if (cQ.free == cQ.free)=true then (cellOf env n >>= fun c=>fQ (ForInStep.yield ((n,c)::acc))) else fQ (ForInStep.yield acc)) >>= _)=_;rw [rO (by decide:(cQ.free == cQ.free)=true),iD];exact e1
    ·have h1:((n,c)::acc).lookup x=some (if x == n then c else d):=by
      rw [dm];cases hx:x == n with
      | true=>rfl
      | false=>exact e
     have h2:=e3 x _ h1;have h3:=e2 x _ h2;have h4:=ha x d e;rw [h3] at h4;rw [h2];exact h4
    ·rcases aF.mp hy with rfl | hy3
     ·have h1:((n,c)::acc).lookup n=some c:=by rw [dm,beq_self_eq_true]
      show cl.lookup n=_;rw [e3 n c h1,hc]
     ·exact e4 y hy3 hy2
   ·have hb:(k == cQ.free)=false:=by simpa using hk
    obtain ⟨cl,e1,e2,e3,e4⟩:=ih acc hr ha;apply ⟨cl,?_,e2,e3,fun y hy hy2=>?_⟩
    ·rw [List.forIn_cons]
     show ((if (k == cQ.free)=true then (cellOf env n >>= fun c=>fQ (ForInStep.yield ((n,c)::acc))) else fQ (ForInStep.yield acc)) >>= _)=_;rw [hb];exact e1
    ·rcases aF.mp hy with rfl | hy3
     ·exact rQ hy2 hk
     ·exact e4 y hy3 hy2
 obtain ⟨cl,e1,e2,_,e4⟩:=aux scope.names [] hf fun x c e=>by cases e
 apply ⟨cl,Eq.trans ?_ e1,e2,e4⟩;unfold closureFor
 first
  | rfl
  | (simp only [bind_pure];done)
  | (simp only [bind_pure];rfl)
  | (simp only [bind_pure]
     congr 1
     funext x r
     obtain ⟨n,k⟩:=x;cases (k == cQ.free) <;> rfl)
def oE {env:Env}:∀ {names:List (Str×cQ)} {x:Str} {k':cQ},
  (names.map fun (n,k)=>if (k == cQ.free && env.scope.kind == .function && env.kindOf n == some .cell) then (n,cQ.cell) else (n,k)).lookup x=some k' →
  names.lookup x=some k'∨(names.lookup x=some .free∧k'= .cell)
 | [],_,_,h=>by simp at h
 | (n,k)::r,x,k',h=>by
  have ih:= @oE env r x k';rw [bM] at h;show eM x ((n,k)::r)=_∨(eM x ((n,k)::r)=_∧_);rw [dm]
  by_cases hq:(k == cQ.free && env.scope.kind == .function && env.kindOf n == some .cell)=true
  ·have g:eM x ((if (k == cQ.free && env.scope.kind == .function && env.kindOf n == some .cell)=true then (n,cQ.cell) else (n,k))::_)=_:=h
   rw [rO hq,dm] at g;have hk:k= .free:=by
    rw [cz,cz] at hq;exact eq_of_beq hq.1.1
   cases hx:x == n with
   | true=>rw [hx] at g;rw [hk];exact .inr ⟨rfl,(bE g).symm⟩
   | false=>rw [hx] at g;exact ih g
  ·have g:eM x ((if (k == cQ.free && env.scope.kind == .function && env.kindOf n == some .cell)=true then (n,cQ.cell) else (n,k))::_)=_:=h
   rw [rN hq,dm] at g;cases hx:x == n with
   | true=>rw [hx] at g;exact .inl g
   | false=>rw [hx] at g;exact ih g
def mj {env:Env}(hk:env.scope.kind= .function){x:Str}(hx:env.kindOf x=some .cell):∀ {names:List (Str×cQ)},names.lookup x=some .free →
  (names.map fun (n,k)=>if (k == cQ.free && env.scope.kind == .function && env.kindOf n == some .cell) then (n,cQ.cell) else (n,k)).lookup x=some .cell
 | [],h=>by simp at h
 | (n,k)::r,h=>by
  have ih:= @mj env hk x hx r;show eM x ((if (k == cQ.free && env.scope.kind == .function && env.kindOf n == some .cell)=true then (n,cQ.cell) else (n,k))::_)=some cQ.cell;rw [dm] at h;cases hxn:x == n with
  | true =>
   rw [hxn] at h;have ek:k= .free:=bE h;have en:x=n:=eq_of_beq hxn;subst ek en;rw [rO (by rw [hk,hx];rfl),dm,beq_self_eq_true]
  | false =>
   rw [hxn] at h
   by_cases hq:(k == cQ.free && env.scope.kind == .function && env.kindOf n == some .cell)=true
   ·rw [rO hq,dm,hxn];exact ih h
   ·rw [rN hq,dm,hxn];exact ih h
def PTs (X:Cx)(ifs:List Expr)(t:TT):Prop :=
 ∀ (aR:List (ak×Obj)) (s:av) (σ:St) (H:Hp) (Q:Bool→Hp→Prop),Inv X aR σ H s→t σ H Q →
  aU (bt X.prog X.w) X.A (forIn ifs true fun c r=>if r=true then do let ok ← isTrue c X.env (eE c X.env);fQ (ForInStep.yield ok) else fQ (ForInStep.yield r)) (TP X aR σ Q) X.xe s
def tNoIf:TT:=fun _ H Q=>Q true H
def fS {A B:Hp→Prop}(h:A H):tNoIf σ H fun b H4=>if b=true then A H4 else B H4:=by
 show if true=true then A H else B H;rw [rO rfl];exact h
def gU:PTs X [] tNoIf:=fun _ _ _ H _ I h=>wpAny_tests_nil ⟨H,I,h⟩
def mq {c:Expr}{t:TT}(h:PT X c t):PTs X [c] t:=fun aR s σ H Q I q=>wpAny_tests_one (h aR s σ H Q I q)
def HOk.take (x:HOk P w H h)(hn:H a=none)(new:jz P w (upd H a o) h a o):HOk P w (upd H a o) h:=fun b u e=>by
 by_cases hb:b=a
 ·subst hb;rw [aV] at e;cases e;exact new
 ·rw [bq hb] at e
  exact (x b u e).stay (fun _ _ _ q=>q) (fun c q=>by rw [bq (bF q hn)];exact q) fun c xs q=>by rw [bq (bF q hn)];exact q
def cZ (σ:St)(js:List Nat):St:=js.map fun j=>(σ[j]?).getD none
def CompW (js:List Nat)(tt:TT)(te:TE)(σ:St)(Q:VK)(J:It)(H1:Hp):Prop:=∃ W:Nat→Nat→List V→Hp→Prop,(∃ m,W 0 m [] H1)∧∀ i m ys H2,W i m ys H2 →
 (J.stop i H2∧∀ D,H2 D=none→Q (.ref D) (upd H2 D (.lst ys))) ∨
 (J.go i H2∧ys.length<bg∧∃ N:List V→Hp→Prop,(∀ ys' H',N ys' H'→∃ m',m'<m∧W (i+1) m' ys' H')∧∀ x H3,J.yld i H2 x H3→tt (some x::cZ σ js) H3 fun b H4 =>
  if b=true then te (some x::cZ σ js) H4 fun y H5=>N (ys++[y]) H5 else N ys H4)
def tComp (wi:TI)(js:List Nat)(tt:TT)(te:TE):TE:=fun σ H Q=>wi σ H fun J H1=>CompW js tt te σ Q J H1
abbrev lobj (us:List ae)(n:Nat):Obj:={ cls:= .type "list",data:= .seq us.toArray n }
abbrev rL (prog:aX)(w:bC)(A:bS)(env:Env)(R:Result→av→Prop):ae→av→Prop:=notedBy (bt prog w) A env fun x t=>R (.error x) t
def loop_any {it acc:ae}(J:Nat→av→Prop)
  (step:∀ k t,J k t→aU (bt prog w) A (jB it) (fun r t1=>match r with
   | none=>R (.ok .next) t1
   | some v=>aU (bt prog w) A (letOwnedTupleGo tg it v) (fun _ t2=>aU (bt prog w) A (assign tg env v) (fun _ t3 =>
     aU (bt prog w) A (forIn ifs true fun c b=>if b=true then do let z ← isTrue c env (eE c env);fQ (ForInStep.yield z) else fQ (ForInStep.yield b)) (fun z t4 =>
      if z=true then aU (bt prog w) A (eE elt env) (fun y t5=>aU (bt prog w) A (jZ (.builtin "list.append") [acc,y]) (fun _ t6=>∃ m,m<k∧J m t6) (rL prog w A env R) t5) (rL prog w A env R) t4
      else ∃ m,m<k∧J m t4) (rL prog w A env R) t3) (rL prog w A env R) t2) (rL prog w A env R) t1) (rL prog w A env R) t)
  (k:Nat) (h:J k s):i9 (bt prog w) A (.compLoop (.ListComp elt [⟨tg,iter,ifs,0⟩] scope pos) 0 it acc env) R s:=by
 apply codeAny_loop rfl J (fun k t hJ=>?_) k h;show aU _ A ((compTurn (.ListComp elt [⟨tg,iter,ifs,0⟩] scope pos) 0 it acc env).onRaise (fun y=>do noteFrame y env;theTreesLotGoes y)) _ _ t;apply wpAny_noted ?_;rw [compTurn_list];apply ai (wpAny_standAt (ai (cf (step k t hJ) (fun r t1 q1=>?_) fun _ _ f=>f)));cases r with
 | none=>exact aL q1
 | some v =>
  apply ai (cf q1 (fun _ t2 q2=>?_) fun _ _ f=>f);apply ai (cf q2 (fun _ t3 q3=>?_) fun _ _ f=>f);apply ai (cf q3 (fun z t4 q4=>?_) fun _ _ f=>f);cases z with
  | false=>exact aL ⟨rfl,q4⟩
  | true=>exact ai (ai (cf q4 (fun y t5 q5=>ai (cf q5 (fun _ t6 q6=>aL (aL ⟨rfl,q6⟩)) fun _ _ f=>f)) fun _ _ f=>f))
def qK (n:Nat)(g:TG)(js:List Nat)(tt:TT)(te:TE)(σ:St)(Q:VK)(J:It)(H1:Hp):Prop:=∃ W:Nat→Nat→List V→Hp→Prop,(∃ m,W 0 m [] H1)∧∀ i m ys H2,W i m ys H2 →
 (J.stop i H2∧∀ D,H2 D=none→Q (.ref D) (upd H2 D (.lst ys))) ∨
 (J.go i H2∧ys.length<bg∧∃ N:List V→Hp→Prop,(∀ ys' H',N ys' H'→∃ m',m'<m∧W (i+1) m' ys' H')∧∀ x H3,J.yld i H2 x H3→∀ v0:St,v0.length=n→g x (v0++cZ σ js) H3 fun σ4 H4 =>
  (∃ v1:St,v1.length=n∧σ4=v1++cZ σ js)∧tt σ4 H4 fun b H5=>if b=true then te σ4 H5 fun y H6=>N (ys++[y]) H6 else N ys H5)
def tCompT (wi:TI)(n:Nat)(g:TG)(js:List Nat)(tt:TT)(te:TE):TE:=fun σ H Q=>wi σ H fun J H1=>qK n g js tt te σ Q J H1
def comp_core {Q:VK}{use:Option (ae→Sem Unit)}{R:ae→av→Prop}{xs:List Str}
  (hc:X.calm=true) (hi:PI X tg iter wi)
  (iD:∀ y∈scope.names,y.2≠ .cell) (mH:scope.kind= .function) (k9:∀ y∈scope.names,y.2= .local→scope.names.lookup y.1=some .local)
  (hfr:∀ y∈scope.names,y.2= .free→X.env.scope.names.lookup y.1=some .cell) (hjs:js.map (fun j=>X.N[j]?)=fr.map some) (hfv:∀ y∈fr,scope.names.lookup y=some .free)
  (hg:∀ cl C s' H' ex,PG (gf X scope cl C (xs++fr) s' H' ex) tg g)
  (hb:∀ cl C s' H' ex,PE (gf X scope cl C (xs++fr) s' H' ex) elt te∧PTs (gf X scope cl C (xs++fr) s' H' ex) ifs tt)
  (hCW:∀ σ Q J H1,CW σ Q J H1→qK xs.length g js tt te σ Q J H1) (I:Inv X aR σ H s) (h:wi σ H fun J H1=>CW σ Q J H1)
  (fin:∀ (s4:av) (H5:Hp) (D C:ak) (mC:Str→Option ae),s4.heap.Ns C mC→Inv X aR σ H5 s4→H5 C=none→C≠X.env.locals→C ∉ X.fs→(∀ p∈X.pn++aR,p.1≠C)→(∀ y c,X.env.cells.lookup y=some c→c≠C)→X.s₀.heap.objs.size≤C→Q (.ref D) H5→compPost (bt X.prog X.w) X.A X.xe use R (.ref D) C (.ok .next) s4)
  (hs:∀ z,fT iter X.env z=fQ z:=by intro _;rfl) :
  aU (bt X.prog X.w) X.A (comprehension (.ListComp elt [⟨tg,iter,ifs,0⟩] scope pos) scope X.env pos' (newList []) false (eE iter X.env) use) R X.xe s:=by
 have hXk:X.env.scope.kind= .function:=I.ok.kind;obtain ⟨cl,hclos,c1,c2⟩:=nG (scope:=scope) (env:=X.env) fun y hy hk=>I.ok.has _ (.inl (hfr y hy hk))
 apply wpAny_comprehension_free rfl hs hclos mH k9 (thn (hi aR s σ H _ I h) fun xv s1 h1=>thn h1 fun itv s2 h2=>?_);obtain ⟨it,fp,tn,J,H2,rfl,I2,T,st2,f2,hcw⟩:=h2;obtain ⟨W,⟨m0,w0⟩,turn⟩:=hCW _ _ _ _ hcw;apply eG (wpAny_newFunctionEnv iD (by intro y hy;simp at hy) (fun hA nsA sbA=>?_) mH)
 dsimp only at nsA sbA ⊢
 generalize hG:s2.heap.push { cls:= .type "list",dict:=none,data:= .seq ([]:List ae).toArray }=G at nsA sbA ⊢;have hC:G.objs.size=s2.heap.objs.size+1:=by rw [←hG,dh]
 have hDC:s2.heap.objs.size≠G.objs.size:=by rw [hC];exact bB (jf _)
 have small:∀ b o,s2.heap.get? b=some o→b≠G.objs.size∧b≠s2.heap.objs.size:=fun b o e=>⟨by rw [hC];exact bB (gL (aI e)),bB (aI e)⟩
 have old:∀ b o,s2.heap.get? b=some o→hA.get? b=some o:=fun b o e=>sbA.extBut b o (small b o e).1 (aq _ (hG ▸ aq _ e))
 have hDA:hA.get? s2.heap.objs.size=some (lobj [] 0):=sbA.extBut _ _ hDC (aq _ (hG ▸ aQ _ rfl));have fpo:∀ b∈fp,∃ o,s2.heap.get? b=some o:=fun b hb=>let ⟨o,e,_⟩:=T.obj _ _ st2 b hb;⟨o,e⟩
 have celo:∀ y c,cl.lookup y=some c→∃ o,s2.heap.get? c=some o:=fun y c e=>let ⟨_,o,ho,_⟩:=I2.cell y c (c1 y c e);⟨o,ho⟩
 have ok':(gf X scope cl G.objs.size (xs++fr) s2 H2 fp).Ok:=by
  apply ⟨I2.ok.mod,mH,I2.ok.glob,I2.ok.blt,?_,fun a b c e1 e2=>I2.ok.inj a b c (c1 a c e1) (c1 b c e2),fun y hy=>?_,fun _ _ z=>rQ z (by intro q;cases q),I2.ok.hd,I2.ok.frames,.inl rfl,fun b hb=>?_,I2.bs,aN I2.ok.bsz I2.sz,fun b o e hb=>?_,fun b hb hz=>?_,I2.stack,I2.stkFree⟩
  ·show s2.heap.objs.size≤G.objs.size
   rw [hC];exact Nat.le_succ _
  ·have hy:(relabel scope X.env).names.lookup y=some .cell∨(relabel scope X.env).names.lookup y=some .free:=hy
   have key:scope.names.lookup y=some .free:=by
    rcases hy with hy | hy
    ·rcases oE hy with q | ⟨q,_⟩
     ·exact rQ rfl (iD _ (cu q))
     ·exact q
    ·rcases oE hy with q | ⟨q,_⟩
     ·exact q
     ·exact q
   have hm:=cu key;obtain ⟨c,e⟩:=I.ok.has y (.inl (hfr _ hm rfl));exact ⟨c,(c2 _ hm rfl).trans e⟩
  ·obtain ⟨o,e⟩:=fpo b hb
   exact ⟨(small b o e).1,fun y c q=>(f2 b hb).2.2.2.2.1 y c (c1 y c q)⟩
  ·obtain ⟨_,_,_,f3,_⟩:=f2 b hb
   rcases f3 with f3 | f3
   ·exact I2.ok.noex b o e f3
   ·exact rQ (aM (aI e) (aN I2.ok.bsz f3)) (fM _)
  ·obtain ⟨_,n1,n2,_⟩:=f2 b hb
   exact (aF.mp (I2.stkSub b hz)).elim n1 n2
 have nofs:s2.heap.objs.size ∉ frs X.stack:=fun hz=>by
  obtain ⟨_,o,ho,_⟩:=I2.stack.mem hz;exact fM _ (aI ho)
 have lenB:(cZ σ js).length=fr.length:=by
  have e:=rV List.length hjs;rw [aa,aa] at e;unfold cZ;rw [aa];exact e
 have start':∀ t,Inv (gf X scope cl G.objs.size (xs++fr) s2 H2 fp) [(s2.heap.objs.size,lobj [] 0)] ((xs.map fun _=>none)++cZ σ js) H2 { s2 with heap:=hA,toks:=t }:=fun t=>by
  apply ⟨ok',rfl,I2.bare,Un.kept old,⟨_,nsA,fun i y v e1 e2 e3=>?_⟩,fun y c e=>?_,I2.hok.fresh (by rw [hC];exact Nat.le_succ _),fun y c e=>I2.freeC y c (c1 y c e),fun p hp=>?_,I2.hok.kept old,?_⟩
  ·by_cases hix:i<xs.length
   ·rw [cI (by rw [aa];exact hix),ax,gE hix] at e2
    cases e2
   ·obtain ⟨i,rfl⟩:∃ j,i=xs.length+j:=⟨i - xs.length,⋯⟩
    have e1:(xs++fr)[xs.length+i]? =some y:=e1;have e1:fr[i]? =some y:=by rw [bw ⋯,show xs.length+i - xs.length=i by lia] at e1;exact e1
    have e2:(cZ σ js)[i]? =some (some v):=by rw [bw (by rw [aa];lia),aa,show xs.length+i - xs.length=i by lia] at e2;exact e2
    unfold cZ at e2;rw [ax] at e2;obtain ⟨j,ej,e2⟩:=aO.mp e2;have hN:X.N[j]? =some y:=by
     have q:=rV (fun l=>l[i]?) hjs;simp only [ax,ej,e1,gm] at q;exact bE q
    have hσ:σ[j]? =some (some v):=by
     cases z:σ[j]? with
     | none=>rw [z] at e2;cases e2
     | some w=>rw [z] at e2;exact rV some e2
    have hfree:=hfv y (aW e1);have hm:=cu hfree;have hce:X.env.scope.names.lookup y=some .cell:=hfr _ hm rfl;obtain ⟨m,_,hl⟩:=I2.loc;obtain ⟨u,ru,look⟩:=hl j y v hN hσ (.inr (.inl hce));apply ⟨u,ru,.inr ⟨.inl (mj hXk hce hfree),?_⟩⟩
    rcases look with ⟨k,_⟩ | ⟨_,c,ec,ho⟩
    ·have k:X.env.scope.names.lookup y=some .local:=k
     rw [hce] at k;cases k
    ·obtain ⟨o,ho,hd⟩:=ho
     exact ⟨c,(c2 _ hm rfl).trans ec,o,old c o ho,hd⟩
  ·obtain ⟨v,o,ho,hd⟩:=I2.cell y c (c1 y c e)
   exact ⟨v,o,old c o ho,hd⟩
  ·have hp:p∈[(s2.heap.objs.size,lobj [] 0)]:=hp
   have e:=aw.mp hp;subst e;exact ⟨hDA,I2.hok.fresh (az _),hDC,nofs,fun v z=>by cases z⟩
  ·show ((xs.map fun _=>none)++cZ σ js).length=(xs++fr).length
   rw [au,au,aa,lenB]
 have fok:∀ {us:List ae} {n:Nat} {H':Hp},(∀ b∈fp,H' b=none)→∀ b∈fp,FpOk (gf X scope cl G.objs.size (xs++fr) s2 H2 fp) [(s2.heap.objs.size,lobj us n)] H' b:=fun {us n H'} hn b hb=>by
  obtain ⟨o,e⟩:=fpo b hb;apply ⟨hn b hb,(small b o e).1,fun hz=>(aF.mp (I2.stkSub b hz)).elim (f2 b hb).2.1 (f2 b hb).2.2.1,.inl hb,fun y c q=>(f2 b hb).2.2.2.2.1 y c (c1 y c q),fun p hp=>?_⟩;have hp:p∈[(s2.heap.objs.size,lobj us n)]:=hp;have ep:=aw.mp hp;subst ep;exact fun z=>(small b o e).2 z.symm
 have loop:∀ sB:av,(∃ t,sB={ s2 with heap:=hA,toks:=t }) →
   i9 (bt X.prog X.w) X.A (.compLoop (.ListComp elt [⟨tg,iter,ifs,0⟩] scope pos) 0 (.ref it) (.ref s2.heap.objs.size) (compEnvC scope cl G.objs.size X.env))
    (compPost (bt X.prog X.w) X.A X.xe use R (.ref s2.heap.objs.size) G.objs.size) sB:=by
  rintro sB ⟨t,rfl⟩;apply loop_any (fun k s'=>∃ i ys us n v0 H',v0.length=xs.length∧Inv (gf X scope cl G.objs.size (xs++fr) s2 H2 fp) [(s2.heap.objs.size,lobj us n)] (v0++cZ σ js) H' s'∧gw ys us∧ys.length≤bg∧tn i s'.heap∧(∀ b∈fp,H' b=none)∧W i k ys H') ?_ m0
   ⟨0,[],[],0,xs.map fun _=>none,H2,aa ..,start' t,.nil,bo _,T.keep _ _ _ st2 fun b hb o e=>old b o e,fun b hb=>(f2 b hb).1,w0⟩
  rintro k s3 ⟨i,ys,us,n,v0,H3,hv0,I3,rv,hlen,st3,fr3,w3⟩
  rcases turn i k ys H3 w3 with ⟨stop,qn⟩ | ⟨go,hlt,N',hN',step⟩
  ·apply thn (T.done (gf X scope cl G.objs.size (xs++fr) s2 H2 fp) rfl rfl rfl hc i _ s3 _ H3 _ I3 (fok fr3) st3 stop) fun r s4 ⟨hr,I4⟩=>?_
   subst hr;obtain ⟨mC,hnC,_⟩:=id I4.loc;obtain ⟨pD,nD,_,_,_⟩:=I4.pin (s2.heap.objs.size,lobj us n) (by show _∈[]++[_];simp);have pD:s4.heap.get? s2.heap.objs.size=some (lobj us n):=pD;have nD:H3 s2.heap.objs.size=none:=nD;have nC:H3 G.objs.size=none:=I4.free;have D2:∀ b o,s2.heap.get? b=some o→b≠s2.heap.objs.size:=fun b o e=>(small b o e).2
   have base4:Un (frs X.stack) fp H2 H3 s2.heap s4.heap:=I4.base;have u4:Un (frs X.stack) fp H2 (upd H3 s2.heap.objs.size (.lst ys)) s2.heap s4.heap :=
    {keep:=base4.keep
     slot:=base4.slot
     free:=fun b o e nb hx'=>by rw [bq (D2 b o e)];exact base4.free b o e nb hx'
     there:=base4.there
     tups:=fun b xs e=>by have q:=base4.tups b xs e;rw [bq (bF q nD)];exact q
     frzs:=fun b o u e=>by have q:=base4.frzs b o u e;rw [bq (bF q nD)];exact q
     tbls:=fun b ps e=>by obtain ⟨more,q⟩:=base4.tbls b ps e;exact ⟨more,by rw [bq (bF q nD)];exact q⟩ }
   have I5:Inv X aR σ (upd H3 s2.heap.objs.size (.lst ys)) s4:=I2.call' (s':=s4) (ch:=fp) I4.os u4 (I4.hok.take nD ⟨hlen,us,n,rv,pD⟩) I4.bare fun b hb=>by
    obtain ⟨_,g1,_,g3,g4,g5⟩:=f2 b hb;exact ⟨g3,g1,g4,g5⟩
   have locC:G.objs.size≠X.env.locals:=fun z=>by
    obtain ⟨_,⟨o,_,_,ho,_⟩,_⟩:=id I2.loc;exact (small _ o ho).1 z.symm
   have fsC:G.objs.size ∉ X.fs:=fun hz=>by
    obtain ⟨_,o,ho,_⟩:=I2.ok.funs.mem hz;have:=aM (aI ho) I2.sz;rw [hC] at this;exact fM _ (Nat.lt_of_succ_lt this)
   have pinX:∀ p∈X.pn++aR,p.1≠G.objs.size:=fun p hp=>(small _ _ (I2.pin p hp).1).1
   have nCu:(upd H3 s2.heap.objs.size (.lst ys)) G.objs.size=none:=by rw [bq (cH hDC)];exact nC
   apply fin s4 _ _ _ mC hnC I5 nCu locC fsC pinX (fun y c q z=>?_) (aN I2.sz (by rw [hC];exact Nat.le_succ _)) (qn _ nD);obtain ⟨v,o,ho,_⟩:=I2.cell y c q;exact (small c o ho).1 z
  ·apply thn (T.item (gf X scope cl G.objs.size (xs++fr) s2 H2 fp) rfl rfl rfl hc i _ s3 _ H3 _ I3 (fok fr3) st3 go) fun r s4 ⟨u,hr,h4⟩=>?_
   subst hr;apply thn h4 fun _ s5 ⟨v,H5,I5,r5,y5,st5,fr5⟩=>?_
   have I5':=I5.pinned (fok fr5) (T.obj _ _ st5);apply cf (hg cl G.objs.size s2 H2 fp _ s5 _ H5 v u _ I5' r5 (step v H5 y5 v0 hv0)) (fun _ s6 ⟨σ6,H6,I6,⟨w1,hw1,e6⟩,q6⟩=>?_) fun _ _ f=>f.elim
   subst e6;apply cf ((hb cl G.objs.size s2 H2 fp).2 _ s6 _ H6 _ I6 q6) (fun b s7 ⟨H7,I7,q7⟩=>?_) fun _ _ f=>f.elim
   have back:∀ {s8:av} {H8:Hp},Inv (gf X scope cl G.objs.size (xs++fr) s2 H2 fp) ([(s2.heap.objs.size,lobj us n)]++pinsAt fp s5.heap) (w1++cZ σ js) H8 s8→tn (i+1) s8.heap∧∀ b∈fp,H8 b=none:=fun {s8 H8} I8=>by
    apply ⟨T.keep _ _ _ st5 fun b hb o e=>(I8.pin (b,o) (aA _ (aA _ (mP hb e)))).1,fun b hb=>?_⟩;obtain ⟨o,e,_⟩:=T.obj _ _ st5 b hb;exact (I8.pin (b,o) (aA _ (aA _ (mP hb e)))).2.1
   cases b with
   | false =>
    obtain ⟨m',hm,w7⟩:=hN' _ _ q7;obtain ⟨t7,n7⟩:=back I7;exact ⟨m',hm,i+1,ys,us,n,w1,H7,hw1,I7.unpinned,rv,hlen,t7,n7,w7⟩
   | true =>
    apply cf ((hb cl G.objs.size s2 H2 fp).1 _ s7 _ H7 _ I7 q7) (fun y' s8 ⟨y,H8,I8,r8,q8⟩=>?_) fun _ _ f=>f.elim
    obtain ⟨m',hm,w8⟩:=hN' _ _ q8;obtain ⟨t8,n8⟩:=back I8;have I8':=I8.unpinned;obtain ⟨pD,nD,_,_,_⟩:=I8'.pin (s2.heap.objs.size,lobj us n) (by show _∈[]++[_];simp);have pD:s8.heap.get? s2.heap.objs.size=some (lobj us n):=pD;have nD:H8 s2.heap.objs.size=none:=nD;apply append_at pD (fun h9 hs9 e9=>?_) (by rw [aG,←rv.length];exact hlen);have e9:h9.get? s2.heap.objs.size=some (lobj (us++[y']) (n+1)):=by rw [e9];simp [lobj]
    have J0:Inv (gf X scope cl G.objs.size (xs++fr) s2 H2 fp) [] (w1++cZ σ js) H8 s8:=I8'.pins_of fun p hp=>rQ hp ∅
    have J9:Inv (gf X scope cl G.objs.size (xs++fr) s2 H2 fp) [] (w1++cZ σ js) H8 { s8 with heap:=h9,toks:=s8.toks } :=
     J0.turned (it:=s2.heap.objs.size) (fun b o hb' e=>hs9.extBut b o hb' e) nD hDC (.inr (az _)) (fun y0 c q z=>by
      obtain ⟨o,e⟩:=celo y0 c q;exact (small c o e).2 z) fun p hp=>rQ (show p∈([]:List (ak×Obj)) from hp) ∅
    apply ⟨m',hm,i+1,ys++[y],us++[y'],n+1,w1,H8,hw1,J9.pins_of fun p hp=>?_,rv.append (.cons r8 .nil),(by rw [au,dH];exact hlt),T.keep _ _ _ t8 fun b hb' o e=>hs9.extBut b o (by
     obtain ⟨o',e'⟩:=fpo b hb';exact (small b o' e').2) e,n8,w8⟩
    have ep:=aw.mp hp;subst ep;exact ⟨e9,nD,hDC,nofs,fun v z=>by cases z⟩
 exact codeAny_compStart_list (loop _ ⟨_,rfl⟩) (T.self _ 0 _ _ _ (T.keep _ _ _ st2 fun b hb o e=>old b o e) (loop _ ⟨_,rfl⟩))
def pe_compC {xs:List Str}
  (hc:X.calm=true) (hi:PI X tg iter wi)
  (iD:∀ y∈scope.names,y.2≠ .cell) (mH:scope.kind= .function) (k9:∀ y∈scope.names,y.2= .local→scope.names.lookup y.1=some .local)
  (hfr:∀ y∈scope.names,y.2= .free→X.env.scope.names.lookup y.1=some .cell) (hjs:js.map (fun j=>X.N[j]?)=fr.map some) (hfv:∀ y∈fr,scope.names.lookup y=some .free)
  (hg:∀ cl C s' H' ex,PG (gf X scope cl C (xs++fr) s' H' ex) tg g)
  (hb:∀ cl C s' H' ex,PE (gf X scope cl C (xs++fr) s' H' ex) elt te∧PTs (gf X scope cl C (xs++fr) s' H' ex) ifs tt)
  (hCW:∀ σ Q J H1,CW σ Q J H1→qK xs.length g js tt te σ Q J H1) (hs:∀ z,fT iter X.env z=fQ z:=by intro _;rfl) :
  PE X (.ListComp elt [⟨tg,iter,ifs,0⟩] scope pos) (fun σ H Q=>wi σ H fun J H1=>CW σ Q J H1):=by
 intro aR s σ H Q I h;rw [eval_ListComp];exact comp_core (use:=none) (R:=EP X aR σ Q) hc hi iD mH k9 hfr hjs hfv hg hb hCW I h (fun s4 H5 D C mC n I5 nC lC fC pC cC sC q=>⟨mC,n,fun h' hsb=>⟨.ref D,H5,I5.turned (t':=s4.toks) (it:=C) (fun b o hb' e=>hsb.extBut b o hb' e) nC lC (.inr sC) cC pC,rfl,q⟩⟩) hs
def compW_T {Q:VK}{J:It}(h:CompW js tt te σ Q J H1):qK 1 (oK 0) js tt te σ Q J H1:=by
 obtain ⟨W,w0,turn⟩:=h;apply ⟨W,w0,fun i m ys H2 hw=>?_⟩
 rcases turn i m ys H2 hw with h | ⟨h1,h2,N,h3,h4⟩
 ·exact .inl h
 ·apply .inr ⟨h1,h2,N,h3,fun x H3 hy v0 hv=>?_⟩
  obtain ⟨w,rfl⟩:∃ w,v0=[w]:=by
   obtain _ | ⟨w,v0⟩:=v0
   ·cases hv
   ·obtain _ | ⟨z,v0⟩:=v0
    ·exact ⟨w,rfl⟩
    ·cases hv
  exact ⟨⟨[some x],rfl,rfl⟩,h4 x H3 hy⟩
def gW {px:Pos}
  (hc:X.calm=true) (hi:PI X (.Name x px) iter wi)
  (iD:∀ y∈scope.names,y.2≠ .cell) (mH:scope.kind= .function) (k9:∀ y∈scope.names,y.2= .local→scope.names.lookup y.1=some .local) (hx:scope.names.lookup x=some .local)
  (hfr:∀ y∈scope.names,y.2= .free→X.env.scope.names.lookup y.1=some .cell) (hnd:(x::fr).Nodup) (hjs:js.map (fun j=>X.N[j]?)=fr.map some) (hfv:∀ y∈fr,scope.names.lookup y=some .free)
  (hb:∀ cl C s' H' ex,PE (gf X scope cl C (x::fr) s' H' ex) elt te∧PTs (gf X scope cl C (x::fr) s' H' ex) ifs tt)
  (hs:∀ z,fT iter X.env z=fQ z:=by intro _;rfl) :
  PE X (.ListComp elt [⟨.Name x px,iter,ifs,0⟩] scope pos) (tComp wi js tt te) :=
 pe_compC (xs:=[x]) (g:=oK 0) hc hi iD mH k9 hfr hjs hfv (fun _ _ _ _ _=>oJ hnd rfl (.inl (eV hx)) (.inr (eV hx))) hb (fun _ _ _ _ h=>compW_T h) hs
def kQ {Q:VK}(Pv:Nat→List V→Hp→Prop)(h0:Pv 0 [] H)(hl:∀ i ys H,i≤xs.length→Pv i ys H→SqT K H a xs∧ys.length≤i)(hz:xs.length≤bg)
  (hs:∀ i x ys H,xs[i]? =some x→Pv i ys H→tt (some x::cZ σ js) H fun b H4=>if b=true then te (some x::cZ σ js) H4 fun y H5=>Pv (i+1) (ys++[y]) H5 else Pv (i+1) ys H4)
  (hd:∀ ys H,Pv xs.length ys H→∀ D,H D=none→Q (.ref D) (upd H D (.lst ys))):CompW js tt te σ Q (Itt K a) H:=by
 apply ⟨fun i m ys H=>i≤xs.length∧m=xs.length - i∧Pv i ys H,⟨_,bo _,rfl,h0⟩,fun i m ys H2 ⟨hi,hm,hp⟩=>?_⟩;obtain ⟨hq,hy⟩:=hl i ys H2 hi hp
 by_cases e:i=xs.length
 ·subst e
  exact .inl ⟨⟨xs,hq,az _⟩,hd ys H2 hp⟩
 ·have hlt:i<xs.length:=fH hi e
  apply .inr ⟨⟨xs,_,hq,gE hlt⟩,⋯,Pv (i+1),fun ys' H' hp'=>⟨xs.length - (i+1),⋯,⋯,rfl,hp'⟩,fun x H3 hy3=>?_⟩;obtain ⟨e3,hx⟩:=hy3;subst e3;exact hs i x ys H3 (hx xs hq) hp
def nextT_item {j t:ak}{its}{v:ae}(jt:s.heap.IsTupleIter j t i)(tt:s.heap.IsTuple t its)(hv:its[i]? =some v)
  (q:∀ g,g.IsTupleIter j t (i+1)→cy j s.heap g→Q v { s with heap:=g }):aU (bt prog w) A (cV (.ref j)) Q E s:=by
 obtain ⟨ob,e1,e2,e3⟩:=id jt;obtain ⟨ot,g1,_,k,g2⟩:=tt;unfold cV;apply ai (dQ (name:=cq "__next__") jt.typeIs ji (gk ji jt.typeIs F.entry_tuple_iterator_next ?_ (F.args_tuple_iterator_next_1 _)));show aU _ _ (field (.ref j) 0 >>= _) _ _ s;apply ai (cU e1 e3 (x:= .ref t) rfl ?_);show aU _ _ (ite ((ae.ref t == ae.none)=true) _ _) _ _ s;rw [rN (fun z:(ae.ref t == ae.none)=true=>aZ z)];show aU _ _ (field (.ref j) 1 >>= _) _ _ s;apply ai (cU e1 e3 (x:= .int i 0) rfl ?_);show aU _ _ (seqItems? (.ref t) >>= _) _ _ s;apply ai (dY g1 g2 ?_);simp only [cb,hv];apply ai (wpAny_setField e1 e3 ∅ (aL ⟨v,rfl,aL (q _ ?_ (gn ..))⟩));exact ⟨_,bL.get?_update_self _ e1 (Obj.isFreed_of_fields (Obj.data_mapFields e3 _)),(Obj.cls_mapFields ..).trans e2,by rw [Obj.data_mapFields e3];simp [jo]⟩
def nextT_end {j t:ak}{its}(hh:A.handled=none)(jt:s.heap.IsTupleIter j t i)(tt:s.heap.IsTuple t its)(hv:its[i]? =none)
  (q:∀ g x,bL.ExtBut j s.heap g→(∃ o,g.get? x=some o∧o.cls= .type "StopIteration")→E (.ref x) { s with heap:=g }):aU (bt prog w) A (cV (.ref j)) Q E s:=by
 obtain ⟨ob,e1,e2,e3⟩:=id jt;obtain ⟨ot,g1,_,k,g2⟩:=tt;unfold cV;apply ai (dQ (name:=cq "__next__") jt.typeIs ji (gk ji jt.typeIs F.entry_tuple_iterator_next ?_ (F.args_tuple_iterator_next_1 _)));show aU _ _ (field (.ref j) 0 >>= _) _ _ s;apply ai (cU e1 e3 (x:= .ref t) rfl ?_);show aU _ _ (ite ((ae.ref t == ae.none)=true) _ _) _ _ s;rw [rN (fun z:(ae.ref t == ae.none)=true=>aZ z)];show aU _ _ (field (.ref j) 1 >>= _) _ _ s;apply ai (cU e1 e3 (x:= .int i 0) rfl ?_);show aU _ _ (seqItems? (.ref t) >>= _) _ _ s;apply ai (dY g1 g2 ?_);simp only [cb,hv];apply ai (wpAny_rule (ai (wpAny_setField e1 e3 ∅ ?_)));show aU _ _ (newExc (.type "StopIteration") [] >>= _) _ _ _;apply ai ?_;simp only [newExc,newTuple];apply ai (eG ?_ (by size_fits));apply ai (m:=firstArgMember _ _) (wpAny_of_eq (a:=ae.none) (by first | rfl | (unfold firstArgMember;rfl)) ?_);apply eG ?_ (by size_fits);simp only [raiseNew];apply ai (wpAny_handled ?_)
 first | rw [show A.in1.handled=none from hh] | rw [hh]
 exact ai (aL (wpAny_throw (q _ _ (((gn ..).extBut.push _).push _) ⟨_,aQ _ rfl,rfl⟩)))
def Inv.turnAll {g:bL}(I:Inv X aR σ H s)(hf:∀ b∈ch,FpOk X aR H b)
  (k:∀ b o,b ∉ ch→s.heap.get? b=some o→g.get? b=some o) (hH:∀ b u,H b=some u→H' b=some u) (hN:∀ b o,s.heap.get? b=some o→H b=none→H' b=none) (hok:HOk X.prog X.w H' g):Inv X aR σ H' { s with heap:=g }:=by
 apply I.step (g':=s.gens) (d':=s.drawn) (t':=s.toks) (ch:=ch) (fun b hb=>?_) (fun b o _ _ hc e _=>k b o hc e) (fun b o _ _ hc e _=>⟨o.slots,k b o hc e⟩) (fun b o _ e n=>hN b o e n)
  (fun b o hc e=>⟨o,k b o hc e⟩) (fun b xs e=>hH b _ e) (fun b o u e=>hH b _ e) (fun b ps e=>⟨#[],by rw [hH b _ e];simp⟩) (fun m hm=>?_) hok I.bare
 ·obtain ⟨_,f1,_,f3,f4,f5⟩:=hf b hb
  exact ⟨f3,f1,f4,f5⟩
 ·obtain ⟨o,es,ep,ho,r⟩:=hm
  exact ⟨o,es,ep,k _ o (fun hb=>(hf _ hb).2.1 rfl) ho,r⟩
def bG.put (e:bG H H1){p:ak}(h:H1 p=none):bG H (upd H1 p o):=fun b u q=>by rw [bq (bF (e b u q) h)];exact e b u q
def Inv.big (I:Inv X aR σ H s):jk<s.heap.objs.size:=by
 have h:bO<s.heap.objs.size:=(I.mod.glob.keeps I.bk).lt;exact Nat.lt_trans ↥0 h
def dk_empty (h:bL)(hb:jk<h.objs.size):jz P w H (h.push { cls:= .type "dict",data:= .dict #[] }) h.objs.size (.dK []) :=
 ⟨bo _,beq_eq_false_iff_ne.mpr (cH (bB hb)),[],.nil,bL.DictOf.new h⟩
def tDNewK:TE:=fun _ H Q=>∀ p,H p=none→Q (.ref p) (upd H p (.dK []))
def pe_dnewK:PE X (.Dict [] [] pos) tDNewK:=fun aR s σ H Q I h =>
 wpAny_Dict_empty ⟨.ref s.heap.objs.size,_,I.laid (a:=s.heap.objs.size) (o:= .dK []) (t':=s.toks) (fun _ _ q=>aq _ q) (az _) (dk_empty s.heap I.big),rfl,h _ (I.hok.fresh (az _))⟩
def PE.imp {t t':TE}(h:PE X e t)(i:∀ σ H Q,t' σ H Q→t σ H Q):PE X e t':=fun aR s σ H Q I q=>h aR s σ H Q I (i σ H Q q)
def OpR.imp {f:ae→ae→Sem ae}{r':R2}(h:OpR X f r)(i:∀ x y H Q,r' x y H Q→r x y H Q):OpR X f r':=fun aR s σ H x y v u Q I rx ry q=>h aR s σ H x y v u Q I rx ry (i x y H Q q)
def jO.imp {f:ae}{r r':List V→Hp→VK→Prop}(h:jO X f r)(i:∀ xs H Q,r' xs H Q→r xs H Q):jO X f r':=fun aR s σ H xs us Q I rv q=>h aR s σ H xs us Q I rv (i xs H Q q)
def tACut (t:TA):TA:=fun σ H R=>∃ R':List V→Hp→Prop,(∀ xs H,R' xs H→R xs H)∧t σ H R'
def PA.cut (h:PA X es t):PA X es (tACut t):=fun pos aR s σ H Q I ⟨R',i,q⟩ =>
 thn (h pos aR s σ H R' I q) fun us s' ⟨vs,H',I',rv,q'⟩=>⟨vs,H',I',rv,i _ _ q'⟩
def New (H:Hp)(o:HO)(Q:VK):Prop:=∀ p H',bG H H'→H' p=some o→Q (.ref p) H'
def New.of {Q:VK}(h:New H o Q):∀ p,H p=none→Q (.ref p) (upd H p o):=fun p hp=>h p _ (bG.put (bG.refl H) hp) aV
def tTupA (t:TA):TE:=fun σ H Q=>t σ H fun xs H1=>xs.length≤bg∧New H1 (.tup xs) Q
def tLstA (t:TA):TE:=fun σ H Q=>t σ H fun xs H1=>xs.length≤bg∧New H1 (.lst xs) Q
def dB {x1}(h:PA X es t):PE X (.Tuple es x1 pos) (tTupA t):=(pe_tup h.cut).imp fun _ _ _ q=>⟨_,fun _ _ z=>⟨z.1,z.2.of⟩,q⟩
def ny (h:PA X es t):PE X (.List es pos) (tLstA t):=(jv h.cut).imp fun _ _ _ q=>⟨_,fun _ _ z=>⟨z.1,z.2.of⟩,q⟩
def op_catL:OpR X (iW .Add) (fun x y H Q=>∃ l b xs zs,x= .ref l∧y= .ref b∧H l=some (.lst xs)∧H b=some (.lst zs)∧xs.length+zs.length≤bg∧New H (.lst (xs++zs)) Q) :=
 op_cat.imp fun _ _ _ _ ⟨l,b,xs,zs,e1,e2,e3,e4,e5,q⟩=>⟨l,b,xs,zs,e1,e2,e3,e4,e5,q.of⟩
inductive Dt where
 | non | bl (b:Bool) | int (i:Int) | str (x:Str) | tup (ds:List Dt) | oth (T:String)
mutual
inductive IsD (H:Hp):V→Dt→Prop where
 | non:IsD H .non .non
 | bl (b:Bool):IsD H (.bl b) (.bl b)
 | int (i:Int):IsD H (.int i) (.int i)
 | str (x:Str):IsD H (.str x) (.str x)
 | tup {a:ak} {xs:List V} {ds:List Dt} (h:H a=some (.tup xs)) (r:dW H xs ds):IsD H (.ref a) (.tup ds)
 | lst {a:ak} {xs:List V} (h:H a=some (.lst xs)):IsD H (.ref a) (.oth "list")
 | dct {a:ak} {kvs:List (Key×V)} (h:H a=some (.dK kvs)):IsD H (.ref a) (.oth "dict")
inductive dW (H:Hp):List V→List Dt→Prop where
 | nil:dW H [] []
 | cons {x:V} {d:Dt} {xs:List V} {ds:List Dt} (h:IsD H x d) (r:dW H xs ds):dW H (x::xs) (d::ds)
end
mutual
def IsD.same {H H':Hp}(e:bG H H'):∀ {v:V} {d:Dt},IsD H v d→IsD H' v d
 | _,_,.non=> .non
 | _,_,.bl b=> .bl b
 | _,_,.int i=> .int i
 | _,_,.str x=> .str x
 | _,_,.tup h r=> .tup (e _ _ h) (dW.same e r)
 | _,_,.lst h=> .lst (e _ _ h)
 | _,_,.dct h=> .dct (e _ _ h)
def dW.same {H H':Hp}(e:bG H H'):∀ {vs:List V} {ds:List Dt},dW H vs ds→dW H' vs ds
 | _,_,.nil=> .nil
 | _,_,.cons h r=> .cons (IsD.same e h) (dW.same e r)
end
mutual
def IsD.inj {H:Hp}:∀ {v:V} {d e:Dt},IsD H v d→IsD H v e→d=e
 | _,_,_,.non,.non=>rfl
 | _,_,_,.bl _,.bl _=>rfl
 | _,_,_,.int _,.int _=>rfl
 | _,_,_,.str _,.str _=>rfl
 | _,_,_,.tup h r,q=>by
  cases q with
  | tup h' r'=>rw [h] at h';cases h';rw [dW.inj r r']
  | lst h'=>rw [h] at h';cases h'
  | dct h'=>rw [h] at h';cases h'
 | _,_,_,.lst h,q=>by
  cases q with
  | tup h' r'=>rw [h] at h';cases h'
  | lst h'=>rfl
  | dct h'=>rw [h] at h';cases h'
 | _,_,_,.dct h,q=>by
  cases q with
  | tup h' r'=>rw [h] at h';cases h'
  | lst h'=>rw [h] at h';cases h'
  | dct h'=>rfl
def dW.inj {H:Hp}:∀ {vs:List V} {ds es:List Dt},dW H vs ds→dW H vs es→ds=es
 | _,_,_,.nil,.nil=>rfl
 | _,_,_,.cons h r,.cons h' r'=>by rw [IsD.inj h h',dW.inj r r']
end
def dW.length:∀ {xs:List V} {ds:List Dt},dW H xs ds→xs.length=ds.length
 | _,_,.nil=>rfl
 | _,_,.cons _ r=>by rw [aP,aP,dW.length r]
def dW.get:∀ {xs:List V} {ds:List Dt} {i:Nat} {x:V},dW H xs ds→xs[i]? =some x→∃ d,ds[i]? =some d∧IsD H x d
 | _,_,_,_,.nil,e=>by simp at e
 | _,_,0,_,.cons h _,e=>by simp at e;subst e;exact ⟨_,rfl,h⟩
 | _,_,i+1,x,.cons _ r,e=>by
  obtain ⟨d,h1,h2⟩:=dW.get (i:=i) (x:=x) r (by simpa using e);exact ⟨d,by simpa using h1,h2⟩
def dW.at:∀ {xs:List V} {ds:List Dt} {i:Nat} {d:Dt},dW H xs ds→ds[i]? =some d→∃ x,xs[i]? =some x∧IsD H x d
 | _,_,_,_,.nil,e=>by simp at e
 | _,_,0,_,.cons h _,e=>by simp at e;subst e;exact ⟨_,rfl,h⟩
 | _,_,i+1,d,.cons _ r,e=>by
  obtain ⟨x,h1,h2⟩:=dW.at (i:=i) (d:=d) r (by simpa using e);exact ⟨x,by simpa using h1,h2⟩
def dW.append:∀ {xs ys:List V} {ds es:List Dt},dW H xs ds→dW H ys es→dW H (xs++ys) (ds++es)
 | _,_,_,_,.nil,s=>s
 | _,_,_,_,.cons h r,s=> .cons h (dW.append r s)
def dW.ints:∀ (ns:List Int),dW H (ns.map V.int) (ns.map Dt.int)
 | []=> .nil
 | n::r=> .cons (.int n) (dW.ints r)
def dW.ints_of:∀ {xs:List V} {ns:List Int},dW H xs (ns.map Dt.int)→xs=ns.map V.int
 | _,[],.nil=>rfl
 | _,n::r,.cons h q=>by cases h;rw [dW.ints_of q];rfl
def IsD.tup_of {ds:List Dt}(h:IsD H v (.tup ds)):∃ a xs,v= .ref a∧H a=some (.tup xs)∧dW H xs ds:=by
 cases h with
 | tup h r=>exact ⟨_,_,rfl,h,r⟩
def Dt.ty:Dt→String
 | .non => "NoneType" | .bl _ => "bool" | .int _ => "int" | .str _ => "str" | .tup _ => "tuple" | .oth T=>T
def IsD.tyn {d:Dt}(h:IsD H v d):tyn H v=some d.ty:=by
 cases h with
 | tup h r=>simp only [L2.tyn];rw [h];rfl
 | lst h=>simp only [L2.tyn];rw [h];rfl
 | dct h=>simp only [L2.tyn];rw [h];rfl
 | _=>rfl
mutual
def eqD:Dt→Dt→Bool
 | .non,.non=>true
 | .bl a,.bl b=>a == b
 | .bl a,.int b=>(if a then 1 else 0) == b
 | .int a,.bl b=>a == (if b then 1 else 0)
 | .int a,.int b=>a == b
 | .str a,.str b=>a == b
 | .tup xs,.tup ys=>qO xs ys
 | _,_=>false
def qO:List Dt→List Dt→Bool
 | [],[]=>true
 | x::xs,y::ys=>eqD x y && qO xs ys
 | _,_=>false
end
mutual
def pl:Dt→Bool
 | .oth _=>false
 | .tup ds=>pls ds
 | _=>true
def pls:List Dt→Bool
 | []=>true
 | d::ds=>pl d && pls ds
end
mutual
def dep:Dt→Nat
 | .tup ds=>deps ds+1
 | _=>0
def deps:List Dt→Nat
 | []=>0
 | d::ds=>max (dep d) (deps ds)
end
mutual
def eqD_refl:∀ d:Dt,pl d=true→eqD d d=true
 | .non,_=>by unfold eqD;rfl
 | .bl b,_=>by unfold eqD;exact beq_self_eq_true b
 | .int i,_=>by unfold eqD;exact beq_self_eq_true i
 | .str x,_=>by unfold eqD;exact beq_self_eq_true x
 | .tup ds,h=>by
  unfold eqD;unfold pl at h;exact eqDs_refl ds h
 | .oth T,h=>by unfold pl at h;cases h
def eqDs_refl:∀ ds:List Dt,pls ds=true→qO ds ds=true
 | [],_=>by unfold qO;rfl
 | d::ds,h=>by
  unfold qO;unfold pls at h;rw [cz] at h;rw [eqD_refl d h.1,eqDs_refl ds h.2];rfl
end
def eqD_tup (xs ys:List Dt):eqD (.tup xs) (.tup ys)=qO xs ys:=by unfold eqD;rfl
def pA:∀ (ds es:List Dt),qO ds es=((aJ (min ds.length es.length)).all (fun j=>eqD (ds.getD j .non) (es.getD j .non)) && ds.length == es.length)
 | [],[]=>by unfold qO;rfl
 | [],e::es=>by unfold qO;simp
 | d::ds,[]=>by unfold qO;simp
 | d::ds,e::es=>by
  unfold qO;rw [pA ds es];rw [aP,aP];have h1:min (ds.length+1) (es.length+1)=min ds.length es.length+1:=by lia
  rw [h1,List.range_succ_eq_map,List.all_cons,List.all_map];have h2:((ds.length+1) == (es.length+1))=(ds.length == es.length):=by rw [kK];simp
  rw [h2,Bool.and_assoc];rfl
def nv:∀ {ds:List Dt} {i:Nat} {d:Dt},pls ds=true→ds[i]? =some d→pl d=true
 | [],_,_,_,e=>by simp at e
 | d::ds,0,_,h,e=>by
  unfold pls at h;rw [cz] at h;simp at e;subst e;exact h.1
 | d::ds,i+1,x,h,e=>by
  unfold pls at h;rw [cz] at h;exact nv (i:=i) h.2 (by simpa using e)
def pB:∀ {ds:List Dt} {i:Nat} {d:Dt},ds[i]? =some d→dep d≤deps ds
 | [],_,_,e=>by simp at e
 | d::ds,0,_,e=>by
  simp at e;subst e;unfold deps;exact Nat.le_max_left _ _
 | d::ds,i+1,x,e=>by
  have:=pB (ds:=ds) (i:=i) (d:=x) (by simpa using e);unfold deps;exact aN this (Nat.le_max_right _ _)
def Inv.tupD {ds:List Dt}(I:Inv X aR σ H s)(h:IsD H v (.tup ds))(r:gq v u):∃ a its,u= .ref a∧v= .ref a∧s.heap.IsTuple a its.toArray∧∃ xs,gw xs its∧dW H xs ds∧its.length=ds.length:=by
 obtain ⟨a,xs,rfl,ha,hd⟩:=h.tup_of;cases (show u=ae.ref a from r);obtain ⟨its,rv,p,_⟩:=I.tuple (SqT.of (K:=X.K) ha);exact ⟨a,its,rfl,rfl,p,xs,rv,hd,by rw [←rv.length,hd.length]⟩
def eqAt_D:∀ (n:Nat) {A:bS} {x y:V} {u v:ae} {d e:Dt},dep d≤n→A.units+n<cLine→Inv X aR σ H s→IsD H x d→IsD H y e→gq x u→gq y v→pl d=true→pl e=true→SeqAt.EqAt A s u v (eqD d e):=by
 intro n
 induction n with
 | zero =>
  intro A x y u v d e hd hu I ix iy rx ry px py;cases ix with
  | tup h r=>unfold dep at hd;lia
  | lst h=>unfold pl at px;cases px
  | dct h=>unfold pl at px;cases px
  | non =>
   cases iy with
   | tup h' r' =>
    obtain ⟨a,its,rfl,_,hb,_⟩:=I.tupD (.tup h' r') ry;cases rx;exact SeqAt.EqAt.none_tuple hb ⋯
   | lst h'=>unfold pl at py;cases py
   | dct h'=>unfold pl at py;cases py
   | non=>exact jY rx ry rfl rfl
   | bl b=>exact jY rx ry rfl rfl
   | int b=>exact jY rx ry rfl rfl
   | str b=>exact jY rx ry rfl rfl
  | bl b =>
   cases iy with
   | tup h' r' =>
    obtain ⟨a,its,rfl,_,hb,_⟩:=I.tupD (.tup h' r') ry;cases rx;exact SeqAt.EqAt.bool_tuple b hb ⋯
   | lst h'=>unfold pl at py;cases py
   | dct h'=>unfold pl at py;cases py
   | non=>exact jY rx ry rfl rfl
   | bl b=>exact jY rx ry rfl rfl
   | int b=>exact jY rx ry rfl rfl
   | str b=>exact jY rx ry rfl rfl
  | int i =>
   cases iy with
   | tup h' r' =>
    obtain ⟨a,its,rfl,_,hb,_⟩:=I.tupD (.tup h' r') ry;obtain ⟨t,rfl⟩:=rx;exact SeqAt.EqAt.int_tuple i t hb ⋯
   | lst h'=>unfold pl at py;cases py
   | dct h'=>unfold pl at py;cases py
   | non=>exact jY rx ry rfl rfl
   | bl b=>exact jY rx ry rfl rfl
   | int b=>exact jY rx ry rfl rfl
   | str b=>exact jY rx ry rfl rfl
  | str z =>
   cases iy with
   | tup h' r' =>
    obtain ⟨a,its,rfl,_,hb,_⟩:=I.tupD (.tup h' r') ry;obtain ⟨t,rfl⟩:=rx;exact SeqAt.EqAt.str_tuple z t hb ⋯
   | lst h'=>unfold pl at py;cases py
   | dct h'=>unfold pl at py;cases py
   | non=>exact jY rx ry rfl rfl
   | bl b=>exact jY rx ry rfl rfl
   | int b=>exact jY rx ry rfl rfl
   | str b=>exact jY rx ry rfl rfl
 | succ n ih =>
  intro A x y u v d e hd hu I ix iy rx ry px py
  by_cases hz:dep d=0
  ·
   cases ix with
   | tup h r=>unfold dep at hz;lia
   | lst h=>unfold pl at px;cases px
   | dct h=>unfold pl at px;cases px
   | non=>exact ih (by rw [hz];exact bo _) ⋯ I .non iy rx ry px py
   | bl b=>exact ih (by rw [hz];exact bo _) ⋯ I (.bl b) iy rx ry px py
   | int i=>exact ih (by rw [hz];exact bo _) ⋯ I (.int i) iy rx ry px py
   | str z=>exact ih (by rw [hz];exact bo _) ⋯ I (.str z) iy rx ry px py
  ·cases ix with
   | lst h=>unfold pl at px;cases px
   | dct h=>unfold pl at px;cases px
   | non=>exact rQ (by unfold dep;rfl) hz
   | bl b=>exact rQ (by unfold dep;rfl) hz
   | int i=>exact rQ (by unfold dep;rfl) hz
   | str z=>exact rQ (by unfold dep;rfl) hz
   | tup h r =>
    rename_i a xs ds;cases (show u=ae.ref a from rx);obtain ⟨its,rv,p,_⟩:=I.tuple (SqT.of (K:=X.K) h);have p:s.heap.IsTuple a its.toArray:=p;cases iy with
    | lst h'=>unfold pl at py;cases py
    | dct h'=>unfold pl at py;cases py
    | non=>cases ry;exact SeqAt.EqAt.tuple_none p ⋯
    | bl b=>cases ry;exact SeqAt.EqAt.tuple_bool b p ⋯
    | int b=>obtain ⟨t,rfl⟩:=ry;exact SeqAt.EqAt.tuple_int b t p ⋯
    | str b=>obtain ⟨t,rfl⟩:=ry;exact SeqAt.EqAt.tuple_str b t p ⋯
    | tup h' r' =>
     rename_i b ys es;cases (show v=ae.ref b from ry)
     by_cases hab:a=b
     ·subst hab
      have e1:Dt.tup ds=Dt.tup es:=IsD.inj (.tup h r) (.tup h' r');rw [e1];rw [eqD_refl _ py];exact SeqAt.EqAt.same _
     ·obtain ⟨its2,rv2,p2,_⟩:=I.tuple (SqT.of (K:=X.K) h')
      have p2:s.heap.IsTuple b its2.toArray:=p2;have l1:its.length=ds.length:=by rw [←rv.length,r.length]
      have l2:its2.length=es.length:=by rw [←rv2.length,r'.length]
      have pd:pls ds=true:=by unfold pl at px;exact px
      have pe:pls es=true:=by unfold pl at py;exact py
      have hd':deps ds≤n:=by unfold dep at hd;lia
      have key:=SeqAt.RcAt.tuples (A:=A) (e:=fun j=>eqD (ds.getD j .non) (es.getD j .non)) p p2 ⋯ fun j h1 h2=>by
       have h1':j<its.length:=by simpa using h1
       have h2':j<its2.length:=by simpa using h2
       obtain ⟨x',ex,dx⟩:=r.at (i:=j) (d:=ds[j]'⋯) (gE ⋯);obtain ⟨y',ey,dy⟩:=r'.at (i:=j) (d:=es[j]'⋯) (gE ⋯);obtain ⟨u',eu,ru⟩:=rv.get ex;obtain ⟨v',ev,rw'⟩:=rv2.get ey;have eu':its[j]=u':=by rw [gE h1'] at eu;exact bE eu
       have ev':its2[j]=v':=by rw [gE h2'] at ev;exact bE ev
       have g1:ds.getD j .non=ds[j]'⋯:=by rw [af,gE ⋯];rfl
       have g2:es.getD j .non=es[j]'⋯:=by rw [af,gE ⋯];rfl
       show SeqAt.EqAt A.in1 s (its.toArray[j]) (its2.toArray[j]) (eqD (ds.getD j .non) (es.getD j .non));rw [gC,gC,eu',ev',g1,g2];exact ih (aN (pB (gE ⋯)) hd') (by show A.units+1+n<cLine;lia) I dx dy ru rw' (nv pd (gE ⋯)) (nv pe (gE ⋯))
      have e2:eqD (.tup ds) (.tup es)=((aJ (min its.toArray.size its2.toArray.size)).all (fun j=>eqD (ds.getD j .non) (es.getD j .non)) && its.toArray.size == its2.toArray.size):=by
       rw [eqD_tup,pA,aG,aG,l1,l2]
      rw [e2];exact SeqAt.EqAt.of_refs hab key
def op_eqD (hu:X.A.units+64<cLine):OpR X (ft .Eq) (fun x y H Q=>∃ ds es,IsD H x (.tup ds)∧IsD H y (.tup es)∧pls ds=true∧pls es=true∧deps ds<60∧Q (.bl (qO ds es)) H):=by
 intro aR s σ H x y v u Q I rx ry h;obtain ⟨ds,es,ix,iy,pd,pe,hd,q⟩:=h;obtain ⟨a,xs,rfl,ha,r⟩:=ix.tup_of;obtain ⟨b,ys,rfl,hb,r'⟩:=iy.tup_of;cases (show v=ae.ref a from rx);cases (show u=ae.ref b from ry);obtain ⟨its,rv,p,_⟩:=I.tuple (SqT.of (K:=X.K) ha);obtain ⟨its2,rv2,p2,_⟩:=I.tuple (SqT.of (K:=X.K) hb);have p:s.heap.IsTuple a its.toArray:=p;have p2:s.heap.IsTuple b its2.toArray:=p2;have l1:its.length=ds.length:=by rw [←rv.length,r.length]
 have l2:its2.length=es.length:=by rw [←rv2.length,r'.length]
 apply SeqAt.eq_tupleAt (e:=fun j=>eqD (ds.getD j .non) (es.getD j .non)) p p2 ⋯ (fun j h1 h2=>?_) (fB I q ?_)
 ·have h1':j<its.length:=by simpa using h1
  have h2':j<its2.length:=by simpa using h2
  obtain ⟨x',ex,dx⟩:=r.at (i:=j) (d:=ds[j]'⋯) (gE ⋯);obtain ⟨y',ey,dy⟩:=r'.at (i:=j) (d:=es[j]'⋯) (gE ⋯);obtain ⟨u',eu,ru⟩:=rv.get ex;obtain ⟨v',ev,rw'⟩:=rv2.get ey;have eu':its[j]=u':=by rw [gE h1'] at eu;exact bE eu
  have ev':its2[j]=v':=by rw [gE h2'] at ev;exact bE ev
  have g1:ds.getD j .non=ds[j]'⋯:=by rw [af,gE ⋯];rfl
  have g2:es.getD j .non=es[j]'⋯:=by rw [af,gE ⋯];rfl
  show SeqAt.EqAt X.A.in1 s (its.toArray[j]) (its2.toArray[j]) (eqD (ds.getD j .non) (es.getD j .non));rw [gC,gC,eu',ev',g1,g2];exact eqAt_D 60 (aN (pB (gE ⋯)) ⋯) (by show X.A.units+1+60<cLine;lia) I dx dy ru rw' (nv pd (gE ⋯)) (nv pe (gE ⋯))
 ·rw [pA,aG,aG,l1,l2]
end L2
variable {ds:List L2.Dt}{fo:List (List (Int×Int)×L2.Dt)}
namespace L2
open PySem PySem.Spec PyProof.Rows
def i6:jO X (.type "tuple") (fun xs H Q=>∃ p ys,xs=[.ref p]∧SqL X.K H p ys∧New H (.tup ys) Q) :=
 call_tuple_of.imp fun _ _ _ ⟨p,ys,e,h,q⟩=>⟨p,ys,e,.inl ⟨h,q.of⟩⟩
def kit_str (K:ar)(h:T∈["NoneType","bool","int","str","list","tuple","dict"]):jC K (.type T) (.type "str")=some (T == "str"):=by
 simp only [aF,cx,or_false] at h
 rcases h with rfl | rfl | rfl | rfl | rfl | rfl | rfl <;> kernel_rfl
def call_isStr:jO X (.builtin "isinstance") (fun xs H Q=>∃ x T,xs=[x,.ty "str"]∧tyn H x=some T∧Q (.bl (T == "str")) H) :=
 fun aR s σ H xs us Q I r ⟨x,T,e,hT,q⟩=>lQ aR s σ H xs us Q I r ⟨x,_,_,_,e,.byName hT,kit_str _ (tyn_mem hT),q⟩
def kG {Q:VK}(Pv:Nat→List V→Hp→Prop)(h0:Pv 0 [] H)(hl:∀ i ys H,i≤xs.length→Pv i ys H→SqL K H a xs∧ys.length≤i)(hz:xs.length≤bg)
  (hs:∀ i x ys H,xs[i]? =some x→Pv i ys H→tt (some x::cZ σ js) H fun b H4=>if b=true then te (some x::cZ σ js) H4 fun y H5=>Pv (i+1) (ys++[y]) H5 else Pv (i+1) ys H4)
  (hd:∀ ys H,Pv xs.length ys H→∀ D,H D=none→Q (.ref D) (upd H D (.lst ys))):CompW js tt te σ Q (Itl K a) H:=by
 apply ⟨fun i m ys H=>i≤xs.length∧m=xs.length - i∧Pv i ys H,⟨_,bo _,rfl,h0⟩,fun i m ys H2 ⟨hi,hm,hp⟩=>?_⟩;obtain ⟨hq,hy⟩:=hl i ys H2 hi hp
 by_cases e:i=xs.length
 ·subst e
  exact .inl ⟨⟨xs,hq,az _⟩,hd ys H2 hp⟩
 ·have hlt:i<xs.length:=fH hi e
  apply .inr ⟨⟨xs,_,hq,gE hlt⟩,⋯,Pv (i+1),fun ys' H' hp'=>⟨xs.length - (i+1),⋯,⋯,rfl,hp'⟩,fun x H3 hy3=>?_⟩;obtain ⟨e3,hx⟩:=hy3;subst e3;exact hs i x ys H3 (hx xs hq) hp
def jM {Q:VK}(Pv:Nat→List V→Hp→Prop)(h0:Pv 0 [] H)(hl:∀ i ys H,i≤n→Pv i ys H→ys.length≤i)(hz:n≤bg)
  (hs:∀ (i:Nat) ys H,i<n→Pv i ys H→tt (some (.int (lo+i))::cZ σ js) H fun b H4=>if b=true then te (some (.int (lo+i))::cZ σ js) H4 fun y H5=>Pv (i+1) (ys++[y]) H5 else Pv (i+1) ys H4)
  (hd:∀ ys H,Pv n ys H→∀ D,H D=none→Q (.ref D) (upd H D (.lst ys))):CompW js tt te σ Q (Itr lo n) H:=by
 apply ⟨fun i m ys H=>i≤n∧m=n - i∧Pv i ys H,⟨_,bo _,rfl,h0⟩,fun i m ys H2 ⟨hi,hm,hp⟩=>?_⟩;have hy:=hl i ys H2 hi hp
 by_cases e:i=n
 ·subst e
  exact .inl ⟨az _,hd ys H2 hp⟩
 ·have hlt:i<n:=fH hi e
  apply .inr ⟨hlt,⋯,Pv (i+1),fun ys' H' hp'=>⟨n - (i+1),⋯,⋯,rfl,hp'⟩,fun x H3 hy3=>?_⟩;obtain ⟨e3,hx⟩:=hy3;subst e3 hx;exact hs i ys H3 hlt hp
def ps_setCC {py:Pos}{xs:List Str}
  (hN0:X.N.Nodup) (hi0:X.N[iy]? =some y0) (hx0:Loc X.env.scope y0) (hc:X.calm=true) (hi:PI X tg iter wi)
  (iD:∀ y∈scope.names,y.2≠ .cell) (mH:scope.kind= .function) (k9:∀ y∈scope.names,y.2= .local→scope.names.lookup y.1=some .local)
  (hfr:∀ y∈scope.names,y.2= .free→X.env.scope.names.lookup y.1=some .cell) (hjs:js.map (fun j=>X.N[j]?)=fr.map some) (hfv:∀ y∈fr,scope.names.lookup y=some .free)
  (hg:∀ cl C s' H' ex,PG (gf X scope cl C (xs++fr) s' H' ex) tg g)
  (hb:∀ cl C s' H' ex,PE (gf X scope cl C (xs++fr) s' H' ex) elt te∧PTs (gf X scope cl C (xs++fr) s' H' ex) ifs tt)
  (hCW:∀ σ Q J H1,CW σ Q J H1→qK xs.length g js tt te σ Q J H1) (hs:∀ z,fT iter X.env z=fQ z:=by intro _;rfl) (hsw:swapsWith (.ListComp elt [⟨tg,iter,ifs,0⟩] scope pos) (some (.Name y0 py)) spos.line X.env=fQ true:=by rfl)
  (hf0:X.fn y0=true∨X.env.scope.names.lookup y0=some .local:=by first | exact .inl rfl | exact .inr rfl | assumption) :
  PS X (.Assign [.Name y0 py] (.ListComp elt [⟨tg,iter,ifs,0⟩] scope pos) spos) (tAsg (fun σ H Q=>wi σ H fun J H1=>CW σ Q J H1) (oK iy)):=by
 intro aR s σ H Dn I h;rw [exec_Assign_Name_used _ _ _ _ hsw];apply ai (wpAny_standAt (ai ?_));show aU _ X.A (do let _ ← comprehension (.ListComp elt [⟨tg,iter,ifs,0⟩] scope pos) scope X.env _ (newList []) false (eE iter X.env) (some (assign (.Name y0 py) X.env))) _ _ s;apply ai (cf (comp_core (use:=some (assign (.Name y0 py) X.env)) (R:=fun _ s'=>SP X aR Dn .next s') hc hi iD mH k9 hfr hjs hfv hg hb hCW I h (fun s4 H5 D C mC hnC I5 nC locC fsC pinX cC sC q=>?_) hs) (fun _ s' hq=>aL (aL hq)) fun _ _ e=>e);obtain ⟨oC,esC,epC,hoC,rC⟩:=id hnC;have I6:Inv X ((C,oC)::aR) σ H5 s4:=I5.pins_of fun p hp=>by
  rcases aF.mp hp with rfl | hp
  ·apply ⟨hoC,nC,locC,fsC,fun v z=>?_⟩
   rw [rC.1] at z;cases z
  ·exact I5.pin p (aA _ hp)
 have hPG0:PG X (.Name y0 py) (oK iy):=oJ hN0 hi0 hx0 hf0;apply thn (hPG0 _ s4 σ _ (.ref D) (.ref D) (fun σ' H'=>Dn.nx σ' H'∧H' C=none) I6 rfl ⟨q,nC⟩) fun _ s6 ⟨σ6,H6,I7,q7,n7⟩=>?_
 have o7:=(I7.pin (C,oC) (aA _ (bu ..))).1;apply ⟨mC,⟨oC,esC,epC,o7,rC⟩,fun h' hsb=>⟨σ6,H6,?_,q7⟩⟩;have I8:Inv X aR σ6 H6 s6:=I7.pins_of fun p hp=>I7.pin p (aA _ (ay _ hp))
 exact I8.turned (t':=s6.toks) (it:=C) (fun b o hb' e=>hsb.extBut b o hb' e) n7 locC (.inr sC) cC pinX
def ps_setC {py:Pos}{px:Pos}
  (hN0:X.N.Nodup) (hi0:X.N[iy]? =some y0) (hx0:Loc X.env.scope y0) (hc:X.calm=true) (hi:PI X (.Name x px) iter wi)
  (iD:∀ y∈scope.names,y.2≠ .cell) (mH:scope.kind= .function) (k9:∀ y∈scope.names,y.2= .local→scope.names.lookup y.1=some .local) (hx:scope.names.lookup x=some .local)
  (hfr:∀ y∈scope.names,y.2= .free→X.env.scope.names.lookup y.1=some .cell) (hnd:(x::fr).Nodup) (hjs:js.map (fun j=>X.N[j]?)=fr.map some) (hfv:∀ y∈fr,scope.names.lookup y=some .free)
  (hb:∀ cl C s' H' ex,PE (gf X scope cl C (x::fr) s' H' ex) elt te∧PTs (gf X scope cl C (x::fr) s' H' ex) ifs tt)
  (hs:∀ z,fT iter X.env z=fQ z:=by intro _;rfl) (hsw:swapsWith (.ListComp elt [⟨.Name x px,iter,ifs,0⟩] scope pos) (some (.Name y0 py)) spos.line X.env=fQ true:=by rfl)
  (hf0:X.fn y0=true∨X.env.scope.names.lookup y0=some .local:=by first | exact .inl rfl | exact .inr rfl | assumption) :
  PS X (.Assign [.Name y0 py] (.ListComp elt [⟨.Name x px,iter,ifs,0⟩] scope pos) spos) (tAsg (tComp wi js tt te) (oK iy)) :=
 ps_setCC (xs:=[x]) (g:=oK 0) hN0 hi0 hx0 hc hi iD mH k9 hfr hjs hfv (fun _ _ _ _ _=>oJ hnd rfl (.inl (eV hx)) (.inr (eV hx))) hb (fun _ _ _ _ h=>compW_T h) hs hsw hf0
def notStar:Expr→Bool
 | .Starred _ _=>false
 | _=>true
def starEach_not (h:notStar e=true):br (e::es) env=(false,eE e env)::br es env:=by
 cases e <;> first | rfl | cases h
def pa_k (ha:PE X e te)(hr:PA X es t)(h:notStar e=true:=by rfl):PA X (e::es) (nR te t):=ag ha hr (starEach_not h)
structure PEs (X:Cx)(e:Expr)(t:TE):Prop where
 h:PE X e t
structure PAs (X:Cx)(es:List Expr)(t:TA):Prop where
 h:PA X es t
structure PSt (X:Cx)(st:cL)(t:TS):Prop where
 h:PS X st t
def nk {t:TS}(h:PS X st t):PS X st (fun D σ H=>∃ N:St→Hp→Prop,(∀ σ' H',N σ' H'→D.nx σ' H')∧t { D with nx:=N } σ H):=by
 intro aR s σ H D I ⟨N,hN,ht⟩;apply thn (h aR s σ H { D with nx:=N } I ht) fun f s' q=>?_
 cases f with
 | next=>obtain ⟨σ',H',I',n'⟩:=q;exact ⟨σ',H',I',hN _ _ n'⟩
 | brk=>exact q
 | cont=>exact q
 | ret u=>exact q
structure PSl (X:Cx)(sts:List cL)(t:TS):Prop where
 h:PSs X sts t
section
variable {a b:Expr}{tb:TE}
def k_int {i j}:PEs X (.Constant (.int i) j pos) (tC (.int i)):=⟨bI⟩
def k_op {op:Operator}(ho:OpR X (iW op) r)(ha:PEs X a ta)(hb:PEs X b tb):PEs X (.BinOp a op b pos) (tOp r ta tb):=⟨c9 ho ha.h hb.h⟩
def k_ix (hr:IxR X r)(ha:PEs X a ta)(hb:PEs X b tb)(hs:PlainIx b):PEs X (.Subscript a b pos) (tOp r ta tb):=⟨fA hr ha.h hb.h hs⟩
def k_lst (h:PAs X es t):PEs X (.List es pos) (tLstA t):=⟨ny h.h⟩
def a_nil:PAs X [] tNil:=⟨aD⟩
def oV (ha:PEs X e te)(hr:PAs X es t)(h:notStar e=true:=by rfl):PAs X (e::es) (nR te t):=⟨pa_k ha.h hr.h h⟩
def ba {sts:List cL}{t u:TS}(a:PSt X st t)(b:PSl X sts u):PSl X (st::sts) (tSeq t u):=⟨pss_cons a.h b.h⟩
def cS {t:TS}(a:PSt X st t):PSl X [st] t:=⟨cw a.h⟩
end
def op_neD (hu:X.A.units+64<cLine):OpR X (ft .NotEq) (fun x y H Q=>∃ ds es,IsD H x (.tup ds)∧IsD H y (.tup es)∧pls ds=true∧pls es=true∧deps ds<60∧Q (.bl (!(qO ds es))) H):=by
 intro aR s σ H x y v u Q I rx ry h;obtain ⟨ds,es,ix,iy,pd,pe,hd,q⟩:=h;obtain ⟨a,xs,rfl,ha,r⟩:=ix.tup_of;obtain ⟨b,ys,rfl,hb,r'⟩:=iy.tup_of;cases (show v=ae.ref a from rx);cases (show u=ae.ref b from ry);obtain ⟨its,rv,p,_⟩:=I.tuple (SqT.of (K:=X.K) ha);obtain ⟨its2,rv2,p2,_⟩:=I.tuple (SqT.of (K:=X.K) hb);have p:s.heap.IsTuple a its.toArray:=p;have p2:s.heap.IsTuple b its2.toArray:=p2;have l1:its.length=ds.length:=by rw [←rv.length,r.length]
 have l2:its2.length=es.length:=by rw [←rv2.length,r'.length]
 have key:=SeqAt.RcNeAt.tuples (A:=X.A) (e:=fun j=>eqD (ds.getD j .non) (es.getD j .non)) p p2 ⋯ (fun j h1 h2=>by
  have h1':j<its.length:=by simpa using h1
  have h2':j<its2.length:=by simpa using h2
  obtain ⟨x',ex,dx⟩:=r.at (i:=j) (d:=ds[j]'⋯) (gE ⋯);obtain ⟨y',ey,dy⟩:=r'.at (i:=j) (d:=es[j]'⋯) (gE ⋯);obtain ⟨u',eu,ru⟩:=rv.get ex;obtain ⟨v',ev,rw'⟩:=rv2.get ey;have eu':its[j]=u':=by rw [gE h1'] at eu;exact bE eu
  have ev':its2[j]=v':=by rw [gE h2'] at ev;exact bE ev
  have g1:ds.getD j .non=ds[j]'⋯:=by rw [af,gE ⋯];rfl
  have g2:es.getD j .non=es[j]'⋯:=by rw [af,gE ⋯];rfl
  show SeqAt.EqAt X.A.in1 s (its.toArray[j]) (its2.toArray[j]) (eqD (ds.getD j .non) (es.getD j .non));rw [gC,gC,eu',ev',g1,g2];exact eqAt_D 60 (aN (pB (gE ⋯)) ⋯) (by show X.A.units+1+60<cLine;lia) I dx dy ru rw' (nv pd (gE ⋯)) (nv pe (gE ⋯)))
 apply key X.prog X.w _ _ (fB I q ?_);rw [pA,aG,aG,l1,l2]
def n9:∀ {ns:List Int} {us:List ae},gw (ns.map V.int) us→IntsAre us ns
 | [],_,.nil=> .nil
 | _::_,_,.cons ⟨_,e⟩ r=>by cases e;exact .cons _ _ (n9 r)
def eqDs_ints:∀ ns ms:List Int,qO (ns.map Dt.int) (ms.map Dt.int)=decide (ns=ms)
 | [],[]=>by unfold qO;rfl
 | [],_::_=>by unfold qO;rfl
 | _::_,[]=>by unfold qO;rfl
 | n::ns,m::ms=>by
  rw [bM,bM];unfold qO;rw [eqDs_ints ns ms];unfold eqD
  by_cases h:n=m
  ·by_cases h':ns=ms
   ·simp [h,h']
   ·simp [h,h']
  ·simp [h]
def pf:∀ ns:List Int,pls (ns.map Dt.int)=true
 | []=>by unfold pls;rfl
 | n::r=>by rw [bM];unfold pls;rw [pf r];unfold pl;rfl
def qz:∀ ns:List Int,deps (ns.map Dt.int)=0
 | []=>by unfold deps;rfl
 | n::r=>by rw [bM];unfold deps;rw [qz r];unfold dep;rfl
def pe_compT {xs:List Str}
  (hc:X.calm=true) (hi:PI X tg iter wi)
  (iD:∀ y∈scope.names,y.2≠ .cell) (mH:scope.kind= .function) (k9:∀ y∈scope.names,y.2= .local→scope.names.lookup y.1=some .local)
  (hfr:∀ y∈scope.names,y.2= .free→X.env.scope.names.lookup y.1=some .cell) (hjs:js.map (fun j=>X.N[j]?)=fr.map some) (hfv:∀ y∈fr,scope.names.lookup y=some .free)
  (hg:∀ cl C s' H' ex,PG (gf X scope cl C (xs++fr) s' H' ex) tg g)
  (hb:∀ cl C s' H' ex,PE (gf X scope cl C (xs++fr) s' H' ex) elt te∧PTs (gf X scope cl C (xs++fr) s' H' ex) ifs tt)
  (hs:∀ z,fT iter X.env z=fQ z:=by intro _;rfl) :
  PE X (.ListComp elt [⟨tg,iter,ifs,0⟩] scope pos) (tCompT wi xs.length g js tt te) :=
 pe_compC hc hi iD mH k9 hfr hjs hfv hg hb (fun _ _ _ _ h=>h) hs
abbrev gPair (K:ar):TG:=gTup K 2 (gCons (oK 0) (gCons (oK 1) gNil))
def pg_two {ex:List ak}{y:Str}{k:Nat}{pt:Pos}(hc:X.calm=true)(hnd:(x::y::fr).Nodup)(hx:scope.names.lookup x=some .local)(hy:scope.names.lookup y=some .local) :
  PG (gf X scope cl C ([x,y]++fr) s H ex) (.Tuple [.Name x p1,.Name y p2] k pt) (gPair X.K) :=
 pg_tup hc (ju (oJ (i:=0) hnd rfl (.inl (eV hx)) (.inr (eV hx))) (ju (oJ (i:=1) hnd rfl (.inl (eV hy)) (.inr (eV hy))) p7))
def getItem_all {t sl:ak}{vl vu:ae}{lo:Option Int}(ht:IsTup s.heap t items)(hs:s.heap.IsSliceOf sl vl vu .none)(pl:IsPart vl lo)(pu:IsPart vu hi)
  (hw:HT.sIx items.size 0 lo=0∧HT.sIx items.size items.size hi=items.size) (h:Q (.ref t) s):aU (bt prog w) A (getItem (.ref t) (.ref sl)) Q E s:=by
 obtain ⟨os,hos,hcs,hds⟩:=id hs;have hTs:s.TypeIs (.ref sl) "slice" := ⟨os,hos,hcs⟩;unfold getItem
 try with_reducible apply cW ?_
 first | apply ai (aL ?_) | skip
 apply ai (wpAny_sequenceKey ht.typeIs ↥0 ?_);apply ai (dQ (name:=cq "__getitem__") ht.typeIs dG
  (gk dG ht.typeIs entry_tuple_getitem ?_ (args_tuple_getitem _ _)))
 show aU _ _ (eQ.Tuple.tupleItemsOf (.ref t) >>= _) _ _ s;apply ai (tupleItemsOf_ ht ?_);apply ai (wpAny_typeOf hTs ?_);rw [rO ↥0];apply ai (HT.sliceApplied_gen hs pl pu ?_);show aU _ _ (if (((HT.sIx items.size 0 lo:Nat):Int) == 0 && (1:Int) == 1 && (HT.sIx items.size items.size hi - HT.sIx items.size 0 lo) == items.size)=true then _ else _) _ _ s;rw [hw.1,hw.2,Nat.sub_zero,rO ∅];unfold eQ.Tuple.tupleIsExact;apply ai (ai (wpAny_typeOf ht.typeIs (aL ?_)));rw [rO ↥0];exact ai (wpAny_rule (aL ⟨_,rfl,aL h⟩))
def sl_tupN:SlR X (fun x lo hi H Q=>∃ a xs,x= .ref a∧H a=some (.tup xs)∧New H (.tup (cutV xs lo hi)) Q):=by
 intro aR s σ H x v vl vu lo hi sl Q I rx hs pl pu h;obtain ⟨a,xs,rfl,hx,q⟩:=h
 by_cases hw:HT.sIx xs.length 0 lo=0∧HT.sIx xs.length xs.length hi=xs.length
 ·cases rx
  obtain ⟨its,r,ht,hz⟩:=I.tuple (SqT.of (K:=X.K) hx);have hlen:its.toArray.size=xs.length:=by rw [aG];exact r.length.symm
  apply ⟨"tuple",_,dG.lookup,ht.typeIs,?_⟩;apply getItem_all ht hs pl pu (by rw [hlen];exact hw) ⟨.ref a,H,I,rfl,q a H (bG.refl H) ?_⟩;have e:cutV xs lo hi=xs:=by unfold cutV;rw [hw.1,hw.2,List.drop_zero,Nat.sub_zero,bp]
  rw [e];exact hx
 ·exact sl_tup aR s σ H _ v vl vu lo hi sl Q I rx hs pl pu ⟨a,xs,rfl,SqT.of hx,hw,q.of⟩
def metL (ns:List Int):List Int:=firstMet (fun i=>ns.getD i 0) ns.length
def call_setL (hc:X.calm=true):jO X (.type "set") (fun xs H Q=>∃ (p:ak) (ns:List Int),xs=[.ref p]∧SqL X.K H p (ns.map V.int)∧ns.length≤1000∧New H (.set (fun k=>(metL ns).any (· == k)) (metL ns).length) Q):=by
 intro aR s σ H xs us Q I r h;obtain ⟨p,ns,rfl,hq,hn,q⟩:=h;obtain ⟨u,rfl,ru⟩:=nN r;cases (show u=ae.ref p from ru);obtain ⟨its,rv,pl,hz⟩:=I.list hq;have hl:its.length=ns.length:=by rw [←rv.length,aa]
 apply call_set_list (ns:=ns) (I.ok.hd hc) pl.isList (n9 rv) (by rw [aG,hl];show ns.length+1<4096;lia) fun h' tk hs hk=>?_
 have hl2:its.toArray.size=ns.length:=by rw [aG,hl]
 rw [hl2] at hs;exact ⟨.ref s.heap.objs.size,_,I.laid (t':=tk) (o:= .set (fun k=>(metL ns).any (· == k)) (metL ns).length) (fun b u e=>hk b u (aI e) e) (az _) hs,rfl,q.of _ I.fresh⟩
def call_lenS:jO X (.builtin "len") (fun xs H Q=>∃ (a:ak) (S:Int→Bool) (n:Nat),xs=[.ref a]∧H a=some (.set S n)∧Q (.int n) H):=by
 intro aR s σ H xs us Q I r h;obtain ⟨a,S,n,rfl,ha,q⟩:=h;obtain ⟨u,rfl,ru⟩:=nN r;cases (show u=ae.ref a from ru);obtain ⟨o,es,ep,t,e1,e2,e3,_,_,e4,e5,e6⟩:=I.hok a _ ha;have e4:es.size<4096:=e4;apply call_len_set e1 e2 e3 e5 ⋯ ?_;subst e6;exact ⟨.int es.size,H,I.tok _,⟨_,rfl⟩,q⟩
def vals_at:∀ {xs:List V} {us:List ae},xs.length=us.length→(∀ (i:Nat) (x:V),xs[i]? =some x→∃ u,us[i]? =some u∧gq x u)→gw xs us
 | [],[],_,_=> .nil
 | [],_::_,h,_=>by cases h
 | _::_,[],h,_=>by cases h
 | x::xs,u::us,h,k=>by
  obtain ⟨u',e,r⟩:=k 0 x rfl;cases e;exact .cons r (vals_at (by simpa using h) fun i y hy=>k (i+1) y hy)
def qA:jO X (.type "range") (fun xs H Q=>∃ j:Int,xs=[.int j]∧New H (.rng 0 j) Q):=by
 intro aR s σ H xs us Q I r h;obtain ⟨j,rfl,q⟩:=h;obtain ⟨u,rfl,ru⟩:=nN r;obtain ⟨t,rfl⟩:=(show ∃ t,u=ae.int j t from ru);apply call_range_1 ?_;exact ⟨.ref s.heap.objs.size,_,I.laid (t':=s.toks+1+1) (o:= .rng 0 j) (fun _ _ z=>aq _ z) (az _) ⟨_,_,_,aQ _ rfl⟩,rfl,q.of _ I.fresh⟩
def rJ (hc:X.calm=true):jO X (.type "list") (fun xs H Q=>∃ (a:ak) (n:Nat),xs=[.ref a]∧H a=some (.rng 0 (n:Int))∧n≤1000∧∀ l,H l=none→Q (.ref l) (upd H l (.lst ((aJ n).map fun k=>V.int (k:Nat))))):=by
 intro aR s σ H xs us Q I r h;obtain ⟨a,n,rfl,ha,hn,q⟩:=h;obtain ⟨u,rfl,ru⟩:=nN r;cases (show u=ae.ref a from ru);obtain ⟨t,u,v,hr⟩:=I.hok a _ ha;have hs:d9 0 (n:Int) 1=n:=by
  unfold d9;rw [rO ↥0]
  by_cases h0:(0:Int)<n
  ·rw [rO h0,Int.ediv_one];lia
  ·rw [rN h0];lia
 apply call_list_range (n:=n) (I.ok.hd hc) hr (by unfold iE;rw [hs];unfold eQ.Range.rangeFitsLong;simp;lia) hs ⋯ fun h' tk acc c hk hg hi=>?_
 apply ⟨.ref s.heap.objs.size,_,I.laid (t':=tk) (o:= .lst ((aJ n).map fun k=>V.int (k:Nat))) hk (az _) ⟨?_,acc.toList,c,?_,?_⟩,rfl,q _ I.fresh⟩
 ·rw [aa,aY];exact aN hn ↥0
 ·apply vals_at (by rw [aa,aY,cj,hi.1]) fun i x hx=>?_
  rw [ax] at hx;obtain ⟨k,hk2,rfl⟩:=aO.mp hx;have hik:i<n:=by have:=(ao.mp hk2).1;rw [aY] at this;exact this
  rw [fb hik] at hk2;cases hk2;have hi2:i<acc.size:=by rw [hi.1];exact hik
  have e:=d5 hi2;obtain ⟨t2,e2⟩:=hi.2 i _ e;apply ⟨_,by rw [j6];exact e,⟨t2,?_⟩⟩;rw [e2];congr 1;lia
 ·rw [Array.toArray_toList];exact hg
section
variable {κ:Type} [DecidableEq κ]
def lW (kvs:List (κ×V))(k:κ):Option V:=(kvs.find? fun kv=>decide (kv.1=k)).map (·.2)
def nU (kvs:List (κ×V))(k:κ)(v:V):List (κ×V) :=
 if (kvs.any fun kv=>decide (kv.1=k))=true then kvs.map (fun kv=>if kv.1=k then (kv.1,v) else kv) else kvs++[(k,v)]
def iF {p:κ×V}{r:List (κ×V)}{k:κ}(e:p.1=k):lW (p::r) k=some p.2:=by simp [lW,iu,e]
def gR {p:κ×V}{r:List (κ×V)}{k:κ}(e:¬ p.1=k):lW (p::r) k=lW r k:=by simp [lW,iu,e]
def nP (k:κ):∀ kvs:List (κ×V),(kvs.any fun kv=>decide (kv.1=k))=(lW kvs k).isSome
 | []=>rfl
 | p::r=>by
  rw [kh]
  by_cases e:p.1=k
  ·simp only [iF e,rR e,Bool.true_or,Option.isSome_some]
  ·rw [gR e,rS e,Bool.false_or];exact nP k r
def valV_map (k j:κ)(y:V):∀ kvs:List (κ×V),lW (kvs.map fun kv=>if kv.1=k then (kv.1,y) else kv) j=(lW kvs j).map fun x=>if j=k then y else x
 | []=>rfl
 | p::r=>by
  have ih:=valV_map k j y r;rw [bM]
  by_cases h:p.1=k
  ·rw [rO h]
   by_cases e:p.1=j
   ·rw [iF (p:=(p.1,y)) e,iF e,gm,rO (e.symm.trans h)]
   ·rw [gR (p:=(p.1,y)) e,gR e,ih]
  ·rw [rN h]
   by_cases e:p.1=j
   ·rw [iF (p:=p) e,iF e,gm,rN (fun z=>h (e.trans z))]
   ·rw [gR (p:=p) e,gR e,ih]
def valV_snoc (k j:κ)(y:V):∀ kvs:List (κ×V),lW kvs k=none→lW (kvs++[(k,y)]) j=if j=k then some y else lW kvs j
 | [],_=>by
  by_cases e:k=j
  ·rw [rO e.symm];exact iF (p:=(k,y)) e
  ·rw [rN (fun z=>e z.symm)];exact gR (p:=(k,y)) e
 | p::r,hn=>by
  rw [List.cons_append];have hk:¬ p.1=k:=fun z=>by rw [iF z] at hn;cases hn
  rw [gR hk] at hn;have ih:=valV_snoc k j y r hn
  by_cases e:p.1=j
  ·rw [iF e,iF e,rN (fun z=>hk (e.trans z))]
  ·rw [gR e,gR e,ih]
def valV_put (kvs:List (κ×V))(k j:κ)(y:V):lW (nU kvs k y) j=if j=k then some y else lW kvs j:=by
 unfold nU
 by_cases a:(kvs.any fun kv=>decide (kv.1=k))=true
 ·rw [rO a,valV_map]
  rw [nP] at a
  by_cases e:j=k
  ·obtain ⟨x,hx⟩:=Option.isSome_iff_exists.mp a
   rw [rO e,e,hx,gm,rO rfl]
  ·rw [rN e]
   cases lW kvs j with
   | none=>rfl
   | some x=>rw [gm,rN e]
 ·rw [rN a]
  apply valV_snoc k j y kvs ?_;rw [nP] at a;cases q:lW kvs k with
  | none=>rfl
  | some x=>rw [q] at a;exact (a rfl).elim
def kE (kvs:List (κ×V))(k:κ)(v:V):(nU kvs k v).length≤kvs.length+1:=by
 unfold nU;split
 ·rw [aa];lia
 ·rw [au,aP,kJ];lia
def putK_new {kvs:List (κ×V)}{k:κ}(v:V)(h:lW kvs k=none):nU kvs k v=kvs++[(k,v)]:=by
 unfold nU;rw [nP,h];exact rN ↥0
def RelO.isSome_eq {o:Option V}{u:Option ae}(r:RelO o u):o.isSome=u.isSome:=by
 cases o with
 | none=>cases u with
  | none=>rfl
  | some _=>exact (show False from r).elim
 | some _=>cases u with
  | none=>exact (show False from r).elim
  | some _=>rfl
def KV.val {kvs:List (κ×V)}{vs:List (κ×ae)}(r:KV kvs vs)(k:κ):RelO (lW kvs k) (valueAt vs k):=by
 unfold KV at r
 induction r with
 | nil=>exact True.intro
 | @cons p q ps qs h t ih =>
  obtain ⟨h1,h2⟩:=h
  by_cases e:p.1=k
  ·have e':q.1=k:=h1.symm.trans e
   have b:valueAt (q::qs) k=some q.2:=by simp [valueAt,iu,e']
   rw [iF e,b];exact h2
  ·have e':¬ q.1=k:=fun z=>e (h1.trans z)
   have b:valueAt (q::qs) k=valueAt qs k:=by simp [valueAt,iu,e']
   rw [gR e,b];exact ih
def KV.any {kvs:List (κ×V)}{vs:List (κ×ae)}(r:KV kvs vs)(k:κ):(kvs.any fun kv=>decide (kv.1=k))=vs.any fun kv=>decide (kv.1=k):=by
 unfold KV at r
 induction r with
 | nil=>rfl
 | cons h t ih=>rw [kh,kh,ih,h.1]
def KV.repl {kvs:List (κ×V)}{vs:List (κ×ae)}(r:KV kvs vs)(k:κ){y:V}(ry:gq y u) :
  KV (kvs.map fun kv=>if kv.1=k then (kv.1,y) else kv) (vs.map fun kv=>if kv.1=k then (kv.1,u) else kv):=by
 unfold KV at r ⊢
 induction r with
 | nil=>exact .nil
 | @cons p q ps qs h t ih =>
  rw [bM,bM];apply .cons ?_ ih;obtain ⟨h1,h2⟩:=h
  by_cases e:p.1=k
  ·rw [rO e,rO (h1.symm.trans e)];exact ⟨h1,ry⟩
  ·rw [rN e,rN (fun z=>e (h1.trans z))];exact ⟨h1,h2⟩
def KV.put {kvs:List (κ×V)}{vs:List (κ×ae)}(r:KV kvs vs)(k:κ){y:V}(ry:gq y u):KV (nU kvs k y) (stored vs k u):=by
 unfold nU stored;rw [r.any k]
 by_cases e:(vs.any fun kv=>decide (kv.1=k))=true
 ·rw [rO e,rO e];exact r.repl k ry
 ·rw [rN e,rN e];exact Paired.snoc r ⟨rfl,ry⟩
theorem KV.length {kvs:List (κ×V)}{vs:List (κ×ae)}(r:KV kvs vs):kvs.length=vs.length:=Paired.length r
end
def kV_is {k:Key}(r:gq (kV k) u):(ie P w).is k u=true:=by
 cases k with
 | inl i=>obtain ⟨t,e⟩:=(show ∃ t,u=ae.int i t from r);subst e;exact mixKind_int P w i t
 | inr x=>obtain ⟨t,e⟩:=(show ∃ t,u=ae.str x t from r);subst e;exact mixKind_str P w x t
def items_are {P:aX}{w:bC}:∀ {ks:List Key} {us:List ae},gw (ks.map kV) us→ItemsAre (ie P w) ks us
 | [],_,r=>by rw [List.map_nil] at r;cases r;exact .nil
 | k::ks,_,r=>by
  rw [bM] at r;cases r with
  | cons h t=>exact .cons (kV_is h) (items_are t)
abbrev KT (H:Hp):List (List Key×V)→List (List Key×ak×ae)→Prop:=j4 fun p q=>p.1=q.1∧H q.2.1=some (.tup (p.1.map kV))∧gq p.2 q.2.2
def KT.val {xs:List (List Key×ak×ae)}(r:KT H kvs xs)(k:List Key):RelO (lW kvs k) ((atKey xs k).map (·.2)):=by
 induction r with
 | nil=>exact True.intro
 | @cons p q ps qs h t ih =>
  obtain ⟨h1,_,h2⟩:=h
  by_cases e:p.1=k
  ·have e':q.1=k:=h1.symm.trans e
   have b:atKey (q::qs) k=some q.2:=by simp [atKey,iu,e']
   rw [iF e,b];exact h2
  ·have e':¬ q.1=k:=fun z=>e (h1.trans z)
   have b:atKey (q::qs) k=atKey qs k:=by simp [atKey,iu,e']
   rw [gR e,b];exact ih
def KT.repl {xs:List (List Key×ak×ae)}(r:KT H kvs xs)(k:List Key){y:V}(ry:gq y u) :
  KT H (kvs.map fun kv=>if kv.1=k then (kv.1,y) else kv) (xs.map (putAt k u)):=by
 induction r with
 | nil=>exact .nil
 | @cons p q ps qs h t ih =>
  rw [bM,bM];apply .cons ?_ ih;obtain ⟨h1,h2,h3⟩:=h;unfold putAt
  by_cases e:p.1=k
  ·rw [rO e,rO (h1.symm.trans e)];exact ⟨h1,h2,ry⟩
  ·rw [rN e,rN (fun z=>e (h1.trans z))];exact ⟨h1,h2,h3⟩
def KT.put {xs:List (List Key×ak×ae)}(r:KT H kvs xs)(k:List Key){b:ak}{y:V}(hb:H b=some (.tup (k.map kV)))(ry:gq y u) :
  KT H (nU kvs k y) (storedH xs k b u):=by
 have e:(kvs.any fun kv=>decide (kv.1=k))=(atKey xs k).isSome:=by
  rw [nP,(r.val k).isSome_eq,Option.isSome_map]
 unfold nU storedH;rw [e]
 by_cases q:(atKey xs k).isSome=true
 ·rw [rO q,rO q];exact r.repl k ry
 ·rw [rN q,rN q];exact Paired.snoc r ⟨rfl,hb,ry⟩
def KT.keeps {xs:List (List Key×ak×ae)}(r:KT H kvs xs)(ht:∀ b ys,H b=some (.tup ys)→H' b=some (.tup ys)):KT H' kvs xs :=
 Paired.mapP r fun _ _ z=>⟨z.1,ht _ _ z.2.1,z.2.2⟩
def rd_of {u:HO}(ok:HOk P w H h)(e:Rd H a u):jz P w H h a u:=e.ok ok
def dk_rd {kvs:List (Key×V)}(ok:HOk P w H h)(e:Rd H a (.dK kvs)):kvs.length≤bg∧(a == jk)=false∧∃ vs,KV kvs vs∧h.DictOf (ie P w) a vs :=
 show jz P w H h a (.dK kvs) from rd_of ok e
def dk_of {kvs:List (Key×V)}(ok:HOk P w H h)(e:H a=some (.dK kvs)):kvs.length≤bg∧(a == jk)=false∧∃ vs,KV kvs vs∧h.DictOf (ie P w) a vs:=dk_rd ok (.inl e)
def key_of {ks:List Key}(ok:HOk P w H h)(e:H a=some (.tup (ks.map kV))):(tupleKind (ie P w)).is h ks a:=by
 obtain ⟨_,its,r,o,h1,h2,_,n,h3⟩:=(show jz P w H h a (.tup (ks.map kV)) from ok a _ e);exact ⟨o,its.toArray,n,h1,h2,h3,by simpa using items_are r⟩
def dt_rd (ok:HOk P w H h)(e:Rd H a (.dT kvs)):kvs.length≤bg∧(a == jk)=false ∧
  ∃ xs,KT H kvs xs∧h.DictOfH (tupleKind (ie P w)) a xs:=by
 obtain ⟨z,y,xs,r,o,es,ep,h1,h2,h3,h4,h5⟩:=(show jz P w H h a (.dT kvs) from rd_of ok e);apply ⟨z,y,xs,r,o,es,ep,h1,h2,h3,h4,fun x hx=>?_,h5⟩;have all:∀ {l:List (List Key×V)} {m:List (List Key×ak×ae)},KT H l m→∀ x∈m,(tupleKind (ie P w)).is h x.1 x.2.1:=by
  intro l m q
  induction q with
  | nil=>intro x hx;exact nomatch hx
  | @cons p q ps qs hq t ih =>
   intro x hx
   rcases aF.mp hx with e | hx
   ·subst e
    exact key_of ok (by rw [←hq.1];exact hq.2.1)
   ·exact ih x hx
 exact all r x hx
def dt_of (ok:HOk P w H h)(e:H a=some (.dT kvs)):kvs.length≤bg∧(a == jk)=false ∧
  ∃ xs,KT H kvs xs∧h.DictOfH (tupleKind (ie P w)) a xs:=dt_rd ok (.inl e)
def DGet (H:Hp)(a:ak)(y:V)(r:Option V):Prop :=
 (∃ kvs k,Rd H a (.dK kvs)∧y=kV k∧r=lW kvs k)∨∃ kvs k b,Rd H a (.dT kvs)∧y= .ref b∧H b=some (.tup (k.map kV))∧r=lW kvs k
def DPut (H:Hp)(a:ak)(y v:V)(H':Hp):Prop :=
 (∃ kvs k,H a=some (.dK kvs)∧y=kV k∧kvs.length<bg∧H'=upd H a (.dK (nU kvs k v))) ∨
 ∃ kvs k b,H a=some (.dT kvs)∧y= .ref b∧H b=some (.tup (k.map kV))∧kvs.length<bg∧H'=upd H a (.dT (nU kvs k v))
def DGet.k {H:Hp}{a:ak}{kvs:List (Key×V)}{k:Key}(e:H a=some (.dK kvs)):DGet H a (kV k) (lW kvs k):= .inl ⟨kvs,k,.inl e,rfl,rfl⟩
def DPut.k {H:Hp}{a:ak}{kvs:List (Key×V)}{k:Key}{v:V}(e:H a=some (.dK kvs))(hl:kvs.length<bg):DPut H a (kV k) v (upd H a (.dK (nU kvs k v))):= .inl ⟨kvs,k,e,rfl,hl,rfl⟩
section
variable {y:V}{r:ae}{o:Option V}
def d_getItem (hu:A.units+1<cLine)(I:Inv X aR σ H s)(g:DGet H a y (some v))(ry:gq y u)(h:∀ w' s',Inv X aR σ H s'→gq v w'→Q w' s') :
  aU (bt X.prog X.w) A (getItem (.ref a) u) Q E s:=by
 rcases g with ⟨kvs,k,e,ey,l⟩ | ⟨kvs,k,b,e,ey,eb,l⟩
 ·subst ey
  obtain ⟨z,hd,vs,rel,dd⟩:=dk_rd I.hok e;obtain ⟨w',hw,rw'⟩:=RelO.some_of (v:=v) (o:=valueAt vs k) (by rw [l];exact rel.val k);exact wpAny_getItem_of (kV_is ry) dd.mapOf hw (h w' _ (I.tok _) rw')
 ·subst ey
  cases (show u=ae.ref b from ry);obtain ⟨z,hd,xs,rel,dd⟩:=dt_rd I.hok e;obtain ⟨w',hw,rw'⟩:=RelO.some_of (v:=v) (o:=(atKey xs k).map (·.2)) (by rw [l];exact rel.val k);obtain ⟨p,hp,hp2⟩:=aO.mp hw;apply wpAny_getItem_heap (tupleKind_room_in1 hu) (key_of I.hok eb) dd hp ?_;rw [hp2];exact h w' _ (I.tok _) rw'
def d_notIn (hu:A.units+1<cLine)(I:Inv X aR σ H s)(g:DGet H a y o)(ry:gq y u)(h:∀ s',Inv X aR σ H s'→Q (.bool (!o.isSome)) s') :
  aU (bt X.prog X.w) A (ft .NotIn u (.ref a)) Q E s:=by
 rcases g with ⟨kvs,k,e,ey,l⟩ | ⟨kvs,k,b,e,ey,eb,l⟩
 ·subst ey
  obtain ⟨z,hd,vs,rel,dd⟩:=dk_rd I.hok e;apply wpAny_notIn_of (kV_is ry) hd dd.mapOf ?_;rw [←(rel.val k).isSome_eq,←l];exact h _ (I.tok _)
 ·subst ey
  cases (show u=ae.ref b from ry);obtain ⟨z,hd,xs,rel,dd⟩:=dt_rd I.hok e;apply wpAny_notIn_heap (tupleKind_room_in1 hu) (key_of I.hok eb) hd dd ?_;have q:=(rel.val k).isSome_eq;rw [Option.isSome_map] at q;rw [←q,←l];exact h _ (I.tok _)
def d_write {ob:HO}(I:Inv X aR σ H s)(mu:Mut (H a))(hs:cy a s.heap h')(he:∃ q,h'.get? a=some q)(new:jz X.prog X.w (upd H a ob) h' a ob) :
  Inv X aR σ (upd H a ob) { s with heap:=h',toks:=t' } :=
 I.write (x:=a) (e:=a) mu (.inl rfl) (fun b q hb z=>(hs.2 b hb).trans z) he new
def dk_new {kvs:List (Key×V)}{vs:List (Key×ae)}(z:kvs.length≤bg)(hd:(a == jk)=false)(rel:KV kvs vs)(dd:h'.DictOf (ie P w) a vs) :
  jz P w H' h' a (.dK kvs):=⟨z,hd,vs,rel,dd⟩
def d_setItem {Q:Unit→av→Prop}(hu:A.units+1<cLine)(I:Inv X aR σ H s)(g:DPut H a y v H')(ry:gq y u)(rv:gq v r)(h:∀ s',Inv X aR σ H' s'→Q () s') :
  aU (bt X.prog X.w) A (setItem (.ref a) u r) Q E s:=by
 rcases g with ⟨kvs,k,e,ey,l,eH⟩ | ⟨kvs,k,b,e,ey,eb,l,eH⟩
 ·subst ey eH
  obtain ⟨z,hd,vs,rel,dd⟩:=dk_of I.hok e;have hz:vs.length≤bg:=by rw [←rel.length];exact z
  have hl:(nU kvs k v).length≤bg:=by have:=kE kvs k v;lia
  apply wpAny_setItem_pairs (hsz:=hz) (kV_is ry) dd fun h' dd' hs=>h _ ?_
  have he:∃ q,h'.get? a=some q:=let ⟨q,_,_,hq,_⟩:=dd';⟨q,hq⟩;exact d_write I (by rw [e];exact True.intro) hs he (dk_new hl hd (rel.put k rv) dd')
 ·subst ey eH
  cases (show u=ae.ref b from ry);obtain ⟨z,hd,xs,rel,dd⟩:=dt_of I.hok e;have hz:xs.length≤bg:=by rw [←Paired.length rel];exact z
  have hl:(nU kvs k v).length≤bg:=by have:=kE kvs k v;lia
  apply wpAny_setItem_heap (hsz:=hz) (tupleKind_room_in1 hu) (key_of I.hok eb) dd fun h' dd' hs=>h _ ?_
  obtain ⟨q,es,ep,hq,h2,h3,h4,_,h5⟩:=dd';apply d_write I (by rw [e];exact True.intro) hs ⟨q,hq⟩ ⟨hl,hd,_,(rel.put k eb rv).keeps fun c ys ec=>?_,q,es,ep,hq,h2,h3,h4,h5⟩;rw [bq (fR ec e (fun z=>nomatch z))];exact ec
end
def NoSl (i:Expr):Prop:=∀ ov iv,subscripted i false ov iv=operate [ov,iv] (getItem ov iv)
def subD_of {slice:Expr}{id:String}
  (hl:typeLookup (.type T) "__getitem__" =fQ (some (.builtin id))) (hs:NoSl slice)
  (h:aU (bt prog w) A (eE value env) (fun o s₁=>aU (bt prog w) A (eE slice env) (fun i s₂=>s₂.TypeIs o T∧aU (bt prog w) A (getItem o i) Q E s₂) E s₁) E s) :
  aU (bt prog w) A (eE (.Subscript value slice pos) env) Q E s:=by
 apply Subscript_ (cf h (fun o s₁ h₁=>cf h₁ (fun i s₂ h₂=>?_) fun _ _ x=>x) fun _ _ x=>x);obtain ⟨hT,h₂⟩:=h₂;unfold subscriptTail;apply ai ?_;rw [getitemInPython_of_ne hT.not_modules];apply ai (wpAny_specialOf hT hl ?_);have fin:aU (bt prog w) A (subscripted slice false o i) (fun r s₃=>aU (bt prog w) A (letTemporaryGo value o r >>= fun _=>fQ r) Q E s₃) E s₂:=by
  rw [hs o i];exact wpAny_operating (cf h₂ (fun r s₃ h₃=>ai (wpAny_letTemporaryGo (aL h₃))) fun _ _ x=>x)
 first
  | exact aL (ai fin)
  | exact ai (aL (ai fin))
  | exact ai fin
def dict_typeIs {y:V}{o:Option V}(I:Inv X aR σ H s)(g:DGet H a y o):s.TypeIs (.ref a) "dict" := by
 rcases g with ⟨kvs,k,e,_,_⟩ | ⟨kvs,k,b,e,_,_,_⟩
 ·obtain ⟨_,_,vs,_,dd⟩:=dk_rd I.hok e
  exact dd.typeIs
 ·obtain ⟨_,_,xs,_,dd⟩:=dt_rd I.hok e
  exact dd.typeIs
def tDGet (td ty:TE):TE:=fun σ H Q=>td σ H fun x H1=>ty σ H1 fun y H2=>∃ a v,x= .ref a∧DGet H2 a y (some v)∧Q v H2
def tDNotIn (ty td:TE):TE:=fun σ H Q=>ty σ H fun y H1=>td σ H1 fun x H2=>∃ a o,x= .ref a∧DGet H2 a y o∧Q (.bl (!o.isSome)) H2
def sDPut (td ty tv:TE):TS:=fun D σ H=>tv σ H fun v H1=>td σ H1 fun x H2=>ty σ H2 fun y H3=>∃ a H4,x= .ref a∧DPut H3 a y v H4∧D.nx σ H4
section
variable {o i:Expr}{tpos:Pos}{td ty tv:TE}
def pe_dget (hu:X.A.units+1<cLine)(ho:PE X o td)(hi:PE X i ty)(hs:NoSl i):PE X (.Subscript o i pos) (tDGet td ty):=by
 intro aR s σ H Q I h;apply subD_of PySem.F.slot_dict_getitem.lookup hs (thn (ho aR s σ H _ I h) fun u s1 ⟨x,H1,I1,rx,q1⟩=>thn (hi aR s1 σ H1 _ I1 q1) fun iv s2 ⟨y,H2,I2,ry,a,v,ex,g,q2⟩=>?_);subst ex;obtain rfl:u=ae.ref a:=rx;exact ⟨dict_typeIs I2 g,d_getItem hu I2 g ry fun w' s3 I3 rw'=>⟨v,H2,I3,rw',q2⟩⟩
def nW (hu:X.A.units+1<cLine)(hi:PE X i ty)(ho:PE X o td):PC X .NotIn i o (tDNotIn ty td):=by
 intro aR s σ H Q I h;apply thn (hi aR s σ H _ I h) fun iv s1 ⟨y,H1,I1,ry,q1⟩=>thn (ho aR s1 σ H1 _ I1 q1) fun u s2 ⟨x,H2,I2,rx,a,ov,ex,g,q2⟩=>?_
 subst ex;obtain rfl:u=ae.ref a:=rx;exact d_notIn hu I2 g ry fun s3 I3=>⟨.bl (!ov.isSome),H2,I3,rfl,q2⟩
def ps_dput (hu:X.A.units+1<cLine)(ho:PE X o td)(hi:PE X i ty)(hv:PE X value tv)(hs:swapsWith value (some (.Subscript o i pos')) pos.line X.env=fQ false) :
  PS X (.Assign [.Subscript o i pos'] value pos) (sDPut td ty tv):=by
 intro aR s σ H D I h;apply wpAny_Assign_Subscript (thn (hv aR s σ H _ I h) fun r s1 ⟨v,H1,I1,rv,q1⟩=>thn (ho aR s1 σ H1 _ I1 q1) fun u s2 ⟨x,H2,I2,rx,q2⟩=>thn (hi aR s2 σ H2 _ I2 q2) fun iv s3 ⟨y,H3,I3,ry,a,H4,ex,g,q3⟩=>?_) hs;subst ex;obtain rfl:u=ae.ref a:=rx;exact d_setItem hu I3 g ry rv fun s4 I4=>⟨σ,H4,I4,q3⟩
end
def tPairs:List (TE×TE)→St→Hp→(List (V×V)→Hp→Prop)→Prop
 | [],_,H,Q=>Q [] H
 | (tk,tv)::r,σ,H,Q=>tk σ H fun x H1=>tv σ H1 fun y H2=>tPairs r σ H2 fun ps H3=>Q ((x,y)::ps) H3
abbrev VV:List (V×V)→List (ae×ae)→Prop:=j4 fun p q=>gq p.1 q.1∧gq p.2 q.2
def PPs (X:Cx)(pos:Pos)(keys:List (Option Expr))(values:List Expr)(trs:List (TE×TE)):Prop :=
 ∀ (aR:List (ak×Obj)) (s:av) (σ:St) (H:Hp) (Q:List (V×V)→Hp→Prop),Inv X aR σ H s→tPairs trs σ H Q →
  aU (bt X.prog X.w) X.A (evalPairs (pairTrees keys values X.env pos)) (fun vs s'=>∃ ps H',Inv X aR σ H' s'∧VV ps vs∧Q ps H') X.xe s
def pps_nil:PPs X pos [] [] []:=fun aR s σ H Q I h=>pairTrees_nil_walk ⟨[],H,I,.nil,h⟩
def pps_cons {k v:Expr}{ks:List (Option Expr)}{vs:List Expr}{tk tv:TE}(hk:PE X k tk)(hv:PE X v tv)(hr:PPs X pos ks vs trs) :
  PPs X pos (some k::ks) (v::vs) ((tk,tv)::trs):=fun aR s σ H Q I h =>
 pairTrees_cons_walk (thn (hk aR s σ H _ I h) fun u s1 ⟨x,H1,I1,rx,q1⟩=>thn (hv aR s1 σ H1 _ I1 q1) fun w2 s2 ⟨y,H2,I2,ry,q2⟩ =>
  thn (hr aR s2 σ H2 _ I2 q2) fun ws s3 ⟨ps,H3,I3,rel,q3⟩=>⟨(x,y)::ps,H3,I3,.cons ⟨rx,ry⟩ rel,q3⟩)
def n4 (kvs more:List (Key×V)):List (Key×V):=more.foldl (fun acc kv=>nU acc kv.1 kv.2) kvs
def KV.merge:∀ {more:List (Key×V)} {rs:List (Key×ae)} {kvs:List (Key×V)} {vs:List (Key×ae)},KV more rs→KV kvs vs→KV (n4 kvs more) (merged vs rs):=by
 intro more rs kvs vs r;unfold KV at r
 induction r generalizing kvs vs with
 | nil=>intro q;exact q
 | @cons p q ps qs h t ih =>
  intro r0;have e:KV (nU kvs p.1 p.2) (stored vs q.1 q.2):=by
   have:=r0.put p.1 h.2;rw [←h.1];exact this
  exact ih e
def n6:∀ (more kvs:List (Key×V)),(n4 kvs more).length≤kvs.length+more.length
 | [],kvs=>by show kvs.length≤kvs.length+0;lia
 | p::r,kvs=>by
  have h1:=n6 r (nU kvs p.1 p.2);have h2:=kE kvs p.1 p.2;show (n4 (nU kvs p.1 p.2) r).length≤_;rw [aP];lia
def rH {P:aX}{w:bC}:∀ {kvs:List (Key×V)} {ws:List (ae×ae)},VV (kvs.map fun kv=>(kV kv.1,kv.2)) ws→∃ rs,Carries (ie P w) ws rs∧KV kvs rs
 | [],_,r=>by rw [List.map_nil] at r;cases r;exact ⟨[],True.intro,.nil⟩
 | p::kvs,_,r=>by
  rw [bM] at r;cases r with
  | @cons a b as bs h t =>
   obtain ⟨rs,c,q⟩:=rH (P:=P) (w:=w) t;obtain ⟨b1,b2⟩:=b;exact ⟨(p.1,b2)::rs,⟨kV_is h.1,rfl,c⟩,.cons ⟨rfl,h.2⟩ q⟩
def tDisp (trs:List (TE×TE)):TE:=fun σ H Q=>∀ p,H p=none→tPairs trs σ (upd H p (.dK [])) fun ps H2=>H2 p=some (.dK [])∧∃ kvs:List (Key×V),ps=kvs.map (fun kv=>(kV kv.1,kv.2))∧kvs.length≤15∧Q (.ref p) (upd H2 p (.dK (n4 [] kvs)))
def pe_disp {values:List Expr}(h:PPs X pos keys values trs)(hall:keys.all (·.isSome)=true)(hl:keys.length=values.length)(h0:keys≠[])
  (h15:keys.length≤15):PE X (.Dict keys values pos) (tDisp trs):=by
 intro aR s σ H Q I q;have hn:=I.hok.fresh (az s.heap.objs.size);have I1:=I.laid (a:=s.heap.objs.size) (o:= .dK []) (h':=s.heap.push { cls:= .type "dict",data:= .dict #[] }) (t':=s.toks) (fun _ _ q=>aq _ q) (az _) (dk_empty s.heap I.big);apply wpAny_Dict_walk (knd:=ie X.prog X.w) hall hl h0 h15 (thn (h aR _ σ _ _ I1 (q _ hn)) fun ws s2 ⟨ps,H2,I2,rel,e,kvs,ep,lk,q2⟩=>?_);subst ep;obtain ⟨rs,c,rk⟩:=rH (P:=X.prog) (w:=X.w) rel;obtain ⟨z,hd,vs0,r0,dd⟩:=dk_of I2.hok e;cases r0;apply ⟨rs,c,dd,fun h' dd' hs=>⟨.ref s.heap.objs.size,_,?_,rfl,q2⟩⟩;have hz:(n4 [] kvs).length≤bg:=by
  have h1:=n6 kvs [];rw [kJ] at h1;rw [gi];lia
 have he:∃ q,h'.get? s.heap.objs.size=some q:=let ⟨q,_,_,hq,_⟩:=dd';⟨q,hq⟩;exact d_write I2 (by rw [e];exact True.intro) hs he (dk_new hz hd (rk.merge .nil) dd')
structure M2 (X:Cx)(o:Expr)(m:Str)(apos:Pos)(e f:Expr)(cpos:Pos):Prop where
 base:kR o m X.env (eE o X.env)=eE o X.env
 few:((eR cpos (br [e,f] X.env)).all (fun x=> !x.1) && (backToKw cpos (keywordEach [] X.env)).all (fun x=>x.1.isSome)
  && decide (([e,f]:List Expr).length+([]:List Keyword).length+(if ([]:List Keyword).isEmpty then 0 else 1)<30))=true
 line:(apos.endLine == cpos.line)=true
 trees:eR cpos (br [e,f] X.env)=[(false,eE e X.env),(false,eE f X.env)]
def IsDct (H:Hp)(a:ak):Prop:=(∃ kvs,Rd H a (.dK kvs))∨∃ kvs,Rd H a (.dT kvs)
def isDct_at (I:Inv X aR σ H s)(d:IsDct H a) :
  s.TypeIs (.ref a) "dict" ∧(∀ b,ae.ref a= .ref b→∃ ob,s.heap.get? b=some ob∧ob.dict=none)∧(a == jk)=false:=by
 rcases d with ⟨kvs,e⟩ | ⟨kvs,e⟩
 ·obtain ⟨_,hd,vs,_,dd⟩:=dk_rd I.hok e
  apply ⟨dd.typeIs,fun b q=>?_,hd⟩;cases q;obtain ⟨ob,_,_,h1,h2,_⟩:=dd;exact ⟨ob,h1,h2.2.1⟩
 ·obtain ⟨_,hd,xs,_,dd⟩:=dt_rd I.hok e
  apply ⟨dd.typeIs,fun b q=>?_,hd⟩;cases q;obtain ⟨ob,_,_,h1,h2,_⟩:=dd;exact ⟨ob,h1,h2.2.1⟩
end L2
namespace Att
open PySem PySem.W PySem.Calls PyProof.Rows
end Att
namespace L2
open PySem PySem.Spec PyProof.Rows
section
variable {κ:Type} [DecidableEq κ]
theorem nd_snoc:∀ {l:List κ} {k:κ},l.Nodup→¬ k∈l→(l++[k]).Nodup
 | [],k,_,_=>by simp
 | a::r,k,h,hk=>by
  obtain ⟨h1,h2⟩:=bz.mp h;show (a::(r++[k])).Nodup;apply bz.mpr ⟨fun m=>?_,nd_snoc h2 fun m=>hk (aF.mpr (Or.inr m))⟩
  rcases aH.mp m with q | q
  ·exact h1 q
  ·exact hk (aF.mpr (Or.inl (aw.mp q).symm))
end
def oZ {α β:Type}{f:α→β→Sem (ForInStep β)}{Q:β→av→Prop}:∀ (l:List α) (I:Nat→β→av→Prop) (b:β) (s:av),I 0 b s →
  (∀ i a b s,l[i]? =some a→I i b s→aU M A (f a b) (fun r s'=>∃ b',r= .yield b'∧I (i+1) b' s') E s)→(∀ b s,I l.length b s→Q b s)→aU M A (forIn l b f) Q E s
 | [],_,b,s,h0,_,hd=>by
  rw [List.forIn_nil];exact aL (hd b s h0)
 | a::l,I,b,s,h0,hs,hd=>by
  rw [List.forIn_cons];apply ai (cf (hs 0 a b s rfl h0) (fun r s' ⟨b',e,h'⟩=>?_) fun _ _ f=>f);subst e;exact oZ l (fun i=>I (i+1)) b' s' h' (fun i a b s ha hi=>hs (i+1) a b s ha hi) fun b s h=>hd b s h
structure Sq where
 l:Bool
 a:ak
def SqAt (h:bL)(c:Sq)(xs:Array ae):Prop:=match c.l with | true=>h.IsList c.a xs | false=>h.IsTuple c.a xs
def ItAt (h:bL)(c:Sq)(i:ak)(k:Nat):Prop:=match c.l with | true=>h.IsListIter i c.a k | false=>h.IsTupleIter i c.a k
abbrev nJ (h:bL)(T:ak)(vs:List ae):Prop:=h.get? T=some { cls:= .type "tuple",data:= .seq vs.toArray }
def SqAt.ext {g:bL}{c:Sq}{xs:Array ae}(x:SqAt h c xs)(e:∀ o,h.get? c.a=some o→g.get? c.a=some o):SqAt g c xs:=by
 obtain ⟨l,a⟩:=c;cases l with
 | true=>obtain ⟨o,ho,r⟩:=(show h.IsList a xs from x);exact ⟨o,e o ho,r⟩
 | false=>obtain ⟨o,ho,r⟩:=(show h.IsTuple a xs from x);exact ⟨o,e o ho,r⟩
def ItAt.ext {g:bL}{c:Sq}{i:ak}{k:Nat}(x:ItAt h c i k)(e:∀ o,h.get? i=some o→g.get? i=some o):ItAt g c i k:=by
 obtain ⟨l,a⟩:=c;cases l with
 | true=>obtain ⟨o,ho,r⟩:=(show h.IsListIter i a k from x);exact ⟨o,e o ho,r⟩
 | false=>obtain ⟨o,ho,r⟩:=(show h.IsTupleIter i a k from x);exact ⟨o,e o ho,r⟩
def ItAt.obj {c:Sq}{i:ak}{k:Nat}(x:ItAt h c i k):∃ o,h.get? i=some o∧∀ v,o.data≠ .cell v:=by
 obtain ⟨l,a⟩:=c;cases l with
 | true=>obtain ⟨o,ho,_,d⟩:=(show h.IsListIter i a k from x);exact ⟨o,ho,fun v z=>by rw [d] at z;cases z⟩
 | false=>obtain ⟨o,ho,_,d⟩:=(show h.IsTupleIter i a k from x);exact ⟨o,ho,fun v z=>by rw [d] at z;cases z⟩
def rh {c:Sq}{i:ak}{k:Nat}{xs:Array ae}{v:ae}(jt:ItAt s.heap c i k)(tt:SqAt s.heap c xs)(hv:xs[k]? =some v)
  (q:∀ g,ItAt g c i (k+1)→cy i s.heap g→Q v { s with heap:=g }):aU (bt prog w) A (cV (.ref i)) Q E s:=by
 obtain ⟨l,a⟩:=c;cases l with
 | true=>exact wpAny_nextOf_list_item (show s.heap.IsListIter i a k from jt) (show s.heap.IsList a xs from tt) hv fun g h1 h2=>q g h1 h2
 | false=>exact nextT_item (show s.heap.IsTupleIter i a k from jt) (show s.heap.IsTuple a xs from tt) hv fun g h1 h2=>q g h1 h2
def nextS_end {c:Sq}{i:ak}{k:Nat}{xs:Array ae}(hh:A.handled=none)(jt:ItAt s.heap c i k)(tt:SqAt s.heap c xs)(hv:xs[k]? =none)
  (q:∀ g x,bL.ExtBut i s.heap g→(∃ o,g.get? x=some o∧o.cls= .type "StopIteration")→E (.ref x) { s with heap:=g }):aU (bt prog w) A (cV (.ref i)) Q E s:=by
 obtain ⟨l,a⟩:=c;cases l with
 | true=>exact wpAny_nextOf_list_end hh (show s.heap.IsListIter i a k from jt) (show s.heap.IsList a xs from tt) hv fun g x h1 h2=>q g x h1 h2
 | false=>exact nextT_end hh (show s.heap.IsTupleIter i a k from jt) (show s.heap.IsTuple a xs from tt) hv fun g x h1 h2=>q g x h1 h2
def iterS {c:Sq}{xs:Array ae}(tt:SqAt s.heap c xs)
  (q:∀ g,ItAt g c s.heap.objs.size 0→g.objs.size=s.heap.objs.size+1→(∀ b o,s.heap.get? b=some o→g.get? b=some o)→Q (.ref s.heap.objs.size) { s with heap:=g }):aU (bt prog w) A (pyIter (.ref c.a)) Q E s:=by
 obtain ⟨l,a⟩:=c;cases l with
 | true=>exact fq (show s.heap.IsList a xs from tt) (q _ ⟨_,aQ _ rfl,rfl,rfl⟩ (dh ..) fun b o e=>aq _ e)
 | false=>exact l5 (show s.heap.IsTuple a xs from tt) (q _ ⟨_,aQ _ rfl,rfl,rfl⟩ (dh ..) fun b o e=>aq _ e)
def updRow {T:ak}{x:ae}{k:Nat}{Q:Unit→av→Prop}(hT:nJ s.heap T vs)(hz:vs.length≤100)
  (h:∀ g,nJ g T (vs.set k x)→cy T s.heap g→Q () { s with heap:=g }):aU (bt prog w) A (updateSeq T (·.setIfInBounds k x)) Q E s:=by
 apply iS hT rfl (h _ ?_ (gn ..)) (by rw [aG];exact aN hz ↥0) (by rw [Array.size_setIfInBounds,aG];exact aN hz ↥0);show bL.get? _ T=_;rw [bL.get?_update_self _ hT rfl];simp [cK]
structure ZIn (h g:bL)(z TI TO:ak)(cs:List Sq)(is:List ak)(k j:Nat)(vs old:List ae):Prop where
 sz:g.objs.size=h.objs.size
 zip:IsZip g z TI TO .ellipsis
 row:nJ g TO (vs.take j++old.drop j)
 its:∀ (n:Nat) c i,cs[n]? =some c→is[n]? =some i→ItAt g c i (if n<j then k+1 else k)
 ext:∀ e o,e≠z→e≠TO→e ∉ is→h.get? e=some o→g.get? e=some o
structure ZOk (h:bL)(z TI TO:ak)(cs:List Sq)(is:List ak)(k:Nat)(old:List ae):Prop where
 len:is.length=cs.length
 few:cs.length≤8
 pos:0<cs.length
 nod:(z::TI::TO::is).Nodup
 zip:IsZip h z TI TO .none
 ti:nJ h TI (is.map ae.ref)
 to:nJ h TO old
 lo:old.length=cs.length
 its:∀ (n:Nat) c i,cs[n]? =some c→is[n]? =some i→ItAt h c i k
 off:∀ c∈cs,c.a≠z∧c.a≠TO∧c.a ∉ is
def nod_ne {is:List ak}{i:ak}{e:ak}(hn:is.Nodup)(h1:is[j]? =some i)(h2:is[n]? =some e)(h:n≠j):e≠i:=fun z=>by
 subst z;have a:=(ao.mp h1);have b:=(ao.mp h2);obtain ⟨ha,ea⟩:=a;obtain ⟨hb,eb⟩:=b;exact h ((ka hn).mp (eb.trans ea.symm))
def ZIn.step {g:bL}{z TI TO:ak}{cs:List Sq}{is:List ak}{k:Nat}{i:ak}{c:Sq}(D:ZOk h z TI TO cs is k old)(Z:ZIn h g z TI TO cs is k j vs old)(hi:is[j]? =some i)(hc:cs[j]? =some c){g2 g3:bL}{v:ae}(hv:vs[j]? =some v)(lv:vs.length=cs.length)
  (n2:ItAt g2 c i (k+1)) (s2:cy i g g2) (r3:nJ g3 TO ((vs.take j++old.drop j).set j v)) (s3:cy TO g2 g3):ZIn h g3 z TI TO cs is k (j+1) vs old:=by
 have nod:=D.nod;rw [bz,bz,bz] at nod;obtain ⟨nz,nT,nO,ni⟩:=nod;have mi:i∈is:=aW hi;have iz:z≠i:=fun q=>nz (by rw [q];simp [mi])
 have iO:TO≠i:=fun q=>nO (by rw [q];exact mi)
 have zO:z≠TO:=fun q=>nz (by rw [q];simp)
 have jl:j<cs.length:=(ao.mp hc).1;apply ⟨by rw [s3.1,s2.1,Z.sz],s3.extBut _ _ zO (s2.extBut _ _ iz Z.zip),?_,fun n c' i' hc' hi'=>?_,fun e o e1 e2 e3 q=>s3.extBut _ _ e2 (s2.extBut _ _ (fun y=>e3 (by rw [y];exact mi)) (Z.ext e o e1 e2 e3 q))⟩
 ·have lo:=D.lo
  have e:(vs.take j++old.drop j).set j v=vs.take (j+1)++old.drop (j+1):=by
   have l1:(vs.take j).length=j:=by rw [bK];lia
   rw [List.set_append,rN ⋯,l1,gJ,List.drop_eq_getElem_cons (by lia:j<old.length),List.set_cons_zero,bj,hv];simp
  rw [←e];exact r3
 ·have mi':i'∈is:=aW hi'
  have iO':i'≠TO:=fun q=>nO (by rw [←q];exact mi')
  by_cases e:n=j
  ·subst e
   rw [hi] at hi';rw [hc] at hc';cases hi';cases hc';rw [rO ⋯];exact n2.ext fun o q=>s3.extBut _ _ iO' q
  ·have q:=Z.its n c' i' hc' hi'
   have e2:(if n<j+1 then k+1 else k)=(if n<j then k+1 else k):=by
    by_cases y:n<j
    ·rw [rO y,rO ⋯]
    ·rw [rN y,rN ⋯]
   rw [e2];exact q.ext fun o r=>s3.extBut _ _ iO' (s2.extBut _ _ (nod_ne ni hi hi' e) r)
def zipS_go {z TI TO:ak}{cs:List Sq}{is:List ak}{k:Nat}{Q:Option ae→av→Prop}(D:ZOk s.heap z TI TO cs is k old)
  (hv:∀ (n:Nat) c,cs[n]? =some c→∃ xs v,SqAt s.heap c xs∧xs[k]? =some v∧vs[n]? =some v) (lv:vs.length=cs.length)
  (q:∀ g,IsZip g z TI TO (jo s.heap.objs.size)→nJ g TO vs→(∀ (n:Nat) c i,cs[n]? =some c→is[n]? =some i→ItAt g c i (k+1))→nJ g s.heap.objs.size vs→g.objs.size=s.heap.objs.size+1 →
   (∀ e o,e≠z→e≠TO→e ∉ is→s.heap.get? e=some o→g.get? e=some o)→Q (some (.ref s.heap.objs.size)) { s with heap:=g }):aU (bt prog w) A (jB (.ref z)) Q E s:=by
 have hT:s.TypeIs (.ref z) "zip" := ⟨_,D.zip,rfl⟩;have nod:=D.nod;rw [bz,bz,bz] at nod;obtain ⟨nz,nT,nO,ni⟩:=nod;have zO:z≠TO:=fun q=>nz (by rw [q];simp)
 have few:=D.few;have len:=D.len;unfold jB;apply ai (wpAny_attempt (dQ (name:=cq "__next__") hT F.slot_zip_next (gk F.slot_zip_next hT F.entry_zip_next ?_ (F.args_zip_next_1 _))));show aU _ _ (field (.ref z) 2 >>= _) _ _ s;apply ai (cU D.zip rfl (x:= .bool false) (by rfl) ?_);show aU _ _ (field (.ref z) 3 >>= _) _ _ s;apply ai (cU D.zip rfl (x:= .ref TI) (by rfl) ?_);apply ai (dY D.ti rfl ?_)
 dsimp only
 rw [rN (by intro y;rw [Array.isEmpty_iff_size_eq_zero,aG,aa,len] at y;have:=D.pos;lia)];apply ai ?_;unfold fF;apply ai (cU D.zip rfl (x:= .none) (by rfl) (aL ?_));simp only [if_true];apply ai (wpAny_rule ?_);apply ai (cU D.zip rfl (x:= .ref TO) (by rfl) ?_);apply ai (dX D.zip ∅ fun g1 z1 s1=>?_);have z1:IsZip g1 z TI TO .ellipsis:=z1;apply ai ?_;apply oZ _ (fun j b s'=>b=_∧∃ g,s'={ s with heap:=g }∧ZIn s.heap g z TI TO cs is k j vs old) _ _ ⟨rfl,g1,rfl,?_⟩ ?_ ?_
 ·apply ⟨s1.1,z1,s1.extBut _ _ zO.symm D.to,fun n c i hc hi=>?_,fun e o e1 _ _ h=>s1.extBut _ _ e1 h⟩
  rw [rN ⋯];exact (D.its n c i hc hi).ext fun o h=>s1.extBut _ _ (fun y=>nz (by rw [←y];simp [aW hi])) h
 ·rintro j a b s' ha ⟨rfl,g,rfl,Z⟩
  rw [List.getElem?_zipIdx] at ha;obtain ⟨x,hx,rfl⟩:=aO.mp ha;have hx:(is.map ae.ref)[j]? =some x:=by simpa using hx
  rw [ax] at hx;obtain ⟨i,hi,rfl⟩:=aO.mp hx;have jl:j<cs.length:=by rw [←len];exact (ao.mp hi).1
  have hc:cs[j]? =some cs[j]:=gE jl;obtain ⟨xs,v,hq,hxv,hvv⟩:=hv j _ hc;obtain ⟨o1,o2,o3⟩:=D.off _ (bb jl);have it:=Z.its j _ i hc hi;rw [rN ⋯] at it
  dsimp only
  apply ai (wpAny_onRaise ?_);show aU _ _ (cV (.ref i) >>= _) _ _ _;apply ai (rh it (hq.ext fun o h=>Z.ext _ o o1 o2 o3 h) hxv fun g2 n2 s2=>aL ?_);have iO:TO≠i:=fun q=>nO (by rw [q];exact aW hi)
  have r2:nJ g2 TO (vs.take j++old.drop j):=s2.extBut _ _ iO Z.row;apply ai (dY r2 rfl ?_);apply ai (updRow (x:=v) (k:=0+j) r2 (by rw [au,bK,dt];have:=D.lo;lia) fun g3 r3 s3=>?_);rw [Nat.zero_add] at r3;apply ai (gh (aL ⟨_,rfl,rfl,g3,rfl,Z.step D hi hc hvv lv n2 s2 r3 s3⟩))
 ·rintro b s' ⟨rfl,g5,rfl,Z⟩
  have ll:((is.map ae.ref).toArray.toList.zipIdx).length=cs.length:=by simp [len]
  rw [ll] at Z;have z5:=Z.zip;have o5:nJ g5 TO vs:=by
   have:=Z.row;rw [←lv,bp,lv,←D.lo,List.drop_length,dg] at this;exact this
  have m5:∀ (n:Nat) c i,cs[n]? =some c→is[n]? =some i→ItAt g5 c i (k+1):=fun n c i hc hi=>by
   have:=Z.its n c i hc hi;rw [rO (ao.mp hc).1] at this;exact this
  dsimp only
  apply ai (dY o5 rfl ?_);apply ai (wpAny_newTuple ?_);have zlt:z<g5.objs.size:=aI z5;have sz:=Z.sz;apply ai ?_;unfold ib;have z6:IsZip (g5.push { cls:= .type "tuple",data:= .seq vs.toArray }) z TI TO .ellipsis:=aq _ z5;apply ai (dX z6 ∅ fun g7 z7 s7=>?_);have z7:IsZip g7 z TI TO (jo g5.objs.size):=z7;apply dX z7 ∅ fun g8 z8 s8=>?_
  have z8:IsZip g8 z TI TO (jo g5.objs.size):=z8;have up:∀ e o,e≠z→g5.get? e=some o→g8.get? e=some o:=fun e o c1 h=>s8.extBut _ _ c1 (s7.extBut _ _ c1 (aq _ h))
  have t8:nJ g8 g5.objs.size vs:=s8.extBut _ _ (cE zlt) (s7.extBut _ _ (cE zlt) (aQ _ rfl));have sz8:g8.objs.size=g5.objs.size+1:=by rw [s8.1,s7.1,dh]
  rw [sz] at z8 t8 sz8;apply aL ⟨_,rfl,?_⟩;apply aL ?_;show Q (some (.ref g5.objs.size)) _;rw [sz];apply q g8 z8 (up _ _ zO.symm o5) (fun n c i hc hi=>(m5 n c i hc hi).ext fun o h=>up _ o (fun y=>nz (by rw [←y];simp [aW hi])) h) t8 sz8 fun e o c1 c2 c3 h=>up e o c1 (Z.ext e o c1 c2 c3 h)
def zipS_stop {z TI TO:ak}{cs:List Sq}{is:List ak}{k:Nat}{cm:Sq}{Q:Option ae→av→Prop}(hh:A.handled=none)(D:ZOk s.heap z TI TO cs is k old)
  (hv:∀ (n:Nat) c,cs[n]? =some c→n<m→∃ xs v,SqAt s.heap c xs∧xs[k]? =some v∧vs[n]? =some v) (lv:vs.length=cs.length) (hm:cs[m]? =some cm) {xm:Array ae} (hxm:SqAt s.heap cm xm) (hem:xm[k]? =none)
  (q:∀ g,(∀ e o,e≠z→e≠TO→e ∉ is→s.heap.get? e=some o→g.get? e=some o)→Q none { s with heap:=g }):aU (bt prog w) A (jB (.ref z)) Q E s:=by
 have hT:s.TypeIs (.ref z) "zip" := ⟨_,D.zip,rfl⟩;have nod:=D.nod;rw [bz,bz,bz] at nod;obtain ⟨nz,nT,nO,ni⟩:=nod;have zO:z≠TO:=fun q=>nz (by rw [q];simp)
 have few:=D.few;have len:=D.len;have fin:∀ g x,(∀ e o,e≠z→e≠TO→e ∉ is→s.heap.get? e=some o→g.get? e=some o)→(∃ o,g.get? x=some o∧o.cls= .type "StopIteration") →
   aU (bt prog w) A (do if ← isInstance (.ref x) (.type "StopIteration") then fQ none else throw (.ref x)) Q E { s with heap:=g }:=fun g x k ⟨o,ho,hc⟩=>by
  apply ai (wpAny_isInstance (T := "StopIteration") (b:=true) ⟨o,ho,hc⟩ isSubtype_stop ?_);exact aL (q g k)
 have ml:m<cs.length:=(ao.mp hm).1;unfold jB;apply ai (wpAny_attempt (dQ (name:=cq "__next__") hT F.slot_zip_next (gk F.slot_zip_next hT F.entry_zip_next ?_ (F.args_zip_next_1 _))));show aU _ _ (field (.ref z) 2 >>= _) _ _ s;apply ai (cU D.zip rfl (x:= .bool false) (by rfl) ?_);show aU _ _ (field (.ref z) 3 >>= _) _ _ s;apply ai (cU D.zip rfl (x:= .ref TI) (by rfl) ?_);apply ai (dY D.ti rfl ?_)
 dsimp only
 rw [rN (by intro y;rw [Array.isEmpty_iff_size_eq_zero,aG,aa,len] at y;have:=D.pos;lia)];apply ai ?_;unfold fF;apply ai (cU D.zip rfl (x:= .none) (by rfl) (aL ?_));simp only [if_true];apply ai (wpAny_rule ?_);apply ai (cU D.zip rfl (x:= .ref TO) (by rfl) ?_);apply ai (dX D.zip ∅ fun g1 z1 s1=>?_);have z1:IsZip g1 z TI TO .ellipsis:=z1;apply ai ?_;apply oZ _ (fun j b s'=>b=_∧j≤m∧∃ g,s'={ s with heap:=g }∧ZIn s.heap g z TI TO cs is k j vs old) _ _ ⟨rfl,bo _,g1,rfl,?_⟩ ?_ ?_
 ·apply ⟨s1.1,z1,s1.extBut _ _ zO.symm D.to,fun n c i hc hi=>?_,fun e o e1 _ _ h=>s1.extBut _ _ e1 h⟩
  rw [rN ⋯];exact (D.its n c i hc hi).ext fun o h=>s1.extBut _ _ (fun y=>nz (by rw [←y];simp [aW hi])) h
 ·rintro j a b s' ha ⟨rfl,jm,g,rfl,Z⟩
  rw [List.getElem?_zipIdx] at ha;obtain ⟨x,hx,rfl⟩:=aO.mp ha;have hx:(is.map ae.ref)[j]? =some x:=by simpa using hx
  rw [ax] at hx;obtain ⟨i,hi,rfl⟩:=aO.mp hx;have jl:j<cs.length:=by rw [←len];exact (ao.mp hi).1
  have hc:cs[j]? =some cs[j]:=gE jl;obtain ⟨o1,o2,o3⟩:=D.off _ (bb jl);have it:=Z.its j _ i hc hi;rw [rN ⋯] at it;have iO:TO≠i:=fun q=>nO (by rw [q];exact aW hi)
  have iz:z≠i:=fun q=>nz (by rw [q];simp [aW hi])
  dsimp only
  apply ai (wpAny_onRaise ?_);show aU _ _ (cV (.ref i) >>= _) _ _ _
  by_cases e:j=m
  ·subst e
   rw [hc] at hm;cases hm;apply ai (nextS_end hh it (hxm.ext fun o h=>Z.ext _ o o1 o2 o3 h) hem fun g2 x s2 hx2=>?_);obtain ⟨oe,e1,e2⟩:=hx2;have z2:IsZip g2 z TI TO .ellipsis:=s2 _ _ iz Z.zip;have xz:x≠z:=fun r=>by subst r;rw [z2] at e1;cases e1;simp at e2
   exact dX z2 ∅ fun g3 _ s3=>fin g3 x (fun e o c1 c2 c3 h=>s3.extBut _ _ c1 (s2 _ _ (fun y=>c3 (by rw [y];exact aW hi)) (Z.ext e o c1 c2 c3 h))) ⟨oe,s3.extBut _ _ xz e1,e2⟩
  ·obtain ⟨xs,v,hq,hxv,hvv⟩:=hv j _ hc ⋯
   apply ai (rh it (hq.ext fun o h=>Z.ext _ o o1 o2 o3 h) hxv fun g2 n2 s2=>aL ?_);have r2:nJ g2 TO (vs.take j++old.drop j):=s2.extBut _ _ iO Z.row;apply ai (dY r2 rfl ?_);apply ai (updRow (x:=v) (k:=0+j) r2 (by rw [au,bK,dt];have:=D.lo;lia) fun g3 r3 s3=>?_);rw [Nat.zero_add] at r3;apply ai (gh (aL ⟨_,rfl,rfl,⋯,g3,rfl,Z.step D hi hc hvv lv n2 s2 r3 s3⟩))
 ·rintro b s' ⟨rfl,jm,g5,rfl,Z⟩
  have ll:((is.map ae.ref).toArray.toList.zipIdx).length=cs.length:=by simp [len]
  rw [ll] at jm;lia
def nH {α:Type}{P:Nat→α→Prop}:∀ (k:Nat),(∀ n,n<k→∃ u,P n u)→∃ us:List α,us.length=k∧∀ (n:Nat) u,us[n]? =some u→P n u
 | 0,_=>⟨[],rfl,fun n u h=>by simp at h⟩
 | k+1,h=>by
  obtain ⟨us,hl,hu⟩:=nH k fun n hn=>h n ⋯
  obtain ⟨u,pu⟩:=h k ⋯;apply ⟨us++[u],by rw [au,hl];rfl,fun n v hv=>?_⟩
  by_cases e:n<us.length
  ·rw [cI e] at hv
   exact hu n v hv
  ·rw [bw ⋯] at hv
   have hn:n=us.length:=by
    have:=(ao.mp hv).1;simp at this;lia
   subst hn;rw [gJ] at hv;cases hv;rw [hl];exact pu
def vals_of:∀ {vs:List V} {us:List ae},vs.length=us.length→(∀ (n:Nat) v u,vs[n]? =some v→us[n]? =some u→gq v u)→gw vs us
 | [],[],_,_=> .nil
 | v::vs,u::us,hl,h=> .cons (h 0 v u rfl rfl) (vals_of (by simpa using hl) fun n v' u' a b=>h (n+1) v' u' a b)
 | [],_::_,hl,_=>by simp at hl
 | _::_,[],hl,_=>by simp at hl
def HSq (H:Hp)(c:Sq)(xs:List V):Prop:=match c.l with | true=>H c.a=some (.lst xs) | false=>H c.a=some (.tup xs)
def HSq.inj {c:Sq}(a:HSq H c xs)(b:HSq H c ys):xs=ys:=by
 obtain ⟨l,q⟩:=c;cases l with
 | true=>have a:H q=some (.lst xs):=a;have b:H q=some (.lst ys):=b;rw [a] at b;cases b;rfl
 | false=>have a:H q=some (.tup xs):=a;have b:H q=some (.tup ys):=b;rw [a] at b;cases b;rfl
def HSq.has {c:Sq}(a:HSq H c xs):∃ o,H c.a=some o:=by
 obtain ⟨l,q⟩:=c;cases l with
 | true=>exact ⟨_,a⟩
 | false=>exact ⟨_,a⟩
def HSq.at {c:Sq}(I:Inv X aR σ H s)(h:HSq H c xs):∃ its,gw xs its∧SqAt s.heap c its.toArray:=by
 obtain ⟨l,q⟩:=c;cases l with
 | true =>
  obtain ⟨its,r,p,_⟩:=I.list (SqL.of (K:=X.K) (show H q=some (.lst xs) from h));exact ⟨its,r,p.isList⟩
 | false =>
  obtain ⟨its,r,p,_⟩:=I.tuple (SqT.of (K:=X.K) (show H q=some (.tup xs) from h));exact ⟨its,r,p⟩
def Itq (cs:List Sq):It :=
 ⟨fun i H=>∃ vs:List V,vs.length=cs.length∧∀ (n:Nat) c,cs[n]? =some c→∃ xs x,HSq H c xs∧xs[i]? =some x∧vs[n]? =some x,
  fun i H v H'=>∃ p vs,H p=none∧v= .ref p∧H'=upd H p (.tup vs)∧vs.length=cs.length∧∀ (n:Nat) c x xs,cs[n]? =some c→HSq H c xs→vs[n]? =some x→xs[i]? =some x,
  fun i H=>∃ m cm xm,cs[m]? =some cm∧HSq H cm xm∧xm.length≤i∧∀ (n:Nat) c,cs[n]? =some c→n<m→∃ xs x,HSq H c xs∧xs[i]? =some x⟩
def turn_zipS {k0}{z TI TO:ak}{cs:List Sq}{is:List ak} :
  Turn P w K (.Tuple es k0 pos) (Itq cs) (z::TI::TO::is) z (fun i h=>∃ old,ZOk h z TI TO cs is i old) where
 mem:=by simp
 obj:=fun i h st c hc=>by
  obtain ⟨old,D⟩:=st;simp only [aF] at hc
  rcases hc with rfl | rfl | rfl | hc
  ·exact ⟨_,D.zip,fun v z=>by cases z⟩
  ·exact ⟨_,D.ti,fun v z=>by cases z⟩
  ·exact ⟨_,D.to,fun v z=>by cases z⟩
  ·obtain ⟨n,hn⟩:=List.getElem?_of_mem hc
   have hl:n<cs.length:=by rw [←D.len];exact (ao.mp hn).1
   exact (D.its n _ c (gE hl) hn).obj
 keep:=fun i h h' st k=>by
  obtain ⟨old,D⟩:=st;exact ⟨old,D.len,D.few,D.pos,D.nod,k z ∅ _ D.zip,k TI ∅ _ D.ti,k TO ∅ _ D.to,D.lo,fun n c i hc hi=>(D.its n c i hc hi).ext fun o e=>k i (by simp [aW hi]) o e,D.off⟩
 item:=by
  intro X hP hw hK hc i aR s σ H E I hf st hg;subst hP hw hK;obtain ⟨old,D⟩:=st;obtain ⟨vs,lv,hv⟩:=hg;have nz:∀ e∈z::TI::TO::is,H e=none:=fun e he=>(hf e he).1
  have hT:H s.heap.objs.size=none:=I.fresh;have ex:∀ n,n<cs.length→∃ u:ae,(∀ c,cs[n]? =some c→∃ xs,SqAt s.heap c xs∧xs[i]? =some u)∧∀ v,vs[n]? =some v→gq v u:=fun n hn=>by
   obtain ⟨xs,x,h1,h2,h3⟩:=hv n _ (gE hn);obtain ⟨its,r,p⟩:=h1.at I;obtain ⟨u,hu,ru⟩:=r.get h2;apply ⟨u,fun c hc=>?_,fun v hv'=>?_⟩
   ·rw [gE hn] at hc
    cases hc;exact ⟨_,p,by simpa using hu⟩
   ·rw [h3] at hv'
    cases hv';exact ru
  obtain ⟨us,lu,hu⟩:=nH cs.length ex;have hrel:gw vs us:=vals_of ⋯ fun n v u a b=>(hu n u b).2 v a
  apply zipS_go D (vs:=us) (fun n c hc=>?_) lu fun g z1 to1 m1 tp sz kk=>⟨_,rfl,?_⟩
  ·have hn:n<us.length:=by rw [lu];exact (ao.mp hc).1
   obtain ⟨xs,a,b⟩:=(hu n _ (gE hn)).1 c hc;exact ⟨xs,us[n],a,b,gE hn⟩
  apply wpAny_letOwnedTupleGo_zip z1 fun g2 z2 s2=>?_
  have s2:cy z g g2:=s2;have k2:∀ e o,e ∉ z::TO::is→s.heap.get? e=some o→g2.get? e=some o:=fun e o hn h=>by
   simp only [aF,not_or] at hn;exact s2.extBut _ _ hn.1 (kk e o hn.1 hn.2.1 hn.2.2 h)
  have zlt:z<s.heap.objs.size:=aI D.zip;have tp2:nJ g2 s.heap.objs.size us:=s2.extBut _ _ (cE zlt) tp;have sub:∀ e∈z::TO::is,e∈z::TI::TO::is:=fun e he=>by
   simp only [aF] at he ⊢
   rcases he with rfl | rfl | he <;> simp [*]
  have trk:∀ e o,H e=some o→e ∉ z::TO::is:=fun e o he hm=>by rw [nz e (sub e hm)] at he;cases he
  have J:Inv X aR σ (upd H s.heap.objs.size (.tup vs)) { s with heap:=g2 }:=by
   apply I.turnAll (ch:=z::TO::is) (fun e he=>hf e (sub e he)) k2 (fun e o h=>by rw [bq (bF h hT)];exact h) (fun e o h n=>by rw [bq (bB (aI h))];exact n) fun e o h=>?_
   by_cases q:e=s.heap.objs.size
   ·subst q
    rw [aV] at h;cases h;exact ⟨by rw [lv];exact aN D.few ↥0,us,hrel,_,tp2,rfl,rfl,_,rfl⟩
   ·rw [bq q] at h
    apply (I.hok e o h).stay (fun c v hc' q'=>k2 c v (by
     rcases hc' with z' | z'
     ·rw [z'];exact trk e o h
     ·exact trk c _ z') q') (fun c q'=>by rw [bq (bF q' hT)];exact q') fun c xs q'=>by rw [bq (bF q' hT)];exact q'
  have nod:=D.nod;rw [bz,bz,bz] at nod;obtain ⟨nz',nT,nO,ni⟩:=nod;apply ⟨.ref s.heap.objs.size,_,J,rfl,⟨_,vs,hT,rfl,rfl,lv,fun n c x xs hc hq hx=>?_⟩,⟨us,D.len,D.few,D.pos,D.nod,z2,?_,s2.extBut _ _ (fun y=>nz' (by rw [←y];simp)) to1,lu,fun n c j hc hj=>?_,D.off⟩,fun e he=>?_⟩
  ·obtain ⟨ys,y,h1,h2,h3⟩:=hv n c hc
   rw [h1.inj hq] at h2;rw [h3] at hx;cases hx;exact h2
  ·apply k2 _ _ (fun y=>?_) D.ti
   rcases aF.mp y with y | y
   ·exact nz' (by rw [←y];simp)
   ·exact nT y
  ·exact (m1 n c j hc hj).ext fun o e=>s2.extBut _ _ (fun y=>nz' (by rw [←y];simp [aW hj])) e
  ·have hlt:e<s.heap.objs.size:=by
    simp only [aF] at he
    rcases he with rfl | rfl | rfl | he
    ·exact aI D.zip
    ·exact aI D.ti
    ·exact aI D.to
    ·obtain ⟨n,hn⟩:=List.getElem?_of_mem he
     have hl:n<cs.length:=by rw [←D.len];exact (ao.mp hn).1
     obtain ⟨o,ho,_⟩:=(D.its n _ e (gE hl) hn).obj;exact aI ho
   rw [bq (bB hlt)];exact nz e he
 done:=by
  intro X hP hw hK hc i aR s σ H E I hf st hg;subst hP hw hK;obtain ⟨old,D⟩:=st;obtain ⟨m,cm,xm,hm,hxm,hi,hv⟩:=hg;have nz:∀ e∈z::TI::TO::is,H e=none:=fun e he=>(hf e he).1
  have ex:∀ n,n<cs.length→∃ u:ae,∀ c,cs[n]? =some c→n<m→∃ xs,SqAt s.heap c xs∧xs[i]? =some u:=fun n hn=>by
   by_cases e:n<m
   ·obtain ⟨xs,x,h1,h2⟩:=hv n _ (gE hn) e
    obtain ⟨its,r,p⟩:=h1.at I;obtain ⟨u,hu,ru⟩:=r.get h2;apply ⟨u,fun c hc _=>?_⟩;rw [gE hn] at hc;cases hc;exact ⟨_,p,by simpa using hu⟩
   ·exact ⟨.none,fun c _ z=>rQ z e⟩
  obtain ⟨us,lu,hu⟩:=nH cs.length ex;obtain ⟨its,r,p⟩:=hxm.at I;have hl:=r.length;apply zipS_stop (I.ok.hd hc) D (vs:=us) (m:=m) (fun n c hc hn=>?_) lu hm p (by simp;lia) fun g kk=>⟨rfl,?_⟩
  ·have hn':n<us.length:=by rw [lu];exact (ao.mp hc).1
   obtain ⟨xs,a,b⟩:=hu n _ (gE hn') c hc hn;exact ⟨xs,us[n],a,b,gE hn'⟩
  have sub:∀ e∈z::TO::is,e∈z::TI::TO::is:=fun e he=>by
   simp only [aF] at he ⊢
   rcases he with rfl | rfl | he <;> simp [*]
  have k2:∀ e o,e ∉ z::TO::is→s.heap.get? e=some o→g.get? e=some o:=fun e o hn h=>by
   simp only [aF,not_or] at hn;exact kk e o hn.1 hn.2.1 hn.2.2 h
  have trk:∀ e o,H e=some o→e ∉ z::TO::is:=fun e o he hm=>by rw [nz e (sub e hm)] at he;cases he
  apply I.turnAll (ch:=z::TO::is) (fun e he=>hf e (sub e he)) k2 (fun _ _ h=>h) (fun _ _ _ n=>n) fun e o h=>?_
  exact (I.hok e o h).stay (fun c v hc' q'=>k2 c v (by
   rcases hc' with z' | z'
   ·rw [z'];exact trk e o h
   ·exact trk c _ z') q') (fun _ q'=>q') fun _ _ q'=>q'
 self:=fun _ _ _ _ _ st h=>let ⟨_,D⟩:=st;wpAny_pyIter_zip D.zip h
structure ZNew (h g:bL)(cs:List Sq):Prop where
 zip:IsZip g (h.objs.size+cs.length+2) (h.objs.size+cs.length) (h.objs.size+cs.length+1) .none
 ti:nJ g (h.objs.size+cs.length) (((aJ cs.length).map fun j=>h.objs.size+j).map ae.ref)
 to:nJ g (h.objs.size+cs.length+1) (bx cs.length .none)
 its:∀ (n:Nat) c,cs[n]? =some c→ItAt g c (h.objs.size+n) 0
 ext:∀ b o,h.get? b=some o→g.get? b=some o
def newClass_zip (vs:List ae):eQ.SmallTypes.newClass "zip" ⟨.type "zip" :: vs,[]⟩=fQ (.type "zip",vs):=by
 unfold eQ.SmallTypes.newClass;simp only [isType,sub_zip,pure_bind,Bool.not_true,Bool.false_eq_true,if_false]
def zipS_new (cs:List Sq)(few:cs.length≤8) :
  Meets (eQ.«zip.__new__» ⟨.type "zip" :: cs.map fun c=>ae.ref c.a,[]⟩) (fun _ R s=>(∀ c∈cs,∃ xs,SqAt s.heap c xs)∧∀ g,ZNew s.heap g cs→R (.ok (.ret (.ref (s.heap.objs.size+cs.length+2)))) { s with heap:=g }) :=
 .of_wp fun prog w A R s h=>by
  obtain ⟨h1,h⟩:=h;unfold eQ.«zip.__new__»;apply ai (wpAny_of_eq (newClass_zip _) ?_);show aU _ _ (eQ.SmallTypes.iterAll (cs.map fun c=>ae.ref c.a) >>= _) _ _ _;apply ai ?_;unfold eQ.SmallTypes.iterAll;apply ai (oZ _ (fun j its s'=>∃ g,s'={ s with heap:=g }∧g.objs.size=s.heap.objs.size+j∧its=((aJ j).map fun i=>ae.ref (s.heap.objs.size+i)).toArray∧(∀ (n:Nat) c,n<j→cs[n]? =some c→ItAt g c (s.heap.objs.size+n) 0)∧∀ b o,s.heap.get? b=some o→g.get? b=some o) _ _ ⟨s.heap,rfl,rfl,rfl,fun n c hn=>rQ hn ⋯,fun _ _ e=>e⟩ ?_ ?_)
  ·rintro j a its s' ha ⟨g,rfl,sz,rfl,hit,ext⟩
   rw [ax] at ha;obtain ⟨c,hc,rfl⟩:=aO.mp ha;obtain ⟨xs,hx⟩:=h1 c (aW hc);apply ai (cW (iterS (c:=c) (xs:=xs) (hx.ext fun o e=>ext _ o e) fun g2 i2 z2 e2=>?_));apply aL ⟨_,rfl,g2,rfl,?_,?_,fun n c' hn hc'=>?_,fun b o e=>e2 b o (ext b o e)⟩
   ·show g2.objs.size=_
    rw [z2];show g.objs.size+1=_;rw [sz];lia
   ·show Array.push _ (ae.ref g.objs.size)=_
    rw [sz,ir,aE];simp
   ·by_cases e:n=j
    ·subst e
     rw [hc] at hc';cases hc';have i2:ItAt g2 c g.objs.size 0:=i2;rw [sz] at i2;exact i2
    ·exact (hit n c' ⋯ hc').ext fun o q=>e2 _ o q
  ·rintro its s' ⟨g,rfl,sz,rfl,hit,ext⟩
   have ll:(cs.map fun c=>ae.ref c.a).length=cs.length:=aa ..;rw [ll] at sz hit ⊢;apply aL ?_
   dsimp only
   have n8:((aJ cs.length).map fun i=>ae.ref (s.heap.objs.size+i)).length≤bg:=by
    rw [aa,aY];exact aN few ↥0
   apply ai (wpAny_newTuple ?_ (by simpa using n8));apply ai (wpAny_newTuple ?_ (by simpa using n8));apply ai ?_;unfold eQ.SmallTypes.newRecord;apply eG (aL ⟨_,rfl,?_⟩) (by show 5≤bg+2;decide);have e1:(g.push { cls:= .type "tuple",data:= .seq ((aJ cs.length).map fun i=>ae.ref (s.heap.objs.size+i)).toArray }).objs.size=s.heap.objs.size+cs.length+1:=by rw [dh,sz]
   have e2:((g.push { cls:= .type "tuple",data:= .seq ((aJ cs.length).map fun i=>ae.ref (s.heap.objs.size+i)).toArray }).push { cls:= .type "tuple",data:= .seq ((((aJ cs.length).map fun i=>ae.ref (s.heap.objs.size+i)).toArray.toList.map fun _=>ae.none)).toArray }).objs.size=s.heap.objs.size+cs.length+2:=by rw [dh,e1]
   have key:=h (((g.push { cls:= .type "tuple",data:= .seq ((aJ cs.length).map fun i=>ae.ref (s.heap.objs.size+i)).toArray }).push { cls:= .type "tuple",data:= .seq ((((aJ cs.length).map fun i=>ae.ref (s.heap.objs.size+i)).toArray.toList.map fun _=>ae.none)).toArray }).push { cls:= .type "zip",data:= .fields #[.none,.bool false,.bool false,.ref (s.heap.objs.size+cs.length),.ref (s.heap.objs.size+cs.length+1)] })
    ⟨by rw [←e2];exact aQ _ rfl,?_,?_,fun n c hc=>(hit n c (ao.mp hc).1 hc).ext fun o q=>aq _ (aq _ (aq _ q)),fun b o q=>aq _ (aq _ (aq _ (ext b o q)))⟩
   ·rw [←e2] at key
    have e1':(s.heap.objs.size+cs.length:Nat)=g.objs.size:=sz.symm;rw [←e1,e1'] at key;exact key
   ·have em:(((aJ cs.length).map fun j=>s.heap.objs.size+j).map ae.ref)=((aJ cs.length).map fun i=>ae.ref (s.heap.objs.size+i)):=by rw [cY];rfl
    show bL.get? _ _=_;rw [em,←sz];exact aq _ (aq _ (aQ _ rfl))
   ·rw [←e1]
    have er:(((aJ cs.length).map fun i=>ae.ref (s.heap.objs.size+i)).toArray.toList.map fun _=>ae.none)=bx cs.length ae.none:=by
     rw [List.eq_replicate_iff];exact ⟨∅,fun x hx=>by obtain ⟨_,_,rfl⟩:=bc.mp hx;rfl⟩
    rw [er];exact aq _ (aQ _ rfl)
def zip_walk {s1:av}{k0}{pt:Pos}{R:It→Hp→Prop}{cs:List Sq}(I1:Inv X aR σ H1 s1)(few:cs.length≤8)(pos:0<cs.length)(hq:∀ c∈cs,∃ xs,HSq H1 c xs)(q:R (Itq cs) H1){g:bL}(Z:ZNew s1.heap g cs) :
  aU (bt X.prog X.w) X.A (pyIter (.ref (s1.heap.objs.size+cs.length+2))) (PIE X aR σ (.Tuple es k0 pt) R) E { s1 with heap:=g }:=by
 have small:∀ c∈cs,c.a<s1.heap.objs.size:=fun c hc=>by
  obtain ⟨xs,hx⟩:=hq c hc;obtain ⟨o,ho⟩:=hx.has;exact Nat.lt_of_not_le fun hge=>by rw [I1.hok.fresh hge] at ho;cases ho
 apply wpAny_pyIter_zip Z.zip ⟨_,(s1.heap.objs.size+cs.length+2)::(s1.heap.objs.size+cs.length)::(s1.heap.objs.size+cs.length+1)::((aJ cs.length).map fun j=>s1.heap.objs.size+j),_,Itq cs,H1,rfl,I1.kept (t':=s1.toks) Z.ext,turn_zipS,⟨_,?_,few,pos,?_,Z.zip,Z.ti,Z.to,by rw [dI],fun n c i hc hi=>?_,fun c hc=>?_⟩,fun e he=>?_,q⟩
 ·rw [aa,aY]
 ·have nd:((aJ cs.length).map fun j=>s1.heap.objs.size+j).Nodup:=by
   rw [bY,gB];exact (bY.mp List.nodup_range).imp fun h e=>h ⋯
  have out:∀ x,s1.heap.objs.size+cs.length≤x→x ∉ ((aJ cs.length).map fun j=>s1.heap.objs.size+j):=fun x hx hm=>by
   obtain ⟨j,hj,rfl⟩:=bc.mp hm;have:=bT.mp hj;lia
  rw [bz,bz,bz];apply ⟨fun h=>?_,fun h=>?_,fun h=>out _ (by show @LE.le Nat _ _ _;lia) h,nd⟩
  ·rcases aF.mp h with h | h
   ·have h: @Eq Nat _ _:=h
    lia
   ·rcases aF.mp h with h | h
    ·have h: @Eq Nat _ _:=h
     lia
    ·exact out _ (by show @LE.le Nat _ _ _;lia) h
  ·rcases aF.mp h with h | h
   ·have h: @Eq Nat _ _:=h
    lia
   ·exact out _ (by show @LE.le Nat _ _ _;lia) h
 ·rw [ax,fb (ao.mp hc).1] at hi
  cases hi;exact Z.its n c hc
 ·have:=small c hc
  have this: @LT.lt Nat _ c.a s1.heap.objs.size:=this;apply ⟨by show @Ne Nat _ _;lia,by show @Ne Nat _ _;lia,fun hm=>?_⟩;obtain ⟨j,hj,e⟩:=bc.mp hm;have e: @Eq Nat _ _:=e;lia
 ·have hge:s1.heap.objs.size≤e:=by
   simp only [aF] at he
   rcases he with rfl | rfl | rfl | he
   ·show @LE.le Nat _ _ _;lia
   ·show @LE.le Nat _ _ _;lia
   ·show @LE.le Nat _ _ _;lia
   ·obtain ⟨j,hj,rfl⟩:=bc.mp he
    show @LE.le Nat _ _ _;lia
  exact I1.fpOk hge (I1.hok.fresh hge)
def iZip2 (ta:TA):TI:=fun σ H R=>ta σ H fun vs H1=>∃ c1 c2 xs ys,vs=[.ref c1.a,.ref c2.a]∧HSq H1 c1 xs∧HSq H1 c2 ys∧R (Itq [c1,c2]) H1
def pi_zip2 {eb:Expr}{ta:TA}{p:Pos}{k0}{pt:Pos}(hg:Gl X "zip")(hm:X.mg "zip" =none)(ha:PA X [ea,eb] ta)(hs:br [ea,eb] X.env=[(false,eE ea X.env),(false,eE eb X.env)]:=by rfl)(hs2:br [eb] X.env=[(false,eE eb X.env)]:=by rfl) :
  PI X (.Tuple es k0 pt) (.Call (.Name "zip" p) [ea,eb] [] pos) (iZip2 ta):=by
 intro aR s σ H R I h;apply Call_ (mE I hg hm boot_zip (fN (thn (ha pos aR s σ H _ I h) fun us s1 ⟨vs,H1,I1,r1,q1⟩=>?_) (by rw [hs,hs2]) (by rw [hs2];rfl)));obtain ⟨c1,c2,xs,ys,e,h1,h2,q⟩:=q1;subst e;obtain ⟨u1,u2,rfl,r2,r3⟩:=vals2 r1;cases (show u1=ae.ref c1.a from r2);cases (show u2=ae.ref c2.a from r3);obtain ⟨_,_,p1⟩:=h1.at I1;obtain ⟨_,_,p2⟩:=h2.at I1;apply callType_new F.called_zip ↥0 (F.typeCall_zip_2 _ _) (F.newCall_zip_2 _ _) (fun obj=>F.args_object_init_3 obj _ _) F.entry_zip_new (zipS_new [c1,c2] (by show 2≤8;decide)) ⟨fun c hc=>?_,fun g Z=>⟨⟨_,Z.zip,rfl⟩,?_⟩⟩
 ·simp only [aF,cx,or_false] at hc
  rcases hc with rfl | rfl
  ·exact ⟨_,p1⟩
  ·exact ⟨_,p2⟩
 ·apply zip_walk (cs:=[c1,c2]) I1 (by show 2≤8;decide) (by show 0<2;decide) (fun c hc=>?_) q Z
  simp only [aF,cx,or_false] at hc
  rcases hc with rfl | rfl
  ·exact ⟨_,h1⟩
  ·exact ⟨_,h2⟩
def for_zip2 {c1 c2:Sq}{tb:TS}{D:lE}(Pv:Nat→St→Hp→Prop)(h0:Pv 0 σ H)(hl:∀ i σ H,i≤xs.length→Pv i σ H→HSq H c1 xs∧HSq H c2 ys)(hxy:xs.length=ys.length)
  (hs:∀ i x y p σ H,xs[i]? =some x→ys[i]? =some y→Pv i σ H→H p=none→g (.ref p) σ (upd H p (.tup [x,y])) fun σ2 H2=>tb { D with nx:=Pv (i+1),ct:=Pv (i+1),bk:=D.nx } σ2 H2) (hd:∀ σ H,Pv xs.length σ H→D.nx σ H) :
  ∃ W:Nat→Nat→St→Hp→Prop,(∃ m,W 0 m σ H)∧∀ i m σ H,W i m σ H →
   ((Itq [c1,c2]).stop i H∧D.nx σ H)∨((Itq [c1,c2]).go i H∧∃ N:St→Hp→Prop,(∀ σ' H',N σ' H'→∃ m',m'<m∧W (i+1) m' σ' H')∧∀ x H',(Itq [c1,c2]).yld i H x H'→g x σ H' fun σ2 H2=>tb { D with nx:=N,ct:=N,bk:=D.nx } σ2 H2):=by
 apply ⟨fun i m σ H=>i≤xs.length∧m=xs.length - i∧Pv i σ H,⟨_,bo _,rfl,h0⟩,fun i m σ H ⟨hi,hm,hp⟩=>?_⟩;obtain ⟨qa,qb⟩:=hl i σ H hi hp
 by_cases e:i=xs.length
 ·subst e
  exact .inl ⟨⟨0,c1,xs,rfl,qa,az _,fun n c _ hn=>rQ hn ⋯⟩,hd σ H hp⟩
 ·have hlt:i<xs.length:=fH hi e
  have hlt2:i<ys.length:=by lia
  apply .inr ⟨⟨[xs[i],ys[i]],rfl,fun n c hc=>?_⟩,Pv (i+1),fun σ' H' hp'=>⟨xs.length - (i+1),⋯,⋯,rfl,hp'⟩,fun v H3 hy=>?_⟩
  ·match n,hc with
   | 0,hc=>cases hc;exact ⟨xs,xs[i],qa,gE hlt,rfl⟩
   | 1,hc=>cases hc;exact ⟨ys,ys[i],qb,gE hlt2,rfl⟩
   | n+2,hc=>simp at hc
  ·obtain ⟨p,vs,hn,rfl,rfl,lv,hx⟩:=hy
   match vs,lv,hx with
   | [x,y],_,hx=>exact hs i x y p σ H (hx 0 c1 x xs rfl qa rfl) (hx 1 c2 y ys rfl qb rfl) hp hn
def ps_setCT {py:Pos}{xs:List Str}
  (hN0:X.N.Nodup) (hi0:X.N[iy]? =some y0) (hx0:Loc X.env.scope y0) (hc:X.calm=true) (hi:PI X tg iter wi)
  (iD:∀ y∈scope.names,y.2≠ .cell) (mH:scope.kind= .function) (k9:∀ y∈scope.names,y.2= .local→scope.names.lookup y.1=some .local)
  (hfr:∀ y∈scope.names,y.2= .free→X.env.scope.names.lookup y.1=some .cell) (hjs:js.map (fun j=>X.N[j]?)=fr.map some) (hfv:∀ y∈fr,scope.names.lookup y=some .free)
  (hg:∀ cl C s' H' ex,PG (gf X scope cl C (xs++fr) s' H' ex) tg g)
  (hb:∀ cl C s' H' ex,PE (gf X scope cl C (xs++fr) s' H' ex) elt te∧PTs (gf X scope cl C (xs++fr) s' H' ex) ifs tt)
  (hs:∀ z,fT iter X.env z=fQ z:=by intro _;rfl) (hsw:swapsWith (.ListComp elt [⟨tg,iter,ifs,0⟩] scope pos) (some (.Name y0 py)) spos.line X.env=fQ true:=by rfl)
  (hf0:X.fn y0=true∨X.env.scope.names.lookup y0=some .local:=by first | exact .inl rfl | exact .inr rfl | assumption) :
  PS X (.Assign [.Name y0 py] (.ListComp elt [⟨tg,iter,ifs,0⟩] scope pos) spos) (tAsg (tCompT wi xs.length g js tt te) (oK iy)) :=
 ps_setCC hN0 hi0 hx0 hc hi iD mH k9 hfr hjs hfv hg hb (fun _ _ _ _ h=>h) hs hsw hf0
def PE.cutV {t:TE}(h:PE X e t):PE X e (fun σ H Q=>∃ N:VK,(∀ v H',N v H'→Q v H')∧t σ H N):=fun aR s σ H Q I ⟨N,i,q⟩ =>
 thn (h aR s σ H N I q) fun u s' ⟨v,H',I',rv,q'⟩=>⟨v,H',I',rv,i _ _ q'⟩
end L2
variable {cs:List L2.Sq}
local macro_rules
 | `(tactic|exists $s:term) => `(tactic|(show ∀ y:bU×PySem.NameKind,y∈_→y.2=PySem.NameKind.free→eM y.1 (L2.defScope $s).names=some PySem.NameKind.cell;decide +kernel))
local macro_rules
 | `(tactic|trivial) => `(tactic|first|decide +kernel|exact ⟨rfl,rfl,rfl,by decide +kernel,rfl,by decide +kernel,by decide +kernel⟩|exact True.intro)
local macro_rules
 | `(tactic|contradiction) => `(tactic|(intro _ _ _ _ h;first | (cases h;subst_vars;rfl) | ((repeat (obtain ⟨_,h⟩:=h));subst_vars;rfl)))
namespace L2
open PySem PyProof.Rows
def ixZ {a:Expr}{p q:Pos}{i:Int}{j}(h:PE X a ta):PE X (.Subscript a (.Constant (.int i) j p) q) (tOp (rIxT X.K) ta (tC (.int i))):=fA fk h bI (fun _ _=>rfl)
def szZ1:1≤bg:=by decide
def pJ:2≤bg:=by decide
def szZ4:4≤bg:=by decide
def szZ5:5≤bg:=by decide
def psZ (i:Nat)(hN:X.N.Nodup)(he:PE X e te)(hi:X.N[i]? =some x:=by rfl)(hx:Loc X.env.scope x:=by first|exact .inl rfl|exact .inr rfl)(hs:swapsWith e (some (.Name x pos')) pos.line X.env=fQ false:=by rfl)(hf:X.fn x=true∨X.env.scope.names.lookup x=some .local:=by first|exact .inl rfl|exact .inr rfl|assumption):PS X (.Assign [.Name x pos'] e pos) (tAsg te (oK i)):=ps_set hN hi hx he hs hf
def pgZ (i:Nat)(hN:X.N.Nodup)(hi:X.N[i]? =some x:=by rfl)(hx:Loc X.env.scope x:=by first|exact .inl rfl|exact .inr rfl)(hf:X.fn x=true∨X.env.scope.names.lookup x=some .local:=by first|exact .inl rfl|exact .inr rfl|assumption):PG X (.Name x pos) (oK i):=oJ hN hi hx hf
end L2
namespace L2
abbrev pza:List bU:=["net"]
abbrev pzb:List bU:=["net","thing"]
abbrev pzc:List bU:=["net","step"]
abbrev pzd:List bU:=["net","span"]
abbrev pze:List bU:=["net","bounds","ring"]
abbrev pzf:List bU:=["_law_box_here","_law_net"]
abbrev pzg:List bU:=["_law_script","_law_k"]
abbrev pzh:List bU:=["_law_box_here","_law_most"]
abbrev pzi:List bU:=["_law_net","_law_table_here"]
abbrev pzj:List bU:=["beat","number"]
abbrev pzk:List bU:=["net","spans","happening"]
abbrev pzl:List bU:=["net","case"]
abbrev pzm:List bU:=["bounds","span","low","high"]
abbrev pzn:List bU:=["net","most"]
abbrev pzo:List bU:=["numbers"]
abbrev pzp:List bU:=["_law_net","_law_table_here","_law_other"]
abbrev pzq:List bU:=["thing","low","high"]
abbrev pzr:List bU:=["thing","word","many"]
abbrev pzs:List bU:=["net","one","other"]
abbrev pzt:List bU:=["case","span"]
abbrev pzu:List bU:=["table","other"]
abbrev pzv:List bU:=["net","table"]
abbrev pzw:List bU:=["net","parts","table","shifts"]
abbrev pzx:List bU:=["rings","span"]
abbrev pzy:List bU:=["net","leaf_in"]
abbrev pzz:List bU:=["_law_net","_law_thing"]
abbrev pzA:List bU:=["net","bounds","leaf"]
abbrev pzB:List bU:=["_law_net","_law_table_here","_law_found"]
abbrev pzC:List bU:=["_law_beat","_law_many"]
abbrev pzD:List bU:=["_law_net","_law_span","_law_table_here"]
abbrev pzE:List bU:=["net","spans","begin","end"]
abbrev pzF:List bU:=["net","steps","bounds"]
abbrev pzG:List bU:=["bounds","way"]
abbrev pzH:List bU:=["self","case","span","at"]
abbrev pzI:List bU:=["net","parts","table","other"]
abbrev pzJ:List bU:=["_law_net","_law_table_here","_law_tables_here"]
abbrev pzK:List bU:=["bounds","thing"]
abbrev pzL:List bU:=["bounds","cut"]
abbrev pzM:List bU:=["_law_box_here","_law_most","_law_many"]
end L2
namespace HN
open PySem L2 PyProof.Rows
def ow {b:Bool}{A:Prop}(h:b=true)(x:A):if b=true then A else B:=by rw [rO h];exact x
def kL {b:Bool}{A:Prop}(h:b=false)(x:B):if b=true then A else B:=by rw [rN (by rw [h];exact aZ)];exact x
structure Nm (mg:Str→Option ae):Prop where
 isin:mg "isinstance" =none
 tint:mg "int" =none
 tbool:mg "bool" =none
 ttup:mg "tuple" =none
 len:mg "len" =none
 min:mg "min" =none
 all:mg "all" =none
structure Fn (K:ar)(mg:Str→Option ae)(x:Str)(st:cL)(ps:List Str)(f:ak)(fd:bh):Prop where
 F:Fun K x x st f fd
 mg:mg x=some (.ref f)
 b:oO K fd ps []
def pc1 {k:Nat}{sp:Sp}{p:Pos}(G:Fn X.K X.mg x st ps f fd)(F:cO X.prog X.w X.K X.mg X.base CX0 k f fd ps sp)(hr:ik k X.A)
  (ha:PA X (e::es) t) (hg:Gl X x:=by rfl) (hdb:(x == ("__debug__" :Str))=false:=by decide) (he:br (e::es) X.env=(false,eE e X.env)::br es X.env:=by rfl) (hpl:(eR pos (br es X.env)).any (·.1)=false:=by rfl) :
  PE X (.Call (.Name x p) (e::es) [] pos) (tCall sp [] E0 t):=pe_call F hr hg G.mg G.F.kp G.b .nil pass0 ha hdb he hpl
def pe_gint {i:Int}(hm:∃ t,X.mg x=some (.int i t))(hg:Gl X x:=by rfl)(hd:(x == ("__debug__" :Str))=false:=by decide):PE X (.Name x pos) (tC (.int i)) :=
 let ⟨t,e⟩:=hm;pe_glob (v:= .int i) (u:= .int i t) hg e ⟨t,rfl⟩ hd
def mN {p:Pos}(N:Nm X.mg)(he:PE X e te)(hg:Gl X "isinstance" := by rfl)(hg2:Gl X "tuple" := by rfl)
  (hs1:br [e,.Name "tuple" p2] X.env=(false,eE e X.env)::br [.Name "tuple" p2] X.env:=by rfl) (hpl:(eR pos (br [.Name "tuple" p2] X.env)).any (·.1)=false:=by rfl) :
  PE X (.Call (.Name "isinstance" p) [e,.Name "tuple" p2] [] pos) (tCB (fun xs H Q=>∃ x T,xs=[x,.ty "tuple"]∧tyn H x=some T∧Q (.bl (T == "tuple")) H) (nR te (nR (tC (.ty "tuple")) tNil))) :=
 cg call_isTup hg N.isin boot_isinstance (ag he (ag (pe_bltn hg2 N.ttup iG rfl) aD) hs1) (he:=hs1) (hpl:=hpl)
def pe_isInt {p:Pos}(N:Nm X.mg)(he:PE X e te)(hg:Gl X "isinstance" := by rfl)(hg2:Gl X "int" := by rfl)
  (hs1:br [e,.Name "int" p2] X.env=(false,eE e X.env)::br [.Name "int" p2] X.env:=by rfl) (hpl:(eR pos (br [.Name "int" p2] X.env)).any (·.1)=false:=by rfl) :
  PE X (.Call (.Name "isinstance" p) [e,.Name "int" p2] [] pos) (tCB (fun xs H Q=>∃ x T,xs=[x,.ty "int"]∧tyn H x=some T∧Q (.bl (T == "int" || T == "bool")) H) (nR te (nR (tC (.ty "int")) tNil))) :=
 cg call_isInt hg N.isin boot_isinstance (ag he (ag (pe_bltn hg2 N.tint boot_int rfl) aD) hs1) (he:=hs1) (hpl:=hpl)
def pe_isBool {p:Pos}(N:Nm X.mg)(he:PE X e te)(hg:Gl X "isinstance" := by rfl)(hg2:Gl X "bool" := by rfl)
  (hs1:br [e,.Name "bool" p2] X.env=(false,eE e X.env)::br [.Name "bool" p2] X.env:=by rfl) (hpl:(eR pos (br [.Name "bool" p2] X.env)).any (·.1)=false:=by rfl) :
  PE X (.Call (.Name "isinstance" p) [e,.Name "bool" p2] [] pos) (tCB (fun xs H Q=>∃ x T,xs=[x,.ty "bool"]∧tyn H x=some T∧Q (.bl (T == "bool")) H) (nR te (nR (tC (.ty "bool")) tNil))) :=
 cg call_isBool hg N.isin boot_isinstance (ag he (ag (pe_bltn hg2 N.tbool boot_bool rfl) aD) hs1) (he:=hs1) (hpl:=hpl)
structure Sn where
 s:Int
 g:Int
 l:Int
 o:Int
 w:Int
abbrev Sn.row (x:Sn):List Int:=[x.s,x.g,x.l,x.o,x.w]
abbrev jX (b m:Int)(sp:List Sn):Dt:= .tup [.int b,.int m,.tup (sp.map fun x=> .tup (x.row.map Dt.int))]
def fJ {m:Int}{sp:List Sn}(h:IsD H v (jX b m sp)):∃ t p ys,v= .ref t∧H t=some (.tup [.int b,.int m,.ref p])∧H p=some (.tup ys)∧ys.length=sp.length∧∀ (i:Nat) (x:Sn),sp[i]? =some x→∃ q,ys[i]? =some (.ref q)∧H q=some (.tup [.int x.s,.int x.g,.int x.l,.int x.o,.int x.w]):=by
 obtain ⟨t,xs,rfl,ht,rx⟩:=h.tup_of;cases rx with
 | cons h0 r0 =>
  cases r0 with
  | cons h1 r1 =>
   cases r1 with
   | cons h2 r2 =>
    cases r2;cases h0;cases h1;obtain ⟨p,ys,rfl,hp,ry⟩:=h2.tup_of;apply ⟨t,p,ys,rfl,ht,hp,by rw [ry.length,aa],fun i x hx=>?_⟩;obtain ⟨y,hy,dy⟩:=ry.at (i:=i) (d:= .tup (x.row.map Dt.int)) (by rw [ax,hx];rfl);obtain ⟨q,zs,rfl,hq,rz⟩:=dy.tup_of;have ez:=rz.ints_of;subst ez;exact ⟨q,hy,hq⟩
def tm (ts:List Int)(i:Int):Int:=ts.getD i.toNat 0
def oy {i:Int}(h0:0≤i)(h1:i<ts.length):atI (ts.map V.int) i=some (.int (tm ts i)):=by
 obtain ⟨j,rfl⟩:=cG h0;apply aS ?_;rw [ax,gE ⋯];unfold tm;rw [cb,af,gE ⋯];rfl
structure Rdy (b:Int)(ts:List Int)(sp:List Sn):Prop where
 b1:0<b
 few:sp.length≤1000
 ends:∀ x∈sp,0≤x.s∧x.s<ts.length∧0≤x.g∧x.g<ts.length
def iU (b:Int)(ts:List Int)(x:Sn):Int:=(tm ts x.g - tm ts x.s - x.l) % b
def brk (b:Int)(ts:List Int)(x:Sn):Bool:=decide (x.o - x.l<iU b ts x)
def l9 (b:Int)(ts:List Int)(sp:List Sn):Bool:= !(sp.any (brk b ts))
def waitOfM (b:Int)(ts:List Int)(sp:List Sn):Int:=(sp.map fun x=>x.w * iU b ts x).sum
def jF (b k:Int)(ns:List Int):List Int:=ns.map fun n=>(n+k) % b
def d8 (h:n≤1000):n≤bg:=aN h ↥0
structure Nt (mg:Str→Option ae):Prop where
 range:mg "range" =none
 enum:mg "enumerate" =none
 zip:mg "zip" =none
 sum:mg "sum" =none
 tlist:mg "list" =none
 max:mg "max" =none
structure SnOk (b m:Int)(x:Sn):Prop where
 s0:0≤x.s
 s1:x.s<m
 g0:0≤x.g
 g1:x.g<m
 ne:x.s≠x.g
 l0:0≤x.l
 lo:x.l≤x.o
 ob:x.o<x.l+b
 o60:x.o<10 ^ 60
 w0:0≤x.w
 w1:x.w≤1000000000000
structure kl (b m:Int)(sp:List Sn):Prop where
 b1:1≤b
 b2:b≤10 ^ 59
 m1:1≤m
 m2:m≤16
 few:sp.length≤40
 all:∀ x∈sp,SnOk b m x
def kl.rdy {m:Int}{sp:List Sn}(h:kl b m sp)(ht:(ts.length:Int)=m):Rdy b ts sp :=
 ⟨by have:=h.b1;lia,by have:=h.few;lia,fun x hx=>by have:=h.all x hx;exact ⟨this.s0,by have:=this.s1;lia,this.g0,by have:=this.g1;lia⟩⟩
def tm_in {i:Int}(h:∀ i∈ts,0≤i∧i<b)(h0:0≤i)(h1:i<ts.length):0≤tm ts i∧tm ts i<b:=by
 have hi:i.toNat<ts.length:=by lia
 have e:tm ts i=ts[i.toNat]:=by unfold tm;rw [af,gE hi];rfl
 rw [e];exact h _ (bb hi)
def rest_two (x y l b:Int):(x % b - y % b - l) % b=(x - y - l) % b:=by
 have hx:=iI x b;have hy:=iI y b;have e:x - y - l=(x % b - y % b - l)+b * (x / b - y / b):=by rw [Int.mul_sub];lia
 rw [e,i7]
inductive spRest (vs:List V)(H:Hp)(Q:VK)(_:XK):Prop
 | mk (b n:_)(_:vs=[.int b,.int n])(_:0<b)(_:Q (.int (n % b)) H)
inductive spWidth (vs:List V)(H:Hp)(Q:VK)(_:XK):Prop
 | mk (v b m sp i x:_)(_:vs=[v,.int (i:Nat)])(_:IsD H v (jX b m sp))(_:sp[i]? =some x)(_:Q (.int (x.o - x.l)) H)
def Mb (p:ak)(H H':Hp):Prop:=(∀ b o,b≠p→H b=some o→H' b=some o)∧∃ x y,H' p=some (.lst [.int x,.int y])
def Mb.refl {p:ak}{x:Int}(h:H p=some (.lst [.int x,.int y])):Mb p H H:=⟨fun _ _ _ e=>e,x,y,h⟩
def Mb.trans {p:ak}(a:Mb p H H1)(b:Mb p H1 H2):Mb p H H2:=⟨fun c o hc e=>b.1 c o hc (a.1 c o hc e),b.2⟩
def Mb.then {p:ak}(a:Mb p H H1)(e:bG H1 H2):Mb p H H2:=⟨fun c o hc q=>e _ _ (a.1 c o hc q),let ⟨x,y,h⟩:=a.2;⟨x,y,e _ _ h⟩⟩
def Mb.at {p q:ak}(a:Mb p H H1)(h:H q=some o)(hne:q≠p):H1 q=some o:=a.1 q o hne h
def bG.mb {p:ak}(e:bG H H1)(hp:H p=none)(m:Mb p H1 H2):bG H H2:=fun b o q=>m.1 b o (fun z=>by rw [z,hp] at q;cases q) (e b o q)
inductive spCell (K:ar)(vs:List V)(H:Hp)(Q:VK)(_:XK):Prop
 | mk (a:ak)(ns:List Int)(k:Int)(_:vs=[.ref a,.int k])(_:SqL K H a (ns.map V.int))(_:0≤k)(_:∀ c:Int,Q (.int c) H)
inductive spBox (K:ar)(vs:List V)(H:Hp)(Q:VK)(_:XK):Prop
 | mk (a:ak)(ns:List Int)(k:Int)(_:vs=[.ref a,.int k])(_:SqL K H a (ns.map V.int))(_:0≤k)(_:∀ x y p,H p=none→Q (.ref p) (upd H p (.lst [.int x,.int y])))
inductive spDraw (vs:List V)(H:Hp)(Q:VK)(_:XK):Prop
 | mk (p x y m:_)(_:vs=[.ref p,.int m])(_:H p=some (.lst [.int x,.int y]))(_:0<m)(_:m<10 ^ 61)(_:∀ r H',0≤r→r<m→Mb p H H'→Q (.int r) H')
def boxed {p:ak}{x:Int}{sp:List Sn}:∀ {zs:List V},dW H zs (sp.map fun z=> .tup (z.row.map Dt.int))→Mb p H H'→H p=some (.lst [.int x,.int y])→dW H' zs (sp.map fun z=> .tup (z.row.map Dt.int)):=by
 induction sp with
 | nil=>intro zs h _ _;cases h;exact .nil
 | cons z r ih =>
  intro zs h M hp;cases h with
  | cons h1 h2 =>
   apply .cons ?_ (ih h2 M hp);obtain ⟨q,ws,rfl,hq,rw'⟩:=h1.tup_of;have e:=rw'.ints_of;subst e;exact .tup (M.1 q _ (fR hq hp nofun) hq) (dW.ints _)
def atI_in {xs:List α}{r:Int}(h0:0≤r)(h1:r<xs.length):∃ v,atI xs r=some v∧v∈xs:=by
 obtain ⟨j,rfl⟩:=cG h0;have hj:j<xs.length:=by lia
 exact ⟨xs[j],aS (gE hj),bb hj⟩
def log_ok {m:Int}(h0:0<m)(h:m<10 ^ 61):0<m∧m.natAbs.log2<9000:=by
 apply ⟨h0,?_⟩;have h1:m.natAbs<2 ^ 300:=by
  have:(10:Nat) ^ 61<2 ^ 300:=by trivial
  have h2:m.natAbs<10 ^ 61:=by lia
  exact Nat.lt_trans h2 this
 have h3:m.natAbs≠0:=by lia
 have:=(Nat.log2_lt h3).mpr h1;lia
def goal_ok {s t m:Int}(h0:0≤s)(h1:s<m)(h2:0≤t)(h3:t<m - 1):0≤(s+1+t) % m∧(s+1+t) % m<m∧s≠(s+1+t) % m:=by
 have hm:0<m:=by lia
 have a:=eI (s+1+t) (by lia:m≠0);have b:=dO (s+1+t) hm;apply ⟨a,b,?_⟩
 by_cases q:s+1+t<m
 ·rw [fP ⋯ q];lia
 ·have e:(s+1+t) % m=(s+1+t - m) % m:=(Int.sub_emod_right _ _).symm
  rw [e,fP ⋯ ⋯];lia
abbrev rowsP {α:Type}(f:α→List Int)(xs:List α):Dt:= .tup (xs.map fun x=> .tup ((f x).map Dt.int))
def jb {f:α→List Int}{xs:List α}(r:dW H ys (xs.map fun x=> .tup ((f x).map Dt.int))){x:α}(hx:xs[i]? =some x):∃ q,ys[i]? =some (.ref q)∧H q=some (.tup ((f x).map V.int)):=by
 obtain ⟨y,hy,dy⟩:=r.at (i:=i) (d:= .tup ((f x).map Dt.int)) (by rw [ax,hx];rfl);obtain ⟨q,zs,rfl,hq,rz⟩:=dy.tup_of;have ez:=rz.ints_of;subst ez;exact ⟨q,hy,hq⟩
def gT {f:α→List Int}{xs:List α}(h:IsD H v (rowsP f xs)):∃ p ys,v= .ref p∧H p=some (.tup ys)∧ys.length=xs.length∧dW H ys (xs.map fun x=> .tup ((f x).map Dt.int)):=by
 obtain ⟨p,ys,rfl,hp,ry⟩:=h.tup_of;exact ⟨p,ys,rfl,hp,by rw [ry.length,aa],ry⟩
structure Stp where
 i:Nat
 d:Int
abbrev Stp.row (s:Stp):List Int:=[(s.i:Int),s.d]
abbrev oW (ws:List Stp):Dt:=rowsP Stp.row ws
abbrev bndR (p:Int×Int):List Int:=[p.1,p.2]
abbrev bndP (bs:List (Int×Int)):Dt:=rowsP bndR bs
def frm (x:Sn)(d:Int):Int:=if d=1 then x.s else x.g
def too (x:Sn)(d:Int):Int:=if d=1 then x.g else x.s
def qP (n:Nat)(ws:List Stp):Prop:=∀ s∈ws,s.i<n∧(s.d=1∨s.d= -1)
def kU (sp:List Sn)(s:Stp):Int:=match sp[s.i]? with | some x=>frm x s.d | none=>0
def fc (sp:List Sn)(s:Stp):Int:=match sp[s.i]? with | some x=>too x s.d | none=>0
def lowS (bs:List (Int×Int))(s:Stp):Int:=match bs[s.i]? with | some p=>if s.d=1 then p.1 else -p.2 | none=>0
def mI (bs:List (Int×Int))(s:Stp):Int:=match bs[s.i]? with | some p=>if s.d=1 then p.2 else -p.1 | none=>0
def gv (bs:List (Int×Int))(ws:List Stp):Int:=(ws.map (lowS bs)).sum
def i3 (bs:List (Int×Int))(ws:List Stp):Int:=(ws.map (mI bs)).sum
def atI_last {xs:List α}{x:α}(h:xs[xs.length - 1]? =some x):atI xs (-1)=some x:=by
 have hl:xs.length - 1<xs.length:=(ao.mp h).1;unfold atI ixN;rw [rN ↥0,rO ⋯];show xs[(-1+(xs.length:Int)).toNat]? =some x;rw [show (-1+(xs.length:Int)).toNat=xs.length - 1 by lia];exact h
inductive qV (vs:List V)(H:Hp)(Q:VK)(_:XK):Prop
 | mk (v:V)(q:ak)(b m:Int)(sp:List Sn)(s:Stp)(x:Sn)(_:vs=[v,.ref q])(_:IsD H v (jX b m sp))(_:H q=some (.tup (s.row.map V.int)))(_:sp[s.i]? =some x)(_:Q (.int (frm x s.d)) H)
inductive spTo (vs:List V)(H:Hp)(Q:VK)(_:XK):Prop
 | mk (v:V)(q:ak)(b m:Int)(sp:List Sn)(s:Stp)(x:Sn)(_:vs=[v,.ref q])(_:IsD H v (jX b m sp))(_:H q=some (.tup (s.row.map V.int)))(_:sp[s.i]? =some x)(_:Q (.int (too x s.d)) H)
inductive spFirst (vs:List V)(H:Hp)(Q:VK)(_:XK):Prop
 | mk (v:V)(b m:Int)(sp:List Sn)(_:vs=[v])(_:IsD H v (jX b m sp))(_:sp.length≤1000)(_:∀ u H',bG H H'→IsD H' u (bndP (sp.map fun x=>(x.l,x.o)))→Q u H')
inductive spSum (vs:List V)(H:Hp)(Q:VK)(_:XK):Prop
 | mk (vb vw:V)(bs:List (Int×Int))(ws:List Stp)(_:vs=[vb,vw])(_:IsD H vb (bndP bs))(_:IsD H vw (oW ws))(_:qP bs.length ws)(_:∀ p H',bG H H'→H' p=some (.tup [.int (gv bs ws),.int (i3 bs ws)])→Q (.ref p) H')
def netP_mb {p:ak}{x:Int}{m:Int}{sp:List Sn}(h:IsD H v (jX b m sp))(hp:H p=some (.lst [.int x,.int y]))(M:Mb p H H'):IsD H' v (jX b m sp):=by
 obtain ⟨t,xs,rfl,ht,rx⟩:=h.tup_of;cases rx with
 | cons h0 r0 =>
  cases r0 with
  | cons h1 r1 =>
   cases r1 with
   | cons h2 r2 =>
    cases r2;cases h0;cases h1;obtain ⟨q,ys,rfl,hq,ry⟩:=h2.tup_of;exact .tup (M.1 t _ (fR ht hp nofun) ht) (.cons (.int b) (.cons (.int m) (.cons (.tup (M.1 q _ (fR hq hp nofun) hq) (boxed ry M hp)) .nil)))
abbrev de {α:Type}(f:α→List Int)(xs:List α):List Dt:=xs.map fun x=> .tup ((f x).map Dt.int)
def pls_rows {α:Type}(f:α→List Int):∀ xs:List α,pls (de f xs)=true
 | []=>by unfold pls;rfl
 | x::xs=>by unfold de;rw [bM];unfold pls;rw [show pls (xs.map fun x=>Dt.tup ((f x).map Dt.int))=true from pls_rows f xs];unfold pl;rw [pf];rfl
def deps_rows {α:Type}(f:α→List Int):∀ xs:List α,deps (de f xs)≤1
 | []=>by unfold deps;exact bo _
 | x::xs=>by unfold de;rw [bM];unfold deps;have:=deps_rows f xs;unfold de at this;unfold dep;rw [qz];lia
def eqDs_none (f:α→List Int):∀ xs:List α,qO (de f xs) []=xs.isEmpty
 | []=>by unfold qO;rfl
 | _::_=>by unfold de;rw [bM];unfold qO;rfl
structure N3 (mg:Str→Option ae):Prop where
 tset:mg "set" =none
def oX (ss:List Stp):List Int:=ss.map fun s=>(s.i:Int)
def numsS_take {ss:List Stp}(h:i<ss.length):oX (ss.take (i+1))=oX (ss.take i)++[(ss[i].i:Int)]:=by
 unfold oX;rw [bj,gE h,aE];rfl
def kg (H H':Hp):Prop:=∀ q xs,H q=some (.tup xs)→H' q=some (.tup xs)
def kg.trans (a:kg H H1)(b:kg H1 H2):kg H H2:=fun q xs h=>b q xs (a q xs h)
def bG.tupK (e:bG H H'):kg H H':=fun _ _ h=>e _ _ h
def Mb.tupK {p:ak}(hp:H p=some (.lst xs))(M:Mb p H H'):kg H H':=fun q ys h=>M.1 q _ (fR h hp nofun) h
def eO {p:ak}(hp:H p=some (.lst xs)):kg H (upd H p o):=fun q ys h=>by rw [bq (fR h hp nofun)];exact h
def dk {α:Type}{f:α→List Int}{H H':Hp}(e:kg H H'):∀ {xs:List α} {zs:List V},dW H zs (de f xs)→dW H' zs (de f xs)
 | [],_,h=>by cases h;exact .nil
 | x::xs,zs,h=>by
  unfold de at h ⊢;rw [bM] at h ⊢;cases h with
  | cons h1 h2 =>
   obtain ⟨q,ws,rfl,hq,rw'⟩:=h1.tup_of;have e2:=rw'.ints_of;subst e2;exact .cons (.tup (e q _ hq) (dW.ints _)) (dk e h2)
def upB (b s:Int):Int:= -(-s / b)
inductive spBeats (vs:List V)(H:Hp)(Q:VK)(_:XK):Prop
 | mk (vn vb vw:V)(b m:Int)(sp:List Sn)(bs:List (Int×Int))(ws:List Stp)(_:vs=[vn,vb,vw])(_:IsD H vn (jX b m sp))(_:0<b)(_:b<10 ^ 61)(_:IsD H vb (bndP bs))(_:IsD H vw (oW ws))(_:qP bs.length ws)(_:∀ p H',bG H H'→H' p=some (.tup [.int (upB b (gv bs ws)),.int (i3 bs ws / b)])→Q (.ref p) H')
inductive Lf where
 | ring (ws:List Stp)
 | price (rows:List (Int×List Stp))
abbrev rowD (r:Int×List Stp):Dt:= .tup [.int r.1,oW r.2]
def leafP:Lf→Dt
 | .ring ws=> .tup [.str "ring",oW ws]
 | .price rows=> .tup [.str "price",.tup (rows.map rowD)]
def jL (b:Int)(bs:List (Int×Int))(ws:List Stp):Bool:=decide (upB b (gv bs ws) > i3 bs ws / b)
def sureB (b:Int)(bs:List (Int×Int))(ws:List Stp):Bool:=decide (upB b (gv bs ws)=i3 bs ws / b)
inductive spDead (vs:List V)(H:Hp)(Q:VK)(_:XK):Prop
 | mk (vn vb vw:V)(b m:Int)(sp:List Sn)(bs:List (Int×Int))(ws:List Stp)(_:vs=[vn,vb,vw])(_:IsD H vn (jX b m sp))(_:0<b)(_:b<10 ^ 61)(_:IsD H vb (bndP bs))(_:IsD H vw (oW ws))(_:qP bs.length ws)(_:∀ H',bG H H'→Q (.bl (jL b bs ws)) H')
def dW.takeN {H:Hp}:∀ {xs:List V} {ds:List Dt} (n:Nat),dW H xs ds→dW H (xs.take n) (ds.take n)
 | _,_,0,_=> .nil
 | _,_,_+1,.nil=> .nil
 | _,_,n+1,.cons h r=> .cons h (dW.takeN n r)
def dW.dropN {H:Hp}:∀ {xs:List V} {ds:List Dt} (n:Nat),dW H xs ds→dW H (xs.drop n) (ds.drop n)
 | _,_,0,h=>h
 | _,_,_+1,.nil=> .nil
 | _,_,n+1,.cons _ r=>dW.dropN n r
def oY (sp:List Sn):Int→List Stp→Int→Prop
 | x,[],y=>x=y
 | x,s::ws,y=>kU sp s=x∧oY sp (fc sp s) ws y
def oY.append {sp:List Sn}:∀ {us:List Stp} {x y z:Int} {vs:List Stp},oY sp x us y→oY sp y vs z→oY sp x (us++vs) z
 | [],_,_,_,_,h,k=>by cases h;exact k
 | _::us,_,_,_,_,h,k=>⟨h.1,oY.append (us:=us) h.2 k⟩
def nF {sp:List Sn}(h:j<sp.length):kU sp ⟨j,d⟩=frm sp[j] d:=by
 unfold kU;show (match sp[j]? with | some x=>frm x d | none=>0)=_;rw [gE h]
def lH {sp:List Sn}(h:j<sp.length):fc sp ⟨j,d⟩=too sp[j] d:=by
 unfold fc;show (match sp[j]? with | some x=>too x d | none=>0)=_;rw [gE h]
def ends_of_span {sp:List Sn}{st:Stp}(h:j<sp.length)(e:st.i=j)(hs:st.d=1∨st.d= -1)(hd:d=1∨d= -1):fc sp st=fc sp ⟨j,d⟩∨kU sp st=fc sp ⟨j,d⟩:=by
 obtain ⟨i,dd⟩:=st;have e:i=j:=e;subst e;have hs:dd=1∨dd= -1:=hs;rw [lH h,lH h,nF h];unfold too frm
 rcases hs with rfl | rfl <;> rcases hd with rfl | rfl <;> simp
structure Bk (sp:List Sn)(be ou:Int)(x:Int)(ws:List Stp):Prop where
 inn:qP sp.length ws
 alo:oY sp be ws x
 one:(ws.map Stp.i).Nodup
 out:∀ s∈ws,(s.i:Int)≠ou
structure Rg (sp:List Sn)(ws:List Stp):Prop where
 inn:qP sp.length ws
 two:2≤ws.length
 few:ws.length≤17
 one:(ws.map Stp.i).Nodup
 rnd:∃ x,oY sp x ws x
def Bk.ring {sp:List Sn}{k:Nat}{ws:List Stp}(hk:k<sp.length)(hne:sp[k].s≠sp[k].g)(h:Bk sp sp[k].g (k:Nat) sp[k].s ws)(hl:ws.length≤16):Rg sp (⟨k,1⟩::ws):=by
 apply ⟨fun s hs=>?_,?_,by rw [aP];lia,?_,sp[k].s,?_,?_⟩
 ·rcases aF.mp hs with rfl | hs
  ·exact ⟨hk,.inl rfl⟩
  ·exact h.inn s hs
 ·cases ws with
  | nil=>exact rQ h.alo.symm hne
  | cons a r=>rw [aP,aP];lia
 ·rw [bM,bz]
  apply ⟨fun z=>?_,h.one⟩;obtain ⟨st,hst,e⟩:=bc.mp z;exact h.out st hst (by rw [e])
 ·rw [nF hk];rfl
 ·rw [lH hk];exact h.alo
def pe_isStrT {p:Pos}(N:Nm X.mg)(TS:X.mg "str" =none)(he:PE X e te)(hg:Gl X "isinstance" := by rfl)(hg2:Gl X "str" := by rfl)
  (hs1:br [e,.Name "str" p2] X.env=(false,eE e X.env)::br [.Name "str" p2] X.env:=by rfl) (hpl:(eR pos (br [.Name "str" p2] X.env)).any (·.1)=false:=by rfl) :
  PE X (.Call (.Name "isinstance" p) [e,.Name "str" p2] [] pos) (tCB (fun xs H Q=>∃ x T,xs=[x,.ty "str"]∧tyn H x=some T∧Q (.bl (T == "str")) H) (nR te (nR (tC (.ty "str")) tNil))) :=
 cg call_isStr hg N.isin boot_isinstance (ag he (ag (pe_bltn hg2 TS boot_str rfl) aD) hs1) (he:=hs1) (hpl:=hpl)
inductive spWithB (vs:List V)(H:Hp)(Q:VK)(_:XK):Prop
 | mk (vb:V)(k:Nat)(lo hi:Int)(bs:List (Int×Int))(_:vs=[vb,.int (k:Nat),.int lo,.int hi])(_:IsD H vb (bndP bs))(_:k<bs.length)(_:bs.length≤40)(_:∀ u H',bG H H'→IsD H' u (bndP (bs.set k (lo,hi)))→Q u H')
inductive Tq where
 | leaf (d:Dt)
 | cut (k:Nat) (a:Int) (x y:Tq)
def kq:Tq→Dt
 | .leaf d=>d
 | .cut k a x y=> .tup [.str "cut",.int (k:Nat),.int a,kq x,kq y]
def kW (bs:List (Int×Int))(k:Nat)(a:Int):List (Int×Int):=bs.set k ((bs.getD k (0,0)).1,a)
def eC (bs:List (Int×Int))(k:Nat)(a:Int):List (Int×Int):=bs.set k (a+1,(bs.getD k (0,0)).2)
def lvs:Tq→List (Int×Int)→List (List (Int×Int)×Dt)
 | .leaf d,bs=>[(bs,d)]
 | .cut k a x y,bs=>lvs x (kW bs k a)++lvs y (eC bs k a)
def siz:Tq→Nat
 | .leaf _=>1
 | .cut _ _ x y=>siz x+siz y+1
def plcD (p:List (Int×Int)×Dt):Dt:= .tup [bndP p.1,p.2]
inductive spSides (vs:List V)(H:Hp)(Q:VK)(_:XK):Prop
 | mk (vb:V)(c:ak)(bs:List (Int×Int))(k:Nat)(a:Int)(x3 x4:V)(_:vs=[vb,.ref c])(_:IsD H vb (bndP bs))(_:H c=some (.tup [.str "cut",.int (k:Nat),.int a,x3,x4]))(_:k<bs.length)(_:bs.length≤40)(_:∀ p q r u1 u3 H',bG H H'→H' p=some (.tup [.ref q,.ref r])→H' q=some (.tup [u1,x3])→IsD H' u1 (bndP (kW bs k a))→H' r=some (.tup [u3,x4])→IsD H' u3 (bndP (eC bs k a))→Q (.ref p) H')
def lvs_siz:∀ (t:Tq) (bs:List (Int×Int)),(lvs t bs).length≤siz t
 | .leaf _,_=>by show 1≤1;decide
 | .cut k a x y,bs=>by
  show (lvs x _++lvs y _).length≤siz x+siz y+1;rw [au];have:=lvs_siz x (kW bs k a);have:=lvs_siz y (eC bs k a);lia
def one_len (bs:List (Int×Int))(k:Nat)(a:Int):(kW bs k a).length=bs.length:=by unfold kW;rw [fj]
def nX (bs:List (Int×Int))(k:Nat)(a:Int):(eC bs k a).length=bs.length:=by unfold eC;rw [fj]
def getD_all (ns:List Int):((aJ ns.length).map fun i=>ns.getD i 0)=ns:=by
 apply List.ext_getElem (by rw [aa,aY]) fun i h1 h2=>?_
 rw [j9,kY,af,gE h2];rfl
def met_eq (ns:List Int):metL ns=ns.foldl step_dedup []:=by
 unfold metL firstMet;rw [getD_all]
def fold_new:∀ (ns acc:List Int),ns.Nodup→(∀ x∈ns,x ∉ acc)→ns.foldl step_dedup acc=acc++ns
 | [],acc,_,_=>by simp
 | x::ns,acc,hn,h=>by
  obtain ⟨h1,h2⟩:=bz.mp hn;have e:step_dedup acc x=acc++[x]:=by
   unfold step_dedup;have:¬ (acc.any (· == x))=true:=by
    intro z;obtain ⟨y,hy,e⟩:=List.any_eq_true.mp z;have e:y=x:=by simpa using e
    exact h x ∅ (e ▸ hy)
   rw [rN this]
  rw [bV,e,fold_new ns (acc++[x]) h2 fun y hy z=>?_]
  ·simp
  ·rcases aH.mp z with z | z
   ·exact h y (ay _ hy) z
   ·rw [aw.mp z] at hy;exact h1 hy
def met_nodup (h:ns.Nodup):(metL ns).length=ns.length:=by
 rw [met_eq,fold_new ns [] h (fun _ _ z=>rQ z ∅),List.nil_append]
end HN
variable {S ws:List HN.Stp}{c:List (Int×List HN.Stp)×List Int}{rows:List (Int×List HN.Stp)}{rs:List (Nat×List HN.Stp)}{sp:List HN.Sn}
namespace L2
open PySem PyProof.Rows HN
mutual
def IsD.keepP {H H':Hp}(e:kg H H'):∀ {v:V} {d:Dt},IsD H v d→pl d=true→IsD H' v d
 | _,_,.non,_=> .non
 | _,_,.bl b,_=> .bl b
 | _,_,.int i,_=> .int i
 | _,_,.str x,_=> .str x
 | _,_,.tup h r,p=> .tup (e _ _ h) (dW.keepP e r (by unfold pl at p;exact p))
 | _,_,.lst h,p=>by unfold pl at p;cases p
 | _,_,.dct h,p=>by unfold pl at p;cases p
def dW.keepP {H H':Hp}(e:kg H H'):∀ {xs:List V} {ds:List Dt},dW H xs ds→pls ds=true→dW H' xs ds
 | _,_,.nil,_=> .nil
 | _,_,.cons h r,p=>by
  unfold pls at p;rw [cz] at p;exact .cons (IsD.keepP e h p.1) (dW.keepP e r p.2)
end
end L2
namespace HN
open PySem L2 PyProof.Rows
def nu {α:Type}{f:α→Dt}:∀ (xs:List α),(∀ x∈xs,pl (f x)=true)→pls (xs.map f)=true
 | [],_=>by show pls []=true;unfold pls;rfl
 | x::xs,h=>by
  show pls (f x::xs.map f)=true;unfold pls;rw [h x ∅,nu xs fun y hy=>h y (ay _ hy)];rfl
def pl_ints (ns:List Int):pl (.tup (ns.map Dt.int))=true:=by
 unfold pl;exact nu ns fun x _=>by unfold pl;rfl
def pZ (f:α→List Int)(xs:List α):pl (rowsP f xs)=true:=by
 unfold rowsP;unfold pl;exact nu xs fun x _=>pl_ints (f x)
def RowOk (b:Int)(sp:List Sn)(bs:List (Int×Int))(r:Int×List Stp):Prop:=Rg sp r.2∧sureB b bs r.2=true∧ -1000000000000≤r.1∧r.1≤1000000000000
def LfOk (b:Int)(sp:List Sn)(bs:List (Int×Int)):Lf→Prop
 | .ring ws=>Rg sp ws∧jL b bs ws=true
 | .price rows=>rows.length≤40∧∀ r∈rows,RowOk b sp bs r
def cN {m:Int}(e:kg H H')(h:IsD H v (jX b m sp)):IsD H' v (jX b m sp):=by
 obtain ⟨t,xs,rfl,ht,rx⟩:=h.tup_of;cases rx with
 | cons h0 r0 =>
  cases r0 with
  | cons h1 r1 =>
   cases r1 with
   | cons h2 r2 =>
    cases r2;cases h0;cases h1;obtain ⟨p,ys,rfl,hp,ry⟩:=h2.tup_of;exact .tup (e _ _ ht) (.cons (.int _) (.cons (.int _) (.cons (.tup (e _ _ hp) (dk (f:=Sn.row) (xs:=sp) e ry)) .nil)))
def sideS (k:Int)(x:Sn):Sn:=⟨x.s+k,x.g+k,x.l,x.o,x.w⟩
theorem Rdy.side {k:Int}{t1 t2:List Int}{sp1 sp2:List Sn}(hk:(t1.length:Int)=k)(R1:Rdy b t1 sp1)(R2:Rdy b t2 sp2)(few:sp1.length+sp2.length≤1000):Rdy b (t1++t2) (sp1++sp2.map (sideS k)) :=
 ⟨R1.b1,by rw [au,aa];exact few,fun x hx=>by
  rw [au]
  rcases aH.mp hx with hx | hx
  ·obtain ⟨s0,s1,g0,g1⟩:=R1.ends x hx
   exact ⟨s0,⋯,g0,⋯⟩
  ·obtain ⟨y,hy,rfl⟩:=bc.mp hx
   obtain ⟨s0,s1,g0,g1⟩:=R2.ends y hy;show 0≤y.s+k∧y.s+k<((t1.length+t2.length:Nat):Int)∧0≤y.g+k∧y.g+k<((t1.length+t2.length:Nat):Int);lia⟩
structure Sides (b m1 m2:Int)(sp1 sp2:List Sn):Prop where
 N1:kl b m1 sp1
 N2:kl b m2 sp2
 m:m1+m2≤16
 few:sp1.length+sp2.length≤40
def TabsL (H:Hp)(b m:Int)(us:List V):Prop:=∀ u∈us,∃ (q:ak) (ts:List Int),u= .ref q∧H q=some (.tup (ts.map V.int))∧(ts.length:Int)=m
def TabsL.same {m:Int}{us:List V}(h:TabsL H b m us)(e:bG H H'):TabsL H' b m us:=fun u hu=>let ⟨q,ts,a,c,d⟩:=h u hu;⟨q,ts,a,e _ _ c,d⟩
def netP_rows {m:Int}(h:IsD H v (jX b m sp)):∃ t p ys,v= .ref t∧H t=some (.tup [.int b,.int m,.ref p])∧H p=some (.tup ys)∧dW H ys (de Sn.row sp):=by
 obtain ⟨t,xs,rfl,ht,rx⟩:=h.tup_of;cases rx with
 | cons h0 r0 =>
  cases r0 with
  | cons h1 r1 =>
   cases r1 with
   | cons h2 r2 =>
    cases r2;cases h0;cases h1;obtain ⟨p,ys,rfl,hp,ry⟩:=h2.tup_of;exact ⟨t,p,ys,rfl,ht,hp,ry⟩
def strS (n:Int)(x:Sn):Sn:=⟨x.s,x.g,x.l * n,x.o * n,x.w⟩
def strT (n:Int)(ts:List Int):List Int:=ts.map fun t=>t * n
def strT_len (n:Int)(ts:List Int):(strT n ts).length=ts.length:=by unfold strT;rw [aa]
def Rdy.str {n:Int}(R:Rdy b ts sp)(hn:0<n):Rdy (b * n) (strT n ts) (sp.map (strS n)) :=
 ⟨Int.mul_pos R.b1 hn,by rw [aa];exact R.few,fun x hx=>by
  obtain ⟨y,hy,rfl⟩:=bc.mp hx;rw [strT_len];exact R.ends y hy⟩
end HN
namespace L2
open PySem PySem.W PyProof.Rows
def Gd {α:Type}(lt:Nat→Nat→Bool)(n:Nat):KasT α→(α→Prop)→Prop
 | .ret a,P=>P a
 | .ask i j k,P=>i<n∧j<n∧Gd lt n (k (lt i j)) P
def Gd.mono {α:Type}{lt:Nat→Nat→Bool}{n:Nat}{P R:α→Prop}(h:∀ a,P a→R a):∀ {t:KasT α},Gd lt n t P→Gd lt n t R
 | .ret a,g=>h a g
 | .ask _ _ _,g=>⟨g.1,g.2.1,Gd.mono h g.2.2⟩
def Gd.bind {α β:Type}{lt:Nat→Nat→Bool}{n:Nat}{f:α→KasT β}{P:β→Prop}:∀ {t:KasT α},Gd lt n t (fun a=>Gd lt n (f a) P)→Gd lt n (t.bind f) P
 | .ret _,g=>g
 | .ask _ _ _,g=>⟨g.1,g.2.1,Gd.bind g.2.2⟩
def Gd.wp {α:Type}{lt:Nat→Nat→Bool}{n:Nat}{P:α→Prop}{cmp:Nat→Nat→(Bool→av→Prop)→av→Prop}{Q:α→av→Prop}{s:av}(hc:∀ i j C,i<n→j<n→C (lt i j) s→cmp i j C s)(hq:∀ a,P a→Q a s):∀ {t:KasT α},Gd lt n t P→t.kasWp cmp Q s
 | .ret a,g=>hq a g
 | .ask i j k,g=>hc i j _ g.1 g.2.1 (Gd.wp hc hq g.2.2)
structure Ord (lt:Nat→Nat→Bool)(n:Nat):Prop where
 tot:∀ i j,i<n→j<n→i≠j→lt i j=false→lt j i=true
 tr:∀ i j k,lt i j=true→lt j k=true→lt i k=true
abbrev gA (p:Array Nat)(i:Nat):Nat:=p.getD i 0
abbrev Pm (n:Nat)(p:Array Nat):Prop:=p.toList.Perm (aJ n)
def mJ:gA p i=p[i]?.getD 0:=by
 show p.getD i 0=_;rw [Array.getD_eq_getD_getElem?]
def Pm.size (h:Pm n p):p.size=n:=by
 have:=h.length_eq;rw [aY,cj] at this;exact this
def Pm.lt (h:Pm n p)(hi:i<n):gA p i<n:=by
 have hs:i<p.size:=by rw [h.size];exact hi
 have e:gA p i=p[i]:=by rw [mJ,d5 hs];rfl
 rw [e];have:p[i]∈p.toList:=by simp
 exact bT.mp (h.mem_iff.mp this)
def Pm.ne (h:Pm n p)(hij:i<j)(hj:j<n):gA p i≠gA p j:=by
 have hd:p.toList.Nodup:=h.nodup_iff.mpr List.nodup_range;have si:i<p.toList.length:=by rw [cj,h.size];lia
 have sj:j<p.toList.length:=by rw [cj,h.size];lia
 have ei:gA p i=p.toList[i]:=by rw [mJ,d5 (by rw [h.size];lia)];simp
 have ej:gA p j=p.toList[j]:=by rw [mJ,d5 (by rw [h.size];lia)];simp
 rw [ei,ej];exact List.pairwise_iff_getElem.mp (bY.mp hd) i j si sj hij
def Pm.of {q:Array Nat}(h:Pm n p)(e:q.Perm p):Pm n q:=(Array.perm_iff_toList_perm.mp e).trans h
def SoA (lt:Nat→Nat→Bool)(p:Array Nat)(m:Nat):Prop:=∀ i j,i<j→j<m→lt (gA p i) (gA p j)=true
def DeA (lt:Nat→Nat→Bool)(p:Array Nat)(m:Nat):Prop:=∀ i j,i<j→j<m→lt (gA p j) (gA p i)=true
section
variable {lt:Nat→Nat→Bool}
theorem SoA.more (O:Ord lt n)(h:SoA lt p m)(h1:lt (gA p (m - 1)) (gA p m)=true):SoA lt p (m+1):=fun i j hij hj=>by
 by_cases e:j<m
 ·exact h i j hij e
 ·have ej:j=m:=by lia
  rw [ej]
  by_cases ei:i=m - 1
  ·rw [ei];exact h1
  ·exact O.tr _ _ _ (h i (m - 1) ⋯ ⋯) h1
theorem DeA.more (O:Ord lt n)(h:DeA lt p m)(h1:lt (gA p m) (gA p (m - 1))=true):DeA lt p (m+1):=fun i j hij hj=>by
 by_cases e:j<m
 ·exact h i j hij e
 ·have ej:j=m:=by lia
  rw [ej]
  by_cases ei:i=m - 1
  ·rw [ei];exact h1
  ·exact O.tr _ _ _ h1 (h i (m - 1) ⋯ ⋯)
theorem asc_ok (O:Ord lt n){p:Array Nat}(hp:Pm n p):∀ (f m:Nat),1≤m→m+f=n→SoA lt p m→Gd lt n (kas_asc p f m) (fun r=>m≤r∧r≤n∧SoA lt p r∧(r<n→lt (gA p r) (gA p (r - 1))=true))
 | 0,m,_,h1,hs=>⟨az _,⋯,hs,fun z=>rQ z ⋯⟩
 | f+1,m,h0,h1,hs=>by
  apply ⟨hp.lt ⋯,hp.lt ⋯,?_⟩;cases c:lt (gA p m) (gA p (m - 1)) with
  | true =>
   exact ⟨az _,⋯,hs,fun _=>c⟩
  | false =>
   have h2:=O.tot _ _ (hp.lt ⋯) (hp.lt ⋯) (hp.ne (by lia:m - 1<m) ⋯).symm c;apply (asc_ok O hp f (m+1) ⋯ ⋯ (hs.more O h2)).mono fun r ⟨a,b,cc,d⟩=>⟨⋯,b,cc,d⟩
theorem desc_ok (O:Ord lt n){p:Array Nat}(hp:Pm n p):∀ (f m:Nat),1≤m→m+f=n→DeA lt p m→Gd lt n (kas_desc f p m 0) (fun r=>r.1=p∧r.2.2=0∧m≤r.2.1∧r.2.1≤n∧DeA lt p r.2.1)
 | 0,m,_,h1,hs=>⟨rfl,rfl,az _,by show m≤n;lia,hs⟩
 | f+1,m,h0,h1,hs=>by
  apply ⟨hp.lt ⋯,hp.lt ⋯,?_⟩;cases c:lt (gA p m) (gA p (m - 1)) with
  | true =>
   apply (desc_ok O hp f (m+1) ⋯ ⋯ (hs.more O c)).mono fun r ⟨a,b,cc,d,e⟩=>⟨a,b,⋯,d,e⟩
  | false =>
   have h2:=O.tot _ _ (hp.lt ⋯) (hp.lt ⋯) (hp.ne (by lia:m - 1<m) ⋯).symm c;apply ⟨hp.lt ⋯,hp.lt ⋯,?_⟩;show Gd lt n (if (lt (gA p (m - 1)) (gA p m))=true then KasT.ret (p,m,0) else kas_desc f p (m+1) (0+1)) _;rw [rO h2];exact ⟨rfl,rfl,az _,by show m≤n;lia,hs⟩
def rev_ok (hp:Pm n p)(hm:m≤n):Pm n (kas_rev p 0 m):=hp.of (mirror_perm _ _ _ _)
theorem rev_so (hp:Pm n p)(hm:m≤n)(h:DeA lt p m):SoA lt (kas_rev p 0 m) m:=fun i j hij hj=>by
 have e:∀ k,k<m→gA (kas_rev p 0 m) k=gA p (m - 1 - k):=fun k hk=>by
  rw [mJ,mJ];have:=getElem?_mirror_all (xs:=p) (i:=0) (j:=m) (by rw [hp.size];exact hm) k;unfold kas_rev;rw [this,rO ⟨bo _,hk⟩];congr 2;lia
 rw [e i ⋯,e j hj];exact h _ _ ⋯ ⋯
theorem tail_ok (O:Ord lt n)(hp:Pm n p)(h1:1≤m)(hm:m≤n)(h:DeA lt p m):Gd lt n (kas_tail3 m n p) (fun r=>Pm n r.2∧1≤r.1∧r.1≤n∧SoA lt r.2 r.1):=by
 unfold kas_tail3;apply Gd.bind ((asc_ok O (rev_ok hp hm) (n - m) m h1 ⋯ (rev_so hp hm h)).mono fun r ⟨a,b,c,_⟩=>?_);exact ⟨rev_ok hp hm,by show 1≤r;lia,b,c⟩
theorem count_ok (O:Ord lt n)(h1:1≤n)(hp:Pm n p):Gd lt n (kas_count n p) (fun r=>Pm n r.2∧1≤r.1∧r.1≤n∧SoA lt r.2 r.1):=by
 unfold kas_count;apply Gd.bind ((asc_ok O hp (n - 1) 1 (az _) ⋯ (fun i j a b=>rQ a ⋯)).mono fun r ⟨a,b,c,d⟩=>?_)
 by_cases e:r=n
 ·rw [rO (by rw [e];exact beq_self_eq_true n)]
  exact ⟨hp,a,b,c⟩
 ·rw [rN (by rw [beq_iff_eq];exact e)]
  by_cases e2:r > 1
  ·rw [rO e2]
   apply ⟨hp.lt ⋯,hp.lt ⋯,?_⟩;show Gd lt n (if (lt (gA p 0) (gA p (r - 1)))=true then KasT.ret (r,p) else _) _;rw [rO (c 0 (r - 1) ⋯ ⋯)];exact ⟨hp,a,b,c⟩
  ·rw [rN e2]
   have er:r=1:=by lia
   subst er;have hn:1<n:=by lia
   have dd:=d hn;unfold kas_descPart;apply Gd.bind ((desc_ok O hp (n - (1+1)) (1+1) ⋯ ⋯ (fun i j x y=>by
    have ei:i=0:=by lia
    have ej:j=1:=by lia
    rw [ei,ej];exact dd)).mono fun q ⟨q1,q2,q3,q4,q5⟩=>?_)
   rw [rN (by rw [q2];lia),q1];exact tail_ok O hp ⋯ q4 q5
theorem place_ok (O:Ord lt n){p:Array Nat}(hp:Pm n p){k:Nat}(hk:k<n)(hs:SoA lt p k):∀ (f l r:Nat),l≤r→r≤k→r - l≤f→(∀ i,i<l→lt (gA p i) (gA p k)=true)→(∀ i,r≤i→i<k→lt (gA p k) (gA p i)=true)→Gd lt n (kas_place p k f l r) (fun m=>m≤k∧(∀ i,i<m→lt (gA p i) (gA p k)=true)∧∀ i,m≤i→i<k→lt (gA p k) (gA p i)=true)
 | 0,l,r,h1,h2,h3,a,b=>⟨⋯,a,fun i x y=>b i ⋯ y⟩
 | f+1,l,r,h1,h2,h3,a,b=>by
  show Gd lt n (if l ≥ r then KasT.ret l else KasT.ask (gA p k) (gA p ((l+r) / 2)) fun c=>if c=true then kas_place p k f l ((l+r) / 2) else kas_place p k f ((l+r) / 2+1) r) _
  by_cases e:l ≥ r
  ·rw [rO e]
   exact ⟨⋯,a,fun i x y=>b i ⋯ y⟩
  ·rw [rN e]
   apply ⟨hp.lt hk,hp.lt ⋯,?_⟩;cases c:lt (gA p k) (gA p ((l+r) / 2)) with
   | true =>
    apply place_ok O hp hk hs f l ((l+r) / 2) ⋯ ⋯ ⋯ a fun i x y=>?_
    by_cases ei:i=(l+r) / 2
    ·rw [ei];exact c
    ·exact O.tr _ _ _ c (hs _ _ ⋯ y)
   | false =>
    have h5:=O.tot _ _ (hp.lt hk) (hp.lt ⋯) (hp.ne (by lia:(l+r) / 2<k) hk).symm c;apply place_ok O hp hk hs f ((l+r) / 2+1) r ⋯ h2 ⋯ (fun i x=>?_) b
    by_cases ei:i=(l+r) / 2
    ·rw [ei];exact h5
    ·exact O.tr _ _ _ (hs i _ (by lia:i<(l+r) / 2) ⋯) h5
theorem bub_so (O:Ord lt n)(hp:Pm n p){k:Nat}(hk:k<n)(hm:m≤k)(hs:SoA lt p k)(a:∀ i,i<m→lt (gA p i) (gA p k)=true)(b:∀ i,m≤i→i<k→lt (gA p k) (gA p i)=true):SoA lt (bubble p k (k - m)) (k+1):=fun i j hij hj=>by
 have e:∀ x,gA (bubble p k (k - m)) x=if x=m then gA p k else if m<x∧x≤k then gA p (x - 1) else gA p x:=fun x=>by
  have:=getElem?_bubble (xs:=p) (src:=k) (by rw [hp.size];exact hk) (k - m) ⋯ x;have e0:k - (k - m)=m:=by lia
  rw [e0] at this;rw [mJ,this]
  by_cases h1:x=m
  ·rw [rO h1,rO h1,mJ]
  ·rw [rN h1,rN h1]
   by_cases h2:m<x∧x≤k
   ·rw [rO h2,rO h2,mJ]
   ·rw [rN h2,rN h2,mJ]
 rw [e i,e j]
 by_cases i1:i=m
 ·rw [rO i1,rN ⋯,rO ⋯]
  exact b _ ⋯ ⋯
 ·rw [rN i1]
  by_cases i2:m<i∧i≤k
  ·rw [rO i2,rN ⋯,rO ⋯]
   exact hs _ _ ⋯ ⋯
  ·rw [rN i2]
   by_cases j1:j=m
   ·rw [rO j1];exact a _ ⋯
   ·rw [rN j1]
    by_cases j2:m<j∧j≤k
    ·rw [rO j2];exact hs _ _ ⋯ ⋯
    ·rw [rN j2];exact hs _ _ hij ⋯
theorem bin_ok (O:Ord lt n):∀ (f:Nat) (p:Array Nat) (k:Nat),k+f=n→Pm n p→SoA lt p k→Gd lt n (kas_bin f p k) (fun q=>Pm n q∧SoA lt q n)
 | 0,p,k,h1,hp,hs=>by
  have e:k=n:=by lia
  rw [e] at hs;exact ⟨hp,hs⟩
 | f+1,p,k,h1,hp,hs=>by
  show Gd lt n ((kas_place p k k 0 k).bind fun l=>kas_bin f (bubble p k (k - l)) (k+1)) _;apply Gd.bind ((place_ok O hp ⋯ hs k 0 k (bo _) (az _) ⋯ (fun i x=>rQ x ⋯) (fun i x y=>rQ x ⋯)).mono fun m ⟨m1,m2,m3⟩=>?_);exact bin_ok O f _ (k+1) ⋯ (hp.of (bubble_perm _ _ _)) (bub_so O hp ⋯ m1 hs m2 m3)
theorem sort_ok (O:Ord lt n)(h1:1≤n):Gd lt n (kas_sort n) (fun q=>Pm n q∧SoA lt q n):=by
 unfold kas_sort;apply Gd.bind ((count_ok O h1 (p:=(aJ n).toArray) (by show (aJ n).toArray.toList.Perm _;rw [e8])).mono fun r ⟨a,b,c,d⟩=>?_)
 by_cases e:r.1<n
 ·rw [rO e]
  have em:max r.1 1=r.1:=by lia
  rw [em];exact bin_ok O _ _ _ ⋯ a d
 ·rw [rN e]
  have er:r.1=n:=by lia
  rw [er] at d;exact ⟨a,d⟩
end
def pR {out:Array ae}{b:ak}{u:Obj}(hb:b≠a)(e:h.get? b=some u):(sortedHeap h a vs out).get? b=some u:=by
 unfold sortedHeap;rw [hV _ _ _ _ hb];exact aq _ (aq _ (by rw [hV _ _ _ _ hb];exact e))
def sortedHeap_at {out:Array ae}(e:h.get? a=some (bJ "list" vs.toArray n)):∃ c,(sortedHeap h a vs out).get? a=some (bJ "list" out c):=by
 unfold sortedHeap;exact ⟨_,fV (aq _ (aq _ (fV e fun _=> #[]))) fun _=>out⟩
def preAll (h:bL)(vs:List ae):bL:=((h.push (bJ "list" #[] 0)).update h.objs.size (cK (· ++ vs.toArray))).push (bJ "list" vs.toArray 0)
def preAll_keep {b:ak}{u:Obj}(e:h.get? b=some u):(preAll h vs).get? b=some u:=by
 have hb:=aI e;exact aq _ (by rw [hV _ _ _ _ (bB hb)];exact aq _ e)
def preAll_at:(preAll h vs).get? (h.objs.size+1)=some (bJ "list" vs.toArray 0):=by
 have hsz:((h.push (bJ "list" #[] 0)).update h.objs.size (cK (· ++ vs.toArray))).objs.size=h.objs.size+1:=by
  rw [bL.size_update,size_push']
 unfold preAll;rw [←hsz];exact aQ _ rfl
def call_sortedI:jO X (.builtin "sorted") (fun xs H Q=>∃ (p:ak) (ns:List Int),xs=[.ref p]∧SqL X.K H p (ns.map V.int)∧ns.length<64∧∀ (l:ak) (ns':List Int),H l=none→ns'.Perm ns→ns'.Pairwise (· ≤ ·)→Q (.ref l) (upd H l (.lst (ns'.map V.int)))):=by
 intro aR s σ H xs us Q I r h;obtain ⟨p,ns,rfl,hq,hn,q⟩:=h;obtain ⟨u,rfl,ru⟩:=nN r;cases (show u=ae.ref p from ru);obtain ⟨its,rv,pl,hz⟩:=I.list hq;have hl:its.length=ns.length:=by rw [←rv.length,aa]
 apply sorted_ints pl.isList (n9 rv) ⋯ fun out ns' a1 a2 a3=>?_
 obtain ⟨c,hc⟩:=sortedHeap_at (h:=preAll s.heap its) (vs:=its) (out:=out) preAll_at;apply ⟨.ref (s.heap.objs.size+1),_,I.laid (o:= .lst (ns'.map V.int)) (t':=s.toks) (fun b u e=>pR (bB (gL (aI e))) (preAll_keep e)) (Nat.le_succ _) ⟨?_,out.toList,c,pG a1,?_⟩,rfl,q _ ns' (I.hok.fresh (Nat.le_succ _)) a2 a3⟩
 ·rw [aa,a2.length_eq];exact aN (by lia:ns.length≤1000) ↥0
 ·rw [Array.toArray_toList];exact hc
def kT (h:bL)(a:ak)(vs:List ae):bL:=((h.update a (cK fun _=>(#[]:Array ae))).push (bJ "tuple" vs.toArray 0)).push (bJ "list" #[] 0)
def mid_keep {b:ak}{u:Obj}(hb:b≠a)(e:h.get? b=some u):(kT h a vs).get? b=some u :=
 aq _ (aq _ (by rw [hV _ _ _ _ hb];exact e))
def ltP (k m:Int×Int):Bool:=if (k.1 == m.1)=true then (if (k.2 == m.2)=true then false else decide (k.2<m.2)) else decide (k.1<m.1)
theorem ltP_iff {k m:Int×Int}:ltP k m=true↔(k.1<m.1∨(k.1=m.1∧k.2<m.2)):=by
 unfold ltP
 by_cases h1:k.1=m.1
 ·rw [rO (by rw [beq_iff_eq];exact h1)]
  by_cases h2:k.2=m.2
  ·rw [rO (by rw [beq_iff_eq];exact h2)]
   constructor
   ·intro h;cases h
   ·intro h;lia
  ·rw [rN (by rw [beq_iff_eq];exact h2),decide_eq_true_eq]
   lia
 ·rw [rN (by rw [beq_iff_eq];exact h1),decide_eq_true_eq]
  lia
abbrev kyP (ks:List (Int×Int))(i:Nat):Int×Int:=ks.getD i (0,0)
def kyP_at (h:i<ks.length):kyP ks i=ks[i]:=by
 show ks.getD i (0,0)=_;rw [af,gE h];rfl
theorem ord_of (h:ks.Nodup):Ord (fun i j=>ltP (kyP ks i) (kyP ks j)) ks.length:=by
 apply ⟨fun i j hi hj hne hf=>?_,fun i j k h1 h2=>?_⟩
 ·show ltP (kyP ks j) (kyP ks i)=true
  have hn:kyP ks i≠kyP ks j:=by
   rw [kyP_at hi,kyP_at hj];intro e;exact hne ((ka h).mp e)
  have hf:¬ ltP (kyP ks i) (kyP ks j)=true:=by
   show ¬ ltP (kyP ks i) (kyP ks j)=true;rw [show ltP (kyP ks i) (kyP ks j)=false from hf];decide
  rw [ltP_iff] at hf ⊢;have:¬ ((kyP ks i).1=(kyP ks j).1∧(kyP ks i).2=(kyP ks j).2):=fun z=>hn (Prod.ext z.1 z.2)
  lia
 ·have h1:ltP (kyP ks i) (kyP ks j)=true:=h1
  have h2:ltP (kyP ks j) (kyP ks k)=true:=h2;show ltP (kyP ks i) (kyP ks k)=true;rw [ltP_iff] at h1 h2 ⊢;lia
def PrsAt (h:bL)(vs:List ae)(ks:List (Int×Int)):Prop:=vs.length=ks.length∧∀ (i:Nat) (v:ae) (k:Int×Int),vs[i]? =some v→ks[i]? =some k→∃ a o t u n,v= .ref a∧h.get? a=some o∧o.cls= .type "tuple" ∧o.data= .seq #[.int k.1 t,.int k.2 u] n
def prs_tups {h:bL}:∀ {vs:List ae} {ks:List (Int×Int)},PrsAt h vs ks→∃ fs:List ae,KatTups h vs fs∧fs.length=vs.length∧∀ f∈fs,∃ i t,f=ae.int i t
 | [],[],_=>⟨[],trivial,rfl,fun f hf=>rQ hf ∅⟩
 | [],_::_,p=>rQ p.1 ∅
 | _::_,[],p=>rQ p.1 ∅
 | v::vs,k::ks,p=>by
  obtain ⟨fs,t1,t2,t3⟩:=prs_tups (vs:=vs) (ks:=ks) ⟨by have:=p.1;simp only [aP] at this;lia,fun i v' k' e1 e2=>p.2 (i+1) v' k' (by simpa using e1) (by simpa using e2)⟩;obtain ⟨a,o,t,u,n,rfl,q2,q3,q4⟩:=p.2 0 v k rfl rfl;apply ⟨.int k.1 t::fs,KatTups.cons q2 q3 q4 rfl t1,by rw [aP,aP,t2],fun f hf=>?_⟩
  rcases aF.mp hf with rfl | hf
  ·exact ⟨_,_,rfl⟩
  ·exact t3 f hf
def prs_kind (p:PrsAt s.heap vs ks)(h1:1≤vs.length){Q:SortKind→av→Prop}(q:Q (tuples' true) s):aU (bt prog w) A (keyKind' vs.toArray) Q E s:=by
 obtain ⟨fs,t1,t2,t3⟩:=prs_tups p;have e1:((ae.type "int" :ae) == ae.type "int")=true:=by trivial
 have e2:((ae.type "int" :ae) != ae.type "tuple")=true:=by trivial
 apply kat_kind (T:= .type "int") t1 ⋯ (fun v hv=>?_) e1 (by rw [e2];exact q);obtain ⟨i,t,rfl⟩:=t3 v hv;exact Looks.of_pure rfl
def prs_ask (p:PrsAt s.heap vs ks)(hi:i<vs.length)(hj:j<vs.length){C:Bool→av→Prop}(c:C (ltP (kyP ks i) (kyP ks j)) s):kas_ask prog w A (tuples' true) vs i j C s:=by
 have li:=p.1;obtain ⟨a,o,t,u,n,e1,q2,q3,q4⟩:=p.2 i vs[i] ks[i] (gE hi) (gE ⋯);obtain ⟨a',o',t',u',n',e1',q2',q3',q4'⟩:=p.2 j vs[j] ks[j] (gE hj) (gE ⋯);unfold kas_ask;have ei:vs.getD i ae.none= .ref a:=by rw [af,gE hi];exact e1
 have ej:vs.getD j ae.none= .ref a':=by rw [af,gE hj];exact e1'
 rw [ei,ej];rw [kyP_at ⋯,kyP_at ⋯] at c;apply kat_lt q2 q4 q2' q4' ?_;apply kat_cons (wpAny_eqBool_int ?_);unfold ltP at c
 by_cases h1:(ks[i].1 == ks[j].1)=true
 ·rw [rO h1] at c
  rw [h1];apply kat_yes (kat_cons (wpAny_eqBool_int ?_))
  by_cases h2:(ks[i].2 == ks[j].2)=true
  ·rw [rO h2] at c
   rw [h2];exact kat_yes (kat_nil c)
  ·rw [rN h2] at c
   rw [lV.mpr h2];exact kat_no (kat_one _ _ (lt_int (Q:=PySem.W.BoolBack C) c))
 ·rw [rN h1] at c
  rw [lV.mpr h1];exact kat_no (oneLt_int c)
def qw (h:bL)(kS a:ak)(out:List ae):bL:=(h.update kS (cK fun _=>(#[]:Array ae))).update a (cK fun _=>out.toArray)
def key_tail {st:SortSt}{out ks:List ae}{e:Nat}{P:PySem.Fin→av→Prop}(hout:(arrOf st).map (·.2)=jQ out)(hz:out.length<64)(hkz:ks.length<64)(hf:failedOf st=none)
  (hk:s.heap.get? kS=some (bJ "list" ks.toArray e)) (ha:s.heap.get? a=some (bJ "list" #[] e1)) (hne:kS≠a)
  (h:P (.done (.ret .none)) { s with heap:=qw s.heap kS a out }):aU (bt prog w) A (ksk_tail a false e1 (.ref kS) st) P E s:=by
 have na:(s.heap.update kS (cK fun _=>(#[]:Array ae))).get? a=some (bJ "list" #[] e1):=by
  rw [hV _ _ _ _ (cH hne)];exact ha
 unfold ksk_tail
 try dsimp only
 rw [hout];apply ai (listUpdate_at hk rfl ?_ (by rw [aG,gi];lia) (bo _));apply ai (gh ?_);apply ai (seqEpoch_at na rfl ?_);apply ai (listUpdate_at na rfl ?_ (bo _) (by show (if false=true then _ else out.toArray).size≤_;rw [rN ↥0,aG,gi];lia));rw [hf];simp only [bne_self_eq_false,Bool.false_eq_true,if_false];exact aL h
def key_end {ks:List ae}{e:Nat}{κ:SortKind}{lt:Nat→Nat→Bool}{P:PySem.Fin→av→Prop}(hl:ks.length=vs.length)(h2:2≤vs.length)(h64:vs.length<64)(O:Ord lt vs.length)
  (hk:s.heap.get? kS=some (bJ "list" ks.toArray e)) (ha:s.heap.get? a=some (bJ "list" #[] e1)) (hne:kS≠a)
  (hkk:∀ Q:SortKind→av→Prop,Q κ s→aU (bt prog w) A (keyKind' ks.toArray) Q (fun _ _=>False) s)
  (hc:∀ i j C,i<vs.length→j<vs.length→C (lt i j) s→kas_ask prog w A κ ks i j C s)
  (h:∀ p:Array Nat,Pm vs.length p→SoA lt p vs.length→P (.done (.ret .none)) { s with heap:=qw s.heap kS a (p.toList.map fun i=>vs.getD i ae.none) }) :
  aU (bt prog w) A (ksk_end a false vs.toArray e1 (.ref kS) ks.toArray) P E s:=by
 have hn2:¬ vs.toArray.size<2:=by rw [aG];lia
 unfold ksk_end
 try dsimp only
 rw [rN ↥0,rN hn2,rN hn2,rN ↥0];apply ai (cf (hkk (fun κ' s'=>κ'=κ∧s'=s) ⟨rfl,rfl⟩) (fun κ' s0 z=>?_) fun _ _ x=>x.elim);obtain ⟨z1,z2⟩:=z;subst z1;subst z2;have G:=(sort_ok O ⋯).wp (cmp:=kas_ask prog w A κ' ks) (s:=s0) (Q:=fun p s'=>s'=s0∧Pm vs.length p∧SoA lt p vs.length) hc (fun p hp=>⟨rfl,hp.1,hp.2⟩);apply ai (cf (kat_run (Q:=fun st' s'=>∃ p:Array Nat,p.size=vs.length∧arrOf st'=p.map (kas_item (ks.toArray.zip vs.toArray))∧failedOf st'=none∧s'=s0∧Pm vs.length p∧SoA lt p vs.length) hl h2 h64 (fun p' st' s' a1 a2 a3 a4=>⟨p',a1,a2,a3,a4.1,a4.2.1,a4.2.2⟩) G) ?_ fun _ _ e=>e);rintro ⟨⟨⟩,st'⟩ s' ⟨p,hp,har,hf,rfl,pm,so⟩
 try dsimp only
 exact key_tail (kat_snds hl har) (by rw [aa,cj,hp];exact h64) ⋯ hf hk ha hne (h p pm so)
theorem key_fold {f:ae}{kS:ak}{body:ae→PUnit→Sem (ForInStep PUnit)}(J:List ae→av→Prop)(vs:List ae)(h64:vs.length<64)
  (hb:∀ x ks e (t:av),ks.length<64→t.heap.get? kS=some (bJ "list" ks.toArray e) →
   aU (bt prog w) A (jZ f [x]) (fun k t'=>t'.heap.get? kS=some (bJ "list" ks.toArray e)∧∀ h' c,cy kS t'.heap h'→h'.get? kS=some (bJ "list" (ks++[k]).toArray c)→J (ks++[k]) { t' with heap:=h' }) (fun _ _=>False) t →
   aU (bt prog w) A (body x ⟨⟩) (fun r t'=>r= .yield ⟨⟩∧∃ k c,t'.heap.get? kS=some (bJ "list" (ks++[k]).toArray c)∧J (ks++[k]) t') E t)
  (hc:∀ ks x e (t:av),vs[ks.length]? =some x→J ks t→t.heap.get? kS=some (bJ "list" ks.toArray e) →
   aU (bt prog w) A (jZ f [x]) (fun k t'=>t'.heap.get? kS=some (bJ "list" ks.toArray e)∧∀ h' c,cy kS t'.heap h'→h'.get? kS=some (bJ "list" (ks++[k]).toArray c)→J (ks++[k]) { t' with heap:=h' }) (fun _ _=>False) t) :
  ∀ (r ks:List ae) (e:Nat) (t:av),vs=vs.take ks.length++r→ks.length+r.length=vs.length→t.heap.get? kS=some (bJ "list" ks.toArray e)→J ks t →
   aU (bt prog w) A (forIn r PUnit.unit body) (fun _ t'=>∃ ks e,t'.heap.get? kS=some (bJ "list" ks.toArray e)∧ks.length=vs.length∧J ks t') E t
 | [],ks,e,t,_,hl,hk,j=>by
  rw [List.forIn_nil];exact aL ⟨ks,e,hk,by simpa using hl,j⟩
 | x::r,ks,e,t,hv,hl,hk,j=>by
  rw [aP] at hl;rw [List.forIn_cons];have hx:vs[ks.length]? =some x:=by
   rw [hv,bw (by rw [bK];lia),bK,show ks.length - min ks.length vs.length=0 by lia];rfl
  apply ai (cf (hb x ks e t ⋯ hk (hc ks x e t hx j hk)) (fun q t' hq=>?_) fun _ _ z=>z);obtain ⟨rfl,k,c,hk',j'⟩:=hq;show aU (bt prog w) A (forIn r PUnit.unit body) _ E t';apply key_fold J vs h64 hb hc r (ks++[k]) c t' ?_ (by rw [au,dH];lia) hk' j';rw [au,dH,bj,hx]
  simpa using hv
theorem key_rest {f:ae}{P:PySem.Fin→av→Prop}(J:List ae→av→Prop)(h64:vs.length<64)(hk:s.heap.get? kS=some (bJ "list" #[] 0))(j0:J [] s)
  (hc:∀ ks x e (t:av),vs[ks.length]? =some x→J ks t→t.heap.get? kS=some (bJ "list" ks.toArray e) →
   aU (bt prog w) A (jZ f [x]) (fun k t'=>t'.heap.get? kS=some (bJ "list" ks.toArray e)∧∀ h' c,cy kS t'.heap h'→h'.get? kS=some (bJ "list" (ks++[k]).toArray c)→J (ks++[k]) { t' with heap:=h' }) (fun _ _=>False) t)
  (h:∀ ks e (t:av),ks.length=vs.length→J ks t→t.heap.get? kS=some (bJ "list" ks.toArray e)→aU (bt prog w) A (ksk_end a false vs.toArray e1 (.ref kS) ks.toArray) P E t) :
  aU (bt prog w) A (ksk_rest a f false vs.toArray e1 (.ref kS)) P E s:=by
 unfold ksk_rest;apply ai (wpAny_rule ?_)
 first
  | rw [List.forIn_toArray]
  | (rw [←Array.forIn_toList];simp only [e8])
  | rw [←Array.forIn_toList]
 apply ai (cf (key_fold J vs h64 (fun x ks e t hz ht hx=>?_) hc vs [] 0 s ∅ ∅ hk j0) (fun _ t hd=>?_) fun _ _ z=>z)
 ·apply ai (wpAny_attempt (cf hx (fun k t' hk=>?_) fun _ _ hF=>hF.elim))
  obtain ⟨k1,k2⟩:=hk;have s1:=gn t'.heap kS (cK (·.push k));have ea:(jQ ks).push k=jQ (ks++[k]):=by simp
  obtain ⟨c2,hc2⟩:∃ c2,(t'.heap.update kS (cK (·.push k))).get? kS=some (bJ "list" (jQ (ks++[k])) c2):=⟨_,by rw [←ea];exact fV k1 (·.push k)⟩
  try dsimp only
  apply ai (listUpdate_at k1 rfl ?_ (by rw [aG,gi];lia) (aN (Nat.le_of_eq (Array.size_push ..)) (by rw [aG,gi];lia)));exact aL ⟨rfl,k,c2,hc2,k2 _ c2 s1 hc2⟩
 ·obtain ⟨ks,e,hk',hl,j⟩:=hd
  try dsimp only
  apply ai (listItems_at hk' rfl ?_);exact h ks e t hl j hk'
def collect_range {r:ak}{a c:Int}{t u v:Tok}{Q:List ae→av→Prop}(hh:A.handled=none)(hr:IsRange s.heap r a b c t u v)(hsmall:iE a b c=true)(hn:d9 a b c=n)(hlen:n≤2 ^ 24)
  (h:∀ h' tk acc,(∀ b o,s.heap.get? b=some o→h'.get? b=some o)→s.heap.objs.size<h'.objs.size→ItemsOf (fun i v=>∃ t,v= .int (a+i * c) t) acc n→Q acc.toList { s with heap:=h',toks:=tk }) :
  aU (bt prog w) A (collect (.ref r)) Q E s:=by
 unfold collect;apply ai (wpAny_runValue (gQ entry_proto_collect' ?_));show aU _ _ (do again (.builtin "list.__iadd__" ⟨[←newList [],.ref r],[]⟩)) _ _ s;apply ai (wpAny_newList (aL ⟨Code.quiet_builtin _ ⇑0,gQ entry_list_iadd' ?_⟩));have key:=wpAny_extend_range (prog:=prog) (w:=w) (A:=A) (s:={ s with heap:=s.heap.push (bJ "list" #[] 0) }) (R:=fun r s'=>match r with
   | .ok (.ret v)=>aU (bt prog w) A (match v with
    | .ref a=>do
     let o ← load a
     match o.data with
     | .seq xs _=>fQ xs.toList
     | _=>unsupported "internal:collect"
    | _=>unsupported "internal:collect") Q E s'
   | .ok _=>False
   | .error e=>E e s') hh (aq _ hr) hsmall hn hlen s.heap.objs.size (.ref s.heap.objs.size) 0 (aQ _ rfl) (fun h' tk acc c' hk hS hacc=>by
  show aU (bt prog w) A (do
    let o ← load s.heap.objs.size
    match o.data with
    | .seq xs _=>fQ xs.toList
    | _=>unsupported "internal:collect") Q E { s with heap:=h',toks:=tk }
  apply ai (wpAny_load hS ?_);exact aL (h h' tk acc (fun b o e=>hk b o (bB (aI e)) (aq _ e)) (aI hS) hacc))
 exact key
def KeyDo (prog:aX)(w:bC)(B:bS)(f:ae)(vs:List ae)(kS D:ak)(e1:Nat)(Q:av→Prop)(s1:av):Prop :=
 ∃ J:List ae→av→Prop,J [] s1 ∧
  (∀ ks x e (t:av),vs[ks.length]? =some x→J ks t→t.heap.get? kS=some (bJ "list" ks.toArray e) →
   aU (bt prog w) B (jZ f [x]) (fun k t'=>t'.heap.get? kS=some (bJ "list" ks.toArray e)∧∀ h' c,cy kS t'.heap h'→h'.get? kS=some (bJ "list" (ks++[k]).toArray c)→J (ks++[k]) { t' with heap:=h' }) (fun _ _=>False) t) ∧
  ∀ ks (t:av),ks.length=vs.length→J ks t→t.heap.get? D=some (bJ "list" #[] e1)∧∃ κ lt,Ord lt vs.length ∧
   (2≤vs.length→∀ Q:SortKind→av→Prop,Q κ t→aU (bt prog w) B (keyKind' ks.toArray) Q (fun _ _=>False) t) ∧
   (∀ i j C,i<vs.length→j<vs.length→C (lt i j) t→kas_ask prog w B κ ks i j C t) ∧
   ∀ p:Array Nat,Pm vs.length p→SoA lt p vs.length→Q { t with heap:=qw t.heap kS D (p.toList.map fun i=>vs.getD i ae.none) }
def zip_snd:∀ (ks vs:List ae),ks.length=vs.length→(ks.zip vs).map (·.2)=vs
 | [],[],_=>rfl
 | [],_::_,h=>by cases h
 | _::_,[],h=>by cases h
 | _::ks,v::vs,h=>by
  show v::(ks.zip vs).map (·.2)=v::vs;rw [zip_snd ks vs (by simpa using h)]
def key_end_few {ks:List ae}{e:Nat}{P:PySem.Fin→av→Prop}(hl:ks.length=vs.length)(h2:vs.length<2)
  (hk:s.heap.get? kS=some (bJ "list" ks.toArray e)) (ha:s.heap.get? a=some (bJ "list" #[] e1)) (hne:kS≠a)
  (h:P (.done (.ret .none)) { s with heap:=qw s.heap kS a vs }) :
  aU (bt prog w) A (ksk_end a false vs.toArray e1 (.ref kS) ks.toArray) P E s:=by
 have hn2:vs.toArray.size<2:=by rw [aG];lia
 unfold ksk_end
 try dsimp only
 rw [rN ↥0,rO hn2,rO hn2,rN ↥0];apply ai (aL ?_);rw [StateT.run_pure];apply ai (aL ?_)
 try dsimp only
 apply key_tail (out:=vs) ?_ ⋯ ⋯ rfl hk ha hne h;show (ks.toArray.zip vs.toArray).map (·.2)=vs.toArray
 apply Array.toList_inj.mp ?_
 rw [Array.toList_map,Array.toList_zip];exact zip_snd ks vs hl
def range_getD (vs:List ae):((aJ vs.length).map fun i=>vs.getD i ae.none)=vs:=by
 apply List.ext_getElem? fun i=>?_
 rw [ax]
 by_cases hi:i<vs.length
 ·rw [fb hi]
  show some (vs.getD i ae.none)=_;rw [af,gE hi];rfl
 ·rw [List.getElem?_eq_none (by rw [aY];lia),List.getElem?_eq_none ⋯];rfl
def key_tree {q:ak}{P:PySem.Fin→av→Prop}(ho:s.heap.get? a=some (bJ "list" vs.toArray n))(h64:vs.length<64)
  (h:∀ e1,(kT s.heap a vs).get? a=some (bJ "list" #[] e1)→(kT s.heap a vs).get? (s.heap.objs.size+1)=some (bJ "list" #[] 0)→KeyDo prog w A (.ref q) vs (s.heap.objs.size+1) a e1 (fun t=>P (.done (.ret .none)) t) { s with heap:=kT s.heap a vs }) :
  aU (bt prog w) A (ksk_tree a (.ref q) false) P E s:=by
 obtain ⟨e1,ho1⟩:∃ e1,(s.heap.update a (cK fun _=>(#[]:Array ae))).get? a=some (bJ "list" #[] e1):=⟨_,fV ho fun _=> #[]⟩;have ha:a<s.heap.objs.size:=aI ho;have ho6:(kT s.heap a vs).get? a=some (bJ "list" #[] e1):=aq _ (aq _ ho1);have hkS:((s.heap.update a (cK fun _=>(#[]:Array ae))).push (bJ "tuple" vs.toArray 0)).objs.size=s.heap.objs.size+1:=by rw [size_push',bL.size_update]
 have hk0:(kT s.heap a vs).get? (s.heap.objs.size+1)=some (bJ "list" #[] 0):=by
  unfold kT;rw [←hkS];exact aQ _ rfl
 obtain ⟨J,j0,jc,je⟩:=h e1 ho6 hk0;unfold ksk_tree;apply ai (listItems_at ho rfl ?_);apply ai (listUpdate_at ho rfl ?_ (by rw [aG,gi];lia) (bo _));apply ai (seqEpoch_at ho1 rfl ?_);apply ai (wpAny_newTuple ?_ (by show vs.length≤_;rw [gi];lia));apply ai (wpAny_newList ?_ (bo _));apply cW ?_;show aU (bt prog w) A (ksk_rest a (.ref q) false vs.toArray e1 (.ref ((s.heap.update a (cK fun _=>(#[]:Array ae))).push (bJ "tuple" vs.toArray 0)).objs.size)) P E { s with heap:=kT s.heap a vs };rw [hkS];apply key_rest J h64 hk0 j0 jc fun ks e t hl j hk=>?_
 obtain ⟨ha',κ,lt,O,hkk,hc,hP⟩:=je ks t hl j
 by_cases h2:vs.length<2
 ·have hh:=hP (aJ vs.length).toArray (by show (aJ vs.length).toArray.toList.Perm _;rw [e8]) (fun i j x y=>rQ y ⋯)
  rw [e8,range_getD] at hh;exact key_end_few hl h2 hk ha' (cE (gL ha)) hh
 ·exact key_end hl ⋯ h64 O hk ha' (cE (gL ha)) (hkk ⋯) hc hP
def sorted_keyR {r q:ak}{a c:Int}{t u v:Tok}(hh:A.handled=none)(hr:IsRange s.heap r a b c t u v)(hsmall:iE a b c=true)(hn:d9 a b c=n)(h64:n<64)
  (h:∀ (vs:List ae) (h1:bL) (tk:Nat) (D kS:ak) (e1:Nat),vs.length=n→(∀ (i:Nat) x,vs[i]? =some x→∃ t,x= .int (a+i * c) t)→(∀ b o,s.heap.get? b=some o→h1.get? b=some o)→s.heap.objs.size≤D→D<kS→h1.get? D=some (bJ "list" #[] e1)→h1.get? kS=some (bJ "list" #[] 0) →
   KeyDo prog w A.in1.in1 (.ref q) vs kS D e1 (fun t'=>Q (.ref D) t') { s with heap:=h1,toks:=tk }) :
  aU (bt prog w) A (jZ (.builtin "sorted") [.ref r] [(cq "key",.ref q)]) Q E s:=by
 apply call_function_entry_kw kind_sorted plain_sorted entry_sorted (ksk_s1 _ _) ?_;unfold eQ.«sorted»;apply ai (m:=checkCount "sorted" 1 1 _) (aL ?_);apply ai (collect_range hh hr hsmall hn ⋯ fun h' tk acc hk hlt hi=>?_);have hl:acc.toList.length=n:=by rw [cj];exact hi.1
 apply ai (wpAny_newList ?_ (by rw [hl,gi];lia));have hoL:(h'.push (bJ "list" acc.toList.toArray 0)).get? h'.objs.size=some (bJ "list" acc.toList.toArray 0):=aQ _ rfl;show aU _ _ _ _ _ { s with heap:=h'.push (bJ "list" acc.toList.toArray 0),toks:=tk };apply ai (cW (wpAny_call_entry_kw slot_list_sort ⟨_,hoL,rfl⟩ entry_list_sort ?body (ksk_l1 _ _)))
 case body =>
  show aU (bt prog w) A.in1.in1 (eQ.«list.sort» ⟨[.ref h'.objs.size],[(cq "key",.ref q)]⟩) _ _ _;rw [ksk_t1];apply key_tree (s:={ s with heap:=h'.push (bJ "list" acc.toList.toArray 0),toks:=tk }) hoL ⋯ fun e1 g1 g2=>?_
  have K:=h acc.toList (kT (h'.push (bJ "list" acc.toList.toArray 0)) h'.objs.size acc.toList) tk h'.objs.size ((h'.push (bJ "list" acc.toList.toArray 0)).objs.size+1) e1 hl ?_ ?_ (jg hlt) (by rw [size_push'];exact gL (jf _)) g1 g2
  ·obtain ⟨J,j0,jc,je⟩:=K
   apply ⟨J,j0,jc,fun ks t' x1 x2=>?_⟩;obtain ⟨y1,κ,lt,y2,y3,y4,y5⟩:=je ks t' x1 x2;exact ⟨y1,κ,lt,y2,y3,y4,fun p p1 p2=>⟨_,rfl,aL ⟨_,rfl,y5 p p1 p2⟩⟩⟩
  ·intro i x hx
   rw [j6] at hx;exact hi.2 i x hx
  ·exact fun b o e=>mid_keep (bB (Nat.lt_trans (aI e) hlt)) (aq _ (hk b o e))
section
variable {σ:List (Option V)}
def Inv.take {D:ak}(I:Inv X aR σ H s)(hn:H D=none)(hs0:X.s₀.heap.objs.size≤D)(hL:D≠X.env.locals)(hC:∀ x c,X.env.cells.lookup x=some c→c≠D)(hP:∀ p∈X.pn++aR,p.1≠D)(new:jz X.prog X.w (upd H D o) s.heap D o):Inv X aR σ (upd H D o) s where
 ok:=I.ok
 os:=I.os
 bare:=I.bare
 base :=
  {keep:=I.base.keep
   slot:=I.base.slot
   free:=fun b ob e nb hx=>by rw [bq (bB (aM (aI e) hs0))];exact I.base.free b ob e nb hx
   there:=I.base.there
   tups:=fun b xs e=>by have q:=I.base.tups b xs e;rw [bq (bF q hn)];exact q
   frzs:=fun b o u e=>by have q:=I.base.frzs b o u e;rw [bq (bF q hn)];exact q
   tbls:=fun b ps e=>by obtain ⟨more,q⟩:=I.base.tbls b ps e;exact ⟨more,by rw [bq (bF q hn)];exact q⟩ }
 loc:=I.loc
 cell:=I.cell
 free:=by rw [bq hL.symm];exact I.free
 freeC:=fun x c e=>by rw [bq (hC x c e)];exact I.freeC x c e
 pin:=fun p hp=>by
  obtain ⟨a,b,c,d,e⟩:=I.pin p hp;exact ⟨a,by rw [bq (hP p hp)];exact b,c,d,e⟩
 hok:=I.hok.take hn new
 len:=I.len
def Inv.unpin {p0:ak×Obj}(I:Inv X (p0::aR) σ H s):Inv X aR σ H s:=I.pins_of fun p hp=>I.pin p (aA _ (ay _ hp))
def Inv.repin {o o':Obj}(I:Inv X ((kS,o)::aR) σ H s)(hs0:X.s₀.heap.objs.size≤kS)(hC:∀ x c,X.env.cells.lookup x=some c→c≠kS)(hP:∀ p∈X.pn++aR,p.1≠kS)(hsb:cy kS s.heap h')(ho':h'.get? kS=some o')(hd:∀ v,o'.data≠ .cell v):Inv X ((kS,o')::aR) σ H { s with heap:=h' }:=by
 obtain ⟨p1,p2,p3,p4,_⟩:=I.pin (kS,o) (aA _ (bu ..));have I2:=I.unpin.turned (t':=s.toks) (it:=kS) (h':=h') (fun b o hb e=>hsb.extBut b o hb e) p2 p3 (.inr hs0) hC hP;apply I2.pins_of fun p hp=>?_
 rcases aF.mp hp with rfl | hp
 ·exact ⟨ho',p2,p3,p4,hd⟩
 ·exact I2.pin p (aA _ hp)
def prs_of {as:List ak}(I:Inv X aR σ H s)(hl:as.length=ks.length)(h:∀ (i:Nat) a k,as[i]? =some a→ks[i]? =some k→H a=some (.tup [.int k.1,.int k.2])):PrsAt s.heap (as.map ae.ref) ks:=by
 apply ⟨by rw [aa,hl],fun i v k e1 e2=>?_⟩;rw [ax] at e1;obtain ⟨a,ea,rfl⟩:=aO.mp e1;obtain ⟨tz,tts,tr,o,ho,hcl,_,nn,hdt⟩:=I.hok a _ (h i a k ea e2);cases tr with
 | cons r1 tr=>cases tr with
  | cons r2 tr =>
   cases tr;obtain ⟨t1,rfl⟩:=r1;obtain ⟨t2,rfl⟩:=r2;exact ⟨a,o,t1,t2,nn,rfl,ho,hcl,hdt⟩
theorem keyDo_of {B:bS}{f:ae}{num:Nat→Int}{key:Nat→Int×Int}{D:ak}{Q:av→Prop}
  (I:Inv X ((kS,bJ "list" #[] 0)::(D,bJ "list" #[] e1)::aR) σ H s) (hl:vs.length=n) (h64:n<64) (hv:∀ (i:Nat) x,vs[i]? =some x→∃ t,x= .int (num i) t)
  (k0:X.s₀.heap.objs.size≤kS) (d0:X.s₀.heap.objs.size≤D) (kC:∀ x c,X.env.cells.lookup x=some c→c≠kS) (dC:∀ x c,X.env.cells.lookup x=some c→c≠D) (kP:∀ p∈X.pn++aR,p.1≠kS) (dP:∀ p∈X.pn++aR,p.1≠D) (hne:kS≠D)
  (hnd:((aJ n).map key).Nodup)
  (hf:∀ (t:av) (H':Hp) (pins':List (ak×Obj)) (i:Nat) (tk:Tok),i<n→Inv X pins' σ H' t→bG H H'→aU (bt X.prog X.w) B (jZ f [.int (num i) tk]) (fun k t'=>∃ q H'',Inv X pins' σ H'' t'∧bG H' H''∧k= .ref q∧H'' q=some (.tup [.int (key i).1,.int (key i).2])) (fun _ _=>False) t)
  (fin:∀ (t:av) (H':Hp) (π:List Nat),bG H H'→H' D=none→Inv X aR σ (upd H' D (.lst (π.map fun i=>V.int (num i)))) t→π.Perm (aJ n)→π.Pairwise (fun i j=>ltP (key i) (key j)=true)→Q t) :
  KeyDo X.prog X.w B f vs kS D e1 Q s:=by
 have pK:∀ p∈X.pn++((D,bJ "list" #[] e1)::aR),p.1≠kS:=fun p hp=>by
  rcases aH.mp hp with hp | hp
  ·exact kP p (aK _ hp)
  ·rcases aF.mp hp with rfl | hp
   ·exact cH hne
   ·exact kP p (aA _ hp)
 apply ⟨fun ks t=>∃ e H' as,Inv X ((kS,bJ "list" ks.toArray e)::(D,bJ "list" #[] e1)::aR) σ H' t∧bG H H'∧ks=as.map ae.ref∧∀ (i:Nat) a,as[i]? =some a→H' a=some (.tup [.int (key i).1,.int (key i).2]),⟨0,H,[],I,bG.refl H,rfl,fun i a e=>by simp at e⟩,?_,?_⟩
 ·rintro ks x e t hx ⟨e',H',as,I',S',rfl,has⟩ hk
  rw [aa] at hx;have hi:as.length<n:=by rw [←hl];exact (ao.mp hx).1
  obtain ⟨tk,rfl⟩:=hv _ x hx;apply cf (hf t H' _ as.length tk hi I' S') (fun k t' hk'=>?_) fun _ _ z=>z
  obtain ⟨q,H'',I'',S'',rfl,hq⟩:=hk';have pk:=(I''.pin _ (aA _ (bu ..))).1;have pk0:=(I'.pin _ (aA _ (bu ..))).1;have pk0:t.heap.get? kS=some (bJ "list" (as.map ae.ref).toArray e'):=pk0;rw [hk] at pk0;have ee:e=e':=by cases pk0;rfl
  apply ⟨by rw [ee];exact pk,fun h' c hsb hg=>⟨c,H'',as++[q],I''.repin k0 kC pK hsb hg (fun v z=>by cases z),S'.trans S'',by rw [aE];rfl,fun i a ea=>?_⟩⟩
  by_cases hlt:i<as.length
  ·rw [cI hlt] at ea
   exact S'' _ _ (has i a ea)
  ·rw [bw ⋯] at ea
   have hz:i=as.length:=by
    have:=(ao.mp ea).1;simp only [dH] at this;lia
   subst hz;rw [gJ] at ea;cases ea;exact hq
 ·rintro ks t hks ⟨e',H',as,I',S',rfl,has⟩
  rw [aa] at hks;obtain ⟨pd,nD,lD,fD,_⟩:=I'.pin (D,bJ "list" #[] e1) (aA _ (ay _ (bu ..)));obtain ⟨pk,nK,lK,fK,_⟩:=I'.pin (kS,bJ "list" (as.map ae.ref).toArray e') (aA _ (bu ..));have pd:t.heap.get? D=some (bJ "list" #[] e1):=pd;have pk:t.heap.get? kS=some (bJ "list" (as.map ae.ref).toArray e'):=pk;have kat:∀ i,i<n→kyP ((aJ n).map key) i=key i:=fun i hi=>by
   rw [kyP_at (by rw [aa,aY];exact hi),j9,kY]
  have PR:PrsAt t.heap (as.map ae.ref) ((aJ n).map key):=prs_of I' (by rw [aa,aY];lia) fun i a k ea ek=>by
   rw [ax] at ek;obtain ⟨j,ej,rfl⟩:=aO.mp ek;have hi:i<n:=by have:=(ao.mp ej).1;rw [aY] at this;exact this
   rw [fb hi] at ej;cases ej;exact has i a ea
  have ln:((aJ n).map key).length=n:=by rw [aa,aY]
  have O:=ord_of hnd;rw [ln] at O;apply ⟨pd,tuples' true,fun i j=>ltP (kyP ((aJ n).map key) i) (kyP ((aJ n).map key) j),by rw [hl];exact O,fun h2 Q' q'=>prs_kind (s:=t) PR (by rw [aa];lia) q',fun i j C hi hj c=>prs_ask (s:=t) PR (by rw [aa];lia) (by rw [aa];lia) c,fun p pm so=>?_⟩;rw [hl] at pm so;have s1:=gn t.heap kS (cK fun _=>(#[]:Array ae));obtain ⟨ck,hck⟩:∃ ck,(t.heap.update kS (cK fun _=>(#[]:Array ae))).get? kS=some (bJ "list" #[] ck):=⟨_,fV pk fun _=> #[]⟩;have I1:=I'.repin k0 kC pK s1 hck (fun v z=>by cases z);have I2:=I1.unpin;have hD1:(t.heap.update kS (cK fun _=>(#[]:Array ae))).get? D=some (bJ "list" #[] e1):=by rw [hV _ _ _ _ (cH hne)];exact pd
  have s2:=gn (t.heap.update kS (cK fun _=>(#[]:Array ae))) D (cK fun _=>jQ (p.toList.map fun i=>vs.getD i ae.none));obtain ⟨cD,hcD⟩:∃ cD,(qw t.heap kS D (p.toList.map fun i=>vs.getD i ae.none)).get? D=some (bJ "list" (jQ (p.toList.map fun i=>vs.getD i ae.none)) cD):=⟨_,fV hD1 fun _=>jQ (p.toList.map fun i=>vs.getD i ae.none)⟩;have I3:=(I2.repin d0 dC dP s2 hcD (fun v z=>by cases z)).unpin;apply fin _ H' p.toList S' nD (I3.take nD d0 lD dC dP ⟨?_,_,cD,?_,hcD⟩) pm ?_
  ·rw [aa,pm.length_eq,aY];exact aN (by lia:n≤1000) ↥0
  ·apply vals_at (by rw [aa,aa]) fun i x hx=>?_
   rw [ax] at hx;obtain ⟨j,hj,rfl⟩:=aO.mp hx;have hjn:j<n:=bT.mp (pm.mem_iff.mp (aW hj));obtain ⟨tk,ex⟩:=hv j vs[j] (gE ⋯);apply ⟨vs.getD j ae.none,by rw [ax,hj];rfl,?_⟩;rw [af,gE ⋯];exact ⟨tk,ex⟩
  ·apply List.pairwise_iff_getElem.mpr fun a b ha hb hab=>?_
   have sz:=Pm.size pm;rw [cj] at ha hb;have:=so a b hab ⋯;have ea:gA p a=p.toList[a]:=by rw [mJ,d5 ha];simp
   have eb:gA p b=p.toList[b]:=by rw [mJ,d5 hb];simp
   have la:p.toList[a]<n:=by rw [←ea];exact pm.lt ⋯
   have lb:p.toList[b]<n:=by rw [←eb];exact pm.lt ⋯
   have this:ltP (kyP ((aJ n).map key) (gA p a)) (kyP ((aJ n).map key) (gA p b))=true:=this;rw [ea,eb,kat _ la,kat _ lb] at this;exact this
end
end L2
namespace L2
open PySem PySem.W PySem.Spec PyProof.Rows
def BM (mg:Str→Option ae)(base:bL):Prop:=∃ bm ob,mg "__builtins__" =some (.ref bm)∧bm≠builtinsNs∧bm≠bO∧base.get? bm=some ob∧ob.cls= .type "module" ∧ob.dict=some builtinsNs∧ob.data= .plain
def CdK (q:Str)(H:Hp)(c:ak):Prop:=∃ oc vs t,H c=some (.frz oc (.own 0))∧oc.data= .fields vs∧vs[1]? =some (.str q t)
def LamT (P:ak)(pos:Pos)(q:Str)(H:Hp):Prop :=
 H P=some (.tbl #[])∨∃ c,H P=some (.tbl #[jo pos.line,jo pos.col,.ref c])∧CdK q H c
def Tb (P:ak)(H H':Hp):Prop:=∀ a o,a≠P→H a=some o→H' a=some o
def Tb.refl {P:ak}(H:Hp):Tb P H H:=fun _ _ _ e=>e
def Tb.trans {P:ak}(a:Tb P H H1)(b:Tb P H1 H2):Tb P H H2:=fun x o n e=>b x o n (a x o n e)
def bG.tb {P:ak}(a:bG H H'):Tb P H H':=fun x o _ e=>a x o e
def CdK.tb {P:ak}{c:ak}(a:Tb P H H')(hn:c≠P)(k:CdK q H c):CdK q H' c:=let ⟨oc,vs,t,e,r⟩:=k;⟨oc,vs,t,a _ _ hn e,r⟩
def LamT.same {P:ak}(a:bG H H')(k:LamT P pos q H):LamT P pos q H':=by
 rcases k with k | ⟨c,k,oc,vs,t,e,r⟩
 ·exact .inl (a _ _ k)
 ·exact .inr ⟨c,a _ _ k,oc,vs,t,a _ _ e,r⟩
def LamF (q:Str)(params:fU)(body:Expr)(scope:fG)(cl:List (Str×ak))(f:ak)(H:Hp):Prop :=
 ∃ pm c ct,H f=some (.frz (kla_obj "<lambda>" q params body scope cl pm c ct) (.own 0))∧CdK q H c
def LamF.same (a:bG H H')(k:LamF q params body scope cl f H):LamF q params body scope cl f H' :=
 let ⟨pm,c,ct,e,oc,vs,t,e2,r⟩:=k;⟨pm,c,ct,a _ _ e,oc,vs,t,a _ _ e2,r⟩
section
variable {σ:List (Option V)}
def Inv.grown {P:ak}{ps more:Array ae}{tk:Nat}(I:Inv X aR σ H s)(hP:H P=some (.tbl ps))(hx:bL.ExtBut P s.heap h')(ht:h'.get? P=some (tabObj (ps++more))) :
  Inv X aR σ (upd H P (.tbl (ps++more))) { s with heap:=h',toks:=tk }:=by
 have neP:∀ b,H b=none→b≠P:=fun b e z=>by rw [z,hP] at e;cases e
 have neO:∀ b o,H b=some o→(∀ ps,o≠ .tbl ps)→b≠P:=fun b o e hn z=>by rw [z,hP] at e;exact hn ps (bE e).symm
 apply I.step (g':=s.gens) (d':=s.drawn) (ch:=[]) (fun _ z=>nomatch z) (fun b o _ _ _ e n=>hx b o (neP b n) e) (fun b o _ _ _ e n=>⟨o.slots,hx b o (neP b n) e⟩) (fun b o _ _ n=>by rw [bq (neP b n)];exact n)
  (fun b o _ e=>?_) (fun b xs e=>by rw [bq (neO b _ e fun _ z=>by cases z)];exact e) (fun b o u e=>by rw [bq (neO b _ e fun _ z=>by cases z)];exact e) (fun b qs e=>?_) (fun m hn=>hn.extBut hx (neP _ I.free)) (fun b u e=>?_) I.bare
 ·by_cases hb:b=P
  ·exact ⟨_,hb ▸ ht⟩
  ·exact ⟨o,hx b o hb e⟩
 ·by_cases hb:b=P
  ·subst hb
   rw [hP] at e;cases e;exact ⟨more,aV⟩
  ·exact ⟨#[],by rw [bq hb,e];simp⟩
 ·by_cases hb:b=P
  ·subst hb
   rw [aV] at e;cases e;exact ht
  ·rw [bq hb] at e
   apply (I.hok b u e).stay (fun c v hc q=>hx c v ?_ q) (fun c q=>by rw [bq (neO c _ q fun _ z=>by cases z)];exact q) fun c xs q=>by rw [bq (neO c _ q fun _ z=>by cases z)];exact q
   rcases hc with rfl | hc
   ·exact hb
   ·exact neO c _ hc fun _ z=>by cases z
def lam_make {c P:ak}(I:Inv X aR σ H s)(hd:defaultsOf params X.env=([],[]))(nE:X.env.code= .ref c)(C:codeHdIn X.K c P=true)(B:BM X.mg X.base)
  (hfr:∀ y∈scope.names,y.2= .free→X.env.scope.names.lookup y.1=some .cell) (T:LamT P pos (X.env.qual ++ "<lambda>") H)
  (h:∀ f cl H' s',Inv X aR σ H' s'→Tb P H H'→LamT P pos (X.env.qual ++ "<lambda>") H'→LamF (X.env.qual ++ "<lambda>") params body scope cl f H'→(∀ x c,cl.lookup x=some c→X.env.cells.lookup x=some c)→(∀ y∈scope.names,y.2= .free→cl.lookup y.1=X.env.cells.lookup y.1)→Q (.ref f) s') :
  aU (bt X.prog X.w) X.A (eE (.Lambda params body scope pos) X.env) Q X.xe s:=by
 obtain ⟨cl,hclos,c1,c2⟩:=nG (scope:=scope) (env:=X.env) fun y hy hk=>I.ok.has _ (.inl (hfr y hy hk))
 apply kla_eval hd ?_;have hgs:s.heap.Ns bO X.mg:=I.mod.glob.keeps I.bk;obtain ⟨bm,ob,b1,b2,b3,b4,b5⟩:=B;have CH:CodeHd s.heap c P:=codeHd_of_K I.kIn C;obtain ⟨ps,hP⟩:∃ ps,H P=some (.tbl ps):=by
  rcases T with T | ⟨c',T,_⟩
  ·exact ⟨_,T⟩
  ·exact ⟨_,T⟩
 have hbP:bm≠P:=fun q=>by have z:=(I.bs bm ob b4).2;rw [q,hP] at z;cases z
 have hgP:bO≠P:=fun q=>by
  obtain ⟨o,es,ep,e,_⟩:=I.mod.glob;have z:=(I.bs _ o e).2;rw [q,hP] at z;cases z
 have hBA:s.heap.BuiltinsAt X.mg P:=⟨bm,ob,b1,b2,b3,hbP,I.bk _ _ b4,b5⟩;have fin:∀ (H1:Hp) (h1:bL) (tk:Nat) (c':ak) (ctv:ae),Inv X aR σ H1 { s with heap:=h1,toks:=tk }→Tb P H H1→LamT P pos (X.env.qual ++ "<lambda>") H1→CdK (X.env.qual ++ "<lambda>") H1 c' →
   Q (.ref h1.objs.size) { s with heap:=h1.push (kla_obj "<lambda>" (X.env.qual ++ "<lambda>") params body scope cl ((X.mg "__name__").getD .none) c' ctv),toks:=tk }:=fun H1 h1 tk c' ctv I1 t1 T1 K1=>by
  have fr:H1 h1.objs.size=none:=I1.hok.fresh (az _);have S:bG H1 (upd H1 h1.objs.size (.frz (kla_obj "<lambda>" (X.env.qual ++ "<lambda>") params body scope cl ((X.mg "__name__").getD .none) c' ctv) (.own 0))):=fun a o e=>by rw [bq (bF e fr)];exact e
  have I2:=I1.laid (t':=tk) (a:=h1.objs.size) (o:= .frz (kla_obj "<lambda>" (X.env.qual ++ "<lambda>") params body scope cl ((X.mg "__name__").getD .none) c' ctv) (.own 0)) (h':=h1.push (kla_obj "<lambda>" (X.env.qual ++ "<lambda>") params body scope cl ((X.mg "__name__").getD .none) c' ctv)) (fun b u e=>aq _ e) (az _) ⟨aQ _ rfl,_,aQ _ rfl⟩;obtain ⟨oc,vs,t,e,r⟩:=K1;exact h _ cl _ _ I2 (t1.trans S.tb) (T1.same S) ⟨_,c',ctv,aV,oc,vs,t,S _ _ e,r⟩ c1 c2
 rcases T with T | ⟨c',T,K⟩
 ·rw [T] at hP;cases hP
  have hPh:s.heap.get? P=some (tabObj #[]):=I.hok P _ T;apply kla_makeFunction (mg:=X.mg) hclos I.ok.glob hgs nE CH hPh trivial rfl hgP hBA fun c' ctv h' tk hx hge hlt hrec htb=>?_
  have I1:=I.grown (tk:=tk) T hx htb;obtain ⟨c2',oc,vs,t,e2,hoc,hdd,hv⟩:=hrec;cases e2;have Plt:P<s.heap.objs.size:=aI hPh;have ncP:c'≠P:=cE (aM Plt hge);have frc:H c'=none:=I.hok.fresh hge;have hn1:(upd H P (.tbl (#[]++ #[jo pos.line,jo pos.col,.ref c']))) c'=none:=by rw [bq ncP];exact frc
  have old:∀ b o,s.heap.get? b=some o→b≠c':=fun b o e=>bB (aM (aI e) hge)
  have I2:=I1.take (D:=c') (o:= .frz oc (.own 0)) hn1 (aN I.sz hge) (cE (aM I.lt hge)) (fun x d e=>by obtain ⟨v,o,ho,_⟩:=I.cell x d e;exact old d o ho) (fun p hp=>old _ _ (I.pin p hp).1) ⟨hoc,_,hoc⟩;apply fin _ h' tk c' ctv I2 (fun a o hn e=>?_) (.inr ⟨c',?_,oc,vs,t,aV,hdd,hv⟩) ⟨oc,vs,t,aV,hdd,hv⟩
  ·rw [bq (bF e frc),bq hn];exact e
  ·rw [bq (cH ncP),aV];rfl
 ·rw [T] at hP;cases hP
  have hPh:s.heap.get? P=some (tabObj #[jo pos.line,jo pos.col,.ref c']):=I.hok P _ T;apply kla_makeFunctionHit (cv:= .ref c') (mg:=X.mg) hclos I.ok.glob hgs nE CH hPh trivial (codeAmong_snoc [] trivial rfl) hBA fun ctv h' tk hk hsz=>?_
  exact fin H h' tk c' ctv (I.kept hk) (Tb.refl H) (.inr ⟨c',T,K⟩) K
def cxLam (X:Cx)(q:Str)(scope:fG)(cl:List (Str×ak))(L f:ak)(cd:ae)(N:List Str)(s:av)(H:Hp):Cx :=
 { X with A:=X.A.in1.in1.deeper (envX q scope L f cd cl),N:=N,s₀:=s,H₀:=H,env:=envX q scope L f cd cl,outer:=X.stack,stack:=envX q scope L f cd cl::X.stack,ex:=[],calm:=true,fn:=fun _=>false,pn:=[],xe:=fun _ _=>False }
def pq {Q:VK}(I:Inv X aR σ H s)(hc:X.calm=true)(hr:X.A.depth<jn)(F:LamF q params body scope cl f H)(ru:gq v u)
  (hbind:∀ pm cdv ct,bindArgs (kla_fn "<lambda>" q params body scope cl pm cdv ct) ⟨[u],[]⟩=fQ [(x,u)])
  (hk:scope.kind= .function) (hco:scope.isCoroutine=false) (hgen:scope.isGenerator=false) (iD:∀ y∈scope.names,y.2≠ .cell) (hx:scope.names.lookup x=some .local) (hfx:x ∉ fr)
  (c1:∀ x c,cl.lookup x=some c→X.env.cells.lookup x=some c) (c2:∀ y∈scope.names,y.2= .free→cl.lookup y.1=X.env.cells.lookup y.1)
  (hfr:∀ y∈scope.names,y.2= .free→X.env.scope.names.lookup y.1=some .cell) (hjs:js.map (fun j=>X.N[j]?)=fr.map some) (hfv:∀ y∈fr,scope.names.lookup y=some .free)
  (hb:∀ L cd s' H',PE (cxLam X q scope cl L f cd (x::fr) s' H') body te) (ht:te (some v::cZ σ js) H Q) :
  aU (bt X.prog X.w) X.A.in1.in1 (jZ (.ref f) [u]) (EP X aR σ Q) (fun _ _=>False) s:=by
 obtain ⟨pm,cd,ct,e,oc,vs,t,ec,hdc,hvc⟩:=F;have ho:s.heap.get? f=some (kla_obj "<lambda>" q params body scope cl pm cd ct):=(I.hok f _ e).1;have hoc:s.heap.get? cd=some oc:=(I.hok cd _ ec).1;apply wpAny_call (kla_callFunE hr ho rfl hco hgen rfl ⟨cd,oc,vs,t,rfl,hoc,hdc,hvc⟩ ?_);rw [hbind];apply aL (wpAny_newFunctionEnv iD (fun y hy=>?_) (fun h₁ hns hsb=>⟨I.nolimit.fresh _ hsb,?_⟩) hk)
 ·rw [aw.mp hy];exact hx
 show i9 _ _ (.expr body (envX q scope s.heap.objs.size f (.ref cd) cl)) _ _;have old:∀ b o,s.heap.get? b=some o→h₁.get? b=some o:=fun b o e=>hsb.extBut b o (bB (aI e)) (aq _ e)
 apply kla_codeExpr ?_;have ok':(cxLam X q scope cl s.heap.objs.size f (.ref cd) (x::fr) s H).Ok:=by
  apply ⟨I.ok.mod,hk,rfl,rfl,az _,fun a b c e1 e2=>I.ok.inj a b c (c1 a c e1) (c1 b c e2),fun y hy=>?_,fun _ _ z=>rQ z (by intro q;cases q),fun _=>I.ok.hd hc,bS.frames_deeper I.ok.frames,.inr ⟨rfl,rfl⟩,fun b hb=>rQ (show b∈([]:List ak) from hb) ∅,I.bs,aN I.ok.bsz I.sz,fun b o e hb=>rQ (show b∈([]:List ak) from hb) ∅,fun b hb=>rQ (show b∈([]:List ak) from hb) ∅,I.stack,I.stkFree⟩;have hy:scope.names.lookup y=some .cell∨scope.names.lookup y=some .free:=hy
  rcases hy with hy | hy
  ·exact rQ rfl (iD _ (cu hy))
  ·have hm:=cu hy
   obtain ⟨c,e⟩:=I.ok.has y (.inl (hfr _ hm rfl));exact ⟨c,(c2 _ hm rfl).trans e⟩
 have lenB:(cZ σ js).length=fr.length:=by
  have e:=rV List.length hjs;rw [aa,aa] at e;unfold cZ;rw [aa];exact e
 have I1:Inv (cxLam X q scope cl s.heap.objs.size f (.ref cd) (x::fr) s H) [] (some v::cZ σ js) H { s with heap:=h₁,toks:=s.toks+1 }:=by
  apply ⟨ok',rfl,I.bare,Un.kept old,⟨_,hns,fun i y v' e1 e2 e3=>?_⟩,fun y c e=>?_,I.hok.fresh (az _),fun y c e=>I.freeC y c (c1 y c e),fun p hp=>rQ (show p∈([]:List (ak×Obj)) from hp) ∅,I.hok.kept old,?_⟩
  ·cases i with
   | zero =>
    have e1:some x=some y:=e1;have e2:some (some v)=some (some v'):=e2;cases e1;cases e2;exact ⟨u,ru,.inl ⟨hx,by show eM x [(x,u)]=_;rw [dm,beq_self_eq_true]⟩⟩
   | succ i =>
    have e1:fr[i]? =some y:=e1;have e2:(cZ σ js)[i]? =some (some v'):=e2;unfold cZ at e2;rw [ax] at e2;obtain ⟨j,ej,e2⟩:=aO.mp e2;have hN:X.N[j]? =some y:=by
     have q:=rV (fun l=>l[i]?) hjs;simp only [ax,ej,e1,gm] at q;exact bE q
    have hσ:σ[j]? =some (some v'):=by
     cases z:σ[j]? with
     | none=>rw [z] at e2;cases e2
     | some w=>rw [z] at e2;exact rV some e2
    have hfree:=hfv y (aW e1);have hm:=cu hfree;have hce:X.env.scope.names.lookup y=some .cell:=hfr _ hm rfl;obtain ⟨m,_,hl⟩:=I.loc;obtain ⟨u',ru',look⟩:=hl j y v' hN hσ (.inr (.inl hce));apply ⟨u',ru',.inr ⟨.inr hfree,?_⟩⟩
    rcases look with ⟨k,_⟩ | ⟨_,c,ec,ho⟩
    ·have k:X.env.scope.names.lookup y=some .local:=k
     rw [hce] at k;cases k
    ·obtain ⟨o,ho,hd⟩:=ho
     exact ⟨c,(c2 _ hm rfl).trans ec,o,old c o ho,hd⟩
  ·obtain ⟨v',o,ho,hd⟩:=I.cell y c (c1 y c e)
   exact ⟨v',o,old c o ho,hd⟩
  ·show (some v::cZ σ js).length=(x::fr).length
   rw [aP,aP,lenB]
 apply cf (hb _ _ s H [] _ _ H Q I1 ht) (fun w s' hs=>?_) fun _ _ z=>z.elim
 obtain ⟨v',H',J,rv,qv⟩:=hs;exact I.after ⟨v',H',J.os,J.bare,J.base,J.hok,rv,qv⟩
end
def SortQ (P:ak)(lp:Pos)(lq:Str)(js:List Nat)(te:TE)(σ:St)(Q:VK)(v:V)(H1:Hp):Prop:=∃ (r:ak) (n:Nat) (key:Nat→Int×Int),v= .ref r∧H1 r=some (.rng 0 n)∧n<64∧LamT P lp lq H1∧((aJ n).map key).Nodup ∧
 (∀ i:Nat,i<n→∀ H2,Tb P H1 H2→te (some (.int i)::cZ σ js) H2 fun u H3=>bG H2 H3∧∃ a,u= .ref a∧H3 a=some (.tup [.int (key i).1,.int (key i).2])) ∧
 ∀ (D:ak) (H4:Hp) (π:List Nat),Tb P H1 H4→LamT P lp lq H4→H4 D=none→π.Perm (aJ n)→π.Pairwise (fun i j=>ltP (key i) (key j)=true)→Q (.ref D) (upd H4 D (.lst (π.map fun (i:Nat)=>V.int i)))
def tSortL (P:ak)(lp:Pos)(lq:Str)(tr:TE)(js:List Nat)(te:TE):TE:=fun σ H Q=>tr σ H fun v H1=>SortQ P lp lq js te σ Q v H1
def SortQ1 (P:ak)(lp:Pos)(lq:Str)(js:List Nat)(te:TE)(σ:St)(Q:VK):List V→Hp→Prop
 | [v],H1=>SortQ P lp lq js te σ Q v H1
 | _,_=>False
def rng_size0:d9 0 (n:Int) 1=n:=by
 unfold d9;rw [rO ↥0]
 by_cases h0:(0:Int)<n
 ·rw [rO h0,Int.ediv_one];lia
 ·rw [rN h0];lia
theorem rng_small0 (h:n<64):iE 0 (n:Int) 1=true:=by unfold iE;rw [rng_size0];unfold eQ.Range.rangeFitsLong;simp;lia
theorem pe_sortL {p kp:Pos}{c P:ak}(hc:X.calm=true)(hrm:X.A.depth<jn)(hg:Gl X "sorted")(hm:X.mg "sorted" =none)(hi:PE X re tr)
  (hd:defaultsOf params X.env=([],[])) (nE:X.env.code= .ref c) (C:codeHdIn X.K c P=true) (B:BM X.mg X.base)
  (hbind:∀ q cl pm cdv ct (u:ae),bindArgs (kla_fn "<lambda>" q params body scope cl pm cdv ct) ⟨[u],[]⟩=fQ [(x,u)])
  (hk:scope.kind= .function) (hco:scope.isCoroutine=false) (hgen:scope.isGenerator=false) (iD:∀ y∈scope.names,y.2≠ .cell) (hx:scope.names.lookup x=some .local) (hfx:x ∉ fr)
  (hfr:∀ y∈scope.names,y.2= .free→X.env.scope.names.lookup y.1=some .cell) (hjs:js.map (fun j=>X.N[j]?)=fr.map some) (hfv:∀ y∈fr,scope.names.lookup y=some .free)
  (hb:∀ cl L f cd s' H',PE (cxLam X (X.env.qual ++ "<lambda>") scope cl L f cd (x::fr) s' H') body te)
  (he:eR pos (br [re] X.env)=(false,eE re X.env)::eR pos (br [] X.env):=by rfl)
  (hs:br [re] X.env=(false,eE re X.env)::br [] X.env:=by rfl) (hpl:(eR pos (br [re] X.env)).any (·.1)=false:=by rfl) :
  PE X (.Call (.Name "sorted" p) [re] [⟨some "key",.Lambda params body scope lp,kp⟩] pos) (tSortL P lp (X.env.qual ++ "<lambda>") tr js te):=by
 intro aR s σ H Q I h;apply dZ (mE I hg hm (u:= .builtin "sorted") ⇑0 ?_);apply callWith_kw (kws:=[⟨some "key",.Lambda params body scope lp,kp⟩]) (thn ((ag hi aD hs) pos aR s σ H (SortQ1 P lp (X.env.qual ++ "<lambda>") js te σ Q) I h) fun us s1 ⟨vs,H1,I1,r1,q0⟩=>?_) he hpl;apply kws_cons ?_;obtain ⟨v,rfl⟩:∃ v,vs=[v]:=by
  cases vs with
  | nil=>exact q0.elim
  | cons v r=>cases r with
   | nil=>exact ⟨v,rfl⟩
   | cons _ _=>exact q0.elim
 have q1:SortQ P lp (X.env.qual ++ "<lambda>") js te σ Q v H1:=q0;obtain ⟨r,n,key,rfl,hr,h64,T,hnd,hkey,hQ⟩:=q1;obtain rfl:us=[.ref r]:=by
  cases r1 with
  | cons ru rs =>
   cases rs;exact rV (fun z=>[z]) ru
 apply lam_make (body:=body) I1 hd nE C B hfr T fun f cl H2 s2 I2 tb T2 F2 c1 c2=>?_
 apply kws_nil ?_;show aU _ _ (jZ (.builtin "sorted") [.ref r] [(cq "key",.ref f)]) _ _ _;have rP:r≠P:=fun z=>by
  rcases T with T | ⟨_,T,_⟩ <;> rw [←z,hr] at T <;> cases T
 obtain ⟨t1,t2,t3,e3⟩:=I2.hok r _ (tb r _ rP hr);have hr3:IsRange s2.heap r 0 n 1 t1 t2 t3:=by first | exact e3 | exact ⟨_,e3,rfl,rfl⟩
 apply sorted_keyR (I2.ok.hd hc) hr3 (rng_small0 h64) rng_size0 h64 fun ws h1 tk D kS e1 hl hw hkeep hD hDk gD gK=>?_
 have I3:Inv X aR σ H2 { s2 with heap:=h1,toks:=tk }:=I2.kept hkeep;have old:∀ b o,s2.heap.get? b=some o→b≠D∧b≠kS:=fun b o e=>⟨bB (aM (aI e) hD),bB (Nat.lt_trans (aM (aI e) hD) hDk)⟩
 have hDs:=aI gD;have hKs:=aI gK;have frD:H2 D=none:=I2.hok.fresh hD;have frK:H2 kS=none:=I2.hok.fresh (jg (bX hD hDk));have cc:∀ y d,X.env.cells.lookup y=some d→d≠D∧d≠kS:=fun y d e=>by obtain ⟨v,o,ho,_⟩:=I2.cell y d e;exact old d o ho
 have pp:∀ z∈X.pn++aR,z.1≠D∧z.1≠kS:=fun z hz=>old _ _ (I2.pin z hz).1
 have nl:s2.heap.objs.size≤kS:=jg (bX hD hDk);have I4:Inv X ((kS,bJ "list" #[] 0)::(D,bJ "list" #[] e1)::aR) σ H2 { s2 with heap:=h1,toks:=tk }:=I3.pins_of fun z hz=>by
  rcases aF.mp hz with rfl | hz
  ·exact ⟨gK,frK,cE (aM I2.lt nl),I2.nofs nl,fun v z=>by cases z⟩
  ·rcases aF.mp hz with rfl | hz
   ·exact ⟨gD,frD,cE (aM I2.lt hD),I2.nofs hD,fun v z=>by cases z⟩
   ·exact I3.pin z (aA _ hz)
 apply keyDo_of (num:=fun i=>(i:Int)) (key:=key) I4 hl h64 (fun i x e=>by obtain ⟨t,q⟩:=hw i x e;exact ⟨t,by rw [q];congr 1;lia⟩) (aN I2.sz nl) (aN I2.sz hD) (fun y d e=>(cc y d e).2) (fun y d e=>(cc y d e).1) (fun z hz=>(pp z hz).2) (fun z hz=>(pp z hz).1) (cE hDk) hnd ?_ ?_
 ·intro t H' pins' i tk hi' I' S'
  apply cf (pq (v:= .int i) I' hc hrm (F2.same S') ⟨_,rfl⟩ (fun pm cdv ct=>hbind _ _ _ _ _ _) hk hco hgen iD hx hfx c1 c2 hfr hjs hfv (fun L cd s' H'=>hb cl L f cd s' H') (hkey i hi' H' (tb.trans S'.tb))) (fun k t' ⟨v,H'',I'',rv,S'',a,ev,ea⟩=>?_) fun _ _ z=>z
  subst ev;obtain rfl:k= .ref a:=rv;exact ⟨a,H'',I'',S'',rfl,ea⟩
 ·intro t H' π S' hD' I' pm pw
  exact ⟨.ref D,_,I',rfl,hQ D H' π (tb.trans S'.tb) (T2.same S') hD' pm pw⟩
end L2
namespace HN
open PySem L2 PyProof.Rows
def z0:Sn:=⟨0,0,0,0,0⟩
def sAt (sp:List Sn)(i:Nat):Sn:=sp.getD i z0
def jE (h:i<sp.length):sp[i]? =some (sAt sp i):=by
 unfold sAt;rw [af,gE h];rfl
def fu (h:i<sp.length):sAt sp i∈sp:=aW (jE h)
def wkey (sp:List Sn)(i:Nat):Int×Int:=((sAt sp i).o - (sAt sp i).l,(i:Int))
def Ordd (sp:List Sn)(π:List Nat):Prop:=π.Perm (aJ sp.length)∧π.Pairwise fun i j=>ltP (wkey sp i) (wkey sp j)=true
def wkey_nodup (sp:List Sn)(n:Nat):((aJ n).map (wkey sp)).Nodup:=by
 rw [bY,gB];apply List.Pairwise.imp (fun {a b} h e=>h ?_) List.nodup_range;have:=rV Prod.snd e;exact Int.ofNat.inj this
theorem ltP_asym {x y:Int×Int}(h:ltP x y=true)(k:ltP y x=true):False:=by
 rw [ltP_iff] at h k;lia
def perm_eq {α:Type}{R:α→α→Prop}(as:∀ a b,R a b→R b a→a=b):∀ {l k:List α},l.Perm k→l.Pairwise R→k.Pairwise R→l=k
 | [],k,p,_,_=>(List.nil_perm.mp p).symm
 | a::l,k,p,hl,hk=>by
  cases k with
  | nil=>exact rQ p.symm (by intro z;have:=List.nil_perm.mp z;cases this)
  | cons b k =>
   have ab:a=b:=by
    have ha:a∈b::k:=p.mem_iff.mp bu;have hb:b∈a::l:=p.mem_iff.mpr bu
    rcases aF.mp ha with e | ha
    ·exact e
    ·rcases aF.mp hb with e | hb
     ·exact e.symm
     ·exact as a b (List.rel_of_pairwise_cons hl hb) (List.rel_of_pairwise_cons hk ha)
   subst ab;rw [perm_eq as p.cons_inv (List.pairwise_cons.mp hl).2 (List.pairwise_cons.mp hk).2]
theorem Ordd.one {ρ:List Nat}(a:Ordd sp π)(b:Ordd sp ρ):π=ρ :=
 perm_eq (fun _ _ h k=>(ltP_asym h k).elim) (a.1.trans b.1.symm) a.2 b.2
def Ordd.lt (a:Ordd sp π)(h:i∈π):i<sp.length:=bT.mp (a.1.mem_iff.mp h)
def Ordd.len (a:Ordd sp π):π.length=sp.length:=by rw [a.1.length_eq,aY]
def jq (gs:List Int)(x y:Int):List Int:=gs.map fun g=>if g=y then x else g
def gN (sp:List Sn)(c:List Int×List Nat)(i:Nat):List Int×List Nat :=
 if tm c.1 (sAt sp i).s=tm c.1 (sAt sp i).g then c else (jq c.1 (tm c.1 (sAt sp i).s) (tm c.1 (sAt sp i).g),c.2++[i])
def ke (m:Nat):List Int:=(aJ m).map fun (k:Nat)=>(k:Int)
def lg (sp:List Sn)(m:Nat)(π:List Nat):List Int×List Nat:=π.foldl (gN sp) (ke m,[])
def eJ (ps:List (List Int))(x:Int):List Int:=(ps.filter fun p=>decide (x∈p)).headD []
def stepQ (sp:List Sn)(c:List (List Int)×List Nat)(i:Nat):List (List Int)×List Nat :=
 if eJ c.1 (sAt sp i).s=eJ c.1 (sAt sp i).g then c
 else (c.1.filter (fun p=> !(decide (p=eJ c.1 (sAt sp i).s)) && !(decide (p=eJ c.1 (sAt sp i).g)))++[eJ c.1 (sAt sp i).s++eJ c.1 (sAt sp i).g],c.2++[i])
def prt0 (m:Nat):List (List Int):=(aJ m).map fun (k:Nat)=>[(k:Int)]
structure Rl (m:Nat)(gs:List Int)(ps:List (List Int)):Prop where
 len:gs.length=m
 cov:∀ x:Int,0≤x→x<m→∃ p∈ps,x∈p
 one:∀ p∈ps,∀ q∈ps,∀ x,x∈p→x∈q→p=q
 eqv:∀ x y:Int,0≤x→x<m→0≤y→y<m→(tm gs x=tm gs y↔∃ p∈ps,x∈p∧y∈p)
def Rl.part {ps:List (List Int)}(R:Rl m gs ps){x:Int}(h0:0≤x)(h1:x<m):eJ ps x∈ps∧x∈eJ ps x:=by
 obtain ⟨p,hp,hx⟩:=R.cov x h0 h1;unfold eJ;have hm:p∈ps.filter fun p=>decide (x∈p):=cp.mpr ⟨hp,rR hx⟩
 cases e:ps.filter fun p=>decide (x∈p) with
 | nil=>rw [e] at hm;cases hm
 | cons q r =>
  have hq:q∈ps.filter fun p=>decide (x∈p):=by rw [e];exact bu
  obtain ⟨a,b⟩:=cp.mp hq;exact ⟨a,rT b⟩
def Rl.is {ps:List (List Int)}(R:Rl m gs ps){x:Int}(h0:0≤x)(h1:x<m)(k0:0≤y)(k1:y<m):tm gs x=tm gs y↔x∈eJ ps y:=by
 obtain ⟨p1,p2⟩:=R.part k0 k1;apply (R.eqv x y h0 h1 k0 k1).trans ⟨fun ⟨p,hp,hx,hy⟩=>?_,fun h=>⟨_,p1,h,p2⟩⟩;rw [←R.one p hp _ p1 y hy p2];exact hx
def Rl.same {ps:List (List Int)}(R:Rl m gs ps){x:Int}(h0:0≤x)(h1:x<m)(k0:0≤y)(k1:y<m):tm gs x=tm gs y↔eJ ps x=eJ ps y:=by
 apply (R.is h0 h1 k0 k1).trans ⟨fun h=>?_,fun h=>?_⟩
 ·exact R.one _ (R.part h0 h1).1 _ (R.part k0 k1).1 x (R.part h0 h1).2 h
 ·rw [←h];exact (R.part h0 h1).2
def lI {u v x:Int}(h0:0≤x)(h1:x<gs.length):tm (jq gs u v) x=if tm gs x=v then u else tm gs x:=by
 obtain ⟨j,rfl⟩:=cG h0;have hj:j<gs.length:=by lia
 unfold tm jq;simp only [cb,af,ax,gE hj,gm,Option.getD_some]
def Rl.join {ps:List (List Int)}(R:Rl m gs ps){a:Int}(a0:0≤a)(a1:a<m)(b0:0≤b)(b1:b<m) :
  Rl m (jq gs (tm gs a) (tm gs b)) (ps.filter (fun p=> !(decide (p=eJ ps a)) && !(decide (p=eJ ps b)))++[eJ ps a++eJ ps b]):=by
 obtain ⟨pa,ha⟩:=R.part a0 a1;obtain ⟨pb,hb⟩:=R.part b0 b1;have mem:∀ p,p∈ps.filter (fun p=> !(decide (p=eJ ps a)) && !(decide (p=eJ ps b)))++[eJ ps a++eJ ps b]↔(p∈ps∧p≠eJ ps a∧p≠eJ ps b)∨p=eJ ps a++eJ ps b:=fun p=>by
  rw [aH,cp,aw];simp only [cz,jW,decide_eq_false_iff_not,ne_eq]
 have uni:∀ p∈ps,p≠eJ ps a→p≠eJ ps b→∀ x,x∈p→x ∉ eJ ps a++eJ ps b:=fun p hp n1 n2 x hx hz=>by
  rcases aH.mp hz with hz | hz
  ·exact n1 (R.one p hp _ pa x hx hz)
  ·exact n2 (R.one p hp _ pb x hx hz)
 apply ⟨by unfold jq;rw [aa];exact R.len,fun x h0 h1=>?_,fun p hp q hq x hx hy=>?_,fun x y h0 h1 k0 k1=>?_⟩
 ·obtain ⟨p,hp,hx⟩:=R.cov x h0 h1
  by_cases e1:p=eJ ps a
  ·exact ⟨_,(mem _).mpr (.inr rfl),aK _ (e1 ▸ hx)⟩
  ·by_cases e2:p=eJ ps b
   ·exact ⟨_,(mem _).mpr (.inr rfl),aA _ (e2 ▸ hx)⟩
   ·exact ⟨p,(mem p).mpr (.inl ⟨hp,e1,e2⟩),hx⟩
 ·rcases (mem p).mp hp with ⟨p1,p2,p3⟩ | rfl
  ·rcases (mem q).mp hq with ⟨q1,q2,q3⟩ | rfl
   ·exact R.one p p1 q q1 x hx hy
   ·exact rQ hy (uni p p1 p2 p3 x hx)
  ·rcases (mem q).mp hq with ⟨q1,q2,q3⟩ | rfl
   ·exact rQ hx (uni q q1 q2 q3 x hy)
   ·rfl
 ·rw [lI h0 (by rw [R.len];exact h1),lI k0 (by rw [R.len];exact k1)]
  have xa:=R.is h0 h1 a0 a1;have xb:=R.is h0 h1 b0 b1;have ya:=R.is k0 k1 a0 a1;have yb:=R.is k0 k1 b0 b1;have xy:=R.eqv x y h0 h1 k0 k1
  constructor
  ·intro h
   by_cases e:tm gs x=tm gs y
   ·obtain ⟨p,hp,hx,hy⟩:=xy.mp e
    by_cases e1:p=eJ ps a
    ·exact ⟨_,(mem _).mpr (.inr rfl),aK _ (e1 ▸ hx),aK _ (e1 ▸ hy)⟩
    ·by_cases e2:p=eJ ps b
     ·exact ⟨_,(mem _).mpr (.inr rfl),aA _ (e2 ▸ hx),aA _ (e2 ▸ hy)⟩
     ·exact ⟨p,(mem p).mpr (.inl ⟨hp,e1,e2⟩),hx,hy⟩
   ·apply ⟨_,(mem _).mpr (.inr rfl),?_,?_⟩
    ·by_cases e1:tm gs x=tm gs b
     ·exact aA _ (xb.mp e1)
     ·rw [rN e1] at h
      by_cases e2:tm gs y=tm gs b
      ·rw [rO e2] at h;exact aK _ (xa.mp h)
      ·rw [rN e2] at h;exact rQ h e
    ·by_cases e1:tm gs y=tm gs b
     ·exact aA _ (yb.mp e1)
     ·rw [rN e1] at h
      by_cases e2:tm gs x=tm gs b
      ·rw [rO e2] at h;exact aK _ (ya.mp h.symm)
      ·rw [rN e2] at h;exact rQ h e
  ·rintro ⟨p,hp,hx,hy⟩
   rcases (mem p).mp hp with ⟨p1,p2,p3⟩ | rfl
   ·rw [xy.mpr ⟨p,p1,hx,hy⟩]
   ·have fx:∀ z:Int,(z∈eJ ps a→tm gs z=tm gs a)→(z∈eJ ps b→tm gs z=tm gs b)→z∈eJ ps a++eJ ps b→(if tm gs z=tm gs b then tm gs a else tm gs z)=tm gs a:=fun z f1 f2 hz=>by
     by_cases e:tm gs z=tm gs b
     ·rw [rO e]
     ·rw [rN e]
      rcases aH.mp hz with hz | hz
      ·exact f1 hz
      ·exact rQ (f2 hz) e
    rw [fx x xa.mpr xb.mpr hx,fx y ya.mpr yb.mpr hy]
def mZ {x:Int}(h0:0≤x)(h1:x<m):tm (ke m) x=x:=by
 obtain ⟨j,rfl⟩:=cG h0;unfold tm ke;rw [cb,af,ax,fb ⋯];rfl
theorem Rl.start (m:Nat):Rl m (ke m) (prt0 m):=by
 have mem:∀ p,p∈prt0 m↔∃ k:Nat,k<m∧p=[(k:Int)]:=fun p=>by
  unfold prt0;rw [bc];exact ⟨fun ⟨k,a,b⟩=>⟨k,bT.mp a,b.symm⟩,fun ⟨k,a,b⟩=>⟨k,bT.mpr a,b.symm⟩⟩
 apply ⟨by unfold ke;rw [aa,aY],fun x h0 h1=>⟨[x],(mem _).mpr ⟨x.toNat,⋯,by rw [fe h0]⟩,aw.mpr rfl⟩,fun p hp q hq x hx hy=>?_,fun x y h0 h1 k0 k1=>?_⟩
 ·obtain ⟨k,_,rfl⟩:=(mem p).mp hp
  obtain ⟨j,_,rfl⟩:=(mem q).mp hq;rw [←aw.mp hx,←aw.mp hy]
 ·rw [mZ h0 h1,mZ k0 k1]
  apply ⟨fun e=>⟨[x],(mem _).mpr ⟨x.toNat,⋯,by rw [fe h0]⟩,aw.mpr rfl,by rw [e];exact aw.mpr rfl⟩,fun ⟨p,hp,hx,hy⟩=>?_⟩;obtain ⟨k,_,rfl⟩:=(mem p).mp hp;rw [aw.mp hx,aw.mp hy]
def lE (m:Nat)(sp:List Sn):Prop:=∀ x∈sp,0≤x.s∧x.s<m∧0≤x.g∧x.g<m
def qq {m:Nat}{sp:List Sn}(E:lE m sp):∀ (π:List Nat) (gs:List Int) (ps:List (List Int)) (tk:List Nat),(∀ i∈π,i<sp.length)→Rl m gs ps→Rl m (π.foldl (gN sp) (gs,tk)).1 (π.foldl (stepQ sp) (ps,tk)).1∧(π.foldl (gN sp) (gs,tk)).2=(π.foldl (stepQ sp) (ps,tk)).2
 | [],gs,ps,tk,_,R=>⟨R,rfl⟩
 | i::π,gs,ps,tk,h,R=>by
  obtain ⟨a0,a1,b0,b1⟩:=E _ (fu (h i bu));have hs:=R.same a0 a1 b0 b1;rw [bV,bV];unfold gN stepQ
  by_cases e:tm gs (sAt sp i).s=tm gs (sAt sp i).g
  ·rw [rO (show tm (gs,tk).1 _=tm (gs,tk).1 _ from e),rO (show eJ (ps,tk).1 _=eJ (ps,tk).1 _ from hs.mp e)]
   exact qq E π gs ps tk (fun j hj=>h j (ay _ hj)) R
  ·rw [rN (show ¬ tm (gs,tk).1 _=tm (gs,tk).1 _ from e),rN (show ¬ eJ (ps,tk).1 _=eJ (ps,tk).1 _ from fun z=>e (hs.mpr z))]
   exact qq E π _ _ _ (fun j hj=>h j (ay _ hj)) (R.join a0 a1 b0 b1)
def kx (sp:List Sn):∀ (π:List Nat) (c:List Int×List Nat),(∀ i∈(π.foldl (gN sp) c).2,i∈c.2∨i∈π)∧(π.foldl (gN sp) c).2.length≤c.2.length+π.length
 | [],c=>⟨fun i h=> .inl h,az _⟩
 | j::π,c=>by
  obtain ⟨a,b⟩:=kx sp π (gN sp c j);rw [bV];have key:(∀ i∈(gN sp c j).2,i∈c.2∨i=j)∧(gN sp c j).2.length≤c.2.length+1:=by
   unfold gN;split
   ·exact ⟨fun i h=> .inl h,⋯⟩
   ·apply ⟨fun i h=>?_,by rw [au];exact az _⟩
    rcases aH.mp h with h | h
    ·exact .inl h
    ·exact .inr (aw.mp h)
  apply ⟨fun i hi=>?_,by rw [aP];lia⟩
  rcases a i hi with h | h
  ·rcases key.1 i h with h | h
   ·exact .inl h
   ·exact .inr (h ▸ bu)
  ·exact .inr (ay _ h)
def oN (m:Nat)(sp:List Sn)(ns:List Int):Prop:=∃ π,Ordd sp π∧ns.Perm ((lg sp m π).2.map fun (i:Nat)=>(i:Int))∧ns.Pairwise (· ≤ ·)
def oN.one {ms:List Int}(a:oN m sp ns)(b:oN m sp ms):ns=ms:=by
 obtain ⟨π,o1,p1,w1⟩:=a;obtain ⟨ρ,o2,p2,w2⟩:=b;rw [o1.one o2] at p1;exact perm_eq (fun a b h k=>by lia) (p1.trans p2.symm) w1 w2
def oN.len (a:oN m sp ns):ns.length≤sp.length:=by
 obtain ⟨π,o,p,_⟩:=a;rw [p.length_eq,aa];have:=(kx sp π (ke m,[])).2;have h2:=o.len;have h3:((ke m,([]:List Nat)).2).length=0:=rfl;unfold lg;lia
theorem kl.ends {m:Int}(N:kl b m sp):lE m.toNat sp:=fun x hx=>by
 obtain ⟨s0,s1,g0,g1,_⟩:=N.all x hx;lia
def Tb.tupK {T:ak}(hT:∃ ps,H T=some (.tbl ps))(e:L2.Tb T H H'):kg H H':=fun q xs h=>e q _ (by obtain ⟨ps,hT⟩:=hT;exact fR h hT nofun) h
def LamT.tbl {T:ak}(h:L2.LamT T lp lq H):∃ ps,H T=some (.tbl ps):=by
 rcases h with h | ⟨c,h,_⟩
 ·exact ⟨_,h⟩
 ·exact ⟨_,h⟩
def LamT.upd {T:ak}(h:L2.LamT T lp lq H)(ha:∀ p u,H a=some (.frz p u)→False)(hb:∀ ps,H a=some (.tbl ps)→False):L2.LamT T lp lq (upd H a o):=by
 rcases h with h | ⟨c,h,oc,vs,t,e,r⟩
 ·exact .inl (by rw [bq (fun z=>hb _ (z ▸ h))];exact h)
 ·exact .inr ⟨c,by rw [bq (fun z=>hb _ (z ▸ h))];exact h,oc,vs,t,by rw [bq (fun z=>ha _ _ (z ▸ e))];exact e,r⟩
inductive spSpW (T:ak)(lp:Pos)(lq:Str)(vs:List V)(H:Hp)(Q:VK)(_:XK):Prop
 | mk (v b m sp:_)(_:vs=[v])(_:IsD H v (jX b m sp))(_:sp.length≤40)(_:L2.LamT T lp lq H)(_:∀ D H' π,L2.Tb T H H'→L2.LamT T lp lq H'→H' D=none→Ordd sp π→Q (.ref D) (L2.upd H' D (.lst (π.map fun (i:Nat)=>V.int i))))
inductive lJ (T:ak)(lp:Pos)(lq:Str)(vs:List V)(H:Hp)(Q:VK)(_:XK):Prop
 | mk (v b m sp:_)(_:vs=[v])(_:IsD H v (jX b m sp))(_:kl b m sp)(_:L2.LamT T lp lq H)(_:∀ u H' ns,L2.Tb T H H'→L2.LamT T lp lq H'→H' u=some (.tup (ns.map V.int))→oN m.toNat sp ns→Q (.ref u) H')
def Finer (m:Nat)(gs hs:List Int):Prop:=∀ x y:Int,0≤x→x<m→0≤y→y<m→tm gs x=tm gs y→tm hs x=tm hs y
def Finer.refl (m:Nat)(gs:List Int):Finer m gs gs:=fun _ _ _ _ _ _ h=>h
def mG (gs:List Int)(u v:Int):(jq gs u v).length=gs.length:=by unfold jq;rw [aa]
def Finer.wide {u v:Int}(F:Finer m gs hs)(l2:hs.length=m):Finer m gs (jq hs u v):=by
 intro x y x0 x1 y0 y1 h;rw [lI x0 ⋯,lI y0 ⋯,F x y x0 x1 y0 y1 h]
def join_meets {a:Int}(l1:gs.length=m)(a0:0≤a)(a1:a<m)(b0:0≤b)(b1:b<m):tm (jq gs (tm gs a) (tm gs b)) a=tm (jq gs (tm gs a) (tm gs b)) b:=by
 rw [lI a0 ⋯,lI b0 ⋯,rO rfl]
 by_cases e:tm gs a=tm gs b
 ·rw [rO e]
 ·rw [rN e]
def ky (sp:List Sn)(gs:List Int)(tk:List Nat)(i:Nat):(tm gs (sAt sp i).s=tm gs (sAt sp i).g∧gN sp (gs,tk) i=(gs,tk))∨(tm gs (sAt sp i).s≠tm gs (sAt sp i).g∧gN sp (gs,tk) i=(jq gs (tm gs (sAt sp i).s) (tm gs (sAt sp i).g),tk++[i])):=by
 unfold gN
 by_cases e:tm gs (sAt sp i).s=tm gs (sAt sp i).g
 ·exact .inl ⟨e,rO e⟩
 ·exact .inr ⟨e,rN e⟩
def og {m:Nat}{sp:List Sn}:∀ (π:List Nat) (gs hs:List Int) (tk:List Nat),hs.length=m→Finer m gs hs→Finer m gs (π.foldl (gN sp) (hs,tk)).1
 | [],_,_,_,_,F=>F
 | i::π,gs,hs,tk,l,F=>by
  rw [bV]
  rcases ky sp hs tk i with ⟨_,e⟩ | ⟨_,e⟩ <;> rw [e]
  ·exact og π gs hs tk l F
  ·exact og π gs _ _ (by rw [mG];exact l) (F.wide l)
def mS {m:Nat}{sp:List Sn}(E:lE m sp):∀ (π:List Nat) (gs:List Int) (tk:List Nat),gs.length=m→(∀ i∈π,i<sp.length)→∀ i∈π,tm (π.foldl (gN sp) (gs,tk)).1 (sAt sp i).s=tm (π.foldl (gN sp) (gs,tk)).1 (sAt sp i).g
 | [],_,_,_,_,i,h=>by cases h
 | j::π,gs,tk,l,hp,i,h=>by
  rw [bV];obtain ⟨a0,a1,b0,b1⟩:=E _ (fu (hp j bu));have hp':∀ i∈π,i<sp.length:=fun k hk=>hp k (ay _ hk)
  rcases ky sp gs tk j with ⟨q,e⟩ | ⟨_,e⟩ <;> rw [e]
  ·rcases aF.mp h with rfl | h
   ·exact og π gs gs tk l (Finer.refl m gs) _ _ a0 a1 b0 b1 q
   ·exact mS E π gs tk l hp' i h
  ·have l':(jq gs (tm gs (sAt sp j).s) (tm gs (sAt sp j).g)).length=m:=by rw [mG];exact l
   rcases aF.mp h with rfl | h
   ·exact og π _ _ _ l' (Finer.refl m _) _ _ a0 a1 b0 b1 (join_meets l a0 a1 b0 b1)
   ·exact mS E π _ _ l' hp' i h
def pI {x:Int}(h0:0≤x)(h1:x<gs.length):tm gs x∈gs:=by
 obtain ⟨j,rfl⟩:=cG h0;unfold tm;rw [cb,af,gE ⋯];exact bb _
def Cnt (m:Nat)(gs:List Int)(k:Nat):Prop:=∃ D:List Int,D.Nodup∧(∀ v,v∈D↔v∈gs)∧D.length+k=m
theorem Cnt.join {k:Nat}(C:Cnt m gs k){u v:Int}(hu:u∈gs)(hv:v∈gs)(n:u≠v):Cnt m (jq gs u v) (k+1):=by
 obtain ⟨D,nd,mem,l⟩:=C;have hvD:=(mem v).mpr hv;apply ⟨D.erase v,nd.erase v,fun z=>?_,by rw [List.length_erase_of_mem hvD];have:=List.length_pos_of_mem hvD;lia⟩;rw [nd.mem_erase_iff,mem];unfold jq;rw [bc]
 constructor
 ·rintro ⟨h1,h2⟩
  exact ⟨z,h2,rN h1⟩
 ·rintro ⟨w,hw,rfl⟩
  by_cases e:w=v
  ·rw [rO e];exact ⟨n,hu⟩
  ·rw [rN e];exact ⟨e,hw⟩
theorem gone_cnt {m:Nat}{sp:List Sn}(E:lE m sp):∀ (π:List Nat) (gs:List Int) (tk:List Nat),gs.length=m→(∀ i∈π,i<sp.length)→Cnt m gs tk.length→Cnt m (π.foldl (gN sp) (gs,tk)).1 (π.foldl (gN sp) (gs,tk)).2.length
 | [],_,_,_,_,C=>C
 | j::π,gs,tk,l,hp,C=>by
  rw [bV];obtain ⟨a0,a1,b0,b1⟩:=E _ (fu (hp j bu));have hp':∀ i∈π,i<sp.length:=fun k hk=>hp k (ay _ hk)
  rcases ky sp gs tk j with ⟨_,e⟩ | ⟨n,e⟩ <;> rw [e]
  ·exact gone_cnt E π gs tk l hp' C
  ·apply gone_cnt E π _ _ (by rw [mG];exact l) hp' ?_
   rw [au];exact C.join (pI a0 ⋯) (pI b0 ⋯) n
def Cnt.start (m:Nat):Cnt m (ke m) 0:=by
 apply ⟨ke m,?_,fun _=>Iff.rfl,by unfold ke;rw [aa,aY];lia⟩;unfold ke;rw [bY,gB];exact List.Pairwise.imp (fun {a b} h e=>h (Int.ofNat.inj e)) List.nodup_range
theorem md:∀ {l k:List Int},l.Nodup→(∀ x∈l,x∈k)→l.length≤k.length
 | [],_,_,_=>bo _
 | a::l,k,nd,h=>by
  have ha:=h a bu;have ih:=md (l:=l) (k:=k.erase a) (bz.mp nd).2 fun x hx=>by
   have hxk:=h x (ay _ hx);have hne:x≠a:=fun z=>(bz.mp nd).1 (z ▸ hx)
   exact (List.mem_erase_of_ne hne).mpr hxk
  rw [List.length_erase_of_mem ha] at ih;have:=List.length_pos_of_mem ha;rw [aP];lia
def kO (m:Nat):(ke m).length=m:=by unfold ke;rw [aa,aY]
def pO (sp:List Sn):∀ (π:List Nat) (gs:List Int) (tk:List Nat),∃ more,(π.foldl (gN sp) (gs,tk)).2=tk++more
 | [],gs,tk=>⟨[],(dg tk).symm⟩
 | j::π,gs,tk=>by
  rw [bV]
  rcases ky sp gs tk j with ⟨_,e⟩ | ⟨_,e⟩ <;> rw [e]
  ·exact pO sp π gs tk
  ·obtain ⟨more,h⟩:=pO sp π (jq gs (tm gs (sAt sp j).s) (tm gs (sAt sp j).g)) (tk++[j])
   exact ⟨j::more,by rw [h,jU];rfl⟩
def k5 (sp:List Sn)(l:List Nat):Int:=l.foldl (fun c i=>c * ((wkey sp i).1+1)) 1
def prodW_snoc (sp:List Sn)(l:List Nat)(i:Nat):k5 sp (l++[i])=k5 sp l * ((wkey sp i).1+1):=by unfold k5;rw [cR];rfl
def fold_mul (sp:List Sn):∀ (l:List Nat) (c:Int),l.foldl (fun c i=>c * ((wkey sp i).1+1)) c=c * k5 sp l
 | [],c=>(Int.mul_one c).symm
 | i::l,c=>by
  unfold k5;rw [bV,bV,fold_mul sp l,fold_mul sp l,Int.one_mul,Int.mul_assoc]
def oG (sp:List Sn)(l:List Nat)(i:Nat):k5 sp (i::l)=((wkey sp i).1+1) * k5 sp l:=by
 show l.foldl _ (1 * ((wkey sp i).1+1))=_;rw [fold_mul,Int.one_mul]
def lkW (l:List (Int×List Stp))(x:Int):Option (List Stp):=(l.find? fun p=>decide (p.1=x)).map (·.2)
def lP (p:Int×List Stp)(l:List (Int×List Stp))(x:Int):lkW (p::l) x=if p.1=x then some p.2 else lkW l x:=by
 unfold lkW;rw [iu]
 by_cases e:p.1=x
 ·rw [rR e,rO e];rfl
 ·rw [rS e,rN e]
def nA {l:List (Int×List Stp)}(h:lkW l y=none)(x:Int):lkW (l++[(y,ws)]) x=if x=y then some ws else lkW l x:=by
 induction l with
 | nil =>
  show lkW [(y,ws)] x=_;rw [lP]
  by_cases e:x=y
  ·rw [rO e,rO e.symm]
  ·rw [rN e,rN (fun z=>e z.symm)]
 | cons p l ih =>
  rw [lP] at h
  by_cases e:p.1=y
  ·rw [rO e] at h;cases h
  ·rw [rN e] at h
   rw [List.cons_append,lP,lP,ih h]
   by_cases e1:p.1=x
   ·rw [rO e1,rO e1,rN (fun z=>e (e1.trans z))]
   ·rw [rN e1,rN e1]
def stF (tk:List Nat):List Stp:=tk.map (fun i=>⟨i,1⟩)++tk.map (fun i=>⟨i,-1⟩)
def dM (sp:List Sn)(tk:List Nat)(x:Int):List Stp:=(stF tk).filter fun s=>decide (kU sp s=x)
def iZ (sp:List Sn)(x:Int)(c:List (Int×List Stp)×List Int)(s:Stp):List (Int×List Stp)×List Int :=
 if lkW c.1 (fc sp s)=none then (c.1++[(fc sp s,(lkW c.1 x).getD []++[s])],c.2++[fc sp s]) else c
def mF (l:List Int):Int:=l.getLast?.getD 0
def qM (sp:List Sn)(tk:List Nat)(c:List (Int×List Stp)×List Int):List (Int×List Stp)×List Int :=
 (dM sp tk (mF c.2)).foldl (iZ sp (mF c.2)) (c.1,c.2.dropLast)
def itW (sp:List Sn)(tk:List Nat)(be:Int):Nat→List (Int×List Stp)×List Int
 | 0=>([(be,[])],[be])
 | k+1=>qM sp tk (itW sp tk be k)
def WayR (sp:List Sn)(tk:List Nat)(be en:Int)(p:List Stp):Prop:=∃ k,lkW (itW sp tk be k).1 en=some p∧∀ j,j<k→lkW (itW sp tk be j).1 en=none
structure Pth (sp:List Sn)(tk:List Nat)(be x:Int)(ws:List Stp):Prop where
 inn:∀ s∈ws,s.i∈tk∧s.i<sp.length∧(s.d=1∨s.d= -1)
 alo:oY sp be ws x
 one:(ws.map Stp.i).Nodup
 met:(be::ws.map (fc sp)).Nodup
def mem_stF {s:Stp}(h:s∈stF tk):s.i∈tk∧(s.d=1∨s.d= -1):=by
 rcases aH.mp h with h | h
 ·obtain ⟨i,hi,rfl⟩:=bc.mp h;exact ⟨hi,.inl rfl⟩
 ·obtain ⟨i,hi,rfl⟩:=bc.mp h;exact ⟨hi,.inr rfl⟩
structure WI (m:Nat)(sp:List Sn)(tk:List Nat)(be:Int)(c:List (Int×List Stp)×List Int):Prop where
 pth:∀ x ws,lkW c.1 x=some ws→Pth sp tk be x ws∧∀ s∈ws,lkW c.1 (kU sp s)≠none∧lkW c.1 (fc sp s)≠none
 rng:∀ x,lkW c.1 x≠none→0≤x∧x<m
 ahd:∀ x∈c.2,lkW c.1 x≠none
 beg:lkW c.1 be≠none
def Clo (sp:List Sn)(tk:List Nat)(ex:Int→Prop)(c:List (Int×List Stp)×List Int):Prop:=∀ x,lkW c.1 x≠none→x ∉ c.2→¬ ex x→∀ s∈dM sp tk x,lkW c.1 (fc sp s)≠none
def oj (l:List (Int×List Stp)):Nat:=(aJ 16).countP fun x=>(lkW l ((x:Nat):Int)).isNone
def count_lt' {α:Type}{P Q:α→Bool}:∀ {l:List α},(∀ x∈l,Q x=true→P x=true)→∀ {a:α},a∈l→P a=true→Q a=false→l.countP Q<l.countP P
 | [],_,_,h,_,_=>rQ h ∅
 | x::l,hPQ,a,h,hP,hQ=>by
  have le:l.countP Q≤l.countP P:=List.countP_mono_left fun y hy=>hPQ y (ay _ hy)
  rw [ja,ja]
  rcases aF.mp h with rfl | h
  ·rw [hP,hQ];simp;lia
  ·have ih:=count_lt' (P:=P) (Q:=Q) (l:=l) (fun y hy=>hPQ y (ay _ hy)) h hP hQ
   have:=hPQ x ∅;cases q:Q x with
   | true=>rw [this q];simp;lia
   | false=>simp;lia
def cntW_new {l:List (Int×List Stp)}(h:lkW l y=none)(y0:0≤y)(y1:y<16):oj (l++[(y,ws)])<oj l:=by
 unfold oj;obtain ⟨n,rfl⟩:=cG y0;apply count_lt' (a:=n) (fun x _ hx=>?_) (bT.mpr ⋯) ?_ ?_
 ·rw [nA h] at hx
  split at hx
  ·cases hx
  ·exact hx
 ·show (lkW l ((n:Nat):Int)).isNone=true
  rw [h];rfl
 ·show (lkW (l++[(((n:Nat):Int),ws)]) ((n:Nat):Int)).isNone=false
  rw [nA h,rO rfl];rfl
def jP (E:lE m sp){s:Stp}(hi:s.i<sp.length):0≤fc sp s∧fc sp s<m:=by
 obtain ⟨i,d⟩:=s;have hi:i<sp.length:=hi;rw [lH hi];obtain ⟨a,b,c,e⟩:=E _ (bb hi);unfold too;split
 ·exact ⟨c,e⟩
 ·exact ⟨a,b⟩
def visit_ok {x:Int}(E:lE m sp)(m16:m≤16)(ht:∀ i∈tk,i<sp.length){s:Stp}(I:WI m sp tk be c)(hx:lkW c.1 x≠none)(hs:s∈dM sp tk x)(C:Clo sp tk (· =x) c) :
  WI m sp tk be (iZ sp x c s)∧Clo sp tk (· =x) (iZ sp x c s)∧lkW (iZ sp x c s).1 (fc sp s)≠none∧(∀ y,lkW c.1 y≠none→lkW (iZ sp x c s).1 y=lkW c.1 y)∧2 * oj (iZ sp x c s).1+(iZ sp x c s).2.length≤2 * oj c.1+c.2.length∧(iZ sp x c s).1.length+oj (iZ sp x c s).1≤c.1.length+oj c.1:=by
 obtain ⟨hs1,hs2⟩:=cp.mp hs;have hfr:kU sp s=x:=rT hs2;obtain ⟨hst,hsd⟩:=mem_stF hs1;have hsn:=ht _ hst;have tr:=jP E hsn;unfold iZ
 by_cases e:lkW c.1 (fc sp s)=none
 ·rw [rO e]
  obtain ⟨ws,hws⟩:∃ ws,lkW c.1 x=some ws:=Option.ne_none_iff_exists'.mp hx;have eg:(lkW c.1 x).getD []=ws:=by rw [hws];rfl
  rw [eg];have keep:∀ y,lkW c.1 y≠none→lkW (c.1++[(fc sp s,ws++[s])]) y=lkW c.1 y:=fun y hy=>by
   rw [nA e,rN (fun (z:y=fc sp s)=>hy (by rw [z];exact e))]
  have new:lkW (c.1++[(fc sp s,ws++[s])]) (fc sp s)=some (ws++[s]):=by rw [nA e,rO rfl]
  have more:∀ y,lkW c.1 y≠none→lkW (c.1++[(fc sp s,ws++[s])]) y≠none:=fun y hy=>by rw [keep y hy];exact hy
  obtain ⟨P,K⟩:=I.pth x ws hws;have hne:∀ st∈ws,st.i=s.i→False:=fun st hst' e2=>by
   obtain ⟨k1,k2⟩:=K st hst'
   rcases ends_of_span (sp:=sp) (st:=st) (d:=s.d) hsn e2 (P.inn st hst').2.2 hsd with z | z
   ·have z:fc sp st=fc sp s:=z
    rw [z] at k2;exact k2 e
   ·have z:kU sp st=fc sp s:=z
    rw [z] at k1;exact k1 e
  have hnew:Pth sp tk be (fc sp s) (ws++[s]):=by
   apply ⟨fun st hst'=>?_,P.alo.append ⟨hfr,rfl⟩,?_,?_⟩
   ·rcases aH.mp hst' with h | h
    ·exact P.inn st h
    ·rw [aw.mp h];exact ⟨hst,hsn,hsd⟩
   ·rw [aE]
    apply jT.mpr ⟨P.one,∅,fun a ha b hb e3=>?_⟩;obtain ⟨st,hst',rfl⟩:=bc.mp ha;have hb:b=s.i:=by simpa using hb
    exact hne st hst' (by rw [e3,hb])
   ·rw [aE,←List.cons_append]
    apply jT.mpr ⟨P.met,∅,fun a ha b hb e3=>?_⟩;have hb:b=fc sp s:=by simpa using hb
    subst hb;subst e3
    rcases aF.mp ha with z | z
    ·rw [z] at e;exact I.beg e
    ·obtain ⟨st,hst',e4⟩:=bc.mp z
     exact (K st hst').2 (by rw [e4];exact e)
  apply ⟨⟨fun y vs hy=>?_,fun y hy=>?_,fun y hy=>?_,more _ I.beg⟩,fun y hy hn ex t ht'=>?_,?_,keep,?_,?_⟩
  ·rw [nA e] at hy
   by_cases ey:y=fc sp s
   ·rw [rO ey] at hy
    cases hy;rw [ey];apply ⟨hnew,fun st hst'=>?_⟩
    rcases aH.mp hst' with h | h
    ·exact ⟨more _ (K st h).1,more _ (K st h).2⟩
    ·rw [aw.mp h,hfr]
     exact ⟨more _ hx,by rw [new];exact fun z=>nomatch z⟩
   ·rw [rN ey] at hy
    obtain ⟨P',K'⟩:=I.pth y vs hy;exact ⟨P',fun st h=>⟨more _ (K' st h).1,more _ (K' st h).2⟩⟩
  ·have hy:lkW (c.1++[(fc sp s,ws++[s])]) y≠none:=hy
   rw [nA e] at hy
   by_cases ey:y=fc sp s
   ·rw [ey];exact tr
   ·rw [rN ey] at hy;exact I.rng y hy
  ·rcases aH.mp hy with h | h
   ·exact more _ (I.ahd y h)
   ·rw [aw.mp h];show lkW (c.1++[(fc sp s,ws++[s])]) (fc sp s)≠none;rw [new];exact fun z=>nomatch z
  ·have hy:lkW (c.1++[(fc sp s,ws++[s])]) y≠none:=hy
   have hn:y ∉ c.2++[fc sp s]:=hn;have ey:y≠fc sp s:=fun z=>hn (aA _ (aw.mpr z))
   rw [nA e,rN ey] at hy;exact more _ (C y hy (fun z=>hn (aK _ z)) ex t ht')
  ·show lkW (c.1++[(fc sp s,ws++[s])]) (fc sp s)≠none
   rw [new];exact fun z=>nomatch z
  ·have:=cntW_new (ws:=ws++[s]) e tr.1 ⋯
   show 2 * oj (c.1++[(fc sp s,ws++[s])])+(c.2++[fc sp s]).length≤_;rw [au];have:[fc sp s].length=1:=rfl;lia
  ·have:=cntW_new (ws:=ws++[s]) e tr.1 ⋯
   show (c.1++[(fc sp s,ws++[s])]).length+oj (c.1++[(fc sp s,ws++[s])])≤_;rw [au];have:[(fc sp s,ws++[s])].length=1:=rfl;lia
 ·rw [rN e]
  exact ⟨I,C,e,fun _ _=>rfl,az _,az _⟩
def pE {m:Nat}{sp:List Sn}{tk:List Nat}{be x:Int}(E:lE m sp)(m16:m≤16)(ht:∀ i∈tk,i<sp.length):∀ {L:List Stp} {c:List (Int×List Stp)×List Int},WI m sp tk be c→lkW c.1 x≠none→(∀ s∈L,s∈dM sp tk x)→Clo sp tk (· =x) c →
  WI m sp tk be (L.foldl (iZ sp x) c)∧Clo sp tk (· =x) (L.foldl (iZ sp x) c)∧(∀ s∈L,lkW (L.foldl (iZ sp x) c).1 (fc sp s)≠none)∧(∀ y,lkW c.1 y≠none→lkW (L.foldl (iZ sp x) c).1 y=lkW c.1 y)∧2 * oj (L.foldl (iZ sp x) c).1+(L.foldl (iZ sp x) c).2.length≤2 * oj c.1+c.2.length∧(L.foldl (iZ sp x) c).1.length+oj (L.foldl (iZ sp x) c).1≤c.1.length+oj c.1
 | [],c,I,_,_,C=>⟨I,C,fun _ h=>(by cases h),fun _ _=>rfl,az _,az _⟩
 | s::L,c,I,hx,hL,C=>by
  obtain ⟨a1,a2,a3,a4,a5,a6⟩:=visit_ok E m16 ht I hx (hL s bu) C;obtain ⟨b1,b2,b3,b4,b5,b6⟩:=pE E m16 ht (L:=L) a1 (by rw [a4 x hx];exact hx) (fun t h=>hL t (ay _ h)) a2;rw [bV];apply ⟨b1,b2,fun t h=>?_,fun y hy=>?_,aN b5 a5,aN b6 a6⟩
  ·rcases aF.mp h with rfl | h
   ·rw [b4 _ a3];exact a3
   ·exact b3 t h
  ·rw [b4 y (by rw [a4 y hy];exact hy),a4 y hy]
def turn_ok (E:lE m sp)(m16:m≤16)(ht:∀ i∈tk,i<sp.length)(I:WI m sp tk be c)(C:Clo sp tk (fun _=>False) c)(hne:c.2≠[]) :
  WI m sp tk be (qM sp tk c)∧Clo sp tk (fun _=>False) (qM sp tk c)∧2 * oj (qM sp tk c).1+(qM sp tk c).2.length<2 * oj c.1+c.2.length∧(qM sp tk c).1.length+oj (qM sp tk c).1≤c.1.length+oj c.1:=by
 have hl:c.2.getLast? =some (c.2.getLast hne):=List.getLast?_eq_some_getLast hne;have e0:c.2=c.2.dropLast++[mF c.2]:=by
  unfold mF;rw [hl];exact (List.dropLast_concat_getLast hne).symm
 have hmem:mF c.2∈c.2:=by rw [e0];unfold mF;simp
 have hx:=I.ahd _ hmem;have I0:WI m sp tk be (c.1,c.2.dropLast):=⟨I.pth,I.rng,fun y hy=>I.ahd y ((List.dropLast_sublist _).subset hy),I.beg⟩;have C0:Clo sp tk (· =mF c.2) (c.1,c.2.dropLast):=fun y hy hn ex t ht'=>C y hy (fun z=>by
  rw [e0] at z
  rcases aH.mp z with z | z
  ·exact hn z
  ·exact ex (aw.mp z)) (fun z=>z) t ht'
 obtain ⟨b1,b2,b3,b4,b5,b6⟩:=pE E m16 ht (L:=dM sp tk (mF c.2)) I0 hx (fun _ h=>h) C0;apply ⟨b1,fun y hy hn _ t ht'=>?_,?_,b6⟩
 ·by_cases e:y=mF c.2
  ·subst e;exact b3 t ht'
  ·exact b2 y hy hn e t ht'
 ·have l1:c.2.dropLast.length+1=c.2.length:=by
   have:=rV List.length e0;rw [au] at this;exact this.symm
  have b5:2 * oj (qM sp tk c).1+(qM sp tk c).2.length≤2 * oj c.1+c.2.dropLast.length:=b5;lia
def start_ok (b0:0≤be)(b1:be<m):WI m sp tk be ([(be,[])],[be])∧Clo sp tk (fun _=>False) ([(be,[])],[be]):=by
 have lk:∀ x,lkW [(be,[])] x=if be=x then some [] else none:=fun x=>by rw [lP];rfl
 have kb:∀ x,lkW [(be,([]:List Stp))] x≠none→x=be:=fun x h=>by
  rw [lk] at h
  by_cases e:be=x
  ·exact e.symm
  ·rw [rN e] at h;exact rQ rfl h
 have kn:lkW [(be,([]:List Stp))] be≠none:=by rw [lk,rO rfl];exact fun z=>nomatch z
 apply ⟨⟨fun x ws h=>?_,fun x h=>by rw [kb x h];exact ⟨b0,b1⟩,fun x h=>by rw [aw.mp h];exact kn,kn⟩,fun x h hn=>?_⟩
 ·have h:lkW [(be,[])] x=some ws:=h
  rw [lk] at h
  by_cases e:be=x
  ·rw [rO e] at h
   cases h;exact ⟨⟨fun _ h=>(nomatch h),e,jS,bz.mpr ⟨fun h=>(nomatch h),jS⟩⟩,fun _ h=>(nomatch h)⟩
  ·rw [rN e] at h;cases h
 ·exact rQ (aw.mpr (kb x h)) hn
def rM (sp:List Sn)(tk:List Nat)(be en:Int):Prop:=∀ S:Int→Prop,(∀ i∈tk,S (sAt sp i).s↔S (sAt sp i).g)→S be→S en
def qu (h:i<sp.length):kU sp ⟨i,1⟩=(sAt sp i).s∧fc sp ⟨i,1⟩=(sAt sp i).g∧kU sp ⟨i,-1⟩=(sAt sp i).g∧fc sp ⟨i,-1⟩=(sAt sp i).s:=by
 have e:sAt sp i=sp[i]:=by unfold sAt;rw [af,gE h];rfl
 rw [nF h,lH h,nF h,lH h,e];unfold frm too;exact ⟨rfl,rfl,rfl,rfl⟩
def left_of {en:Int}(ht:∀ i∈tk,i<sp.length)(hh:rM sp tk be en)(I:WI m sp tk be c)(C:Clo sp tk (fun _=>False) c)(hn:lkW c.1 en=none):c.2≠[]:=fun z=>by
 apply hh (fun x=>lkW c.1 x≠none) (fun i hi=>?_) I.beg hn;have hin:=ht i hi;obtain ⟨f1,f2,f3,f4⟩:=qu hin;have m1:(⟨i,1⟩:Stp)∈dM sp tk (sAt sp i).s:=cp.mpr ⟨aK _ (bc.mpr ⟨i,hi,rfl⟩),rR f1⟩;have m2:(⟨i,-1⟩:Stp)∈dM sp tk (sAt sp i).g:=cp.mpr ⟨aA _ (bc.mpr ⟨i,hi,rfl⟩),rR f3⟩
 constructor
 ·intro h
  have:=C _ h (by rw [z];exact cx) (fun z=>z) _ m1;rw [f2] at this;exact this
 ·intro h
  have:=C _ h (by rw [z];exact cx) (fun z=>z) _ m2;rw [f4] at this;exact this
def held_of {m:Nat}{sp:List Sn}(E:lE m sp)(S:Int→Prop):∀ (π:List Nat) (gs:List Int) (tk:List Nat),gs.length=m→(∀ i∈π,i<sp.length)→(∀ i∈(π.foldl (gN sp) (gs,tk)).2,S (sAt sp i).s↔S (sAt sp i).g) →
  (∀ x y:Int,0≤x→x<m→0≤y→y<m→tm gs x=tm gs y→(S x↔S y))→∀ x y:Int,0≤x→x<m→0≤y→y<m→tm (π.foldl (gN sp) (gs,tk)).1 x=tm (π.foldl (gN sp) (gs,tk)).1 y→(S x↔S y)
 | [],_,_,_,_,_,h=>h
 | j::π,gs,tk,l,hp,hS,h=>by
  rw [bV] at hS ⊢;obtain ⟨a0,a1,b0,b1⟩:=E _ (fu (hp j bu));have hp':∀ i∈π,i<sp.length:=fun k hk=>hp k (ay _ hk)
  rcases ky sp gs tk j with ⟨_,e⟩ | ⟨_,e⟩ <;> rw [e] at hS ⊢
  ·exact held_of E S π gs tk l hp' hS h
  ·apply held_of E S π _ _ (by rw [mG];exact l) hp' hS fun x y x0 x1 y0 y1 hxy=>?_
   obtain ⟨more,hm⟩:=pO sp π (jq gs (tm gs (sAt sp j).s) (tm gs (sAt sp j).g)) (tk++[j]);have hj:=hS j (by rw [hm];simp);rw [lI x0 ⋯,lI y0 ⋯] at hxy
   by_cases e1:tm gs x=tm gs (sAt sp j).g
   ·have f1:=h x _ x0 x1 b0 b1 e1
    rw [rO e1] at hxy
    by_cases e2:tm gs y=tm gs (sAt sp j).g
    ·exact f1.trans (h y _ y0 y1 b0 b1 e2).symm
    ·rw [rN e2] at hxy
     exact f1.trans (hj.symm.trans (h _ y a0 a1 y0 y1 hxy))
   ·rw [rN e1] at hxy
    by_cases e2:tm gs y=tm gs (sAt sp j).g
    ·rw [rO e2] at hxy
     exact (h x _ x0 x1 a0 a1 hxy).trans (hj.trans (h y _ y0 y1 b0 b1 e2).symm)
    ·rw [rN e2] at hxy
     exact h x y x0 x1 y0 y1 hxy
def held_span (E:lE m sp)(O:Ordd sp π)(pm:l.Perm (lg sp m π).2){k:Nat}(hk:k<sp.length):rM sp l (sAt sp k).g (sAt sp k).s:=by
 intro S hS hg;have hp:∀ i∈π,i<sp.length:=fun i hi=>O.lt hi
 obtain ⟨a0,a1,b0,b1⟩:=E _ (fu hk);apply (held_of E S π (ke m) [] (kO m) hp (fun i hi=>hS i (pm.mem_iff.mpr hi)) (fun x y x0 x1 y0 y1 h=>?_) _ _ a0 a1 b0 b1 (mS E π (ke m) [] (kO m) hp k (O.1.mem_iff.mpr (bT.mpr hk)))).mpr hg;rw [mZ x0 x1,mZ y0 y1] at h;rw [h]
def WayR.pth {en:Int}(E:lE m sp)(m16:m≤16)(ht:∀ i∈tk,i<sp.length)(b0:0≤be)(b1:be<m)(hh:rM sp tk be en){p:List Stp}(h:WayR sp tk be en p):Pth sp tk be en p:=by
 obtain ⟨k,h1,h2⟩:=h;have key:∀ j,j≤k→WI m sp tk be (itW sp tk be j)∧Clo sp tk (fun _=>False) (itW sp tk be j):=by
  intro j
  induction j with
  | zero=>intro _;exact start_ok b0 b1
  | succ j ih =>
   intro hj;obtain ⟨I,C⟩:=ih ⋯;obtain ⟨a,b,_⟩:=turn_ok E m16 ht I C (left_of ht hh I C (h2 j ⋯));exact ⟨a,b⟩
 exact ((key k (az _)).1.pth en p h1).1
theorem Pth.len {en:Int}{p:List Stp}(E:lE m sp)(b0:0≤be)(b1:be<m)(h:Pth sp tk be en p):p.length+1≤m:=by
 have:=md h.met (k:=ke m) fun x hx=>by
  have key:∀ x:Int,0≤x→x<m→x∈ke m:=fun x x0 x1=>by
   unfold ke;exact bc.mpr ⟨x.toNat,bT.mpr ⋯,fe x0⟩
  rcases aF.mp hx with rfl | hx
  ·exact key _ b0 b1
  ·obtain ⟨s,hs,rfl⟩:=bc.mp hx
   have t:=jP E (h.inn s hs).2.1;exact key _ t.1 t.2
 rw [aP,aa,kO] at this;exact this
def l6 (pr:Int)(ps:List Int)(s:Stp):List Int:=ps.set s.i (ps.getD s.i 0 - pr * s.d)
def rowP (ps:List Int)(r:Int×List Stp):List Int:=r.2.foldl (l6 r.1) ps
def ownM (sp:List Sn)(rows:List (Int×List Stp)):List Int:=rows.foldl rowP (sp.map Sn.w)
def pM {pr:Int}:∀ (ws:List Stp) (ps:List Int),(ws.foldl (l6 pr) ps).length=ps.length
 | [],_=>rfl
 | s::ws,ps=>by
  rw [bV,pM ws];unfold l6;rw [fj]
def hasS (k:Nat)(d:Int)(ws:List Stp):Bool:=ws.any fun s=>decide (s.i=k) && decide (s.d=d)
def ownV (k:Nat)(acc pr:Int)(ws:List Stp):Int:=if hasS k (-1) ws=true then (if hasS k 1 ws=true then acc - pr else acc)+pr else (if hasS k 1 ws=true then acc - pr else acc)
def ownS (k:Nat)(acc:Int)(r:Int×List Stp):Int:=ownV k acc r.1 r.2
def hasS_no {k:Nat}{d:Int}:∀ {ws:List Stp},k ∉ ws.map Stp.i→hasS k d ws=false
 | [],_=>rfl
 | s::ws,h=>by
  show (decide (s.i=k) && decide (s.d=d) || hasS k d ws)=false;rw [hasS_no (ws:=ws) fun z=>h (by rw [bM];exact ay _ z),rS (fun z=>h (by rw [bM,z];simp))];rfl
def steps_at {k:Nat}{pr:Int}:∀ (ws:List Stp) (ps:List Int),k<ps.length→(∀ s∈ws,s.d=1∨s.d= -1)→(ws.map Stp.i).Nodup→(ws.foldl (l6 pr) ps).getD k 0=ownV k (ps.getD k 0) pr ws
 | [],_,_,_,_=>rfl
 | s::ws,ps,hk,hd,hn=>by
  rw [bM,bz] at hn;rw [bV,steps_at ws _ (by unfold l6;rw [fj];exact hk) (fun t ht=>hd t (ay _ ht)) hn.2]
  by_cases e:s.i=k
  ·have h0:∀ d,hasS k d ws=false:=fun d=>hasS_no (by rw [←e];exact hn.1)
   have h1:∀ d,hasS k d (s::ws)=decide (s.d=d):=fun d=>by
    show (decide (s.i=k) && decide (s.d=d) || hasS k d ws)=_;rw [h0,rR e];simp
   have h2:(l6 pr ps s).getD k 0=ps.getD k 0 - pr * s.d:=by
    unfold l6;rw [e,af,dU hk];rfl
   unfold ownV;rw [h0,h0,h1,h1,h2]
   rcases hd s ∅ with d1 | d1
   ·rw [d1];simp
   ·rw [d1];simp
  ·have h1:∀ d,hasS k d (s::ws)=hasS k d ws:=fun d=>by
    show (decide (s.i=k) && decide (s.d=d) || hasS k d ws)=_;rw [rS e];simp
   have h2:(l6 pr ps s).getD k 0=ps.getD k 0:=by
    unfold l6;rw [af,dN e,←af]
   unfold ownV;rw [h1,h1,h2]
structure RwOk (n:Nat)(r:Int×List Stp):Prop where
 inn:qP n r.2
 one:(r.2.map Stp.i).Nodup
 few:r.2.length≤17
 lo: -1000000000000≤r.1
 hi:r.1≤1000000000000
def pW {k n:Nat}:∀ (rows:List (Int×List Stp)) (ps:List Int),k<ps.length→(∀ r∈rows,RwOk n r)→(rows.foldl rowP ps).getD k 0=rows.foldl (ownS k) (ps.getD k 0)
 | [],_,_,_=>rfl
 | r::rows,ps,hk,h=>by
  have hr:=h r ∅;rw [bV,bV,pW rows _ (by show k<(r.2.foldl (l6 r.1) ps).length;rw [pM];exact hk) fun t ht=>h t (ay _ ht)];congr 1;exact steps_at r.2 ps hk (fun s hs=>(hr.inn s hs).2) hr.one
def wOf (sp:List Sn)(k:Nat):Int:=match sp[k]? with | some x=>x.w | none=>0
def lOf (sp:List Sn)(k:Nat):Int:=match sp[k]? with | some x=>x.l | none=>0
def owK (sp:List Sn)(rows:List (Int×List Stp))(k:Nat):Int:=rows.foldl (ownS k) (wOf sp k)
def own_at {k:Nat}(hk:k<sp.length)(h:∀ r∈rows,RwOk n r):(ownM sp rows).getD k 0=owK sp rows k:=by
 unfold ownM owK;rw [pW rows _ (by rw [aa];exact hk) h];congr 1;unfold wOf;rw [af,ax,gE hk];rfl
def termW (sp:List Sn)(bs:List (Int×Int))(rows:List (Int×List Stp))(k:Nat):Int:=owK sp rows k * (if owK sp rows k<0 then (bs.getD k (0,0)).2 else (bs.getD k (0,0)).1) - wOf sp k * lOf sp k
def rowsW (b:Int)(bs:List (Int×Int))(rows:List (Int×List Stp)):Int:=(rows.map fun r=>r.1 * upB b (gv bs r.2) * b).sum
def worthM (b:Int)(sp:List Sn)(bs:List (Int×Int))(rows:List (Int×List Stp)):Int:=rowsW b bs rows+((aJ sp.length).map (termW sp bs rows)).sum
end HN
namespace L2
open PySem PySem.Spec PyProof.Rows
theorem compT_lst {Q:VK}(Pv:Nat→List V→Hp→Prop)(h0:Pv 0 [] H)(hl:∀ i ys H,i≤xs.length→Pv i ys H→SqL K H a xs∧ys.length≤i)(hz:xs.length≤bg)
  (hs:∀ i v ys H,xs[i]? =some v→Pv i ys H→∃ q x y,v= .ref q∧H q=some (.tup [x,y])∧tt (some x::some y::cZ σ js) H fun b H4=>if b=true then te (some x::some y::cZ σ js) H4 fun z H5=>Pv (i+1) (ys++[z]) H5 else Pv (i+1) ys H4)
  (hd:∀ ys H,Pv xs.length ys H→∀ D,H D=none→Q (.ref D) (upd H D (.lst ys))):qK 2 (gPair K) js tt te σ Q (Itl K a) H:=by
 apply ⟨fun i m ys H=>i≤xs.length∧m=xs.length - i∧Pv i ys H,⟨_,bo _,rfl,h0⟩,fun i m ys H2 z=>?_⟩;obtain ⟨hi,hm,hp⟩:=z;obtain ⟨hq,hy⟩:=hl i ys H2 hi hp
 by_cases e:i=xs.length
 ·subst e
  exact .inl ⟨⟨xs,hq,az _⟩,hd ys H2 hp⟩
 ·have hlt:i<xs.length:=fH hi e
  apply .inr ⟨⟨xs,_,hq,gE hlt⟩,⋯,Pv (i+1),fun ys' H' hp'=>⟨xs.length - (i+1),⋯,⋯,rfl,hp'⟩,fun v H3 hy3 v0 hv0=>?_⟩;obtain ⟨e3,hx⟩:=hy3;subst e3;obtain ⟨q,x,y,rfl,hq2,k⟩:=hs i v ys H3 (hx xs hq) hp
  match v0,hv0 with
  | [v1,v2],_=>exact ⟨q,_,rfl,SqT.of hq2,rfl,_,_,rfl,_,_,rfl,rfl,⟨[some x,some y],rfl,rfl⟩,k⟩
end L2
namespace HN
open PySem L2 PyProof.Rows
def ng (f:Nat→Int):Nat→Int
 | 0=>0
 | n+1=>ng f n+f n
def qT (f:Nat→Int):∀ n,((aJ n).map f).sum=ng f n
 | 0=>rfl
 | n+1=>by
  rw [ir,aE,List.sum_append,qT f n];show ng f n+(f n+0)=ng f n+f n;lia
def o8 (f g:Nat→Int):∀ n,ng (fun k=>f k+g k) n=ng f n+ng g n
 | 0=>rfl
 | n+1=>by
  show ng (fun k=>f k+g k) n+(f n+g n)=(ng f n+f n)+(ng g n+g n);rw [o8 f g n];lia
def o6 (c:Int)(f:Nat→Int):∀ n,ng (fun k=>c * f k) n=c * ng f n
 | 0=>(jh c).symm
 | n+1=>by
  show ng (fun k=>c * f k) n+c * f n=c * (ng f n+f n);rw [o6 c f n,kI]
def ku {f g:Nat→Int}:∀ n,(∀ k,k<n→f k=g k)→ng f n=ng g n
 | 0,_=>rfl
 | n+1,h=>by
  show ng f n+f n=ng g n+g n;rw [ku n fun k hk=>h k ⋯,h n ⋯]
def sumN_none {i:Nat}{c:Int}{y:Nat→Int}:∀ n,n≤i→ng (fun k=>(if i=k then c else 0) * y k) n=0
 | 0,_=>rfl
 | n+1,h=>by
  show ng (fun k=>(if i=k then c else 0) * y k) n+(if i=n then c else 0) * y n=0;rw [sumN_none n ⋯,rN ⋯,gM];rfl
def sumN_one {i:Nat}{c:Int}{y:Nat→Int}:∀ n,i<n→ng (fun k=>(if i=k then c else 0) * y k) n=c * y i
 | 0,h=>rQ h ⋯
 | n+1,h=>by
  show ng (fun k=>(if i=k then c else 0) * y k) n+(if i=n then c else 0) * y n=c * y i
  by_cases e:i=n
  ·subst e
   rw [sumN_none i (az _),rO rfl,iq]
  ·rw [sumN_one n ⋯,rN e,gM,Int.add_zero]
def sumN_list {α:Type}(f:α→Int)(xs:List α):∀ n,n≤xs.length→((xs.take n).map f).sum=ng (fun k=>match xs[k]? with | some x=>f x | none=>0) n
 | 0,_=>rfl
 | n+1,h=>by
  rw [bj,gE ⋯,aE,List.sum_append,sumN_list f xs n ⋯];show _+(f xs[n]+0)=ng _ n+(match xs[n]? with | some x=>f x | none=>0);rw [gE ⋯];show _+(f xs[n]+0)=_+f xs[n];lia
def sg (k:Nat):List Stp→Int
 | []=>0
 | s::ws=>(if s.i=k then s.d else 0)+sg k ws
def alg (y:Nat→Int):List Stp→Int
 | []=>0
 | s::ws=>s.d * y s.i+alg y ws
def fold_sg {k:Nat}{pr:Int}:∀ (ws:List Stp) (ps:List Int),k<ps.length→(ws.foldl (l6 pr) ps).getD k 0=ps.getD k 0 - pr * sg k ws
 | [],ps,_=>by show ps.getD k 0=ps.getD k 0 - pr * 0;rw [jh,Int.sub_zero]
 | s::ws,ps,hk=>by
  rw [bV,fold_sg ws _ (by unfold l6;rw [fj];exact hk)];show _=ps.getD k 0 - pr * ((if s.i=k then s.d else 0)+sg k ws);rw [kI]
  by_cases e:s.i=k
  ·have h2:(l6 pr ps s).getD k 0=ps.getD k 0 - pr * s.d:=by
    unfold l6;rw [e,af,dU hk];rfl
   rw [h2,rO e];lia
  ·have h2:(l6 pr ps s).getD k 0=ps.getD k 0:=by
    unfold l6;rw [af,dN e,←af]
   rw [h2,rN e,jh];lia
def sgR (k:Nat):List (Int×List Stp)→Int
 | []=>0
 | r::rows=>r.1 * sg k r.2+sgR k rows
def rows_sg {k:Nat}:∀ (rows:List (Int×List Stp)) (ps:List Int),k<ps.length→(rows.foldl rowP ps).getD k 0=ps.getD k 0 - sgR k rows
 | [],ps,_=>by show ps.getD k 0=ps.getD k 0 - 0;rw [Int.sub_zero]
 | r::rows,ps,hk=>by
  rw [bV,rows_sg rows _ (by show k<(r.2.foldl (l6 r.1) ps).length;rw [pM];exact hk)];show (r.2.foldl (l6 r.1) ps).getD k 0 - sgR k rows=ps.getD k 0 - (r.1 * sg k r.2+sgR k rows);rw [fold_sg r.2 ps hk];lia
def owK_sg {k:Nat}(hk:k<sp.length)(h:∀ r∈rows,RwOk n r):owK sp rows k=wOf sp k - sgR k rows:=by
 rw [←own_at hk h];unfold ownM;rw [rows_sg rows _ (by rw [aa];exact hk)];congr 1;unfold wOf;rw [af,ax,gE hk];rfl
def sum_sg {y:Nat→Int}{n:Nat}:∀ (ws:List Stp),(∀ s∈ws,s.i<n)→ng (fun k=>sg k ws * y k) n=alg y ws
 | [],_=>by
  show ng (fun k=>0 * y k) n=0;rw [ku (g:=fun _=>0 * 0) n fun k _=>by rw [gM,gM],o6 0 (fun _=>0) n,gM]
 | s::ws,h=>by
  show ng (fun k=>((if s.i=k then s.d else 0)+sg k ws) * y k) n=s.d * y s.i+alg y ws;rw [ku (g:=fun k=>(if s.i=k then s.d else 0) * y k+sg k ws * y k) n fun k _=>Int.add_mul ..,o8,sumN_one n (h s ∅),sum_sg ws fun t ht=>h t (ay _ ht)]
def algR (y:Nat→Int):List (Int×List Stp)→Int
 | []=>0
 | r::rows=>r.1 * alg y r.2+algR y rows
def sum_sgR {y:Nat→Int}{n:Nat}:∀ (rows:List (Int×List Stp)),(∀ r∈rows,∀ s∈r.2,s.i<n)→ng (fun k=>sgR k rows * y k) n=algR y rows
 | [],_=>by
  show ng (fun k=>0 * y k) n=0;rw [ku (g:=fun _=>0 * 0) n fun k _=>by rw [gM,gM],o6 0 (fun _=>0) n,gM]
 | r::rows,h=>by
  show ng (fun k=>(r.1 * sg k r.2+sgR k rows) * y k) n=r.1 * alg y r.2+algR y rows;rw [ku (g:=fun k=>r.1 * (sg k r.2 * y k)+sgR k rows * y k) n fun k _=>by rw [Int.add_mul,Int.mul_assoc],o8,o6,sum_sg r.2 (h r ∅),sum_sgR rows fun t ht=>h t (ay _ ht)]
def kF (b:Int)(ts:List Int)(sp:List Sn)(k:Nat):Int:=match sp[k]? with | some x=>x.l+iU b ts x | none=>0
def InB (y:Nat→Int)(bs:List (Int×Int)):Prop:=∀ k,k<bs.length→(bs.getD k (0,0)).1≤y k∧y k≤(bs.getD k (0,0)).2
def lay_in (hb:0<b)(hf:l9 b ts sp=true):InB (kF b ts sp) (sp.map fun x=>(x.l,x.o)):=fun k hk=>by
 rw [aa] at hk;have e:(sp.map fun x=>(x.l,x.o)).getD k (0,0)=(sp[k].l,sp[k].o):=by
  rw [af,ax,gE hk];rfl
 have e2:kF b ts sp k=sp[k].l+iU b ts sp[k]:=by
  unfold kF;rw [gE hk]
 rw [e,e2];have h0:0≤iU b ts sp[k]:=by unfold iU;exact eI _ ⋯
 have h1:¬ (sp[k].o - sp[k].l<iU b ts sp[k]):=by
  unfold l9 at hf;rw [jW,jV] at hf;have:=hf sp[k] (bb hk);unfold brk at this
  simpa using this
 exact ⟨by show sp[k].l≤_;lia,by show _≤sp[k].o;lia⟩
def inB_one {y:Nat→Int}{bs:List (Int×Int)}{k:Nat}{a:Int}(h:InB y bs)(ha:y k≤a):InB y (kW bs k a):=fun j hj=>by
 rw [one_len] at hj;have hh:=h j hj;unfold kW;rw [af]
 by_cases e:k=j
 ·subst e
  rw [dU hj];exact ⟨hh.1,ha⟩
 ·rw [dN e,←af]
  exact hh
def inB_other {y:Nat→Int}{bs:List (Int×Int)}{k:Nat}{a:Int}(h:InB y bs)(ha:a+1≤y k):InB y (eC bs k a):=fun j hj=>by
 rw [nX] at hj;have hh:=h j hj;unfold eC;rw [af]
 by_cases e:k=j
 ·subst e
  rw [dU hj];exact ⟨ha,hh.2⟩
 ·rw [dN e,←af]
  exact hh
def alg_way {b:Int}{ts:List Int}{sp:List Sn}:∀ (ws:List Stp) (x z:Int),qP sp.length ws→oY sp x ws z→∃ Z,alg (kF b ts sp) ws=tm ts z - tm ts x+b * Z
 | [],x,z,_,h=>by
  have h:x=z:=h;subst h;exact ⟨0,by show (0:Int)=_;rw [jh];lia⟩
 | s::ws,x,z,hw,h=>by
  obtain ⟨h1,h2⟩:=h;obtain ⟨Z,hZ⟩:=alg_way (b:=b) (ts:=ts) ws _ z (fun t ht=>hw t (ay _ ht)) h2;obtain ⟨hs,hd⟩:=hw s ∅;obtain ⟨i,d⟩:=s;have hs:i<sp.length:=hs;have hd:d=1∨d= -1:=hd;have e2:kF b ts sp i=sp[i].l+iU b ts sp[i]:=by
   unfold kF;rw [gE hs]
  have hm:=iI (tm ts sp[i].g - tm ts sp[i].s - sp[i].l) b;show ∃ Z,d * kF b ts sp i+alg (kF b ts sp) ws=_;rw [hZ,e2];unfold iU;rw [lH hs] at *;rw [nF hs] at h1;unfold frm at h1;unfold too at *;generalize (tm ts sp[i].g - tm ts sp[i].s - sp[i].l) / b=q at hm;generalize (tm ts sp[i].g - tm ts sp[i].s - sp[i].l) % b=r at hm ⊢
  rcases hd with rfl | rfl
  ·rw [rO rfl] at h1 ⊢
   subst h1;exact ⟨Z - q,by rw [Int.mul_sub];lia⟩
  ·rw [rN ↥0] at h1 ⊢
   subst h1;exact ⟨Z+q,by rw [kI b Z q];lia⟩
theorem alg_lo {y:Nat→Int}{bs:List (Int×Int)}(h:InB y bs):∀ (ws:List Stp),qP bs.length ws→gv bs ws≤alg y ws∧alg y ws≤i3 bs ws
 | [],_=>⟨fW _,fW _⟩
 | s::ws,hw=>by
  obtain ⟨i1,i2⟩:=alg_lo h ws fun t ht=>hw t (ay _ ht)
  obtain ⟨hs,hd⟩:=hw s ∅;obtain ⟨b1,b2⟩:=h s.i hs;have e:bs.getD s.i (0,0)=bs[s.i]:=by rw [af,gE hs];rfl
  rw [e] at b1 b2;have e1:gv bs (s::ws)=lowS bs s+gv bs ws:=rfl;have e2:i3 bs (s::ws)=mI bs s+i3 bs ws:=rfl;have f1:lowS bs s=if s.d=1 then bs[s.i].1 else -bs[s.i].2:=by unfold lowS;rw [gE hs]
  have f2:mI bs s=if s.d=1 then bs[s.i].2 else -bs[s.i].1:=by unfold mI;rw [gE hs]
  rw [e1,e2,f1,f2];show _≤s.d * y s.i+alg y ws∧s.d * y s.i+alg y ws≤_
  rcases hd with d1 | d1
  ·rw [d1,rO rfl,rO rfl];lia
  ·rw [d1,rN ↥0,rN ↥0];lia
theorem ring_in {bs:List (Int×Int)}(hb:0<b)(hl:bs.length=sp.length)(h:InB (kF b ts sp) bs)(hr:Rg sp ws) :
  ∃ Z,alg (kF b ts sp) ws=b * Z∧upB b (gv bs ws)≤Z∧Z≤i3 bs ws / b:=by
 obtain ⟨x,hx⟩:=hr.rnd;obtain ⟨Z,hZ⟩:=alg_way (b:=b) (ts:=ts) ws x x hr.inn hx;obtain ⟨l1,l2⟩:=alg_lo h ws (by rw [hl];exact hr.inn);have e:alg (kF b ts sp) ws=b * Z:=by lia
 rw [e] at l1 l2;apply ⟨Z,e,?_,?_⟩
 ·unfold upB
  have: -Z≤ -gv bs ws / b:=by
   rw [Int.le_ediv_iff_mul_le hb,Int.neg_mul,Int.mul_comm Z b];lia
  lia
 ·rw [Int.le_ediv_iff_mul_le hb,Int.mul_comm Z b];exact l2
def wait_sum:waitOfM b ts sp=ng (fun k=>wOf sp k * kF b ts sp k - wOf sp k * lOf sp k) sp.length:=by
 unfold waitOfM;have:=sumN_list (fun x:Sn=>x.w * iU b ts x) sp sp.length (az _);rw [bp] at this;rw [this];apply ku _ fun k hk=>?_
 unfold wOf kF lOf;rw [gE hk];show sp[k].w * iU b ts sp[k]=sp[k].w * (sp[k].l+iU b ts sp[k]) - sp[k].w * sp[k].l;rw [kI];lia
def rows_in {b:Int}{ts:List Int}{sp:List Sn}{bs:List (Int×Int)}(hb:0<b)(hl:bs.length=sp.length)(h:InB (kF b ts sp) bs):∀ (rows:List (Int×List Stp)),(∀ r∈rows,RowOk b sp bs r)→algR (kF b ts sp) rows=rowsW b bs rows
 | [],_=>rfl
 | r::rows,hr=>by
  obtain ⟨h1,h2,_⟩:=hr r ∅;obtain ⟨Z,e,z1,z2⟩:=ring_in hb hl h h1;have h2:=rT h2;have ez:Z=upB b (gv bs r.2):=by lia
  have ih:=rows_in hb hl h rows fun t ht=>hr t (ay _ ht)
  have e3:rowsW b bs (r::rows)=r.1 * upB b (gv bs r.2) * b+rowsW b bs rows:=rfl;show r.1 * alg (kF b ts sp) r.2+algR (kF b ts sp) rows=_;rw [e3,ih,e,ez,Int.mul_comm b,Int.mul_assoc]
def l4 (b:Nat)(tt:List (List Int)):List (List Int):=tt.flatMap fun t=>(aJ b).map fun c:Nat=>t++[(0:Int)+(c:Nat)]
def oo (b:Nat):Nat→List (List Int)
 | 0=>[[]]
 | n+1=>l4 b (oo b n)
def rj (b:Nat):∀ tt:List (List Int),(l4 b tt).length=b * tt.length
 | []=>by show 0=b * 0;rw [Nat.mul_zero]
 | t::tt=>by
  have e:l4 b (t::tt)=((aJ b).map fun c:Nat=>t++[(0:Int)+(c:Nat)])++l4 b tt:=by unfold l4;rw [List.flatMap_cons]
  rw [e,au,rj b tt,aa,aY,aP,Nat.mul_add];lia
def allT_len (b:Nat):∀ n,(oo b n).length≤b ^ n
 | 0=>by show 1≤1;decide
 | n+1=>by
  show (l4 b (oo b n)).length≤_;rw [rj,Nat.pow_succ,jd];exact Nat.mul_le_mul_right b (allT_len b n)
def om (b:Nat):∀ n,∀ t∈oo b n,t.length=n
 | 0,t,h=>by rw [aw.mp h];rfl
 | n+1,t,h=>by
  obtain ⟨t',h1,h2⟩:=List.mem_flatMap.mp (show t∈l4 b (oo b n) from h);obtain ⟨c,_,rfl⟩:=bc.mp h2;rw [au,om b n t' h1];rfl
def rM.more {tk':List Nat}{x:Int}(h:∀ i∈tk,i∈tk')(k:rM sp tk x y):rM sp tk' x y:=fun S hS=>k S fun i hi=>hS i (h i hi)
def rM.trans {x:Int}(a:rM sp tk x y)(c:rM sp tk y z):rM sp tk x z:=fun S hS h=>c S hS (a S hS h)
def rM.symm {x:Int}(a:rM sp tk x y):rM sp tk y x:=fun S hS h=>e7 fun n=>a (fun z=>¬ S z) (fun i hi=>not_congr (hS i hi)) n h
inductive Acy (sp:List Sn):List Nat→Prop where
 | nil:Acy sp []
 | snoc {tk:List Nat} {k:Nat} (h:Acy sp tk) (hk:k<sp.length) (s:∃ S:Int→Prop,(∀ i∈tk,S (sAt sp i).s↔S (sAt sp i).g)∧S (sAt sp k).s∧¬ S (sAt sp k).g):Acy sp (tk++[k])
def Acy.pot (h:Acy sp tk)(y:Nat→Int):∃ π:Int→Int,∀ i∈tk,π (sAt sp i).g - π (sAt sp i).s=y i:=by
 induction h with
 | nil=>exact ⟨fun _=>0,fun _ h=>rQ h ∅⟩
 | snoc h hk s ih =>
  rename_i tk k;obtain ⟨π,hπ⟩:=ih;obtain ⟨S,hS,s1,s2⟩:=s;have dec:∀ x,Decidable (S x):=fun x=>Classical.propDecidable _
  apply ⟨fun x=>if S x then π x else π x+(y k - (π (sAt sp k).g - π (sAt sp k).s)),fun i hi=>?_⟩
  rcases aH.mp hi with hi | hi
  ·have e:=hπ i hi
   have f:=hS i hi;show (if S (sAt sp i).g then _ else _) - (if S (sAt sp i).s then _ else _)=_
   by_cases c:S (sAt sp i).s
   ·rw [rO c,rO (f.mp c)];exact e
   ·rw [rN c,rN (fun z=>c (f.mpr z))];lia
  ·rw [aw.mp hi]
   show (if S (sAt sp k).g then _ else _) - (if S (sAt sp k).s then _ else _)=_;rw [rN s2,rO s1];lia
def Acy.nodup (h:Acy sp tk):tk.Nodup∧∀ i∈tk,i<sp.length:=by
 induction h with
 | nil=>exact ⟨jS,fun _ h=>rQ h ∅⟩
 | snoc h hk s ih =>
  rename_i tk k;obtain ⟨S,hS,s1,s2⟩:=s;apply ⟨jT.mpr ⟨ih.1,∅,fun a ha c hc e=>?_⟩,fun i hi=>?_⟩
  ·rw [aw.mp hc] at e
   subst e;exact s2 ((hS _ ha).mp s1)
  ·rcases aH.mp hi with hi | hi
   ·exact ih.2 i hi
   ·rw [aw.mp hi];exact hk
structure Pots (sp:List Sn)(tk:List Nat):Prop where
 nodup:tk.Nodup∧∀ i∈tk,i<sp.length
 pot:∀ y:Nat→Int,∃ π:Int→Int,∀ i∈tk,π (sAt sp i).g - π (sAt sp i).s=y i
def Acy.pots (h:Acy sp tk):Pots sp tk:=⟨h.nodup,h.pot⟩
def Pots.perm (h:Pots sp tk)(p:l.Perm tk):Pots sp l :=
 ⟨⟨p.nodup_iff.mpr h.nodup.1,fun i hi=>h.nodup.2 i (p.mem_iff.mp hi)⟩,fun y=>let ⟨π,k⟩:=h.pot y;⟨π,fun i hi=>k i (p.mem_iff.mp hi)⟩⟩
structure Gd (m:Nat)(sp:List Sn)(gs:List Int)(tk:List Nat):Prop where
 len:gs.length=m
 eq:∀ i∈tk,tm gs (sAt sp i).s=tm gs (sAt sp i).g
 held:∀ x y:Int,0≤x→x<m→0≤y→y<m→tm gs x=tm gs y→rM sp tk x y
 acy:Acy sp tk
 cnt:Cnt m gs tk.length
def Gd.start (m:Nat)(sp:List Sn):Gd m sp (ke m) []:=by
 apply ⟨kO m,fun _ h=>rQ h ∅,fun x y x0 x1 y0 y1 e=>?_,.nil,Cnt.start m⟩;rw [mZ x0 x1,mZ y0 y1] at e;subst e;exact fun S _ h=>h
theorem Gd.step (E:lE m sp)(g:Gd m sp gs tk)(hi:i<sp.length):Gd m sp (gN sp (gs,tk) i).1 (gN sp (gs,tk) i).2:=by
 obtain ⟨s0,s1,g0,g1⟩:=E _ (fu hi);unfold gN
 by_cases e:tm gs (sAt sp i).s=tm gs (sAt sp i).g
 ·rw [rO e];exact g
 ·rw [rN e]
  have l:=g.len;have old:∀ j∈tk,j<sp.length:=g.acy.nodup.2;have jt:∀ x:Int,0≤x→x<m→tm (jq gs (tm gs (sAt sp i).s) (tm gs (sAt sp i).g)) x=if tm gs x=tm gs (sAt sp i).g then tm gs (sAt sp i).s else tm gs x:=fun x x0 x1=>lI x0 ⋯
  have up:∀ {x y:Int},rM sp tk x y→rM sp (tk++[i]) x y:=fun h=>h.more fun j hj=>aK _ hj
  have ed:rM sp (tk++[i]) (sAt sp i).s (sAt sp i).g:=fun S hS h=>(hS i (aA _ (aw.mpr rfl))).mp h
  apply ⟨by show (jq _ _ _).length=m;rw [mG];exact l,fun j hj=>?_,fun x y x0 x1 y0 y1 h=>?_,.snoc g.acy hi ⟨fun x=>tm gs x=tm gs (sAt sp i).s,fun j hj=>by show tm gs _=_↔tm gs _=_;rw [g.eq j hj],rfl,fun z=>e z.symm⟩,?_⟩
  ·show tm (jq _ _ _) _=tm (jq _ _ _) _
   rcases aH.mp hj with hj | hj
   ·obtain ⟨a0,a1,b0,b1⟩:=E _ (fu (old j hj))
    rw [jt _ a0 a1,jt _ b0 b1,g.eq j hj]
   ·rw [aw.mp hj,jt _ s0 s1,jt _ g0 g1,rO rfl,rN e]
  ·have h:tm (jq _ _ _) x=tm (jq _ _ _) y:=h
   rw [jt x x0 x1,jt y y0 y1] at h;show rM sp (tk++[i]) x y
   by_cases c1:tm gs x=tm gs (sAt sp i).g
   ·by_cases c2:tm gs y=tm gs (sAt sp i).g
    ·exact up (g.held x y x0 x1 y0 y1 (c1.trans c2.symm))
    ·rw [rO c1,rN c2] at h
     exact (up (g.held x _ x0 x1 g0 g1 c1)).trans (ed.symm.trans (up (g.held _ y s0 s1 y0 y1 h)))
   ·by_cases c2:tm gs y=tm gs (sAt sp i).g
    ·rw [rN c1,rO c2] at h
     exact (up (g.held x _ x0 x1 s0 s1 h)).trans (ed.trans (up (g.held _ y g0 g1 y0 y1 c2.symm)))
    ·rw [rN c1,rN c2] at h
     exact up (g.held x y x0 x1 y0 y1 h)
  ·show Cnt m (jq _ _ _) (tk++[i]).length
   rw [au];exact g.cnt.join (pI s0 ⋯) (pI g0 ⋯) e
def Gd.fold {m:Nat}{sp:List Sn}(E:lE m sp):∀ (π:List Nat) (gs:List Int) (tk:List Nat),(∀ i∈π,i<sp.length)→Gd m sp gs tk→Gd m sp (π.foldl (gN sp) (gs,tk)).1 (π.foldl (gN sp) (gs,tk)).2
 | [],_,_,_,g=>g
 | i::π,gs,tk,h,g=>by
  rw [bV];exact Gd.fold E π _ _ (fun j hj=>h j (ay _ hj)) (g.step E (h i ∅))
def Gd.few (g:Gd m sp gs tk)(h:0<m):tk.length<m:=by
 obtain ⟨D,_,mem,l⟩:=g.cnt;have:D≠[]:=fun z=>by
  have h0:tm gs 0∈gs:=pI (fW 0) (by rw [g.len];lia);have:=(mem _).mpr h0;rw [z] at this;cases this
 have:=g9.mpr this;lia
structure RK (sp:List Sn)(tk:List Nat)(q:Nat×List Stp):Prop where
 lt:q.1<sp.length
 out:q.1 ∉ tk
 way:∃ p,q.2=⟨q.1,1⟩::p∧Pth sp tk (sAt sp q.1).g (sAt sp q.1).s p
theorem RK.rg {m:Int}{q:Nat×List Stp}(N:kl b m sp)(h:RK sp tk q)(hl:tk.length≤15):Rg sp q.2:=by
 obtain ⟨p,e,P⟩:=h.way;have hk:=h.lt;have eA:sAt sp q.1=sp[q.1]:=by unfold sAt;rw [af,gE hk];rfl
 rw [e];apply Bk.ring hk (N.all _ (bb hk)).ne ⟨fun s hs=>(P.inn s hs).2,by rw [←eA];exact P.alo,P.one,fun s hs z=>?_⟩ ?_
 ·have z:s.i=q.1:=by lia
  exact h.out (z ▸ (P.inn s hs).1)
 ·have hn:((p.map Stp.i).map fun n:Nat=>(n:Int)).Nodup:=by
   rw [bY,gB];exact (bY.mp P.one).imp fun hh e=>hh ⋯
  have:=md (l:=(p.map Stp.i).map fun n:Nat=>(n:Int)) (k:=tk.map fun n:Nat=>(n:Int)) hn fun x hx=>by
   obtain ⟨i,hi,rfl⟩:=bc.mp hx;obtain ⟨s,hs,rfl⟩:=bc.mp hi;exact bc.mpr ⟨_,(P.inn s hs).1,rfl⟩
  rw [aa,aa,aa] at this;lia
structure OB (sp:List Sn)(tk:List Nat)(bs:List (Int×Int)):Prop where
 len:bs.length=sp.length
 out:∀ k,k<sp.length→k ∉ tk→bs.getD k (0,0)=((sAt sp k).l,(sAt sp k).o)
 lo:∀ k,k<sp.length→(sAt sp k).l≤(bs.getD k (0,0)).1∧(bs.getD k (0,0)).1≤(bs.getD k (0,0)).2∧(bs.getD k (0,0)).2≤(sAt sp k).o
def i8 {bs:List (Int×Int)}{k:Nat}{x:Int×Int}(hj:j<bs.length):(bs.set k x).getD j (0,0)=if k=j then x else bs.getD j (0,0):=by
 rw [af]
 by_cases e:k=j
 ·subst e
  rw [dU hj,rO rfl];rfl
 ·rw [dN e,rN e,←af]
def OB.one {bs:List (Int×Int)}{k:Nat}{a:Int}(h:OB sp tk bs)(hk:k∈tk)(hn:k<sp.length)(h1:(bs.getD k (0,0)).1≤a)(h2:a<(bs.getD k (0,0)).2):OB sp tk (kW bs k a):=by
 have l:=h.len;apply ⟨by rw [one_len];exact l,fun j hj hjn=>?_,fun j hj=>?_⟩
 ·unfold kW
  rw [i8 ⋯,rN (fun (z:k=j)=>hjn (z ▸ hk))];exact h.out j hj hjn
 ·unfold kW
  rw [i8 ⋯];have:=h.lo j hj
  by_cases e:k=j
  ·rw [rO e]
   subst e;exact ⟨this.1,h1,by show a≤_;lia⟩
  ·rw [rN e];exact this
def OB.other {bs:List (Int×Int)}{k:Nat}{a:Int}(h:OB sp tk bs)(hk:k∈tk)(hn:k<sp.length)(h1:(bs.getD k (0,0)).1≤a)(h2:a<(bs.getD k (0,0)).2):OB sp tk (eC bs k a):=by
 have l:=h.len;apply ⟨by rw [nX];exact l,fun j hj hjn=>?_,fun j hj=>?_⟩
 ·unfold eC
  rw [i8 ⋯,rN (fun (z:k=j)=>hjn (z ▸ hk))];exact h.out j hj hjn
 ·unfold eC
  rw [i8 ⋯];have:=h.lo j hj
  by_cases e:k=j
  ·rw [rO e]
   subst e;exact ⟨by show _≤a+1;lia,by show a+1≤(bs.getD k (0,0)).2;lia,this.2.2⟩
  ·rw [rN e];exact this
def OB.first {m:Int}(N:kl b m sp)(tk:List Nat):OB sp tk (sp.map fun x=>(x.l,x.o)):=by
 have e:∀ k,k<sp.length→(sp.map fun x=>(x.l,x.o)).getD k (0,0)=((sAt sp k).l,(sAt sp k).o):=fun k hk=>by
  rw [af,ax,jE hk];rfl
 apply ⟨aa ..,fun k hk _=>e k hk,fun k hk=>?_⟩;rw [e k hk];have:=N.all _ (fu hk);exact ⟨fW _,this.lo,fW _⟩
def nj (sp:List Sn)(rg:List (Nat×List Stp)):List (Int×List Stp):=rg.map fun q=>((sAt sp q.1).w,q.2)
structure Fx (b:Int)(tk:List Nat)(rg:List (Nat×List Stp))(bs:List (Int×Int)):Prop where
 fix:∀ k∈tk,(bs.getD k (0,0)).1=(bs.getD k (0,0)).2
 alive:∀ q∈rg,jL b bs q.2=false
structure FF (m:Int)(sp:List Sn)(tk:List Nat)(rg:List (Nat×List Stp)):Prop where
 acy:Pots sp tk
 few:(tk.length:Int)<m
 rk:∀ q∈rg,RK sp tk q
 all:∀ k,k<sp.length→k ∉ tk→∃ r,(k,r)∈rg
 one:(rg.map (·.1)).Nodup
def low_fix {bs:List (Int×Int)}{tk:List Nat}(h:∀ k∈tk,k<bs.length∧(bs.getD k (0,0)).1=(bs.getD k (0,0)).2):∀ (p:List Stp),(∀ s∈p,s.i∈tk∧(s.d=1∨s.d= -1))→gv bs p=alg (fun k=>(bs.getD k (0,0)).1) p∧i3 bs p=alg (fun k=>(bs.getD k (0,0)).1) p
 | [],_=>⟨rfl,rfl⟩
 | s::p,hp=>by
  obtain ⟨i1,i2⟩:=low_fix h p fun t ht=>hp t (ay _ ht)
  obtain ⟨h1,h2⟩:=hp s ∅;obtain ⟨h3,h4⟩:=h s.i h1;have e:bs.getD s.i (0,0)=bs[s.i]:=by rw [af,gE h3];rfl
  have e1:gv bs (s::p)=lowS bs s+gv bs p:=rfl;have e2:i3 bs (s::p)=mI bs s+i3 bs p:=rfl;have f1:lowS bs s=if s.d=1 then bs[s.i].1 else -bs[s.i].2:=by unfold lowS;rw [gE h3]
  have f2:mI bs s=if s.d=1 then bs[s.i].2 else -bs[s.i].1:=by unfold mI;rw [gE h3]
  rw [e] at h4;rw [e1,e2,f1,f2,i1,i2];show _=s.d * (bs.getD s.i (0,0)).1+_∧_=s.d * (bs.getD s.i (0,0)).1+_;rw [e]
  rcases h2 with d1 | d1
  ·rw [d1,rO rfl,rO rfl];lia
  ·rw [d1,rN ↥0,rN ↥0];lia
def pL {bs:List (Int×Int)}{q:Nat×List Stp}(h:RK sp tk q)(O:OB sp tk bs)(fix:∀ k∈tk,(bs.getD k (0,0)).1=(bs.getD k (0,0)).2) :
  ∃ p,q.2=⟨q.1,1⟩::p∧Pth sp tk (sAt sp q.1).g (sAt sp q.1).s p∧gv bs q.2=(sAt sp q.1).l+alg (fun k=>(bs.getD k (0,0)).1) p∧i3 bs q.2=(sAt sp q.1).o+alg (fun k=>(bs.getD k (0,0)).1) p:=by
 obtain ⟨p,e,P⟩:=h.way;have hk:=h.lt;have l:=O.len;obtain ⟨a1,a2⟩:=low_fix (bs:=bs) (tk:=p.map Stp.i) (fun k hk'=>by
  obtain ⟨s,hs,rfl⟩:=bc.mp hk';exact ⟨by rw [l];exact (P.inn s hs).2.1,fix _ (P.inn s hs).1⟩) p fun s hs=>⟨bc.mpr ⟨s,hs,rfl⟩,(P.inn s hs).2.2⟩
 have eb:=O.out q.1 hk h.out;have hb:q.1<bs.length:=by lia
 have e0:bs.getD q.1 (0,0)=bs[q.1]:=by rw [af,gE hb];rfl
 apply ⟨p,e,P,?_,?_⟩
 ·rw [e,show gv bs (⟨q.1,1⟩::p)=lowS bs ⟨q.1,1⟩+gv bs p from rfl,a1]
  congr 1;unfold lowS;show (match bs[q.1]? with | some p=>if (1:Int)=1 then p.1 else -p.2 | none=>0)=_;rw [gE hb];show (if (1:Int)=1 then bs[q.1].1 else _)=_;rw [rO rfl,←e0,eb]
 ·rw [e,show i3 bs (⟨q.1,1⟩::p)=mI bs ⟨q.1,1⟩+i3 bs p from rfl,a2]
  congr 1;unfold mI;show (match bs[q.1]? with | some p=>if (1:Int)=1 then p.2 else -p.1 | none=>0)=_;rw [gE hb];show (if (1:Int)=1 then bs[q.1].2 else _)=_;rw [rO rfl,←e0,eb]
def beat_one {hi:Int}(hb:0<b)(h:upB b lo≤hi / b)(hw:hi - lo<b):upB b lo=hi / b∧lo≤b * upB b lo∧b * upB b lo≤hi:=by
 have e:=iI (-lo) b;have r0:=eI (-lo) (by lia:b≠0);have r1:=dO (-lo) hb;have e':=iI hi b;have r0':=eI hi (by lia:b≠0);have r1':=dO hi hb;unfold upB at h ⊢;generalize -lo / b=u at *;generalize hi / b=v at *;have m1:b * -u= -(b * u):=Int.mul_neg ..;have h2:b * -u≤b * v:=Int.mul_le_mul_of_nonneg_left h ⋯;apply ⟨?_,⋯,⋯⟩
 rcases Int.lt_or_le (-u) v with c | c
 ·have:b * (-u+1)≤b * v:=Int.mul_le_mul_of_nonneg_left ⋯ ⋯
  rw [kI,Int.mul_one] at this;lia
 ·lia
theorem fx_sure {m:Int}{rg:List (Nat×List Stp)}{bs:List (Int×Int)}(N:kl b m sp)(f:FF m sp tk rg)(O:OB sp tk bs)(x:Fx b tk rg bs):LfOk b sp bs (.price (nj sp rg)):=by
 have m2:=N.m2;have fw:=f.few;have tl:tk.length≤15:=by lia
 apply ⟨?_,fun r hr=>?_⟩
 ·show (rg.map _).length≤40
  rw [aa];have hn:((rg.map (·.1)).map fun n:Nat=>(n:Int)).Nodup:=by
   rw [bY,gB];exact (bY.mp f.one).imp fun hh e=>hh ⋯
  have:=md (l:=(rg.map (·.1)).map fun n:Nat=>(n:Int)) (k:=(aJ sp.length).map fun n:Nat=>(n:Int)) hn fun z hz=>by
   obtain ⟨i,hi,rfl⟩:=bc.mp hz;obtain ⟨q,hq,rfl⟩:=bc.mp hi;exact bc.mpr ⟨_,bT.mpr (f.rk q hq).lt,rfl⟩
  rw [aa,aa,aa,aY] at this;have:=N.few;lia
 ·obtain ⟨q,hq,rfl⟩:=bc.mp hr
  have K:=f.rk q hq;have sn:=N.all _ (fu K.lt);apply ⟨K.rg N tl,?_,by have:=sn.w0;show -1000000000000≤(sAt sp q.1).w;lia,sn.w1⟩;obtain ⟨p,e,P,e1,e2⟩:=pL K O x.fix;have al:=x.alive q hq;have al:¬ (upB b (gv bs q.2) > i3 bs q.2 / b):=by
   unfold jL at al
   simpa using al
  show decide (upB b (gv bs q.2)=i3 bs q.2 / b)=true;apply rR (beat_one (by have:=N.b1;lia) ⋯ ?_).1;have:=sn.ob;rw [e1,e2];lia
def alg_pot {sp:List Sn}{tk:List Nat}{y:Nat→Int}{π:Int→Int}(ht:∀ i∈tk,i<sp.length)(hπ:∀ i∈tk,π (sAt sp i).g - π (sAt sp i).s=y i):∀ (p:List Stp) (u z:Int),(∀ s∈p,s.i∈tk∧(s.d=1∨s.d= -1))→oY sp u p z→alg y p=π z - π u
 | [],u,z,_,a=>by
  have a:u=z:=a;subst a;show (0:Int)=_;lia
 | s::p,u,z,hp,a=>by
  obtain ⟨a1,a2⟩:=a;have ih:=alg_pot ht hπ p _ z (fun t h=>hp t (ay _ h)) a2;obtain ⟨h1,h2⟩:=hp s ∅;obtain ⟨f1,f2,f3,f4⟩:=qu (ht s.i h1);have e:=hπ s.i h1;obtain ⟨i,d⟩:=s
  dsimp only at e f1 f2 f3 f4
  have h2:d=1∨d= -1:=h2;show d * y i+alg y p=_;rw [ih,←a1]
  rcases h2 with rfl | rfl
  ·rw [f1,f2];show 1 * y i+_=_;lia
  ·rw [f3,f4];show -1 * y i+_=_;lia
def potT (b:Int)(π:Int→Int)(m:Nat):List Int:=(aJ m).map fun x:Nat=>(π (x:Nat) - π 0) % b
def potT_at {π:Int→Int}{x:Int}(h0:0≤x)(h1:x<m):tm (potT b π m) x=(π x - π 0) % b:=by
 obtain ⟨n,rfl⟩:=cG h0;unfold tm potT;rw [cb,af,ax,fb ⋯];rfl
def wait_pot {π:Int→Int}{x:Sn}(s0:0≤x.s)(s1:x.s<m)(g0:0≤x.g)(g1:x.g<m):iU b (potT b π m) x=(π x.g - π x.s - x.l) % b:=by
 unfold iU;rw [potT_at s0 s1,potT_at g0 g1,rest_two];congr 1;lia
def rest_in {Y l Z:Int}(h0:l≤Y)(h1:Y<l+b):(Y - b * Z - l) % b=Y - l:=by
 rw [show Y - b * Z - l=(Y - l)+b * (-Z) by rw [Int.mul_neg];lia,i7];exact fP ⋯ ⋯
def sg_no {k:Nat}:∀ (p:List Stp),(∀ s∈p,s.i≠k)→sg k p=0
 | [],_=>rfl
 | s::p,h=>by
  show (if s.i=k then s.d else 0)+sg k p=0;rw [rN (h s ∅),sg_no p fun t ht=>h t (ay _ ht)];rfl
def sgR_no {sp:List Sn}{tk:List Nat}{k:Nat}(hk:k ∉ tk):∀ (rg:List (Nat×List Stp)),(∀ q∈rg,RK sp tk q)→k ∉ rg.map (·.1)→sgR k (nj sp rg)=0
 | [],_,_=>rfl
 | q::rg,h,hn=>by
  have ih:=sgR_no hk rg (fun t ht=>h t (ay _ ht)) fun z=>hn (ay _ z)
  show (sAt sp q.1).w * sg k q.2+sgR k (nj sp rg)=0;obtain ⟨p,e,P⟩:=(h q ∅).way;rw [ih,e,sg_no _ fun s hs=>?_,jh];rfl
  rcases aF.mp hs with rfl | hs
  ·exact fun z=>hn (by show k∈q.1::_;rw [show k=q.1 from z.symm];simp)
  ·exact fun z=>hk (z ▸ (P.inn s hs).1)
def sgR_own {sp:List Sn}{tk:List Nat}{k:Nat}(hk:k ∉ tk):∀ (rg:List (Nat×List Stp)),(∀ q∈rg,RK sp tk q)→(rg.map (·.1)).Nodup→k∈rg.map (·.1)→sgR k (nj sp rg)=(sAt sp k).w
 | [],_,_,h=>rQ h ∅
 | q::rg,h,hn,hm=>by
  rw [bM,bz] at hn;show (sAt sp q.1).w * sg k q.2+sgR k (nj sp rg)=_;obtain ⟨p,e,P⟩:=(h q ∅).way;have hp:∀ s∈p,s.i≠k:=fun s hs z=>hk (z ▸ (P.inn s hs).1)
  have e2:sg k q.2=if q.1=k then 1 else 0:=by
   rw [e];show (if q.1=k then (1:Int) else 0)+sg k p=_;rw [sg_no p hp,Int.add_zero]
  rw [e2]
  by_cases c:q.1=k
  ·rw [rO c,c,Int.mul_one,sgR_no hk rg (fun t ht=>h t (ay _ ht)) (c ▸ hn.1),Int.add_zero]
  ·rw [rN c,jh,iq]
   exact sgR_own hk rg (fun t ht=>h t (ay _ ht)) hn.2 ((aF.mp hm).resolve_left fun z=>c z.symm)
theorem pj {b:Nat}:∀ (n:Nat) (ts:List Int),ts.length=n→(∀ x∈ts,0≤x∧x<(b:Int))→ts∈oo b n
 | 0,ts,h,_=>by rw [dJ.mp h];exact aw.mpr rfl
 | n+1,ts,h,hx=>by
  have hne:ts≠[]:=fun z=>by rw [z] at h;cases h
  have e:=List.dropLast_concat_getLast hne;have hd:ts.dropLast∈oo b n:=pj n _ (by rw [List.length_dropLast];lia) fun x h'=>hx x ((List.dropLast_sublist _).subset h')
  obtain ⟨l0,l1⟩:=hx _ (List.getLast_mem hne);obtain ⟨c,hc⟩:=cG l0;apply List.mem_flatMap.mpr ⟨ts.dropLast,hd,bc.mpr ⟨c,bT.mpr ⋯,?_⟩⟩;rw [iq];show ts.dropLast++[((c:Nat):Int)]=ts;rw [show ((c:Nat):Int)=ts.getLast hne from hc.symm];exact e
theorem tight {m:Int}{rg:List (Nat×List Stp)}{bs:List (Int×Int)}(N:kl b m sp)(f:FF m sp tk rg)(O:OB sp tk bs)(x:Fx b tk rg bs) :
  ∃ ts∈oo b.toNat m.toNat,ts.getD 0 0=0∧l9 b ts sp=true∧waitOfM b ts sp=worthM b sp bs (nj sp rg):=by
 have hb:0<b:=by have:=N.b1;lia
 have m1:=N.m1;obtain ⟨ht1,ht2⟩:=f.acy.nodup;obtain ⟨π,hπ⟩:=f.acy.pot fun k=>(bs.getD k (0,0)).1
 have eW:∀ k,k<sp.length→iU b (potT b π m.toNat) (sAt sp k)=(π (sAt sp k).g - π (sAt sp k).s - (sAt sp k).l) % b:=fun k hk=>by
  have s:=N.all _ (fu hk);exact wait_pot s.s0 (by have:=s.s1;lia) s.g0 (by have:=s.g1;lia)
 have key:∀ k,k<sp.length→∃ Y,iU b (potT b π m.toNat) (sAt sp k)=Y - (sAt sp k).l∧(bs.getD k (0,0)).1≤Y∧Y≤(bs.getD k (0,0)).2:=fun k hk=>by
  have s:=N.all _ (fu hk);have lo:=O.lo k hk
  by_cases c:k∈tk
  ·have e:=hπ k c
   have fx:=x.fix k c;apply ⟨(bs.getD k (0,0)).1,?_,fW _,⋯⟩;rw [eW k hk,show π (sAt sp k).g - π (sAt sp k).s - (sAt sp k).l=(bs.getD k (0,0)).1 - b * 0 - (sAt sp k).l by rw [jh];lia];exact rest_in lo.1 (by have:=s.ob;lia)
  ·obtain ⟨r,hr⟩:=f.all k hk c
   have K:=f.rk _ hr;obtain ⟨p,e,P,e1,e2⟩:=pL K O x.fix;have al:=x.alive _ hr;have al:¬ (upB b (gv bs r) > i3 bs r / b):=by unfold jL at al;simpa using al
   obtain ⟨_,z1,z2⟩:=beat_one hb (lo:=gv bs r) (hi:=i3 bs r) ⋯ (by
    have e1:gv bs r=_:=e1;have e2:i3 bs r=_:=e2;have:=s.ob;rw [e1,e2];show (sAt sp k).o+_ - ((sAt sp k).l+_)<b;lia)
   have ea:=alg_pot ht2 hπ p _ _ (fun s hs=>⟨(P.inn s hs).1,(P.inn s hs).2.2⟩) P.alo;have e1:gv bs r=(sAt sp k).l+alg (fun k=>(bs.getD k (0,0)).1) p:=e1;have e2:i3 bs r=(sAt sp k).o+alg (fun k=>(bs.getD k (0,0)).1) p:=e2;have ea:alg (fun k=>(bs.getD k (0,0)).1) p=π (sAt sp k).s - π (sAt sp k).g:=ea;have eo:=O.out k hk c;rw [eo];apply ⟨b * upB b (gv bs r) - alg (fun k=>(bs.getD k (0,0)).1) p,?_,by show (sAt sp k).l≤_;lia,by show _≤(sAt sp k).o;lia⟩;rw [eW k hk];have hs:=s.ob;have:=rest_in (b:=b) (Y:=b * upB b (gv bs r) - alg (fun k=>(bs.getD k (0,0)).1) p) (l:=(sAt sp k).l) (Z:=upB b (gv bs r)) ⋯ ⋯;rw [←this];congr 1;lia
 have lay:∀ k,k<sp.length→kF b (potT b π m.toNat) sp k=(sAt sp k).l+iU b (potT b π m.toNat) (sAt sp k):=fun k hk=>by
  unfold kF;rw [jE hk]
 have hin:InB (kF b (potT b π m.toNat) sp) bs:=fun k hk=>by
  have hk:k<sp.length:=by rw [←O.len];exact hk
  obtain ⟨Y,e,y1,y2⟩:=key k hk;rw [lay k hk,e]
  constructor <;> lia
 apply ⟨potT b π m.toNat,pj _ _ (by unfold potT;rw [aa,aY]) (fun z hz=>?_),?_,?_,?_⟩
 ·obtain ⟨i,_,rfl⟩:=bc.mp hz
  have h0:=eI (π (i:Nat) - π 0) (by lia:b≠0);have h1:=dO (π (i:Nat) - π 0) hb;exact ⟨h0,⋯⟩
 ·have:=potT_at (b:=b) (π:=π) (m:=m.toNat) (x:=0) (fW 0) ⋯
  rw [Int.sub_self,Int.zero_emod] at this;exact this
 ·unfold l9
  rw [jW,jV];intro s hs;obtain ⟨k,hk,rfl⟩:=cn hs;have eA:sAt sp k=sp[k]:=by unfold sAt;rw [af,gE hk];rfl
  obtain ⟨Y,e,y1,y2⟩:=key k hk;have:=(O.lo k hk).2.2;rw [eA] at e this;unfold brk;rw [rS ⋯];exact aZ
 ·have rok:∀ r∈nj sp rg,RowOk b sp bs r:=(fx_sure N f O x).2
  have rw1:∀ r∈nj sp rg,RwOk sp.length r:=fun r hh=>by
   have q:=rok r hh;exact ⟨q.1.inn,q.1.one,q.1.few,q.2.2.1,q.2.2.2⟩
  have e1:=rows_in hb O.len hin _ rok;have e2:=sum_sgR (y:=kF b (potT b π m.toNat) sp) (n:=sp.length) (nj sp rg) fun r hh s hs=>((rw1 r hh).inn s hs).1
  unfold worthM;rw [qT,←e1,←e2,wait_sum,←o8];apply ku _ fun k hk=>?_
  unfold termW;have eo:=owK_sg hk rw1;have hl:=hin k (by rw [O.len];exact hk);have ew:wOf sp k=(sAt sp k).w:=by unfold wOf;rw [jE hk]
  have keyo:owK sp (nj sp rg) k * (if owK sp (nj sp rg) k<0 then (bs.getD k (0,0)).2 else (bs.getD k (0,0)).1)=owK sp (nj sp rg) k * kF b (potT b π m.toNat) sp k:=by
   by_cases c:k∈tk
   ·have fx:=x.fix k c
    have e:kF b (potT b π m.toNat) sp k=(bs.getD k (0,0)).1:=by lia
    rw [e];split
    ·rw [←fx]
    ·rfl
   ·have z:owK sp (nj sp rg) k=0:=by
     obtain ⟨r,hr⟩:=f.all k hk c;rw [eo,ew,sgR_own c rg f.rk f.one (bc.mpr ⟨_,hr,rfl⟩),Int.sub_self]
    rw [z,gM,gM]
  have ex:owK sp (nj sp rg) k * kF b (potT b π m.toNat) sp k=wOf sp k * kF b (potT b π m.toNat) sp k - sgR k (nj sp rg) * kF b (potT b π m.toNat) sp k:=by rw [eo,Int.sub_mul]
  lia
def jD (m:Nat)(sp:List Sn)(l:List Nat):Prop:=oN m sp (l.map fun (i:Nat)=>(i:Int))∧∃ π,Ordd sp π∧l.Perm (lg sp m π).2
def qc:∀ {l k:List Nat},l.map (fun (i:Nat)=>(i:Int))=k.map (fun (i:Nat)=>(i:Int))→l=k
 | [],[],_=>rfl
 | [],_::_,h=>by cases h
 | _::_,[],h=>by cases h
 | a::l,b::k,h=>by
  rw [bM,bM] at h;injection h with h1 h2
  have h1:a=b:=by lia
  rw [h1,qc h2]
def jD.one {k:List Nat}(a:jD m sp l)(b:jD m sp k):l=k:=qc (oN.one a.1 b.1)
def jD.gd (E:lE m sp)(a:jD m sp l):∃ gs tk,Gd m sp gs tk∧l.Perm tk∧∀ i,i<sp.length→tm gs (sAt sp i).s=tm gs (sAt sp i).g:=by
 obtain ⟨_,π,O,pm⟩:=a;apply ⟨(lg sp m π).1,(lg sp m π).2,Gd.fold E π _ _ (fun i hi=>O.lt hi) (Gd.start m sp),pm,fun i hi=>?_⟩;exact mS E π (ke m) [] (kO _) (fun i hi=>O.lt hi) i (O.1.mem_iff.mpr (bT.mpr hi))
def jD.pots (E:lE m sp)(a:jD m sp l):Pots sp l:=by
 obtain ⟨gs,tk,g,p,_⟩:=a.gd E;exact g.acy.pots.perm p
def jD.few (E:lE m sp)(h:0<m)(a:jD m sp l):l.length<m:=by
 obtain ⟨gs,tk,g,p,_⟩:=a.gd E;rw [p.length_eq];exact g.few h
def jD.held (E:lE m sp)(a:jD m sp l){k:Nat}(hk:k<sp.length):rM sp l (sAt sp k).s (sAt sp k).g:=by
 obtain ⟨gs,tk,g,p,me⟩:=a.gd E;obtain ⟨s0,s1,g0,g1⟩:=E _ (fu hk);exact (g.held _ _ s0 s1 g0 g1 (me k hk)).more fun i hi=>p.mem_iff.mpr hi
def pX (sp:List Sn)(tk:List Nat):List Nat:=(aJ sp.length).filter fun k=> !(decide (k∈tk))
structure FR (m:Int)(sp:List Sn)(l:List Nat)(rg:List (Nat×List Stp)):Prop where
 fr:jD m.toNat sp l
 rk:∀ q∈rg,RK sp l q
 ks:rg.map (·.1)=pX sp l
theorem FR.ff {m:Int}{rg:List (Nat×List Stp)}(N:kl b m sp)(a:FR m sp l rg):FF m sp l rg:=by
 have m1:=N.m1;apply ⟨a.fr.pots N.ends,by have:=a.fr.few N.ends ⋯;lia,a.rk,fun k hk hn=>?_,?_⟩
 ·have:k∈rg.map (·.1):=by
   rw [a.ks];exact cp.mpr ⟨bT.mpr hk,by rw [rS hn];rfl⟩
  obtain ⟨q,hq,rfl⟩:=bc.mp this;exact ⟨q.2,hq⟩
 ·rw [a.ks]
  exact List.nodup_range.filter _
def wayQ (q:Nat×List Stp):Dt:=oW q.2
def i4 (k:Nat)(q:Nat×List Stp):Bool:=decide (k∈q.2.map Stp.i)
def Tb.lamT {T:ak}(h:L2.LamT T lp lq H)(e:L2.Tb T H H'):kg H H':=Tb.tupK (LamT.tbl h) e
inductive spRingsO (T:ak)(lp:Pos)(lq:Str)(vs:List V)(H:Hp)(Q:VK)(_:XK):Prop
 | mk (v:V)(b m:Int)(sp:List Sn)(_:vs=[v])(_:IsD H v (jX b m sp))(_:kl b m sp)(_:L2.LamT T lp lq H)(_:∀ (L:ak) (rl:List V) (l:List Nat) (rg:List (Nat×List Stp)) (H':Hp),L2.Tb T H H'→L2.LamT T lp lq H'→H L=none→H' L=some (.lst rl)→dW H' rl (rg.map wayQ)→FR m sp l rg→Q (.ref L) H')
inductive spOverR (vs:List V)(H:Hp)(Q:VK)(_:XK):Prop
 | mk (u:ak)(k:Nat)(rl:List V)(rg:List (Nat×List Stp))(_:vs=[.ref u,.int (k:Nat)])(_:H u=some (.lst rl))(_:dW H rl (rg.map wayQ))(_:rg.length≤40)(_:(∀ q∈rg,q.2.length≤1000))(_:∀ (L:ak) (rl':List V) (H':Hp),bG H H'→H L=none→H' L=some (.lst rl')→dW H' rl' ((rg.filter (i4 k)).map wayQ)→Q (.ref L) H')
structure CsD (H:Hp)(c:ak)(bs:List (Int×Int))(rs:List (Nat×List Stp)):Prop where
 ex:∃ vb u rl,H c=some (.tup [vb,.ref u])∧IsD H vb (bndP bs)∧H u=some (.lst rl)∧dW H rl (rs.map wayQ)
def CsD.same {c:ak}{bs:List (Int×Int)}(a:CsD H c bs rs)(e:bG H H'):CsD H' c bs rs:=by
 obtain ⟨vb,u,rl,h1,h2,h3,h4⟩:=a.ex;exact ⟨vb,u,rl,e _ _ h1,h2.same e,e _ _ h3,h4.same e⟩
inductive spMid (vs:List V)(H:Hp)(Q:VK)(_:XK):Prop
 | mk (c:ak)(k:Nat)(bs:List (Int×Int))(rs:List (Nat×List Stp))(_:vs=[.ref c,.int (k:Nat)])(_:CsD H c bs rs)(_:k<bs.length)(_:Q (.int (((bs.getD k (0,0)).1+(bs.getD k (0,0)).2) / 2)) H)
inductive spDeadL (vs:List V)(H:Hp)(Q:VK)(_:XK):Prop
 | mk (v:V)(c:ak)(b m:Int)(sp:List Sn)(bs:List (Int×Int))(rs:List (Nat×List Stp))(_:vs=[v,.ref c])(_:IsD H v (jX b m sp))(_:0<b)(_:b<10 ^ 61)(_:CsD H c bs rs)(_:rs.length≤40)(_:(∀ q∈rs,qP bs.length q.2))(_:∀ r H',bG H H'→((r= .non∧∀ q∈rs,jL b bs q.2=false)∨∃ q∈rs,IsD H' r (leafP (.ring q.2))∧jL b bs q.2=true)→Q r H')
inductive Spr (sp:List Sn):List Stp→Prop where
 | nil:Spr sp []
 | snoc {S:List Stp} {s:Stp} (h:Spr sp S) (n:fc sp s≠kU sp s) (o:∀ t∈S,fc sp s≠fc sp t∧fc sp s≠kU sp t):Spr sp (S++[s])
structure SI (m:Nat)(sp:List Sn)(tk:List Nat)(ex:Int→Prop)(R A:List Int)(S:List Stp):Prop where
 rng:∀ r∈R,0≤r∧r<(m:Int)
 nd:R.Nodup
 ahd:∀ a∈A,a∈R
 inn:∀ s∈S,s.i∈tk∧(s.d=1∨s.d= -1)∧kU sp s∈R∧fc sp s∈R
 spr:Spr sp S
 len:S.length≤R.length
 clo:∀ z∈R,z ∉ A→¬ ex z→∀ s∈dM sp tk z,s.i∈S.map Stp.i
 con:∀ π:Int→Int,(∀ s∈S,π (kU sp s)=π (fc sp s))→∀ a c,(a∈A∨ex a)→(c∈A∨ex c)→π a=π c
def exN:Int→Prop:=fun _=>False
section
variable {R A:List Int}
def SI.start:SI m sp tk exN [] [] [] :=
 ⟨fun _ h=>(by cases h),jS,fun _ h=>(by cases h),fun _ h=>(by cases h),.nil,az _,fun _ h=>(by cases h),fun _ _ a c h=>(by rcases h with h | h;cases h;cases h)⟩
def SI.root {x:Int}(h:SI m sp tk exN R [] S)(hx:x ∉ R)(x0:0≤x)(x1:x<(m:Int)):SI m sp tk exN (R++[x]) [x] S:=by
 apply ⟨fun r hr=>?_,jT.mpr ⟨h.nd,∅,fun a ha c hc e=>?_⟩,fun a ha=>aA _ ha,fun s hs=>?_,h.spr,by rw [au];exact Nat.le_succ_of_le h.len,fun z hz hn ex=>?_,fun π _ a c ha hc=>?_⟩
 ·rcases aH.mp hr with z | z
  ·exact h.rng r z
  ·rw [aw.mp z];exact ⟨x0,x1⟩
 ·rw [aw.mp hc] at e
  exact hx (e ▸ ha)
 ·obtain ⟨a,b,c,d⟩:=h.inn s hs
  exact ⟨a,b,aK _ c,aK _ d⟩
 ·rcases aH.mp hz with y | y
  ·exact h.clo z y ∅ ex
  ·exact rQ y hn
 ·rcases ha with ha | ha
  ·rcases hc with hc | hc
   ·rw [aw.mp ha,aw.mp hc]
   ·exact hc.elim
  ·exact ha.elim
def SI.pop {x:Int}(h:SI m sp tk exN R (A++[x]) S):SI m sp tk (· =x) R A S∧x∈R:=by
 apply ⟨⟨h.rng,h.nd,fun a ha=>h.ahd a (aK _ ha),h.inn,h.spr,h.len,fun z hz hn ex=>?_,fun π hπ a c ha hc=>?_⟩,h.ahd x ∅⟩
 ·apply h.clo z hz (fun y=>?_) id
  rcases aH.mp y with y | y
  ·exact hn y
  ·exact ex (aw.mp y)
 ·have up:∀ a:Int,(a∈A∨a=x)→a∈A++[x]∨exN a:=fun a ha=> .inl (ha.elim (fun z=>aK _ z) fun z=>by rw [z];simp)
  exact h.con π hπ a c (up a ha) (up c hc)
def oz {x:Int}{s:Stp}(h:s∈dM sp tk x):(s.i∈tk∧(s.d=1∨s.d= -1))∧kU sp s=x :=
 ⟨mem_stF (cp.mp h).1,rT (cp.mp h).2⟩
def pN {x:Int}(h:i∈tk)(hd:d=1∨d= -1)(e:kU sp ⟨i,d⟩=x):(⟨i,d⟩:Stp)∈dM sp tk x:=by
 apply cp.mpr ⟨?_,rR e⟩;unfold stF
 rcases hd with rfl | rfl
 ·exact aK _ (bc.mpr ⟨i,h,rfl⟩)
 ·exact aA _ (bc.mpr ⟨i,h,rfl⟩)
def SI.add {x:Int}{s:Stp}(E:lE m sp)(ht:∀ i∈tk,i<sp.length)(h:SI m sp tk (· =x) R A S)(hx:x∈R)(hs:s∈dM sp tk x)(hn:fc sp s ∉ R):SI m sp tk (· =x) (R++[fc sp s]) (A++[fc sp s]) (S++[s]):=by
 obtain ⟨⟨h1,h2⟩,h3⟩:=oz hs;apply ⟨fun r hr=>?_,jT.mpr ⟨h.nd,∅,fun a ha c hc e=>?_⟩,fun a ha=>?_,fun t hT=>?_,.snoc h.spr (fun z=>hn (by rw [z,h3];exact hx)) (fun t hT=>⟨fun z=>hn (by rw [z];exact (h.inn t hT).2.2.2),fun z=>hn (by rw [z];exact (h.inn t hT).2.2.1)⟩),by rw [au,au];exact Nat.succ_le_succ h.len,fun z hz hz' ex t hT=>?_,fun π hπ=>?_⟩
 ·rcases aH.mp hr with z | z
  ·exact h.rng r z
  ·rw [aw.mp z];exact jP E (ht _ h1)
 ·rw [aw.mp hc] at e
  exact hn (e ▸ ha)
 ·rcases aH.mp ha with z | z
  ·exact aK _ (h.ahd a z)
  ·exact aA _ z
 ·rcases aH.mp hT with z | z
  ·obtain ⟨a,b,c,d⟩:=h.inn t z
   exact ⟨a,b,aK _ c,aK _ d⟩
  ·rw [aw.mp z]
   exact ⟨h1,h2,aK _ (h3 ▸ hx),∅⟩
 ·rw [aE]
  apply aK _ ?_
  rcases aH.mp hz with y | y
  ·exact h.clo z y (fun y'=>hz' (aK _ y')) ex t hT
  ·exact rQ (aA _ y) hz'
 ·have old:∀ t∈S,π (kU sp t)=π (fc sp t):=fun t hT=>hπ t (aK _ hT)
  have new:π (fc sp s)=π x:=by rw [←hπ s ∅,h3]
  have one:∀ a:Int,(a∈A++[fc sp s]∨a=x)→π a=π x:=fun a ha=>by
   rcases ha with ha | ha
   ·rcases aH.mp ha with z | z
    ·exact h.con π old a x (.inl z) (.inr rfl)
    ·rw [aw.mp z,new]
   ·rw [ha]
  exact fun a c ha hc=>(one a ha).trans (one c hc).symm
def SI.has {x:Int}{s:Stp}(P:Pots sp tk)(ne:∀ i∈tk,(sAt sp i).s≠(sAt sp i).g)(h:SI m sp tk (· =x) R A S)(hs:s∈dM sp tk x)(hn:fc sp s∈R):s.i∈S.map Stp.i:=by
 obtain ⟨⟨h1,h2⟩,h3⟩:=oz hs;have lt:=P.nodup.2 _ h1;obtain ⟨f1,f2,f3,f4⟩:=qu lt;have hne:=ne _ h1;obtain ⟨i,d⟩:=s;have h2:d=1∨d= -1:=h2;show i∈_;have h1:i∈tk:=h1;have f1:kU sp ⟨i,1⟩=(sAt sp i).s:=f1;have f2:fc sp ⟨i,1⟩=(sAt sp i).g:=f2;have f3:kU sp ⟨i,-1⟩=(sAt sp i).g:=f3;have f4:fc sp ⟨i,-1⟩=(sAt sp i).s:=f4;have hne:(sAt sp i).s≠(sAt sp i).g:=hne
 by_cases c:fc sp ⟨i,d⟩∈A
 ·apply e7 fun no=>?_
  obtain ⟨π,hπ⟩:=P.pot fun k=>if k=i then 1 else 0
  have e:=h.con π (fun t hT=>by
   obtain ⟨t1,t2,_⟩:=h.inn t hT;have e:=hπ _ t1;rw [rN (fun z=>no (bc.mpr ⟨t,hT,z⟩))] at e;obtain ⟨g1,g2,g3,g4⟩:=qu (P.nodup.2 _ t1);obtain ⟨j,dj⟩:=t;have t2:dj=1∨dj= -1:=t2
   dsimp only at e g1 g2 g3 g4
   rcases t2 with rfl | rfl
   ·rw [g1,g2];lia
   ·rw [g3,g4];lia) _ x (.inl c) (.inr rfl)
  have y:=hπ i h1;rw [rO rfl] at y;rw [←h3] at e
  rcases h2 with rfl | rfl
  ·rw [f1,f2] at e
   dsimp only at e y
   lia
  ·rw [f3,f4] at e
   dsimp only at e y
   lia
 ·rcases h2 with rfl | rfl
  ·rw [f2] at hn c
   exact h.clo _ hn c (fun z=>hne (by rw [←f1,h3];exact z.symm)) ⟨i,-1⟩ (pN h1 (.inr rfl) f3)
  ·rw [f4] at hn c
   exact h.clo _ hn c (fun z=>hne (by rw [←f3,h3];exact z)) ⟨i,1⟩ (pN h1 (.inl rfl) f1)
def SI.done {x:Int}(h:SI m sp tk (· =x) R A S)(a:∀ s∈dM sp tk x,s.i∈S.map Stp.i):SI m sp tk exN R A S:=by
 apply ⟨h.rng,h.nd,h.ahd,h.inn,h.spr,h.len,fun z hz hn _=>?_,fun π hπ a c ha hc=>h.con π hπ a c (.inl (ha.elim id cT)) (.inl (hc.elim id cT))⟩
 by_cases e:z=x
 ·rw [e];exact a
 ·exact h.clo z hz hn e
theorem SI.few (h:SI m sp tk exN R A S):R.length≤m:=by
 have:=md (k:=(aJ m).map fun i:Nat=>(i:Int)) h.nd fun x hx=>by
  obtain ⟨a,b⟩:=h.rng x hx;exact bc.mpr ⟨x.toNat,bT.mpr ⋯,⋯⟩
 rwa [aa,aY] at this
theorem SI.fewX {x:Int}(h:SI m sp tk (· =x) R A S):R.length≤m:=by
 have:=md (k:=(aJ m).map fun i:Nat=>(i:Int)) h.nd fun x hx=>by
  obtain ⟨a,b⟩:=h.rng x hx;exact bc.mpr ⟨x.toNat,bT.mpr ⋯,⋯⟩
 rwa [aa,aY] at this
end
structure SprOk (m:Nat)(sp:List Sn)(tk:List Nat)(S:List Stp):Prop where
 spr:Spr sp S
 inn:∀ s∈S,s.i∈tk∧(s.d=1∨s.d= -1)
 all:∀ i∈tk,i∈S.map Stp.i
 len:S.length≤m
theorem SI.ok {R:List Int}(E:lE m sp)(ht:∀ i∈tk,i<sp.length)(h:SI m sp tk exN R [] S)(a:∀ x:Nat,x<m→(x:Int)∈R):SprOk m sp tk S:=by
 apply ⟨h.spr,fun s hs=>⟨(h.inn s hs).1,(h.inn s hs).2.1⟩,fun i hi=>?_,aN h.len h.few⟩;obtain ⟨s0,s1,_,_⟩:=E _ (fu (ht i hi));obtain ⟨f1,_⟩:=qu (ht i hi);have:=a (sAt sp i).s.toNat ⋯;rw [show (((sAt sp i).s.toNat:Nat):Int)=(sAt sp i).s by lia] at this;exact h.clo _ this ∅ id ⟨i,1⟩ (pN hi (.inl rfl) f1)
def setT (sp:List Sn)(y:Nat→Int)(ts:List Int)(s:Stp):List Int:=ts.set (fc sp s).toNat (tm ts (kU sp s)+s.d * y s.i)
def kr (sp:List Sn)(y:Nat→Int)(m:Nat)(S:List Stp):List Int:=S.foldl (setT sp y) (bx m 0)
def mK {sp:List Sn}{y:Nat→Int}{m:Nat}:∀ (S:List Stp) (ts:List Int),(S.foldl (setT sp y) ts).length=ts.length
 | [],_=>rfl
 | s::S,ts=>by
  rw [bV,mK (m:=m) S];exact fj
theorem mW {x v:Int}(x0:0≤x)(x1:x<ts.length)(z0:0≤z):tm (ts.set x.toNat v) z=if z=x then v else tm ts z:=by
 unfold tm;rw [af,af]
 by_cases e:z=x
 ·rw [rO e,e,dU ⋯];rfl
 ·rw [rN e,dN ⋯]
def nQ {s:Stp}(h:s.i<sp.length):too (sAt sp s.i) s.d=fc sp s∧frm (sAt sp s.i) s.d=kU sp s:=by
 have e:sAt sp s.i=sp[s.i]:=by unfold sAt;rw [af,gE h];rfl
 rw [e];exact ⟨(lH h).symm,(nF h).symm⟩
theorem timesS_ok {y:Nat→Int}(E:lE m sp)(h:Spr sp S):(∀ s∈S,s.i<sp.length)→∀ s∈S,tm (kr sp y m S) (fc sp s)=tm (kr sp y m S) (kU sp s)+s.d * y s.i:=by
 induction h with
 | nil=>exact fun _ s hs=>by cases hs
 | snoc h n o ih =>
  rename_i S s;intro hl t ht;have hl':∀ t∈S,t.i<sp.length:=fun t h'=>hl t (aK _ h')
  have frm_rng:∀ t:Stp,t.i<sp.length→0≤kU sp t:=fun t h'=>by
   have e:=(nQ h').2;obtain ⟨a,b,c,d⟩:=E _ (fu h');rw [←e];unfold frm;split <;> lia
  have e:kr sp y m (S++[s])=setT sp y (kr sp y m S) s:=by unfold kr;rw [cR];rfl
  have hs:s.i<sp.length:=hl s ∅;obtain ⟨x0,x1⟩:=jP E hs;have len:(kr sp y m S).length=m:=by unfold kr;rw [mK (m:=m),dI]
  rw [e];unfold setT
  rcases aH.mp ht with z | z
  ·rw [mW x0 ⋯ (jP E (hl' t z)).1,mW x0 ⋯ (frm_rng t (hl' t z)),rN (fun q=>(o t z).1 q.symm),rN (fun q=>(o t z).2 q.symm)]
   exact ih hl' t z
  ·rw [aw.mp z,mW x0 ⋯ x0,mW x0 ⋯ (frm_rng s hs),rO rfl,rN (fun q=>n q.symm)]
def SprOk.pot (E:lE m sp)(ht:∀ i∈tk,i<sp.length)(h:SprOk m sp tk S)(y:Nat→Int):∀ i∈tk,tm (kr sp y m S) (sAt sp i).g - tm (kr sp y m S) (sAt sp i).s=y i:=fun i hi=>by
 obtain ⟨s,hs,rfl⟩:=bc.mp (h.all i hi);have e:=timesS_ok (y:=y) E h.spr (fun t hT=>ht _ (h.inn t hT).1) s hs;obtain ⟨f1,f2,f3,f4⟩:=qu (ht _ hi);have hd:=(h.inn s hs).2;obtain ⟨i,d⟩:=s
 dsimp only at e f1 f2 f3 f4 hd ⊢
 rcases hd with rfl | rfl
 ·rw [f1,f2] at e;lia
 ·rw [f3,f4] at e;lia
def lowB (bs:List (Int×Int))(k:Nat):Int:=(bs.getD k (0,0)).1
def tabOf (b:Int)(sp:List Sn)(bs:List (Int×Int))(m:Nat)(S:List Stp):List Int:=(kr sp (lowB bs) m S).map (· % b)
abbrev Cse:=List (Int×Int)×List (Nat×List Stp)
def wdB (bs:List (Int×Int))(k:Nat):Nat:=((bs.getD k (0,0)).2 - (bs.getD k (0,0)).1+1).toNat
def prdN:List Nat→Nat
 | []=>1
 | x::l=>x * prdN l
def fI (bs:List (Int×Int))(l:List Nat):Nat:=prdN (l.map (wdB bs))
def nV {f g:Nat→Nat}:∀ (l:List Nat),(∀ j∈l,f j=g j)→prdN (l.map f)=prdN (l.map g)
 | [],_=>rfl
 | j::l,h=>by
  show f j * _=g j * _;rw [h j ∅,nV l fun i hi=>h i (ay _ hi)]
def rd {f g h:Nat→Nat}{k:Nat}(e:f k=g k+h k):∀ (l:List Nat),l.Nodup→k∈l→(∀ j∈l,j≠k→f j=g j∧f j=h j)→prdN (l.map f)=prdN (l.map g)+prdN (l.map h)
 | [],_,hk,_=>rQ hk ∅
 | j::l,nd,hk,hh=>by
  rw [bz] at nd;show f j * _=g j * _+h j * _
  by_cases c:j=k
  ·subst c
   have ne:∀ i∈l,i≠j:=fun i hi z=>nd.1 (z ▸ hi)
   rw [←nV (f:=f) (g:=g) l fun i hi=>(hh i (ay _ hi) (ne i hi)).1,←nV (f:=f) (g:=h) l fun i hi=>(hh i (ay _ hi) (ne i hi)).2,e,Nat.add_mul]
  ·obtain ⟨a1,a2⟩:=hh j ∅ c
   rw [rd e l nd.2 ((aF.mp hk).resolve_left fun z=>c z.symm) fun i hi=>hh i (ay _ hi),Nat.mul_add,←a1,←a2]
def prdN_pos {f:Nat→Nat}:∀ (l:List Nat),(∀ j∈l,0<f j)→0<prdN (l.map f)
 | [],_=>Nat.one_pos
 | j::l,h=>Nat.mul_pos (h j ∅) (prdN_pos l fun i hi=>h i (ay _ hi))
theorem jr {bs:List (Int×Int)}(O:OB sp l bs)(hl:∀ k∈l,k<sp.length):0<fI bs l:=prdN_pos l fun j hj=>by
 have:=O.lo j (hl j hj);unfold wdB;lia
theorem nq {bs:List (Int×Int)}{k:Nat}{a:Int}(O:OB sp l bs)(nd:l.Nodup)(hl:∀ k∈l,k<sp.length)(hk:k∈l)(h1:(bs.getD k (0,0)).1≤a)(h2:a<(bs.getD k (0,0)).2):fI bs l=fI (kW bs k a) l+fI (eC bs k a) l:=by
 have hb:=O.len;have hkl:=hl k hk;apply rd ?_ l nd hk fun j hj hn=>?_
 ·unfold wdB kW eC
  rw [i8 ⋯,i8 ⋯,rO rfl,rO rfl];show _=(a - _+1).toNat+(_ - (a+1)+1).toNat;lia
 ·have hjl:=hl j hj
  unfold wdB kW eC;rw [i8 ⋯,i8 ⋯,rN (cH hn),rN (cH hn)];exact ⟨rfl,rfl⟩
theorem lO {sp:List Sn}:∀ (l:List Nat),(∀ k∈l,k<sp.length)→(∀ x∈sp,x.l≤x.o)→((fI (sp.map fun x=>(x.l,x.o)) l:Nat):Int)=k5 sp l
 | [],_,_=>rfl
 | k::l,h,p=>by
  have ih:=lO l (fun j hj=>h j (ay _ hj)) p;rw [oG,←ih];show ((wdB _ k * fI _ l:Nat):Int)=_;have hk:=h k ∅;have e:(sp.map fun x=>(x.l,x.o)).getD k (0,0)=((sAt sp k).l,(sAt sp k).o):=by rw [af,ax,jE hk];rfl
  have q:=p _ (fu hk);have e2:((wdB (sp.map fun x=>(x.l,x.o)) k:Nat):Int)=(wkey sp k).1+1:=by
   unfold wdB;rw [e];show (((sAt sp k).o - (sAt sp k).l+1).toNat:Int)=(sAt sp k).o - (sAt sp k).l+1;lia
  rw [←e2];exact Int.natCast_mul _ _
structure j5 (b:Int)(sp:List Sn)(l:List Nat)(rg:List (Nat×List Stp))(c:Cse):Prop where
 ob:OB sp l c.1
 sub:∀ q∈c.2,q∈rg
 few:c.2.length≤40
 alive:∀ q∈rg,q ∉ c.2→jL b c.1 q.2=false
def low_set {bs:List (Int×Int)}{k:Nat}{x:Int×Int}:∀ (ws:List Stp),k ∉ ws.map Stp.i→gv (bs.set k x) ws=gv bs ws∧i3 (bs.set k x) ws=i3 bs ws
 | [],_=>⟨rfl,rfl⟩
 | s::ws,h=>by
  obtain ⟨i1,i2⟩:=low_set (x:=x) ws fun z=>h (ay _ z)
  have hs:k≠s.i:=fun z=>h (by rw [z];simp)
  have e:(bs.set k x)[s.i]? =bs[s.i]? := dN hs
  constructor
  ·show lowS _ s+gv _ ws=lowS _ s+gv _ ws
   rw [i1];congr 1;unfold lowS;rw [e]
  ·show mI _ s+i3 _ ws=mI _ s+i3 _ ws
   rw [i2];congr 1;unfold mI;rw [e]
def dead_set {bs:List (Int×Int)}{k:Nat}{x:Int×Int}{q:Nat×List Stp}(h:i4 k q=false):jL b (bs.set k x) q.2=jL b bs q.2:=by
 obtain ⟨a1,a2⟩:=low_set (bs:=bs) (x:=x) q.2 (of_decide_eq_false h);unfold jL;rw [a1,a2]
def j5.cut {rg:List (Nat×List Stp)}{c:Cse}(C:j5 b sp l rg c)(lrg:rg.length≤40)(hl:∀ k∈l,k<sp.length)(al:∀ q∈c.2,jL b c.1 q.2=false){k:Nat}{a:Int}(hk:k∈l)(h1:(c.1.getD k (0,0)).1≤a)(h2:a<(c.1.getD k (0,0)).2) :
  j5 b sp l rg (eC c.1 k a,rg.filter (i4 k))∧j5 b sp l rg (kW c.1 k a,rg.filter (i4 k)):=by
 have sub:∀ q∈rg.filter (i4 k),q∈rg:=fun q hq=>(cp.mp hq).1
 have few:(rg.filter (i4 k)).length≤40:=aN (cX _ _) lrg;have all:∀ q∈rg,jL b c.1 q.2=false:=fun q hq=>by
  by_cases z:q∈c.2
  ·exact al q z
  ·exact C.alive q hq z
 have out:∀ q∈rg,q ∉ rg.filter (i4 k)→i4 k q=false:=fun q hq hn=>lV.mpr fun z=>hn (cp.mpr ⟨hq,z⟩)
 exact ⟨⟨C.ob.other hk (hl k hk) h1 h2,sub,few,fun q hq hn=>(dead_set (out q hq hn)).trans (all q hq)⟩,⟨C.ob.one hk (hl k hk) h1 h2,sub,few,fun q hq hn=>(dead_set (out q hq hn)).trans (all q hq)⟩⟩
def dead_none {bs:List (Int×Int)}(hb:0<b)(hl:bs.length=sp.length)(h:InB (kF b ts sp) bs)(hr:Rg sp ws):jL b bs ws=false:=by
 obtain ⟨Z,_,z1,z2⟩:=ring_in hb hl h hr;unfold jL;exact rS ⋯
theorem key_pot {m:Int}{rg:List (Nat×List Stp)}{bs:List (Int×Int)}(N:kl b m sp)(f:FF m sp tk rg)(O:OB sp tk bs)(x:Fx b tk rg bs){π:Int→Int}(hπ:∀ i∈tk,π (sAt sp i).g - π (sAt sp i).s=(bs.getD i (0,0)).1)
  (eW:∀ k,k<sp.length→iU b ts (sAt sp k)=(π (sAt sp k).g - π (sAt sp k).s - (sAt sp k).l) % b):∀ k,k<sp.length→(bs.getD k (0,0)).1≤kF b ts sp k∧kF b ts sp k≤(bs.getD k (0,0)).2:=fun k hk=>by
 have hb:0<b:=by have:=N.b1;lia
 obtain ⟨ht1,ht2⟩:=f.acy.nodup;have s:=N.all _ (fu hk);have lo:=O.lo k hk;have lay:kF b ts sp k=(sAt sp k).l+iU b ts (sAt sp k):=by unfold kF;rw [jE hk]
 rw [lay];have fin:∀ Y,iU b ts (sAt sp k)=Y - (sAt sp k).l→(bs.getD k (0,0)).1≤Y→Y≤(bs.getD k (0,0)).2→(bs.getD k (0,0)).1≤(sAt sp k).l+iU b ts (sAt sp k)∧(sAt sp k).l+iU b ts (sAt sp k)≤(bs.getD k (0,0)).2:=fun Y e y1 y2=>by lia
 by_cases c:k∈tk
 ·have e:=hπ k c
  have fx:=x.fix k c;apply fin (bs.getD k (0,0)).1 ?_ (fW _) ⋯;rw [eW k hk,show π (sAt sp k).g - π (sAt sp k).s - (sAt sp k).l=(bs.getD k (0,0)).1 - b * 0 - (sAt sp k).l by rw [jh];lia];exact rest_in lo.1 (by have:=s.ob;lia)
 ·obtain ⟨r,hr⟩:=f.all k hk c
  have K:=f.rk _ hr;obtain ⟨p,e,P,e1,e2⟩:=pL K O x.fix;have al:=x.alive _ hr;have al:¬ (upB b (gv bs r) > i3 bs r / b):=by unfold jL at al;simpa using al
  obtain ⟨_,z1,z2⟩:=beat_one hb (lo:=gv bs r) (hi:=i3 bs r) ⋯ (by
   have e1:gv bs r=_:=e1;have e2:i3 bs r=_:=e2;have:=s.ob;rw [e1,e2];show (sAt sp k).o+_ - ((sAt sp k).l+_)<b;lia)
  have ea:=alg_pot ht2 hπ p _ _ (fun s hs=>⟨(P.inn s hs).1,(P.inn s hs).2.2⟩) P.alo;have e1:gv bs r=(sAt sp k).l+alg (fun k=>(bs.getD k (0,0)).1) p:=e1;have e2:i3 bs r=(sAt sp k).o+alg (fun k=>(bs.getD k (0,0)).1) p:=e2;have ea:alg (fun k=>(bs.getD k (0,0)).1) p=π (sAt sp k).s - π (sAt sp k).g:=ea;have eo:=O.out k hk c;rw [eo] at fin ⊢;apply fin (b * upB b (gv bs r) - alg (fun k=>(bs.getD k (0,0)).1) p) ?_ (by show (sAt sp k).l≤_;lia) (by show _≤(sAt sp k).o;lia);rw [eW k hk];have hs:=s.ob;have:=rest_in (b:=b) (Y:=b * upB b (gv bs r) - alg (fun k=>(bs.getD k (0,0)).1) p) (l:=(sAt sp k).l) (Z:=upB b (gv bs r)) ⋯ ⋯;rw [←this];congr 1;lia
def fits_lay {m:Int}(h:∀ k,k<sp.length→kF b ts sp k≤(sAt sp k).o):l9 b ts sp=true:=by
 unfold l9;rw [jW,jV];intro s hs;obtain ⟨k,hk,rfl⟩:=cn hs;have eA:sAt sp k=sp[k]:=by unfold sAt;rw [af,gE hk];rfl
 have:=h k hk;have lay:kF b ts sp k=(sAt sp k).l+iU b ts (sAt sp k):=by unfold kF;rw [jE hk]
 rw [lay,eA] at this;unfold brk;rw [rS ⋯];exact aZ
structure Kp (H H':Hp):Prop where
 tup:kg H H'
 lst:∀ q xs,H q=some (.lst xs)→H' q=some (.lst xs)
 frz:∀ q o xs,H q=some (.frz o (.lst xs))→H' q=some (.frz o (.lst xs))
def bG.kp (e:bG H H'):Kp H H':=⟨fun _ _ h=>e _ _ h,fun _ _ h=>e _ _ h,fun _ _ _ h=>e _ _ h⟩
def Kp.seq (e:Kp H H')(h:SqL K H a xs):SqL K H' a xs:=by
 rcases h with (h | ⟨o,h⟩) | h
 ·exact .inl (.inl (e.lst _ _ h))
 ·exact .inl (.inr ⟨o,e.frz _ _ _ h⟩)
 ·exact .inr h
def Kp.trans (a:Kp H H1)(b:Kp H1 H2):Kp H H2:=⟨fun _ _ h=>b.tup _ _ (a.tup _ _ h),fun _ _ h=>b.lst _ _ (a.lst _ _ h),fun _ _ _ h=>b.frz _ _ _ (a.frz _ _ _ h)⟩
def Tb.kp {T:ak}(h:L2.LamT T lp lq H)(e:L2.Tb T H H'):Kp H H':=by
 obtain ⟨ps,hT⟩:=LamT.tbl h;exact ⟨fun q _ h=>e q _ (fR h hT nofun) h,fun q _ h=>e q _ (fR h hT nofun) h,fun q _ _ h=>e q _ (fR h hT nofun) h⟩
def Kp.upd {x:ak}{fs:List (Str×V)}(h:H x=some (.ins C dx fs)):Kp H (upd H x o) :=
 ⟨fun q _ hq=>by rw [bq (fR hq h nofun)];exact hq,fun q _ hq=>by rw [bq (fR hq h nofun)];exact hq,fun q _ _ hq=>by rw [bq (fR hq h nofun)];exact hq⟩
def LamT.ntb {T U:ak}{lp':Pos}{lq':Str}(h:L2.LamT T lp lq H)(hU:L2.LamT U lp' lq' H)(ne:T≠U)(e:L2.Tb U H H'):L2.LamT T lp lq H':=by
 obtain ⟨ps,hT⟩:=LamT.tbl hU
 rcases h with h | ⟨c,h,oc,vs,t,e1,r⟩
 ·exact .inl (e _ _ ne h)
 ·exact .inr ⟨c,e _ _ ne h,oc,vs,t,e _ _ (fR e1 hT nofun) e1,r⟩
def mR {T x:ak}{fs:List (Str×V)}(h:L2.LamT T lp lq H)(hx:H x=some (.ins C dx fs)):L2.LamT T lp lq (L2.upd H x o):=LamT.upd h (fun p u z=>by rw [hx] at z;cases z) (fun ps z=>by rw [hx] at z;cases z)
def wayQ_kp {rl:List V}(e:Kp H H')(h:dW H rl (rs.map wayQ)):dW H' rl (rs.map wayQ):=dW.keepP e.tup h (nu rs fun q _=>pZ _ _)
def CsD.kp {c:ak}{bs:List (Int×Int)}(a:CsD H c bs rs)(e:Kp H H'):CsD H' c bs rs:=by
 obtain ⟨vb,u,rl,h1,h2,h3,h4⟩:=a.ex;exact ⟨vb,u,rl,e.tup _ _ h1,IsD.keepP e.tup h2 (pZ _ _),e.lst _ _ h3,wayQ_kp e h4⟩
structure TchD (H:Hp)(tl:ak)(n:Nat)(rg:List (Nat×List Stp)):Prop where
 ex:∃ tv,H tl=some (.lst tv)∧tv.length=n∧∀ k,k<n→∃ u rl,tv[k]? =some (.ref u)∧H u=some (.lst rl)∧dW H rl ((rg.filter (i4 k)).map wayQ)
def TchD.kp {tl:ak}{rg:List (Nat×List Stp)}(a:TchD H tl n rg)(e:Kp H H'):TchD H' tl n rg:=by
 obtain ⟨tv,h1,h2,h3⟩:=a.ex;apply ⟨tv,e.lst _ _ h1,h2,fun k hk=>?_⟩;obtain ⟨u,rl,a1,a2,a3⟩:=h3 k hk;exact ⟨u,rl,a1,e.lst _ _ a2,wayQ_kp e a3⟩
structure CutD (H:Hp)(C x:ak)(sp:List Sn)(l:List Nat)(rg:List (Nat×List Stp)):Prop where
 ex:∃ (dx c0 tl ol:ak) (ord:List Nat),H x=some (.ins C dx [("first_case",.ref c0),("touched",.ref tl),("order",.ref ol)])∧CsD H c0 (sp.map fun z=>(z.l,z.o)) rg∧TchD H tl sp.length rg∧H ol=some (.lst (ord.map fun (i:Nat)=>V.int i))∧ord.Perm l
def CutD.same {x:ak}{rg:List (Nat×List Stp)}(a:CutD H C x sp l rg)(e:bG H H'):CutD H' C x sp l rg:=by
 obtain ⟨dx,c0,tl,ol,ord,h1,h2,h3,h4,h5⟩:=a.ex;exact ⟨dx,c0,tl,ol,ord,e _ _ h1,h2.same e,h3.kp (bG.kp e),e _ _ h4,h5⟩
structure CsE (Hb H:Hp)(c:ak)(bs:List (Int×Int))(rs:List (Nat×List Stp)):Prop where
 ex:∃ vb u rl,H c=some (.tup [vb,.ref u])∧IsD H vb (bndP bs)∧Hb u=some (.lst rl)∧dW Hb rl (rs.map wayQ)
def CsE.dn {Hb:Hp}{c:ak}{bs:List (Int×Int)}(a:CsE Hb H c bs rs)(e:bG Hb H):CsD H c bs rs:=by
 obtain ⟨vb,u,rl,h1,h2,h3,h4⟩:=a.ex;exact ⟨vb,u,rl,h1,h2,e _ _ h3,h4.same e⟩
def CsE.keep {Hb:Hp}{c:ak}{bs:List (Int×Int)}(a:CsE Hb H c bs rs)(e:kg H H'):CsE Hb H' c bs rs:=by
 obtain ⟨vb,u,rl,h1,h2,h3,h4⟩:=a.ex;exact ⟨vb,u,rl,e _ _ h1,IsD.keepP e h2 (pZ _ _),h3,h4⟩
inductive spInitC (T0:ak)(p0:Pos)(q0:Str)(T1:ak)(p1:Pos)(q1:Str)(C:ak)(vs:List V)(H:Hp)(Q:VK)(_:XK):Prop
 | mk (x dx:ak)(v:V)(b m:Int)(sp:List Sn)(_:vs=[.ref x,v])(_:H x=some (.ins C dx []))(_:IsD H v (jX b m sp))(_:kl b m sp)(_:L2.LamT T0 p0 q0 H)(_:L2.LamT T1 p1 q1 H)(_:∀ (l:List Nat) (rg:List (Nat×List Stp)) (H':Hp),(∀ a o,a≠T0→a≠T1→a≠x→H a=some o→H' a=some o)→Kp H H'→L2.LamT T0 p0 q0 H'→L2.LamT T1 p1 q1 H'→FR m sp l rg→CutD H' C x sp l rg→Q .non H')
inductive spSpanC (C:ak)(vs:List V)(H:Hp)(Q:VK)(_:XK):Prop
 | mk (x c:ak)(sp:List Sn)(l:List Nat)(rg rs:List (Nat×List Stp))(bs:List (Int×Int))(_:vs=[.ref x,.ref c])(_:CutD H C x sp l rg)(_:CsD H c bs rs)(_:(∀ k∈l,k<bs.length))(_:l.length≤40)(_:((∀ k∈l,¬ ((bs.getD k (0,0)).1<(bs.getD k (0,0)).2))→Q .non H))(_:∀ k∈l,(bs.getD k (0,0)).1<(bs.getD k (0,0)).2→Q (.int (k:Nat)) H)
inductive spSidesC (C:ak)(vs:List V)(H:Hp)(Q:VK)(_:XK):Prop
 | mk (Hb:Hp)(x c:ak)(k:Nat)(a:Int)(sp:List Sn)(l:List Nat)(rg rs:List (Nat×List Stp))(bs:List (Int×Int))(_:vs=[.ref x,.ref c,.int (k:Nat),.int a])(_:bG Hb H)(_:CutD Hb C x sp l rg)(_:CsD H c bs rs)(_:k<bs.length)(_:bs.length=sp.length)(_:bs.length≤40)(_:∀ (L q1 q2:ak) (H':Hp),bG H H'→H L=none→H' L=some (.lst [.ref q1,.ref q2])→CsE Hb H' q1 (eC bs k a) (rg.filter (i4 k))→CsE Hb H' q2 (kW bs k a) (rg.filter (i4 k))→Q (.ref L) H')
def ord_perm (h:π.Perm (aJ l.length)):(π.map fun i=>l.getD i 0).Perm l:=by
 have e:(aJ l.length).map (fun i=>l.getD i 0)=l:=by
  apply List.ext_getElem (by rw [aa,aY]) fun i h1 h2=>?_
  rw [j9,kY,af,gE h2];rfl
 have:=h.map (fun i=>l.getD i 0)
 rwa [e] at this
def tm_mod {x:Int}:tm (ts.map (· % b)) x=tm ts x % b:=by
 unfold tm;rw [af,af,ax];cases ts[x.toNat]? with
 | none=>exact (Int.zero_emod b).symm
 | some y=>rfl
def nI (b m:Int)(sp:List Sn)(t:List Int):Prop:=t.length=m.toNat∧(∀ x∈t,0≤x∧x<b)∧l9 b t sp=true
theorem tab_ok {m:Int}{rg:List (Nat×List Stp)}{bs:List (Int×Int)}(N:kl b m sp)(f:FF m sp l rg)(O:OB sp l bs)(x:Fx b l rg bs)(h:SprOk m.toNat sp l S) :
  nI b m sp (tabOf b sp bs m.toNat S)∧∀ k,k<sp.length→(bs.getD k (0,0)).1≤kF b (tabOf b sp bs m.toNat S) sp k∧kF b (tabOf b sp bs m.toNat S) sp k≤(bs.getD k (0,0)).2:=by
 have hb:0<b:=by have:=N.b1;lia
 have ht2:=f.acy.nodup.2;have key:=key_pot N f O x (ts:=tabOf b sp bs m.toNat S) (π:=tm (kr sp (lowB bs) m.toNat S)) (fun i hi=>h.pot N.ends ht2 (lowB bs) i hi) fun k hk=>by
  unfold iU tabOf;rw [tm_mod,tm_mod,rest_two]
 apply ⟨⟨?_,fun y hy=>?_,fits_lay (m:=m) fun k hk=>?_⟩,key⟩
 ·unfold tabOf kr
  rw [aa,mK (m:=0),dI]
 ·obtain ⟨z,_,rfl⟩:=bc.mp hy
  exact ⟨eI _ ⋯,dO _ hb⟩
 ·have:=key k hk
  have:=(O.lo k hk).2.2;lia
def psC (l:List Nat):List Cse→Nat
 | []=>0
 | c::cs=>fI c.1 l+psC l cs
def pY (l:List Nat):∀ (cs ds:List Cse),psC l (cs++ds)=psC l cs+psC l ds
 | [],ds=>(Nat.zero_add _).symm
 | c::cs,ds=>by
  show _+psC l (cs++ds)=_+psC l cs+psC l ds;rw [pY l cs ds];lia
structure SrcI (b m:Int)(sp:List Sn)(l:List Nat)(rg:List (Nat×List Stp))(cs:List Cse)(Ts:List (List Int)):Prop where
 ok:∀ c∈cs,j5 b sp l rg c
 tabs:∀ t∈Ts,nI b m sp t
 hold:∀ T,l9 b T sp=true→(∃ t∈Ts,∀ k∈l,kF b t sp k=kF b T sp k)∨∃ c∈cs,InB (kF b T sp) c.1
 cnt:Ts.length+psC l cs≤fI (sp.map fun x=>(x.l,x.o)) l
def szC (l:List Nat):List Cse→Nat
 | []=>0
 | c::cs=>(2 * fI c.1 l - 1)+szC l cs
def nc (l:List Nat):∀ (cs ds:List Cse),szC l (cs++ds)=szC l cs+szC l ds
 | [],ds=>(Nat.zero_add _).symm
 | c::cs,ds=>by
  show _+szC l (cs++ds)=_+szC l cs+szC l ds;rw [nc l cs ds];lia
section
variable {m:Int}{rg:List (Nat×List Stp)}{cs:List Cse}{c:Cse}
theorem szC_len (hl:∀ k∈l,k<sp.length):∀ (cs:List Cse),(∀ c∈cs,j5 b sp l rg c)→cs.length≤szC l cs
 | [],_=>az _
 | c::cs,h=>by
  have ih:=szC_len hl cs fun d hd=>h d (ay _ hd)
  have:=jr (h c ∅).ob hl;show cs.length+1≤2 * fI c.1 l - 1+szC l cs;lia
def SrcI.start (N:kl b m sp)(hl:rg.length≤40):SrcI b m sp l rg [(sp.map fun x=>(x.l,x.o),rg)] []:=by
 have hb:0<b:=by have:=N.b1;lia
 apply ⟨fun c hc=>?_,fun t h=>rQ h ∅,fun T hT=> .inr ⟨_,aw.mpr rfl,lay_in hb hT⟩,by show 0+(fI (sp.map fun x=>(x.l,x.o)) l+0)≤_;lia⟩;rw [aw.mp hc];exact ⟨OB.first N l,fun q hq=>hq,hl,fun q hq hn=>rQ hq hn⟩
def SrcI.dead (N:kl b m sp)(f:FF m sp l rg)(I:SrcI b m sp l rg (cs++[c]) Ts){q:Nat×List Stp}(hq:q∈c.2)(hd:jL b c.1 q.2=true):SrcI b m sp l rg cs Ts:=by
 have hb:0<b:=by have:=N.b1;lia
 have C:=I.ok c ∅;apply ⟨fun d hd=>I.ok d (aK _ hd),I.tabs,fun T hT=>?_,by have:=I.cnt;rw [pY] at this;lia⟩
 rcases I.hold T hT with h | ⟨d,h1,h2⟩
 ·exact .inl h
 ·rcases aH.mp h1 with z | z
  ·exact .inr ⟨d,z,h2⟩
  ·rw [aw.mp z] at h2
   have:=f.few;have m2:=N.m2;rw [dead_none hb C.ob.len h2 ((f.rk q (C.sub q hq)).rg N ⋯)] at hd;cases hd
def j5.all (C:j5 b sp l rg c)(al:∀ q∈c.2,jL b c.1 q.2=false):∀ q∈rg,jL b c.1 q.2=false:=fun q hq=>by
 by_cases z:q∈c.2
 ·exact al q z
 ·exact C.alive q hq z
theorem SrcI.leaf (N:kl b m sp)(f:FF m sp l rg)(h:SprOk m.toNat sp l S)(I:SrcI b m sp l rg (cs++[c]) Ts)(al:∀ q∈c.2,jL b c.1 q.2=false)(fx:∀ k∈l,¬ ((c.1.getD k (0,0)).1<(c.1.getD k (0,0)).2)):SrcI b m sp l rg cs (Ts++[tabOf b sp c.1 m.toNat S]):=by
 have C:=I.ok c ∅;have ht2:=f.acy.nodup.2;have fix:∀ k∈l,(c.1.getD k (0,0)).1=(c.1.getD k (0,0)).2:=fun k hk=>by
  have:=(C.ob.lo k (ht2 k hk)).2.1;have:=fx k hk;lia
 obtain ⟨t1,t2⟩:=tab_ok N f C.ob ⟨fix,C.all al⟩ h;have pc:=jr C.ob ht2;apply ⟨fun d hd=>I.ok d (aK _ hd),fun t ht=>?_,fun T hT=>?_,by have:=I.cnt;rw [pY] at this;have e:psC l [c]=fI c.1 l+0:=rfl;rw [au];show Ts.length+1+_≤_;lia⟩
 ·rcases aH.mp ht with z | z
  ·exact I.tabs t z
  ·rw [aw.mp z];exact t1
 ·rcases I.hold T hT with ⟨t,h1,h2⟩ | ⟨d,h1,h2⟩
  ·exact .inl ⟨t,aK _ h1,h2⟩
  ·rcases aH.mp h1 with z | z
   ·exact .inr ⟨d,z,h2⟩
   ·rw [aw.mp z] at h2
    apply .inl ⟨_,aA _ (aw.mpr rfl),fun k hk=>?_⟩;have a1:=t2 k (ht2 k hk);have a2:=h2 k (by rw [C.ob.len];exact ht2 k hk);have a3:=fix k hk;lia
theorem SrcI.cut (N:kl b m sp)(f:FF m sp l rg)(lrg:rg.length≤40)(I:SrcI b m sp l rg (cs++[c]) Ts)(al:∀ q∈c.2,jL b c.1 q.2=false){k:Nat}{a:Int}(hk:k∈l)(h1:(c.1.getD k (0,0)).1≤a)(h2:a<(c.1.getD k (0,0)).2) :
  SrcI b m sp l rg (cs++[(eC c.1 k a,rg.filter (i4 k)),(kW c.1 k a,rg.filter (i4 k))]) Ts∧szC l (cs++[(eC c.1 k a,rg.filter (i4 k)),(kW c.1 k a,rg.filter (i4 k))])<szC l (cs++[c]):=by
 have C:=I.ok c ∅;have ht2:=f.acy.nodup.2;obtain ⟨o1,o2⟩:=C.cut lrg ht2 al hk h1 h2;apply ⟨⟨fun d hd=>?_,I.tabs,fun T hT=>?_,?_⟩,?_⟩
 ·rcases aH.mp hd with z | z
  ·exact I.ok d (aK _ z)
  ·rcases aF.mp z with rfl | z
   ·exact o1
   ·rw [aw.mp z];exact o2
 ·rcases I.hold T hT with h | ⟨d,d1,d2⟩
  ·exact .inl h
  ·rcases aH.mp d1 with z | z
   ·exact .inr ⟨d,aK _ z,d2⟩
   ·rw [aw.mp z] at d2
    by_cases e:kF b T sp k≤a
    ·exact .inr ⟨(kW c.1 k a,rg.filter (i4 k)),∅,inB_one d2 e⟩
    ·exact .inr ⟨(eC c.1 k a,rg.filter (i4 k)),∅,inB_other d2 ⋯⟩
 ·have h0:=I.cnt
  rw [pY] at h0 ⊢;have e:=nq C.ob f.acy.nodup.1 ht2 hk h1 h2;have e1:psC l [c]=fI c.1 l+0:=rfl;have e2:psC l [(eC c.1 k a,rg.filter (i4 k)),(kW c.1 k a,rg.filter (i4 k))]=fI (eC c.1 k a) l+(fI (kW c.1 k a) l+0):=rfl;lia
 ·rw [nc,nc]
  show _+((2 * fI (eC c.1 k a) l - 1)+((2 * fI (kW c.1 k a) l - 1)+0))<_+((2 * fI c.1 l - 1)+0);have p1:=jr o1.ob ht2;have p2:=jr o2.ob ht2;have e:=nq C.ob f.acy.nodup.1 ht2 hk h1 h2;have p1:0<fI (eC c.1 k a) l:=p1;have p2:0<fI (kW c.1 k a) l:=p2;lia
theorem SrcI.less (f:FF m sp l rg)(I:SrcI b m sp l rg (cs++[c]) Ts):szC l cs<szC l (cs++[c]):=by
 have:=jr (I.ok c ∅).ob f.acy.nodup.2;rw [nc];show _<_+((2 * fI c.1 l - 1)+0);lia
end
def CsL (Hb Hc:Hp):List V→List Cse→Prop:=j4 fun v c=>∃ q,v= .ref q∧CsE Hb Hc q c.1 c.2
def CsL.keep {Hb Hd:Hp}(e:kg Hc Hd){cs:List Cse}(h:CsL Hb Hc zs cs):CsL Hb Hd zs cs:=L2.Paired.mapP h fun _ _ ⟨q,a,b⟩=>⟨q,a,b.keep e⟩
def Paired.app {α β:Type}{R:α→β→Prop}:∀ {xs:List α} {ys:List β} {us:List α} {vs:List β},j4 R xs ys→j4 R us vs→j4 R (xs++us) (ys++vs)
 | _,_,_,_,.nil,h=>h
 | _,_,_,_,.cons r t,h=> .cons r (Paired.app t h)
def Paired.len {α β:Type}{R:α→β→Prop}:∀ {xs:List α} {ys:List β},j4 R xs ys→xs.length=ys.length
 | _,_,.nil=>rfl
 | _,_,.cons _ t=>rV (· + 1) (Paired.len t)
def Paired.snoc_of {α β:Type}{R:α→β→Prop}:∀ {ys:List β} {zs:List α} {y:β},j4 R zs (ys++[y])→∃ xs x,zs=xs++[x]∧j4 R xs ys∧R x y
 | [],_,_,.cons r .nil=>⟨[],_,rfl,.nil,r⟩
 | _::_,_,_,.cons r t=>by
  obtain ⟨xs,x,rfl,a,b⟩:=Paired.snoc_of t;exact ⟨_::xs,x,rfl,.cons r a,b⟩
inductive spTabF (T0:ak)(p0:Pos)(q0:Str)(T1:ak)(p1:Pos)(q1:Str)(vs:List V)(H:Hp)(Q:VK)(_:XK):Prop
 | mk (v:V)(b m:Int)(sp:List Sn)(most:Nat)(_:vs=[v,.int (most:Nat)])(_:IsD H v (jX b m sp))(_:kl b m sp)(_:most≤4096)(_:(∀ l,jD m.toNat sp l→k5 sp l≤4096))(_:L2.LamT T0 p0 q0 H)(_:L2.LamT T1 p1 q1 H)(_:∀ (L:ak) (tv:List V) (l:List Nat) (rg:List (Nat×List Stp)) (Ts:List (List Int)) (H':Hp),(∀ a o,a≠T0→a≠T1→H a=some o→H' a=some o)→Kp H H'→L2.LamT T0 p0 q0 H'→L2.LamT T1 p1 q1 H'→H' L=some (.lst tv)→dW H' tv (de id Ts)→FR m sp l rg→(∀ t∈Ts,nI b m sp t)→Ts.length≤most→(Ts.length<most∨most=4096→∀ T,l9 b T sp=true→∃ t∈Ts,∀ k∈l,kF b t sp k=kF b T sp k)→Q (.ref L) H')
inductive Mrk where
 | leaf (d:Dt)
 | cut (k:Nat) (a:Int)
def mrkD:Mrk→Dt
 | .leaf d=>d
 | .cut k a=> .tup [.str "cut",.int (k:Nat),.int a]
def pre:Tq→List Mrk
 | .leaf d=>[.leaf d]
 | .cut k a x y=> .cut k a::(pre x++pre y)
def stpT:Option (List Tq)→Mrk→Option (List Tq)
 | some s,.leaf d=>some (.leaf d::s)
 | some (x::y::s),.cut k a=>some (.cut k a x y::s)
 | _,_=>none
def stp_none:∀ (l:List Mrk),l.foldl stpT none=none
 | []=>rfl
 | .leaf _::l=>stp_none l
 | .cut _ _::l=>stp_none l
def stp_pre:∀ (t:Tq) (s:List Tq),(pre t).reverse.foldl stpT (some s)=some (t::s)
 | .leaf d,s=>rfl
 | .cut k a x y,s=>by
  show (Mrk.cut k a::(pre x++pre y)).reverse.foldl stpT (some s)=_;rw [eZ,List.reverse_append,cR,cR,stp_pre y,stp_pre x];rfl
def stp_at {l:List Mrk}{r:List Tq}(h:l.foldl stpT (some [])=some r){m:Mrk}{s:List Tq}(hm:l[i]? =some m)(hs:(l.take i).foldl stpT (some [])=some s):∃ s',stpT (some s) m=some s'∧(l.take (i+1)).foldl stpT (some [])=some s':=by
 have hi:=(ao.mp hm).1;have e:(l.take (i+1)).foldl stpT (some [])=stpT (some s) m:=by
  rw [bj,hm,cR,hs];rfl
 cases q:stpT (some s) m with
 | some s'=>exact ⟨s',rfl,by rw [e,q]⟩
 | none =>
  exfalso;rw [←List.take_append_drop (i+1) l,cR,e,q,stp_none] at h;cases h
def LeafW (d:Dt):Prop:=pl d=true∧∃ w x,d= .tup [.str w,x]∧w ≠ "cut"
def pl_cut {k:Nat}{a:Int}{x y:Tq}(hx:pl (kq x)=true)(hy:pl (kq y)=true):pl (kq (.cut k a x y))=true:=by
 show pl (.tup [.str "cut",.int (k:Nat),.int a,kq x,kq y])=true;simp [pl,pls,hx,hy]
def dW.snocD {H:Hp}:∀ {ds:List Dt} {zs:List V} {d:Dt},dW H zs (ds++[d])→∃ zs' z,zs=zs'++[z]∧dW H zs' ds∧IsD H z d
 | [],_,_,.cons h .nil=>⟨[],_,rfl,.nil,h⟩
 | _::_,_,_,.cons h t=>by
  obtain ⟨zs',z,rfl,a,b⟩:=dW.snocD t;exact ⟨_::zs',z,rfl,.cons h a,b⟩
def GoodT (R:List (Int×Int)→Dt→Prop):Tq→List (Int×Int)→Nat→Prop
 | .leaf d,bs,_=>R bs d
 | .cut _ _ _ _,_,0=>False
 | .cut k a x y,bs,n+1=>k<bs.length∧(bs.getD k (0,0)).1≤a∧a<(bs.getD k (0,0)).2∧GoodT R x (kW bs k a) n∧GoodT R y (eC bs k a) n
def qJ (R:List (Int×Int)→Dt→Prop)(l:List Nat)(c:Cse)(t:Tq):Prop:=∀ n,2 ^ n * fI c.1 l≤3 ^ n→GoodT R t c.1 n
def oH {f g:Nat→Nat}{k:Nat}:∀ (l:List Nat),l.Nodup→k∈l→(∀ j∈l,j≠k→f j=g j)→prdN (l.map g) * f k=prdN (l.map f) * g k
 | [],_,hk,_=>rQ hk ∅
 | j::l,nd,hk,hh=>by
  rw [bz] at nd;show g j * _ * f k=f j * _ * g k
  by_cases c:j=k
  ·subst c
   have ne:∀ i∈l,i≠j:=fun i hi z=>nd.1 (z ▸ hi)
   rw [←nV (f:=f) (g:=g) l fun i hi=>hh i (ay _ hi) (ne i hi),jd (g j),jd (f j),gO,gO,jd (g j)]
  ·rw [hh j ∅ c,gO,gO,oH l nd.2 ((aF.mp hk).resolve_left fun z=>c z.symm) fun i hi=>hh i (ay _ hi)]
def scale_le {F G f g:Nat}(e:G * f=F * g)(h:3 * g≤2 * f)(hf:0<f):3 * G≤2 * F:=by
 have h1:3 * G * f≤2 * F * f:=by
  rw [gO,e,jd F g,←gO,gO 2 F f,jd F f,←gO];exact Nat.mul_le_mul_right F h
 exact Nat.le_of_mul_le_mul_right h1 hf
theorem prodC_mid {bs:List (Int×Int)}{k:Nat}{a:Int}(O:OB sp l bs)(nd:l.Nodup)(hl:∀ k∈l,k<sp.length)(hk:k∈l)(h:(bs.getD k (0,0)).1<(bs.getD k (0,0)).2)(ha:a=((bs.getD k (0,0)).1+(bs.getD k (0,0)).2) / 2) :
  3 * fI (kW bs k a) l≤2 * fI bs l∧3 * fI (eC bs k a) l≤2 * fI bs l:=by
 have hb:=O.len;have hkl:=hl k hk;have wk1:wdB (kW bs k a) k=(a - (bs.getD k (0,0)).1+1).toNat:=by unfold wdB kW;rw [i8 ⋯,rO rfl]
 have wk2:wdB (eC bs k a) k=((bs.getD k (0,0)).2 - (a+1)+1).toNat:=by unfold wdB eC;rw [i8 ⋯,rO rfl]
 have w0:wdB bs k=((bs.getD k (0,0)).2 - (bs.getD k (0,0)).1+1).toNat:=rfl
 constructor
 ·apply scale_le (oH (f:=wdB bs) (g:=wdB (kW bs k a)) (k:=k) l nd hk fun j hj hn=>?_) (by rw [wk1,w0];lia) (by rw [w0];lia)
  have hjl:=hl j hj;unfold wdB kW;rw [i8 ⋯,rN (cH hn)]
 ·apply scale_le (oH (f:=wdB bs) (g:=wdB (eC bs k a)) (k:=k) l nd hk fun j hj hn=>?_) (by rw [wk2,w0];lia) (by rw [w0];lia)
  have hjl:=hl j hj;unfold wdB eC;rw [i8 ⋯,rN (cH hn)]
section
variable {R:List (Int×Int)→Dt→Prop}{c c0:Cse}{k:Nat}{a:Int}{x y:Tq}{ms:List Mrk}{cr:List Cse}{d:Dt}{rs':List (Nat×List Stp)}
def qJ.leaf (h:R c.1 d):qJ R l c (.leaf d):=fun n _=>by
 cases n <;> exact h
def qJ.cut (hk:k<c.1.length)(h1:(c.1.getD k (0,0)).1≤a)(h2:a<(c.1.getD k (0,0)).2)(p2:2≤fI c.1 l)(m1:3 * fI (kW c.1 k a) l≤2 * fI c.1 l)(m2:3 * fI (eC c.1 k a) l≤2 * fI c.1 l)
  (gx:qJ R l (kW c.1 k a,rs) x) (gy:qJ R l (eC c.1 k a,rs') y):qJ R l c (.cut k a x y):=fun n hn=>by
 cases n with
 | zero=>simp at hn;lia
 | succ n =>
  have key:∀ p,3 * p≤2 * fI c.1 l→2 ^ n * p≤3 ^ n:=fun p hp=>by
   have h3:2 ^ n * (3 * p)≤2 ^ n * (2 * fI c.1 l):=Nat.mul_le_mul_left _ hp;rw [Nat.pow_succ,Nat.pow_succ,gO] at hn;rw [Nat.mul_left_comm] at h3;lia
  exact ⟨hk,h1,h2,gx n (key _ m1),gy n (key _ m2)⟩
def Wn (R:List (Int×Int)→Dt→Prop)(l:List Nat)(c0:Cse)(ms:List Mrk)(cr:List Cse):Prop:=∀ F:List Tq,j4 (qJ R l) cr F→∃ t,ms++F.flatMap pre=pre t∧qJ R l c0 t
def Wn.start:Wn R l c0 [] [c0]:=fun F h=>by
 cases h with
 | cons g r=>cases r;exact ⟨_,∅,g⟩
def Wn.leaf (h:Wn R l c0 ms (c::cr))(r:R c.1 d):Wn R l c0 (ms++[.leaf d]) cr:=fun F hF=>by
 obtain ⟨t,e,g⟩:=h (.leaf d::F) (.cons (qJ.leaf r) hF);exact ⟨t,by rw [←e];simp [pre],g⟩
def Wn.cut (h:Wn R l c0 ms (c::cr))(hk:k<c.1.length)(h1:(c.1.getD k (0,0)).1≤a)(h2:a<(c.1.getD k (0,0)).2)(p2:2≤fI c.1 l)(m1:3 * fI (kW c.1 k a) l≤2 * fI c.1 l)(m2:3 * fI (eC c.1 k a) l≤2 * fI c.1 l):Wn R l c0 (ms++[.cut k a]) ((kW c.1 k a,rs)::(eC c.1 k a,rs')::cr):=fun F hF=>by
 cases hF with
 | cons gx r =>
  cases r with
  | cons gy r =>
   rename_i x y F;obtain ⟨t,e,g⟩:=h (.cut k a x y::F) (.cons (qJ.cut hk h1 h2 p2 m1 m2 gx gy) r);exact ⟨t,by rw [←e];simp [pre],g⟩
def Wn.fin (h:Wn R l c0 ms []):∃ t,ms=pre t∧qJ R l c0 t:=by
 obtain ⟨t,e,g⟩:=h [] .nil;exact ⟨t,by rw [←e];simp,g⟩
end
inductive spTreeF (vs:List V)(H:Hp)(Q:VK)(_:XK):Prop
 | mk (L:ak)(ys:List V)(ms:List Mrk)(t:Tq)(_:vs=[.ref L])(_:H L=some (.lst ys))(_:dW H ys (ms.map mrkD))(_:ms=pre t)(_:(∀ d,Mrk.leaf d∈ms→LeafW d))(_:ms.length≤10000)(_:∀ u H',bG H H'→IsD H' u (kq t)→Q u H')
end HN
namespace L2
open PySem PySem.W PySem.Spec PyProof.Rows
def law_callTs {mb:Str→Option ae}{k:Nat}{fa:ak}{Ts:List ak}{sp:Sp}{s₁:av}
  (KX:K.In s₁.heap) (hns:s₁.heap.Ns bO mg) (hb:s₁.heap.Ns builtinsNs mb) (hbb:∀ x:Str,x ≠ "__name__" →mb x=bootBuiltins x) (hlim:s₁.heap.NoLimit) (hg:s₁.gens= #[])
  (hbm:BM mg s₁.heap) (hT:∀ T∈Ts,s₁.heap.get? T=some (tabObj #[])) (C:∀ T∈Ts,∃ c,codeHdIn K c T=true) (nt:noTabs K=true)
  (ha:s₁.heap.get? a=some { cls:= .type "list",data:= .seq vs.toArray }) (hi:IntsAre vs ns) (hl:ns.length≤bg) (hr:ik k callerA)
  (F:∀ base:bL,K.In base→base.Ns bO mg→BM mg base→cO P w K mg base CX k fa fd [x] sp) (hbind:∀ (s:av) (u:ae),BindsTo s fd ⟨[u],[]⟩ [(x,u)])
  (hsp:∀ H:Hp,(∀ T∈Ts,H T=some (.tbl #[]))→SqL K H a (ns.map V.int)→sp [.ref a] H (fun v _=>v= .bl true) fun _ _ _=>False)
  (hCX:∀ H e s',CX [] H s₁ (fun _ _ _=>False) e s'→False) :
  i9 (bt P w) callerA (.call (.ref fa) ⟨[.ref a],[]⟩) (fun r s'=>r= .ok (.ret (.bool true))∧OldK s₁.heap s'.heap∧s'.os=s₁.os∧AllBare s'.gens) s₁:=by
 have rv:=pG hi;have lenV:=hi.length;have hTK:∀ T∈Ts,K.lookup T=none:=fun T mT=>by
  cases q:K.lookup T with
  | none=>rfl
  | some o =>
   have e:=KX T o q;rw [hT T mT] at e;cases e;have z:=ia.mp nt (T,tabObj #[]) (mem_of_lookupK q);cases z
 have aT:a ∉ Ts:=fun z=>by rw [hT a z] at ha;cases ha
 have isT:∀ T∈Ts,isCodeTable s₁.heap T:=fun T mT=>by obtain ⟨c,C⟩:=C T mT;exact ((codeHd_of_K KX C).tab (hT T mT)).isCodeTable
 have core:∀ H:Hp,SqL K H a (ns.map V.int)→HOk P w H s₁.heap→(∀ T∈Ts,H T=some (.tbl #[]))→(∀ b,H b≠none→b ∉ Ts→b=a∧∃ o xs,H b=some (.frz o (.lst xs)))→(H a≠none→K.lookup a=none) →
   i9 (bt P w) callerA (.call (.ref fa) ⟨[.ref a],[]⟩) (fun r s'=>r= .ok (.ret (.bool true))∧OldK s₁.heap s'.heap∧s'.os=s₁.os∧AllBare s'.gens) s₁:=by
  intro H hS hok hHT hA hK;have base_of:∀ {b:ak} {o:Obj},s₁.heap.get? b=some o→H b=none→(hidT s₁.heap H).get? b=some o:=fun e n=>hidT_get e n
  have no2:∀ {b:ak} {o:Obj},s₁.heap.get? b=some o→o≠tabObj #[]→o≠{ cls:= .type "list",data:= .seq vs.toArray }→H b=none:=fun {b o} e d1 d2=>by
   cases q:H b with
   | none=>rfl
   | some u =>
    by_cases hbT:b∈Ts
    ·rw [hT b hbT] at e;cases e;exact rQ rfl d1
    ·have e':b=a:=(hA b (by rw [q];simp) hbT).1
     subst e';rw [ha] at e;cases e;exact rQ rfl d2
  have nsK:∀ {b:ak} {m:Str→Option ae},s₁.heap.Ns b m→(hidT s₁.heap H).Ns b m:=fun {b m} ⟨o,es,ep,e,d,r⟩=>⟨o,es,ep,base_of e (no2 e (fun z=>by subst z;cases d) (fun z=>by subst z;cases d)),d,r⟩
  have hKb:K.In (hidT s₁.heap H):=fun b o e=>base_of (KX b o e) (by
   cases q:H b with
   | none=>rfl
   | some u =>
    by_cases hbT:b∈Ts
    ·rw [hTK b hbT] at e;cases e
    ·have e':b=a:=(hA b (by rw [q];simp) hbT).1
     subst e';rw [hK (by rw [q];simp)] at e;cases e)
  have hM:Mod K mg (hidT s₁.heap H):=⟨hKb,nsK hns,⟨mb,nsK hb,hbb⟩,let ⟨mc,h1,h2⟩:=hlim;⟨mc,nsK h1,h2⟩⟩;have hBM:BM mg (hidT s₁.heap H):=by
   obtain ⟨bm,ob,b1,b2,b3,b4,b5,b6,b7⟩:=hbm;exact ⟨bm,ob,b1,b2,b3,base_of b4 (no2 b4 (fun z=>by subst z;cases b5) (fun z=>by subst z;cases b7)),b5,b6,b7⟩
  have e0:Env0 P w K mg (hidT s₁.heap H) callerA [] s₁ H:=⟨rfl,hM,fun b o e=>of_hidT e,Nat.le_of_eq (hidT_size _ _),trivial,fun b hb=>rQ (show b∈([]:List ak) from hb) ∅,hok,.of_eq hg⟩;apply codeAny_mono ((F _ hKb (nsK hns) hBM).run callerA [] s₁ H ⟨[.ref a],[]⟩ [.ref a] [.ref a] _ _ hr e0 (hbind s₁ (.ref a)) (.cons rfl .nil) (hsp H hHT hS)) fun r s' h=>?_
  cases r with
  | error e=>exact (hCX H e s' h).elim
  | ok fl =>
   cases fl with
   | next=>exact cT h
   | brk=>exact cT h
   | cont=>exact cT h
   | ret u =>
    obtain ⟨v,H',os,bare,un,hok',r',q⟩:=h;have q':v= .bl true:=q;subst q';obtain rfl:u=ae.bool true:=r';have tT:∀ T∈Ts,∃ more,s'.heap.get? T=some (tabObj (#[]++more)):=fun T mT=>by
     obtain ⟨more,eT⟩:=un.tbls T _ (hHT T mT);exact ⟨more,hok' T _ eT⟩
    have stay:∀ b o,s₁.heap.get? b=some o→b ∉ Ts→s'.heap.get? b=some o:=fun b o e hbT=>by
     cases q:H b with
     | none=>exact un.keep b o e q (by intro z;exact rQ (show b∈([]:List ak) from z) ∅) ∅
     | some u =>
      obtain ⟨_,ob,xs,z⟩:=hA b (by rw [q];simp) hbT;have z2:=un.frzs b ob _ z;obtain ⟨e1,_⟩:=hok b _ z;obtain ⟨e2,_⟩:=hok' b _ z2;rw [e] at e1;cases e1;exact e2
    apply ⟨rfl,⟨fun b o e=>?_,fun b o e=>?_⟩,os,bare⟩
    ·by_cases hbT:b∈Ts
     ·rw [hT b hbT] at e;cases e
      obtain ⟨more,tb⟩:=tT b hbT;exact .inr (.inl ⟨isT b hbT,rfl,#[],more,rfl,tb⟩)
     ·exact .inl (stay b o e hbT)
    ·by_cases hbT:b∈Ts
     ·obtain ⟨more,tb⟩:=tT b hbT;exact ⟨_,tb⟩
     ·exact ⟨o,stay b o e hbT⟩
 cases hk:K.lookup a with
 | some o =>
  have e:=KX a o hk;rw [ha] at e;cases e;apply core (fun b=>if b∈Ts then some (.tbl #[]) else none) (.inr ⟨_,vs.toArray,_,hk,rfl,rfl,rfl,by rw [aG,lenV];exact hl,by simpa using rv⟩) (fun b u z=>?_) (fun T mT=>rO mT) (fun b z hb=>rQ (rN hb) z) fun z=>rQ (rN aT) z
  by_cases hb:b∈Ts
  ·have z':=(rO hb).symm.trans z
   cases z';exact hT b hb
  ·have z':=(rN hb).symm.trans z
   cases z'
 | none =>
  apply core (fun b=>if b∈Ts then some (.tbl #[]) else if b=a then some (.frz { cls:= .type "list",data:= .seq vs.toArray } (.lst (ns.map V.int))) else none) (.inl (.inr ⟨{ cls:= .type "list",data:= .seq vs.toArray },(rN aT).trans (rO rfl)⟩)) (fun b u z=>?_) (fun T mT=>rO mT) (fun b z hb=>?_) fun _=>hk
  ·by_cases hb:b∈Ts
   ·have z':=(rO hb).symm.trans z
    cases z';exact hT b hb
   ·have z:=(rN hb).symm.trans z
    by_cases hb:b=a
    ·have z':=(rO hb).symm.trans z
     cases z';subst hb;exact ⟨ha,by rw [aa];exact hl,vs,_,rv,ha⟩
    ·have z':=(rN hb).symm.trans z
     cases z'
  ·by_cases hba:b=a
   ·exact ⟨hba,_,_,(rN hb).trans (rO hba)⟩
   ·exact rQ ((rN hb).trans (rN hba)) z
def walk_ofTs {l:PySem.W.OpenLaw}{k:Nat}{q:aX}{d:DefRec}{K:Params→ar}{CX:bC→CXT}{sp:bC→Sp}{Ts:List ak}
  (hn:l.most=some n) (hn2:n≤bg) (hdf:d.params.defaults=[]) (hr:ik k callerA)
  (hY:∀ (w:bC) (h:bL),YP w h→(K w.params).In h∧∀ T∈Ts,h.get? T=some (tabObj #[])) (C:∀ w:bC,∀ T∈Ts,∃ c,codeHdIn (K w.params) c T=true) (nt:∀ w:bC,noTabs (K w.params)=true)
  (F:∀ (w:bC) (mg:Str→Option ae) (fa:ak) (h:bL),(K w.params).In h→h.Ns bO mg→mg d.name=some (.ref fa) →
   ∃ fd:bh,(∀ (s:av) (u:ae),BindsTo s fd ⟨[u],[]⟩ [(x,u)]) ∧
    ∀ base:bL,(K w.params).In base→base.Ns bO mg→BM mg base→cO l.prog w (K w.params) mg base (CX w) k fa fd [x] (sp w))
  (hsp:∀ (w:bC) (H:Hp) (a:ak) (ns:List Int),ns.length≤n→(∀ T∈Ts,H T=some (.tbl #[]))→SqL (K w.params) H a (ns.map V.int)→sp w [.ref a] H (fun v _=>v= .bl true) fun _ _ _=>False)
  (hCX:∀ (w:bC) (H:Hp) (s:av) (e:ae) (s':av),CX w [] H s (fun _ _ _=>False) e s'→False) :
  PySem.W.WalkO q loose XP YP l.row.toRowW d [] (fun f vs=>PySem.call f vs):=by
 apply Att.attach_call hn hdf fun w s₀ s₁ mg mb fa o pm cd doc a vs ns G Y ho hd hcd hmg hobj hints hlen hg=>?_
 obtain ⟨KX,hT⟩:=hY w _ Y;obtain ⟨fd,hb,hF⟩:=F w mg fa _ KX G.T.g hmg;have hbm:BM mg s₁.heap:=by
  obtain ⟨bm,ob,b1,b2,b3,b4,b5,b6⟩:=G.T.bmain;apply ⟨bm,ob,b1,b2,fun q=>?_,b3,b4,b5,b6⟩;obtain ⟨o,es,ep,e,hd,_⟩:=G.T.g;rw [q,e] at b3;cases b3;rw [hd] at b6;cases b6
 exact law_callTs KX G.T.g G.T.b G.T.builtins G.T.nolimit hg hbm hT (C w) (nt w) hobj hints (aN hlen hn2) hr hF hb (fun H hO hS=>hsp w H a ns hlen hO hS) fun H e s'=>hCX w H s₁ e s'
def sorted_keyT {r q:ak}{ws:List ae}(hl0:IsTup s.heap r ws.toArray)(h64:ws.length<64)
  (h:∀ (g h1:bL) (D kS:ak) (e1:Nat),(∀ b o,s.heap.get? b=some o→g.get? b=some o)→(∀ b o,g.get? b=some o→h1.get? b=some o)→g.objs.size≤D→D<kS→h1.get? D=some (bJ "list" #[] e1)→h1.get? kS=some (bJ "list" #[] 0) →
   KeyDo prog w A.in1.in1 (.ref q) ws kS D e1 (fun t'=>Q (.ref D) t') { s with heap:=h1 }) :
  aU (bt prog w) A (jZ (.builtin "sorted") [.ref r] [(cq "key",.ref q)]) Q E s:=by
 obtain ⟨ob,ho,hc,n,hd⟩:=hl0;apply call_function_entry_kw kind_sorted plain_sorted entry_sorted (ksk_s1 _ _) ?_;unfold eQ.«sorted»;apply ai (m:=checkCount "sorted" 1 1 _) (aL ?_);apply ai (wpAny_collect_seq r (.inr rfl) ho hc hd (fun h' hk=>?_) (by rw [aG,gi];lia));rw [show ws.toArray.toList=ws by simp];apply ai (wpAny_newList ?_ (by rw [gi];lia));have hoL:(h'.push (bJ "list" ws.toArray 0)).get? h'.objs.size=some (bJ "list" ws.toArray 0):=aQ _ rfl;show aU _ _ _ _ _ { s with heap:=h'.push (bJ "list" ws.toArray 0) };apply ai (cW (wpAny_call_entry_kw slot_list_sort ⟨_,hoL,rfl⟩ entry_list_sort ?body (ksk_l1 _ _)))
 case body =>
  show aU (bt prog w) A.in1.in1 (eQ.«list.sort» ⟨[.ref h'.objs.size],[(cq "key",.ref q)]⟩) _ _ _;rw [ksk_t1];apply key_tree (s:={ s with heap:=h'.push (bJ "list" ws.toArray 0) }) hoL ⋯ fun e1 g1 g2=>?_
  have K:=h h' (kT (h'.push (bJ "list" ws.toArray 0)) h'.objs.size ws) h'.objs.size ((h'.push (bJ "list" ws.toArray 0)).objs.size+1) e1 hk ?_ (az _) (by rw [size_push'];exact gL (jf _)) g1 g2
  ·obtain ⟨J,j0,jc,je⟩:=K
   apply ⟨J,j0,jc,fun ks t' x1 x2=>?_⟩;obtain ⟨y1,κ,lt,y2,y3,y4,y5⟩:=je ks t' x1 x2;exact ⟨y1,κ,lt,y2,y3,y4,fun p p1 p2=>⟨_,rfl,aL ⟨_,rfl,y5 p p1 p2⟩⟩⟩
  ·exact fun b o e=>mid_keep (bB (aI e)) (aq _ e)
def its_at:∀ {ns:List Int} {its:List ae} {i:Nat} {x:ae},gw (ns.map V.int) its→its[i]? =some x→∃ t,x= .int (ns.getD i 0) t
 | [],_,_,_,.nil,e=>by simp at e
 | n::ns,_,0,_,.cons r _,e=>by
  cases e;exact r
 | n::ns,_,i+1,_,.cons _ rs,e=>its_at (ns:=ns) (i:=i) rs e
def SortTQ (P:ak)(lp:Pos)(lq:Str)(js:List Nat)(te:TE)(σ:St)(Q:VK)(v:V)(H1:Hp):Prop:=∃ (r:ak) (ns:List Int) (key:Nat→Int×Int),v= .ref r∧H1 r=some (.tup (ns.map V.int))∧ns.length<64∧LamT P lp lq H1∧((aJ ns.length).map key).Nodup ∧
 (∀ i:Nat,i<ns.length→∀ H2,Tb P H1 H2→te (some (.int (ns.getD i 0))::cZ σ js) H2 fun u H3=>bG H2 H3∧∃ a,u= .ref a∧H3 a=some (.tup [.int (key i).1,.int (key i).2])) ∧
 ∀ (D:ak) (H4:Hp) (π:List Nat),Tb P H1 H4→LamT P lp lq H4→H4 D=none→π.Perm (aJ ns.length)→π.Pairwise (fun i j=>ltP (key i) (key j)=true)→Q (.ref D) (upd H4 D (.lst (π.map fun (i:Nat)=>V.int (ns.getD i 0))))
def tSortT (P:ak)(lp:Pos)(lq:Str)(tr:TE)(js:List Nat)(te:TE):TE:=fun σ H Q=>tr σ H fun v H1=>SortTQ P lp lq js te σ Q v H1
def SortT1 (P:ak)(lp:Pos)(lq:Str)(js:List Nat)(te:TE)(σ:St)(Q:VK):List V→Hp→Prop
 | [v],H1=>SortTQ P lp lq js te σ Q v H1
 | _,_=>False
theorem pe_sortT {p kp:Pos}{c P:ak}(hc:X.calm=true)(hrm:X.A.depth<jn)(hg:Gl X "sorted")(hm:X.mg "sorted" =none)(hi:PE X re tr)
  (hd:defaultsOf params X.env=([],[])) (nE:X.env.code= .ref c) (C:codeHdIn X.K c P=true) (B:BM X.mg X.base)
  (hbind:∀ q cl pm cdv ct (u:ae),bindArgs (kla_fn "<lambda>" q params body scope cl pm cdv ct) ⟨[u],[]⟩=fQ [(x,u)])
  (hk:scope.kind= .function) (hco:scope.isCoroutine=false) (hgen:scope.isGenerator=false) (iD:∀ y∈scope.names,y.2≠ .cell) (hx:scope.names.lookup x=some .local) (hfx:x ∉ fr)
  (hfr:∀ y∈scope.names,y.2= .free→X.env.scope.names.lookup y.1=some .cell) (hjs:js.map (fun j=>X.N[j]?)=fr.map some) (hfv:∀ y∈fr,scope.names.lookup y=some .free)
  (hb:∀ cl L f cd s' H',PE (cxLam X (X.env.qual ++ "<lambda>") scope cl L f cd (x::fr) s' H') body te)
  (he:eR pos (br [re] X.env)=(false,eE re X.env)::eR pos (br [] X.env):=by rfl)
  (hs:br [re] X.env=(false,eE re X.env)::br [] X.env:=by rfl) (hpl:(eR pos (br [re] X.env)).any (·.1)=false:=by rfl) :
  PE X (.Call (.Name "sorted" p) [re] [⟨some "key",.Lambda params body scope lp,kp⟩] pos) (tSortT P lp (X.env.qual ++ "<lambda>") tr js te):=by
 intro aR s σ H Q I h;apply dZ (mE I hg hm (u:= .builtin "sorted") ⇑0 ?_);apply callWith_kw (kws:=[⟨some "key",.Lambda params body scope lp,kp⟩]) (thn ((ag hi aD hs) pos aR s σ H (SortT1 P lp (X.env.qual ++ "<lambda>") js te σ Q) I h) fun us s1 ⟨vs,H1,I1,r1,q0⟩=>?_) he hpl;apply kws_cons ?_;obtain ⟨v,rfl⟩:∃ v,vs=[v]:=by
  cases vs with
  | nil=>exact q0.elim
  | cons v r=>cases r with
   | nil=>exact ⟨v,rfl⟩
   | cons _ _=>exact q0.elim
 have q1:SortTQ P lp (X.env.qual ++ "<lambda>") js te σ Q v H1:=q0;obtain ⟨r,ns,key,rfl,hr,h64,T,hnd,hkey,hQ⟩:=q1;obtain rfl:us=[.ref r]:=by
  cases r1 with
  | cons ru rs =>
   cases rs;exact rV (fun z=>[z]) ru
 apply lam_make (body:=body) I1 hd nE C B hfr T fun f cl H2 s2 I2 tb T2 F2 c1 c2=>?_
 apply kws_nil ?_;show aU _ _ (jZ (.builtin "sorted") [.ref r] [(cq "key",.ref f)]) _ _ _;have rP:r≠P:=fun z=>by
  rcases T with T | ⟨_,T,_⟩ <;> rw [←z,hr] at T <;> cases T
 obtain ⟨its,rv,ht,_⟩:=I2.tuple (SqT.of (K:=X.K) (tb r _ rP hr));have lits:its.length=ns.length:=by rw [←rv.length,aa]
 apply sorted_keyT ht ⋯ fun g h1 D kS e1 hg hkeep hD hDk gD gK=>?_
 have I2:Inv X aR σ H2 { s2 with heap:=g }:=I2.kept (t':=s2.toks) hg;have I3:Inv X aR σ H2 { s2 with heap:=h1 }:=I2.kept (t':=s2.toks) hkeep;have old:∀ b o,g.get? b=some o→b≠D∧b≠kS:=fun b o e=>⟨bB (aM (aI e) hD),bB (Nat.lt_trans (aM (aI e) hD) hDk)⟩
 have hDs:=aI gD;have hKs:=aI gK;have frD:H2 D=none:=I2.hok.fresh hD;have frK:H2 kS=none:=I2.hok.fresh (jg (bX hD hDk));have cc:∀ y d,X.env.cells.lookup y=some d→d≠D∧d≠kS:=fun y d e=>by obtain ⟨v,o,ho,_⟩:=I2.cell y d e;exact old d o ho
 have pp:∀ z∈X.pn++aR,z.1≠D∧z.1≠kS:=fun z hz=>old _ _ (I2.pin z hz).1
 have nl:g.objs.size≤kS:=jg (bX hD hDk);have I4:Inv X ((kS,bJ "list" #[] 0)::(D,bJ "list" #[] e1)::aR) σ H2 { s2 with heap:=h1 }:=I3.pins_of fun z hz=>by
  rcases aF.mp hz with rfl | hz
  ·exact ⟨gK,frK,cE (aM I2.lt nl),I2.nofs nl,fun v z=>by cases z⟩
  ·rcases aF.mp hz with rfl | hz
   ·exact ⟨gD,frD,cE (aM I2.lt hD),I2.nofs hD,fun v z=>by cases z⟩
   ·exact I3.pin z (aA _ hz)
 apply keyDo_of (num:=fun i=>ns.getD i 0) (key:=key) I4 lits h64 (fun i x e=>its_at rv e) (aN I2.sz nl) (aN I2.sz hD) (fun y d e=>(cc y d e).2) (fun y d e=>(cc y d e).1) (fun z hz=>(pp z hz).2) (fun z hz=>(pp z hz).1) (cE hDk) hnd ?_ ?_
 ·intro t H' pins' i tk hi' I' S'
  apply cf (pq (v:= .int (ns.getD i 0)) I' hc hrm (F2.same S') ⟨_,rfl⟩ (fun pm cdv ct=>hbind _ _ _ _ _ _) hk hco hgen iD hx hfx c1 c2 hfr hjs hfv (fun L cd s' H'=>hb cl L f cd s' H') (hkey i hi' H' (tb.trans S'.tb))) (fun k t' ⟨v,H'',I'',rv,S'',a,ev,ea⟩=>?_) fun _ _ z=>z
  subst ev;obtain rfl:k= .ref a:=rv;exact ⟨a,H'',I'',S'',rfl,ea⟩
 ·intro t H' π S' hD' I' pm pw
  exact ⟨.ref D,_,I',rfl,hQ D H' π (tb.trans S'.tb) (T2.same S') hD' pm pw⟩
def ptF (H:Hp)(fz:ak→Option Obj):Hp:=fun b=>match fz b with | some o=>some (.frz o (.own 0)) | none=>H b
def ctF (H:Hp)(fz:ak→Option Obj):Hp:=fun b=>match fz b with | some _=>none | none=>H b
def Fz (fz:ak→Option Obj)(H:Hp):Prop:=∀ b o,fz b=some o→H b=some (.frz o (.own 0))
section
variable {b:ak}{o:Obj}{fs:List ak}
def ra (e:fz b=some o):ptF H fz b=some (.frz o (.own 0)):=by unfold ptF;rw [e]
def iA (e:fz b=none):ptF H fz b=H b:=by unfold ptF;rw [e]
def rF (e:fz b=some o):ctF H fz b=none:=by unfold ctF;rw [e]
def iV (e:fz b=none):ctF H fz b=H b:=by unfold ctF;rw [e]
def Fz.out (F:Fz fz H){u:HO}(e:H b=some u)(n:∀ o,u≠ .frz o (.own 0)):fz b=none:=by
 cases q:fz b with
 | none=>rfl
 | some o=>rw [F b o q] at e;cases e;exact rQ rfl (n o)
def Fz.cut (F:Fz fz H){u:HO}(e:H b=some u)(n:∀ o,u≠ .frz o (.own 0)):ctF H fz b=some u:=by rw [iV (F.out e n)];exact e
def HOk.cut (hok:HOk P w H h)(F:Fz fz H):HOk P w (ctF H fz) h:=fun a o e=>by
 cases q:fz a with
 | some o'=>rw [rF q] at e;cases e
 | none =>
  rw [iV q] at e;exact (hok a o e).stay (fun _ _ _ e=>e) (fun b e'=>F.cut e' (fun _ z=>by cases z)) fun b xs e'=>F.cut e' (fun _ z=>by cases z)
def HOk.ptF (hok:HOk P w H h)(N:∀ b o,fz b=some o→H b=none)(G:∀ b o,fz b=some o→h.get? b=some o):HOk P w (ptF H fz) h:=fun a o e=>by
 cases q:fz a with
 | some o' =>
  rw [ra q] at e;cases e;exact ⟨G a o' q,_,G a o' q⟩
 | none =>
  rw [iA q] at e;have out:∀ b u,H b=some u→fz b=none:=fun b u e'=>by
   cases q':fz b with
   | none=>rfl
   | some o'=>rw [N b o' q'] at e';cases e'
  exact (hok a o e).stay (fun _ _ _ e=>e) (fun b e'=>by rw [iA (out b _ e')];exact e') fun b xs e'=>by rw [iA (out b _ e')];exact e'
def Un.thaw (u:Un fs [] (ptF H fz) H' h h')(N:∀ b o,fz b=some o→H b=none)(hok:HOk P w H' h')(G:∀ b o,fz b=some o→h.get? b=some o):Un fs [] H (ctF H' fz) h h':=by
 have F:Fz fz H':=fun b o e=>u.frzs b o _ (ra e)
 have out:∀ b u,H b=some u→fz b=none:=fun b u e'=>by
  cases q':fz b with
  | none=>rfl
  | some o'=>rw [N b o' q'] at e';cases e'
 have same:∀ b o ob,fz b=some o→h.get? b=some ob→h'.get? b=some ob:=fun b o ob q e=>by
  have e1:=G b o q;rw [e] at e1;cases e1;exact (hok b _ (F b _ q)).1
 apply ⟨fun b o e n hf hx=>?_,fun b o e n hf hx=>?_,fun b o e n hx=>?_,u.there,fun b xs e=>?_,fun b o x e=>?_,fun b ps e=>?_⟩
 ·cases q:fz b with
  | some o'=>exact same b o' o q e
  | none=>exact u.keep b o e (by rw [iA q];exact n) hf hx
 ·cases q:fz b with
  | some o'=>exact ⟨o.slots,same b o' o q e⟩
  | none=>exact u.slot b o e (by rw [iA q];exact n) hf hx
 ·cases q:fz b with
  | some o'=>exact rF q
  | none=>rw [iV q];exact u.free b o e (by rw [iA q];exact n) hx
 ·have q:=out b _ e
  rw [iV q];exact u.tups b xs (by rw [iA q];exact e)
 ·have q:=out b _ e
  rw [iV q];exact u.frzs b o x (by rw [iA q];exact e)
 ·have q:=out b _ e
  rw [iV q];exact u.tbls b ps (by rw [iA q];exact e)
def Un.froze (u:Un fs [] (ctF H fz) H' h h')(F:Fz fz H):Un fs [] H (ptF H' fz) h h':=by
 have out:∀ b,H b=none→fz b=none:=fun b n=>by
  cases q:fz b with
  | none=>rfl
  | some o=>rw [F b o q] at n;cases n
 apply ⟨fun b o e n hf hx=>u.keep b o e (by rw [iV (out b n)];exact n) hf hx,fun b o e n hf hx=>u.slot b o e (by rw [iV (out b n)];exact n) hf hx,fun b o e n hx=>?_,u.there,fun b xs e=>?_,fun b o x e=>?_,fun b ps e=>?_⟩
 ·rw [iA (out b n)];exact u.free b o e (by rw [iV (out b n)];exact n) hx
 ·have q:=F.out e (fun _ z=>by cases z)
  rw [iA q];exact u.tups b xs (by rw [iV q];exact e)
 ·cases q:fz b with
  | some o'=>rw [F b o' q] at e;cases e;exact ra q
  | none=>rw [iA q];exact u.frzs b o x (by rw [iV q];exact e)
 ·have q:=F.out e (fun _ z=>by cases z)
  rw [iA q];exact u.tbls b ps (by rw [iV q];exact e)
end
structure Clo (cl:List (Str×ak))(fz:ak→Option Obj)(fr:List Str)(ws:List V):Prop where
 all:∀ x c,cl.lookup x=some c→∃ o,fz c=some o
 cell:∀ c o,fz c=some o→∃ v,o.data= .cell v
 inj:∀ a b c,cl.lookup a=some c→cl.lookup b=some c→a=b
 val:∀ (i:Nat) y v,fr[i]? =some y→ws[i]? =some v→∃ c o u,cl.lookup y=some c∧fz c=some o∧o.data= .cell (some u)∧gq v u
 len:ws.length=fr.length
structure LmOk (P:aX)(w:bC)(K:ar)(mg:Str→Option ae)(base:bL)(k:Nat)(f:ak)(Hf:Hp→Prop)(sp:Sp):Prop where
 isFn:∀ H h,Hf H→HOk P w H h→FnAt f h
 run:∀ (A:bS) (outer:List Env) (s:av) (H:Hp) (u:ae) (v:V) (Q:VK),ik k A→Env0 P w K mg base A outer s H→Hf H→gq v u→sp [v] H Q E0→i9 (bt P w) A (.call (.ref f) ⟨[u],[]⟩) (CR CX0 outer P w H s Q E0) s
def cxLm (P:aX)(w:bC)(K:ar)(mg:Str→Option ae)(base:bL)(q:Str)(scope:fG)(cl:List (Str×ak))(L f:ak)(cd:ae)(N:List Str)(A:bS)(outer:List Env)(s:av)(H:Hp):Cx :=
 { prog:=P,w:=w,K:=K,mg:=mg,base:=base,A:=A.deeper (envX q scope L f cd cl),N:=N,s₀:=s,H₀:=H,env:=envX q scope L f cd cl,outer:=outer,stack:=envX q scope L f cd cl::outer,ex:=[],calm:=true,fn:=fun _=>false,pn:=[],xe:=fun _ _=>False }
def lam_run {k:Nat}{ws:List V}{sp:Sp}
  (hbind:∀ u pm cdv ct,bindArgs (kla_fn "<lambda>" q params body scope cl pm cdv ct) ⟨[u],[]⟩=fQ [(x,u)])
  (hk:scope.kind= .function) (hco:scope.isCoroutine=false) (hgen:scope.isGenerator=false) (iD:∀ y∈scope.names,y.2≠ .cell) (hx:scope.names.lookup x=some .local) (hfx:x ∉ fr)
  (C:Clo cl fz fr ws) (hcl:∀ y∈scope.names,y.2= .free→∃ c,cl.lookup y.1=some c) (hfv:∀ y∈fr,scope.names.lookup y=some .free)
  (hb:∀ L cd A outer s' H',ik k (A.deeper (envX q scope L f cd cl))→PE (cxLm P w K mg base q scope cl L f cd (x::fr) A outer s' H') body te)
  (ht:∀ v H Q,LamF q params body scope cl f H→Fz fz H→sp [v] H Q E0→te (some v::ws.map some) (ctF H fz) (fun y H'=>(∀ b o,fz b=some o→H' b=none)→Q y (ptF H' fz))) :
  LmOk P w K mg base (k+1) f (fun H=>LamF q params body scope cl f H∧Fz fz H) sp:=by
 apply ⟨fun H h ⟨⟨pm,cd,ct,e,_⟩,_⟩ hok=>⟨_,_,_,_,(hok f _ e).1⟩,fun A outer s H u v Q hr e0 ⟨F,Z⟩ ru hsp=>?_⟩;have ht:=ht v H Q F Z hsp;obtain ⟨pm,cd,ct,e,oc,vs,t,ec,hdc,hvc⟩:=F;have ho:s.heap.get? f=some (kla_obj "<lambda>" q params body scope cl pm cd ct):=(e0.hok f _ e).1;have hoc:s.heap.get? cd=some oc:=(e0.hok cd _ ec).1;apply kla_callFunE (by have:=hr.dp;lia) ho rfl hco hgen rfl ⟨cd,oc,vs,t,rfl,hoc,hdc,hvc⟩ ?_;rw [hbind];apply aL (wpAny_newFunctionEnv iD (fun y hy=>?_) (fun h₁ hns hsb=>⟨?nl,?_⟩) hk)
 ·rw [aw.mp hy];exact hx
 case nl=>exact (e0.mod.nolimit.keeps (fun b o e=>(e0.bs b o e).1)).fresh _ hsb
 show i9 _ _ (.expr body (envX q scope s.heap.objs.size f (.ref cd) cl)) _ _;have old:∀ b o,s.heap.get? b=some o→h₁.get? b=some o:=fun b o e=>hsb.extBut b o (bB (aI e)) (aq _ e)
 apply kla_codeExpr ?_;have hokc:=HOk.cut e0.hok Z;have cutN:∀ b,H b=none→ctF H fz b=none:=fun b n=>by
  cases z:fz b with
  | some o=>exact rF z
  | none=>rw [iV z];exact n
 have ok':(cxLm P w K mg base q scope cl s.heap.objs.size f (.ref cd) (x::fr) A outer s (ctF H fz)).Ok:=by
  apply ⟨e0.mod,hk,rfl,rfl,az _,C.inj,fun y hy=>?_,fun _ _ z=>rQ z (by intro q;cases q),fun _=>hr.hd,bS.frames_deeper e0.frames,.inr ⟨rfl,rfl⟩,fun b hb=>rQ (show b∈([]:List ak) from hb) ∅,fun b o e=>⟨(e0.bs b o e).1,cutN b (e0.bs b o e).2⟩,e0.bsz,fun b o e hb=>rQ (show b∈([]:List ak) from hb) ∅,fun b hb=>rQ (show b∈([]:List ak) from hb) ∅,e0.funs,fun b hb=>cutN b (e0.frf b hb)⟩;have hy:scope.names.lookup y=some .cell∨scope.names.lookup y=some .free:=hy
  rcases hy with hy | hy
  ·exact rQ rfl (iD _ (cu hy))
  ·exact hcl _ (cu hy) rfl
 have cellAt:∀ c o,fz c=some o→h₁.get? c=some o:=fun c o z=>old _ _ (e0.hok c _ (Z c o z)).1
 have I1:Inv (cxLm P w K mg base q scope cl s.heap.objs.size f (.ref cd) (x::fr) A outer s (ctF H fz)) [] (some v::ws.map some) (ctF H fz) { s with heap:=h₁,toks:=s.toks+1 }:=by
  apply ⟨ok',rfl,e0.bare,Un.kept old,⟨_,hns,fun i y v' e1 e2 e3=>?_⟩,fun y c e=>?_,hokc.fresh (az _),fun y c e=>?_,fun p hp=>rQ (show p∈([]:List (ak×Obj)) from hp) ∅,hokc.kept old,?_⟩
  ·cases i with
   | zero =>
    have e1:some x=some y:=e1;have e2:some (some v)=some (some v'):=e2;cases e1;cases e2;exact ⟨u,ru,.inl ⟨hx,by show eM x [(x,u)]=_;rw [dm,beq_self_eq_true]⟩⟩
   | succ i =>
    have e1:fr[i]? =some y:=e1;have e2:(ws.map some)[i]? =some (some v'):=e2;rw [ax] at e2;obtain ⟨v2,e2,e4⟩:=aO.mp e2;cases e4;obtain ⟨c,o,u',z1,z2,z3,z4⟩:=C.val i y v' e1 e2;exact ⟨u',z4,.inr ⟨.inr (hfv y (aW e1)),c,z1,o,cellAt c o z2,z3⟩⟩
  ·obtain ⟨o,z⟩:=C.all y c e
   obtain ⟨v',hv'⟩:=C.cell c o z;exact ⟨v',o,cellAt c o z,hv'⟩
  ·obtain ⟨o,z⟩:=C.all y c e
   exact rF z
  ·show (some v::ws.map some).length=(x::fr).length
   rw [aP,aP,aa,C.len]
 apply cf (hb _ _ A outer s (ctF H fz) (hr.deeper _) [] _ _ (ctF H fz) _ I1 ht) (fun y s' hs=>?_) fun _ _ z=>z.elim
 obtain ⟨v',H',J,rv,qv⟩:=hs;have JB:Un (frs outer) [] (ctF H fz) H' s.heap s'.heap:=J.base;have heapAt:∀ b o,fz b=some o→s'.heap.get? b=some o:=fun b o z=>JB.keep b o (e0.hok b _ (Z b o z)).1 (rF z) (fun hb=>by have:=e0.frf b hb;rw [Z b o z] at this;cases this) ∅
 have freeAt:∀ b o,fz b=some o→H' b=none:=fun b o z=>JB.free b o (e0.hok b _ (Z b o z)).1 (rF z) ∅
 exact ⟨v',ptF H' fz,J.os,J.bare,Un.froze JB Z,HOk.ptF J.hok freeAt heapAt,rv,qv freeAt⟩
def tLam (i:Nat)(f:ak)(Hf:Hp→Prop)(sp:Sp)(t:TE):TE:=fun σ H Q=>σ[i]? =some (some (.ref f))∧Hf H∧t σ H fun v H1=>Hf H1∧sp [v] H1 Q E0
def pe_callV {k:Nat}{p:Pos}{t:TE}{sp:Sp}(L:LmOk X.prog X.w X.K X.mg X.base k f Hf sp)(hr:ik k X.A)(ha:PE X e t)(hN:X.N[i]? =some x:=by rfl)(hv:Vis X.env.scope x:=by first | exact Or.inl rfl | exact Or.inr (.inl rfl) | exact Or.inr (.inr rfl))
  (hd:(x == ("__debug__" :Str))=false:=by decide) (hcd:(x == ("__classdict__" :Str))=false:=by decide) (he:br [e] X.env=[(false,eE e X.env)]:=by rfl):PE X (.Call (.Name x p) [e] [] pos) (tLam i f Hf sp t):=by
 intro aR s σ H Q I ⟨h1,h2,h3⟩;apply dZ (thn (pe_var hN hv hd hcd aR s σ H (fun v H1=>v= .ref f∧H1=H) I ⟨_,h1,rfl,rfl⟩) fun u s1 ⟨v,H1,I1,r1,e1,e2⟩=>?_);subst e1;subst e2;cases r1;apply callWith_F (L.isFn _ _ h2 I1.hok) (thn ((ag ha aD he) pos aR s1 σ H1 (fun vs H2=>match vs with | [v]=>Hf H2∧sp [v] H2 Q E0 | _=>False) I1 h3) fun us s2 ⟨vs,H2,I2,r2,q2⟩=>?_) he rfl
 ·obtain _ | ⟨v,_ | ⟨v',vs⟩⟩:=vs
  ·exact q2.elim
  rotate_left
  ·exact q2.elim
  obtain ⟨h4,h5⟩:=q2;obtain ⟨u,rfl,ru⟩:=r2.one;apply ⟨L.isFn _ _ h4 I2.hok,wpAny_call (codeAny_mono (L.run X.A X.stack s2 H2 u v Q hr I2.env0 h4 ru h5) fun r s' hq=>?_)⟩;cases r with
  | error e=>exact cT hq
  | ok fl =>
   cases fl with
   | ret u=>exact I2.after hq
   | next=>exact cT hq
   | brk=>exact cT hq
   | cont=>exact cT hq
def LamE (env:Env)(scope:fG)(cl:List (Str×ak)):Prop:=(∀ x c,cl.lookup x=some c→env.cells.lookup x=some c)∧∀ y∈scope.names,y.2= .free→cl.lookup y.1=env.cells.lookup y.1
def tLamb (env:Env)(T:ak)(lp:Pos)(params:fU)(body:Expr)(scope:fG):TE:=fun _ H Q=>LamT T lp (env.qual ++ "<lambda>") H∧∀ g cl H',Tb T H H'→LamT T lp (env.qual ++ "<lambda>") H'→LamF (env.qual ++ "<lambda>") params body scope cl g H'→LamE env scope cl→Q (.ref g) H'
def tCallZ (env:Env)(scope:fG)(fr:List Str)(js:List Nat)(sp:Sp)(t:TA):TE:=fun σ H Q=>t σ H fun vs H1=>∃ cl ws,LamE env scope cl∧cZ σ js=ws.map some∧∀ fz,Clo cl fz fr ws→(∀ b o,fz b=some o→H1 b=none)→sp vs (ptF H1 fz) (fun y H'=>Fz fz H'→Q y (ctF H' fz)) E0
open Classical in
def oM (cl:List (Str×ak))(h:bL):ak→Option Obj:=fun b=>if ∃ x,cl.lookup x=some b then h.get? b else none
section
variable {σ:List (Option V)}
def pe_lam {c T:ak}(hd:defaultsOf params X.env=([],[]))(nE:X.env.code= .ref c)(C:codeHdIn X.K c T=true)(B:BM X.mg X.base)
  (hfr:∀ y∈scope.names,y.2= .free→X.env.scope.names.lookup y.1=some .cell):PE X (.Lambda params body scope pos) (tLamb X.env T pos params body scope):=fun _ _ _ _ _ I ⟨L,h⟩ =>
 lam_make I hd nE C B hfr L fun f cl H' _ I' t1 T1 F c1 c2=>⟨.ref f,H',I',rfl,h f cl H' t1 T1 F ⟨c1,c2⟩⟩
def oi {b:ak}{o:Obj}(e:oM cl h b=some o):(∃ x,cl.lookup x=some b)∧h.get? b=some o:=by
 unfold oM at e;split at e
 ·rename_i z;exact ⟨z,e⟩
 ·cases e
def frzOf_of {b:ak}{o:Obj}(z:cl.lookup x=some b)(e:h.get? b=some o):oM cl h b=some o:=by
 unfold oM;rw [rO ⟨x,z⟩];exact e
def Inv.clo {ws:List V}(I:Inv X aR σ H s)(E:LamE X.env scope cl)(hws:cZ σ js=ws.map some)(hjs:js.map (fun j=>X.N[j]?)=fr.map some)(hfv:∀ y∈fr,scope.names.lookup y=some .free)
  (hfr:∀ y∈scope.names,y.2= .free→X.env.scope.names.lookup y.1=some .cell):Clo cl (oM cl s.heap) fr ws:=by
 have lens:ws.length=fr.length:=by
  have e:=rV List.length hws;have e2:=rV List.length hjs;unfold cZ at e;rw [aa,aa] at e e2;lia
 apply ⟨fun x c e=>?_,fun c o e=>?_,fun a b c e1 e2=>I.ok.inj a b c (E.1 a c e1) (E.1 b c e2),fun i y v e1 e2=>?_,lens⟩
 ·obtain ⟨v,o,ho,_⟩:=I.cell x c (E.1 x c e)
  exact ⟨o,frzOf_of e ho⟩
 ·obtain ⟨⟨x,hx⟩,ho⟩:=oi e
  obtain ⟨v,o',ho',hd⟩:=I.cell x c (E.1 x c hx);rw [ho] at ho';cases ho';exact ⟨v,hd⟩
 ·have e3:(cZ σ js)[i]? =some (some v):=by rw [hws,ax,e2];rfl
  unfold cZ at e3;rw [ax] at e3;obtain ⟨j,ej,e3⟩:=aO.mp e3;have hN:X.N[j]? =some y:=by
   have q:=rV (fun l=>l[i]?) hjs;simp only [ax,ej,e1,gm] at q;exact bE q
  have hσ:σ[j]? =some (some v):=by
   cases z:σ[j]? with
   | none=>rw [z] at e3;cases e3
   | some w=>rw [z] at e3;exact rV some e3
  have hm:=cu (hfv y (aW e1));have hce:X.env.scope.names.lookup y=some .cell:=hfr _ hm rfl;obtain ⟨m,_,hl⟩:=I.loc;obtain ⟨u',ru',look⟩:=hl j y v hN hσ (.inr (.inl hce))
  rcases look with ⟨k,_⟩ | ⟨_,c,ec,o,ho,hd⟩
  ·have k:X.env.scope.names.lookup y=some .local:=k
   rw [hce] at k;cases k
  ·have ecl:cl.lookup y=some c:=(E.2 _ hm rfl).trans ec
   exact ⟨c,o,u',ecl,frzOf_of ecl ho,hd,ru'⟩
def pe_callZ {p:Pos}{k:Nat}{sp:Sp}(F:cO X.prog X.w X.K X.mg X.base CX0 k f fd ps sp)(hr:ik k X.A)(hfn:∀ x,X.fn x=true)(hg:Gl X x)(hm:X.mg x=some (.ref f))(hk:eS X.K (.ref f)=true)(hb:oO X.K fd ps [])
  (hjs:js.map (fun j=>X.N[j]?)=fr.map some) (hfv:∀ y∈fr,scope.names.lookup y=some .free) (hfr:∀ y∈scope.names,y.2= .free→X.env.scope.names.lookup y.1=some .cell)
  (ha:PA X (e::es) t) (hdb:(x == ("__debug__" :Str))=false:=by decide) (he:br (e::es) X.env=(false,eE e X.env)::br es X.env:=by rfl) (hpl:(eR pos (br es X.env)).any (·.1)=false:=by rfl) :
  PE X (.Call (.Name x p) (e::es) [] pos) (tCallZ X.env scope fr js sp t):=by
 intro aR s σ H Q I h;apply dZ (ld_glob I hg hm ?_ hdb);apply kM (h₀:=X.base) I.ok.mod.kin hk (thn (ha pos aR s σ H _ I h) fun us s1 ⟨vs,H1,I1,r,q⟩=>⟨I1.kIn,?_⟩) he hpl;obtain ⟨cl,ws,LE,hws,q⟩:=q;have C:=I1.clo LE hws hjs hfv hfr;have N:∀ b o,oM cl s1.heap b=some o→H1 b=none:=fun b o e=>by
  obtain ⟨⟨x,hx⟩,_⟩:=oi e;exact I1.freeC x b (LE.1 x b hx)
 have G:∀ b o,oM cl s1.heap b=some o→s1.heap.get? b=some o:=fun b o e=>(oi e).2
 have up:∀ b o,oM cl s1.heap b=some o→X.s₀.heap.objs.size≤b:=fun b o e=>by
  obtain ⟨⟨x,hx⟩,_⟩:=oi e;exact I1.ok.cab x b (hfn x) (LE.1 x b hx)
 have q:=q _ C N;have hl:us.length=ps.length:=by rw [←r.length];exact F.len _ _ _ _ q
 have e0:Env0 X.prog X.w X.K X.mg X.base X.A X.stack s1 (ptF H1 (oM cl s1.heap)):=by
  have e:=I1.env0;apply ⟨e.frames,e.mod,fun b o eb=>⟨(e.bs b o eb).1,?_⟩,e.bsz,e.funs,fun b hb=>?_,HOk.ptF e.hok N G,e.bare⟩
  ·cases z:oM cl s1.heap b with
   | none=>rw [iA z];exact (e.bs b o eb).2
   | some o' =>
    have h1:=up b o' z;have h2:=aI eb;have h3:=I1.ok.bsz;exact rQ (aM h2 (aN h3 h1)) (fM _)
  ·cases z:oM cl s1.heap b with
   | none=>rw [iA z];exact e.frf b hb
   | some o' =>
    exfalso
    rcases aF.mp (I1.stkSub b hb) with el | hb'
    ·obtain ⟨v,hv⟩:=C.cell b o' z
     obtain ⟨m,⟨o2,es2,ep2,ho2,hd2,_⟩,_⟩:=I1.loc;have e1:=G b o' z;rw [el,ho2] at e1;cases e1;rw [hd2] at hv;cases hv
    ·obtain ⟨_,o2,ho2,_⟩:=I1.ok.funs.mem hb'
     have h1:=up b o' z;have h2:=aI ho2;exact rQ (aM h2 h1) (fM _)
 apply wpAny_call (codeAny_mono (F.run X.A X.stack s1 _ ⟨us,[]⟩ us vs _ E0 hr e0 (by have:=hb s1 us I1.kIn (by rw [dg];exact hl);rw [dg] at this;exact this) r q) fun r' s' hq=>?_);cases r' with
 | error e=>exact cT hq
 | ok fl =>
  cases fl with
  | ret u =>
   obtain ⟨v,H',os,bare,un,hok,rv,qv⟩:=hq;have Z:Fz (oM cl s1.heap) H':=fun b o e=>un.frzs b o _ (ra e)
   exact I1.after ⟨v,ctF H' (oM cl s1.heap),os,bare,Un.thaw un N hok G,HOk.cut hok Z,rv,qv Z⟩
  | next=>exact cT hq
  | brk=>exact cT hq
  | cont=>exact cT hq
end
end L2
namespace HN
open PySem L2 PyProof.Rows
def prodW_lim {sp:List Sn}{L:Int}:∀ (l:List Nat),(∀ i∈l,0≤(wkey sp i).1∧(wkey sp i).1≤L)→1≤k5 sp l∧k5 sp l≤(L+1) ^ l.length
 | [],_=>⟨(fW 1:(1:Int)≤1),by show (1:Int)≤(L+1) ^ 0;rw [Int.pow_zero];exact fW 1⟩
 | i::l,h=>by
  obtain ⟨a,b⟩:=h i ∅;obtain ⟨c,d⟩:=prodW_lim l fun j hj=>h j (ay _ hj)
  rw [oG,aP,Int.pow_succ,Int.mul_comm ((L+1) ^ l.length)];apply ⟨?_,Int.mul_le_mul ⋯ d ⋯ ⋯⟩;have:1 * 1≤((wkey sp i).1+1) * k5 sp l:=Int.mul_le_mul ⋯ c ↥0 ⋯;lia
end HN
namespace L2
open PySem PySem.W PySem.Spec PyProof.Rows
def CGrt (i j:Int):Prop:=i.natAbs<10 ^ 1000∧j.natAbs<10 ^ 1000
theorem bits_grt {x:Int}(h:x.natAbs<10 ^ 1000):eQ.Int.intBits x≤2 ^ 20:=by
 unfold eQ.Int.intBits;split
 ·exact bo _
 ·rename_i hx
  have h0 : x.natAbs ≠ 0 := fun z => hx (by have e : x = 0 := by lia
                                            rw [e];rfl)
  have h2:=(Nat.log2_lt h0).mpr (Nat.lt_trans h (by trivial:10 ^ 1000<2 ^ 10000));have h3:(10000:Nat)+1≤2 ^ 20:=by decide
  lia
theorem ip_mulG:PIp X .Mult (fun x y H Q=>∃ i j,x= .int i∧y= .int j∧CGrt i j∧Q (.int (i * j)) H):=by
 intro aR s σ H x y v u Q I r1 r2 h;obtain ⟨i,j,e1,e2,hc,q⟩:=h;subst e1;subst e2;obtain ⟨t,rfl⟩:=r1;obtain ⟨t',rfl⟩:=r2;exact imul_int ⟨.int _,H,I.tok _,⟨_,rfl⟩,q⟩ (IntMulOk.of_bits (bits_grt hc.1) (bits_grt hc.2))
end L2
namespace L2
open PySem PySem.Spec PyProof.Rows
def Itvl (K:ar)(a:ak)(n:Nat):It :=
 ⟨fun i H=>∃ xs x,SqL K H a xs∧xs.length=n∧xs.reverse[i]? =some x,fun i H x H'=>H'=H∧∀ xs,SqL K H a xs→xs.reverse[i]? =some x,fun i _=>i=n⟩
theorem turn_revL (a it:ak)(n:Nat):Turn P w K tg (Itvl K a n) [it] it (fun i h=>h.IsRevIter it a ((n:Int) - 1 - (i:Nat))) where
 mem:=by simp
 obj:=fun i h st b hb=>by
  have e:b=it:=by simpa using hb
  subst e;obtain ⟨o,e,c,d⟩:=st;exact ⟨o,e,fun v z=>by rw [d] at z;cases z⟩
 keep:=fun i h h' st k=>st.at fun o e=>k it ∅ o e
 item:=by
  intro X hP hw hK hc i aR s σ H E I hf st hg;subst hP hw hK;obtain ⟨xs,x,hq,hn,hx⟩:=hg;obtain ⟨its,rv,p,hz⟩:=I.list hq;have hi:i<xs.length:=by
   have:=(ao.mp hx).1;rw [d7] at this;exact this
  have hx2:=hx;rw [List.getElem?_reverse hi] at hx2;obtain ⟨u,hu,ru⟩:=rv.get hx2;obtain ⟨f0,f1,f2,f3,f4,f5⟩:=hf it ∅;have e:(n:Int) - 1 - (i:Nat)=((xs.length - 1 - i:Nat):Int):=by lia
  rw [e] at st;apply wpAny_pyNext_rev_item st p.isList (x:=u) (by simpa using hu) fun h' st' sb=>?_
  have I1:Inv X aR σ H { s with heap:=h' }:=I.turned (t':=s.toks) (fun b o hb e=>(sb.2 b hb).trans e) f0 f1 f3 f4 f5;obtain ⟨o,e2,c,d⟩:=id st';have e3:((xs.length - 1 - i:Nat):Int) - 1=(n:Int) - 1 - ((i+1:Nat):Int):=by lia
  rw [e3] at st';exact ⟨u,rfl,go_of (s:={ s with heap:=h' }) e2 c d ↥0 ⟨x,H,I1,ru,⟨rfl,fun ys hy=>by rw [I.list_inj hy hq];exact hx⟩,st',fun b hb=>(hf b hb).1⟩⟩
 done:=by
  intro X hP hw hK hc i aR s σ H E I hf st hg;subst hP hw hK;obtain ⟨f0,f1,f2,f3,f4,f5⟩:=hf it ∅;have hg:i=n:=hg;have e:(n:Int) - 1 - (i:Nat)= -1:=by lia
  rw [e] at st;exact wpAny_pyNext_rev_end (I.ok.hd hc) st fun h' eb=>⟨rfl,I.turned (t':=s.toks) (fun b o hb e=>eb b o hb e) f0 f1 f3 f4 f5⟩
 self:=fun _ _ _ _ _ st h=>wpAny_pyIter_revIter st h
def iRevL (K:ar)(ta:TA):TI:=fun σ H R=>ta σ H fun vs H1=>∃ a xs,vs=[.ref a]∧SqL K H1 a xs∧R (Itvl K a xs.length) H1
theorem pi_revL {ta:TA}{p:Pos}(hg:Gl X "reversed")(hm:X.mg "reversed" =none)(ha:PA X [ea] ta)(hs:br [ea] X.env=[(false,eE ea X.env)]:=by rfl) :
  PI X tg (.Call (.Name "reversed" p) [ea] [] pos) (iRevL X.K ta):=by
 intro aR s σ H R I h;apply Call_ (mE I hg hm boot_reversed (fN (thn (ha pos aR s σ H _ I h) fun us s1 z=>?_) hs rfl));obtain ⟨vs,H1,I1,r1,q1⟩:=z;obtain ⟨a,xs,e,hA,q⟩:=q1;subst e;obtain ⟨u1,rfl,r2⟩:=nN r1;cases (show u1=ae.ref a from r2);obtain ⟨its,rv,pt',hz⟩:=I1.list hA;have hl:=rv.length;apply call_reversed_list pt'.isList ?_;have z1:(s1.heap.push (revObj a ((its.toArray.size:Int) - 1))).IsRevIter s1.heap.objs.size a ((xs.length:Int) - 1 - ((0:Nat):Int)):=by
  apply ⟨_,aQ _ rfl,rfl,?_⟩;rw [aG,←hl,show (xs.length:Int) - 1 - ((0:Nat):Int)=(xs.length:Int) - 1 by lia];rfl
 apply wpAny_pyIter_revIter (s:={ s1 with heap:=s1.heap.push (revObj a ((its.toArray.size:Int) - 1)) }) z1 ⟨s1.heap.objs.size,[s1.heap.objs.size],_,Itvl X.K a xs.length,H1,rfl,I1.kept (t':=s1.toks) fun c o e=>aq _ e,turn_revL a _ _,z1,fun b hb=>?_,q⟩;have e:b=s1.heap.objs.size:=by simpa using hb
 subst e;exact I1.fpOk (az _) (I1.hok.fresh (az _))
theorem for_revL {tb:TS}{D:lE}(Pv:Nat→St→Hp→Prop)(h0:Pv 0 σ H)(hl:∀ i σ H,i≤xs.length→Pv i σ H→SqL K H a xs)
  (hs:∀ i x σ H,xs.reverse[i]? =some x→Pv i σ H→g x σ H fun σ2 H2=>tb { D with nx:=Pv (i+1),ct:=Pv (i+1),bk:=D.nx } σ2 H2) (hd:∀ σ H,Pv xs.length σ H→D.nx σ H) :
  ∃ W:Nat→Nat→St→Hp→Prop,(∃ m,W 0 m σ H)∧∀ i m σ H,W i m σ H →
   ((Itvl K a xs.length).stop i H∧D.nx σ H)∨((Itvl K a xs.length).go i H∧∃ N:St→Hp→Prop,(∀ σ' H',N σ' H'→∃ m',m'<m∧W (i+1) m' σ' H')∧∀ x H',(Itvl K a xs.length).yld i H x H'→g x σ H' fun σ2 H2=>tb { D with nx:=N,ct:=N,bk:=D.nx } σ2 H2):=by
 apply ⟨fun i m σ H=>m=xs.length - i∧i≤xs.length∧Pv i σ H,⟨xs.length,∅,bo _,h0⟩,?_⟩;rintro i m σ H ⟨rfl,hi,p⟩;have q:=hl i σ H hi p
 by_cases e:i=xs.length
 ·subst e
  exact .inl ⟨rfl,hd σ H p⟩
 ·have hlt:i<xs.length:=fH hi e
  apply .inr ⟨⟨xs,_,q,rfl,gE (by rw [d7];exact hlt)⟩,Pv (i+1),fun σ' H' p'=>⟨xs.length - (i+1),⋯,rfl,⋯,p'⟩,fun x H' hy=>?_⟩;obtain ⟨rfl,hx⟩:=hy;exact hs i x σ _ (hx xs q) p
def thou_le (h:n≤1001):n≤bg:=aN h ↥0
inductive rInsert (x:V)(vs:List V)(H:Hp)(Q:VK):Prop
 | mk (l xs k y:_)(_:x= .ref l)(_:vs=[.int k,y])(_:H l=some (.lst xs))(_:xs.length≤1000)(_:0≤k)(_:k≤xs.length)(_:Q .non (upd H l (.lst (xs.take k.toNat++y::xs.drop k.toNat))))
theorem mt_insert:MtM X "list.insert" rInsert:=by
 intro aR s σ H x vs v us Q I rx rv h;obtain ⟨l,xs,k,y,rfl,rfl,hH,hz,k0,k1,q⟩:=h;cases rx;obtain ⟨u,w',rfl,⟨t,rfl⟩,ru⟩:=vals2 rv;obtain ⟨z,its,n,r,hl,e⟩:=I.lstM hH;have hlen:its.length=xs.length:=r.length.symm;have hs:its.toArray.size≤bg:=by rw [aG];exact thou_le ⋯
 have hf:eQ.List.listFitsIndex k=true:=by
  unfold eQ.List.listFitsIndex;simp only [cz,decide_eq_true_eq]
  constructor <;> lia
 apply call_meets PySem.F.slot_list_insert ⟨_,e,rfl⟩ PySem.F.entry_list_insert (PySem.F.args_list_insert_3 _ _ _) (PySem.AutoSeq1.list_insert_list_int_val_1 l its.toArray n k t w' (by rw [hf];decide) hs) ⟨e,?_⟩;apply ⟨.non,_,I.lset (its':=its.take k.toNat++w'::its.drop k.toNat) hH e ?_ ((r.take _).append (.cons ru (r.drop _))) ?_,rfl,q⟩
 ·show (its.toArray.extract 0 (if k<0 then (k+(its.toArray.size:Int)).toNat else min k.toNat its.toArray.size)).push w'++its.toArray.extract (if k<0 then (k+(its.toArray.size:Int)).toNat else min k.toNat its.toArray.size)=(its.take k.toNat++w'::its.drop k.toNat).toArray
  rw [rN ⋯,aG,Nat.min_eq_left ⋯]
  apply Array.toList_inj.mp ?_
  have ht:(its.drop k.toNat).take (its.length - k.toNat)=its.drop k.toNat:=jR (by rw [dt];lia);simp [ht]
 ·rw [au,aP,bK,dt]
  exact thou_le ⋯
end L2
namespace HN
open PySem L2 PyProof.Rows
abbrev sTables:cL:=top 70
inductive spTabsA (vs:List V)(H:Hp)(Q:VK)(_:XK):Prop
 | mk (b m:Int)(_:vs=[.int b,.int m])(_:0≤b)(_:b≤6)(_:0≤m)(_:m≤3)(_:∀ L us H',bG H H'→H' L=some (.lst us)→dW H' us (de id (oo b.toNat m.toNat))→Q (.ref L) H')
def lM:bW ["_law_beat","_law_many","_law_tables_here","_law_k","_law_longer","_law_table_here"] pzC (defScope sTables):=by trivial
theorem ok_tables (F:Fun K "_law_tables" "_law_tables" sTables f fd)(T2:Nt mg):cO P w K mg base CX0 1 f fd pzC spTabsA:=by
 specialize F.ok lM;obtain ⟨b,m,rfl,b0,b1,m0,m1,k⟩:=h;apply ⟨_,PSl.h (ba ⟨(psZ 2 lM.nd (ny (ag (dB aD) aD)))⟩
  (ba ⟨(iL bH rfl (gG rfl T2.range (ag (pv 1) aD)) (pgZ 3 lM.nd) (PSl.h (ba ⟨(psZ 4 lM.nd (ny aD))⟩
  (ba ⟨(iL bH rfl (gH (pv 2)) (pgZ 5 lM.nd) (cw (psZ 4 lM.nd (c9 op_catL (pv 4) (gW (fr:=["_law_table_here"]) (js:=[5]) rfl (gG rfl T2.range (ag (pv 0) aD)) ⇑0 rfl ⇑0 rfl (by exists sTables) ⇑0 rfl ⇑0 (fun _ _ _ _ _=>⟨(c9 (r:=rCatA K) mw (pv 1) (dB (ag (pv 0) aD))),gU⟩))))))⟩
  (cS ⟨(psZ 2 lM.nd (pv 4))⟩)))))⟩
  (cS ⟨(b9 (pv 2))⟩))),?_⟩
 apply ⟨bo _,fun q1 H1 S1 h1=>⟨szZ1,fun q2 H2 S2 h2=>?_⟩⟩;apply ⟨_,rfl,m,rfl,⋯,⋯,?_⟩;have cap:∀ i:Nat,i≤3→(oo b.toNat i).length≤216:=fun i hi=>aN (allT_len _ i) (aN (Nat.pow_le_pow_left (by lia:b.toNat≤6) i) (Nat.pow_le_pow_right ↥0 hi))
 apply lh (n:=m.toNat) (fun i σ H3=>bG H H3∧∃ (L:ak) (us:List V) (v3 v4 v5:Option V),σ=[some (.int b),some (.int m),some (.ref L),v3,v4,v5]∧H3 L=some (.lst us)∧dW H3 us (de id (oo b.toNat i))) ⟨S1.trans S2,q2,_,none,none,none,rfl,h2,.cons (.tup (S2 _ _ h1) .nil) .nil⟩ ?_ ?_
 ·rintro i σ H3 hi ⟨S3,L,us,v3,v4,v5,rfl,hL,hT⟩
  have lus:us.length=(oo b.toNat i).length:=by rw [hT.length];exact aa ..
  have hn:us.length≤216:=by rw [lus];exact cap i ⋯
  apply ⟨bo _,fun q4 H4 S4 h4=>?_⟩;apply ⟨_,rfl,L,rfl,⟨_,SqL.of (S4 _ _ hL)⟩,?_⟩;apply jx (K:=K) (a:=L) (xs:=us) (fun j σ H5=>bG H4 H5∧∃ (L2:ak) (ws:List V) (v5:Option V),σ=[some (.int b),some (.int m),some (.ref L),some (.int ((0:Int)+(i:Nat))),some (.ref L2),v5]∧H5 L2=some (.lst ws)∧dW H5 ws (de id (l4 b.toNat ((oo b.toNat i).take j)))∧ws.length≤6 * j) ⟨bG.refl H4,q4,[],_,rfl,h4,.nil,az _⟩ (fun j σ H5 _ ⟨S5,_⟩=>SqL.of (S5 _ _ (S4 _ _ hL))) ?_ ?_
  ·rintro j u σ H5 hu ⟨S5,L2,ws,v5,rfl,hL2,hW,hwn⟩
   have hj:j<us.length:=(ao.mp hu).1;have hj2:j<(oo b.toNat i).length:=by lia
   obtain ⟨d,ed,dd⟩:=hT.get hu;unfold de at ed;rw [ax,gE hj2] at ed;cases ed;obtain ⟨q,zs,rfl,hq,rz⟩:=dd.tup_of;have ez:=rz.ints_of;subst ez;have hlen:((oo b.toNat i)[j]).length=i:=om b.toNat i _ (bb hj2);obtain ⟨ts,hts⟩:∃ ts,ts=(oo b.toNat i)[j]:=⟨_,rfl⟩;have hq5:H5 q=some (.tup (ts.map V.int)):=by rw [hts];exact S5 _ _ (S4 _ _ hq)
   rw [←hts] at hlen;have elong:l4 b.toNat ((oo b.toNat i).take (j+1))=l4 b.toNat ((oo b.toNat i).take j)++(aJ b.toNat).map fun c:Nat=>ts++[(0:Int)+(c:Nat)]:=by
    unfold l4;rw [bj,gE hj2,List.flatMap_append,hts];simp
   apply ⟨_,rfl,_,rfl,b,rfl,⋯,⋯,?_⟩;apply jM (n:=b.toNat) (fun c zs H6=>bG H5 H6∧dW H6 zs (de id ((aJ c).map fun c:Nat=>ts++[(0:Int)+(c:Nat)]))) ⟨bG.refl H5,.nil⟩ (fun c zs H6 _ ⟨_,e⟩=>by rw [e.length];unfold de;rw [aa,aa,aY];exact az _) (d8 ⋯) (fun c zs H6 hc ⟨S6,hz⟩=>?_) (fun zs H6 ⟨S6,hz⟩ D hD=>?_)
   ·apply fS ?_
    apply ⟨_,rfl,_,rfl,szZ1,fun q7 H7 S7 h7=>⟨q,q7,_,_,rfl,rfl,S7 _ _ (S6 _ _ hq5),h7,?_,fun q8 H8 S8 h8=>⟨S6.trans (S7.trans S8),?_⟩⟩⟩
    ·rw [aa,hlen];exact aN (by show i+1≤1000;lia) ↥0
    ·unfold de
     rw [ir,aE,aE];exact (hz.same (S7.trans S8)).append (.cons (.tup (by rw [h8]) (by show dW H8 _ ((ts++[(0:Int)+(c:Nat)]).map Dt.int);rw [show ts.map V.int++[V.int ((0:Int)+(c:Nat))]=(ts++[(0:Int)+(c:Nat)]).map V.int by rw [aE];rfl];exact dW.ints _)) .nil)
   ·have S7:bG H5 (upd H6 D (.lst zs)):=S6.put hD
    have hD7:(upd H6 D (.lst zs)) D=some (.lst zs):=aV;have hz7:=hz.same (bG.put (o:= .lst zs) (bG.refl H6) hD);have lz:zs.length=b.toNat:=by rw [hz.length];unfold de;rw [aa,aa,aY]
    generalize upd H6 D (.lst zs)=H7 at S7 hD7 hz7 ⊢;apply ⟨L2,D,_,_,rfl,rfl,S7 _ _ hL2,hD7,aN (by lia:ws.length+zs.length≤2000) ↥0,fun q8 H8 S8 h8=>?_⟩;apply ⟨S5.trans (S7.trans S8),q8,ws++zs,_,rfl,h8,?_,by rw [au,lz];lia⟩;rw [elong];unfold de;rw [aE];exact (hW.same (S7.trans S8)).append (hz7.same S8)
  ·rintro σ H5 ⟨S5,L2,ws,v5,rfl,hL2,hW,hwn⟩
   apply ⟨_,rfl,S3.trans (S4.trans S5),L2,ws,_,_,_,rfl,hL2,?_⟩;rw [lus,bp] at hW;exact hW
 ·rintro σ H3 ⟨S3,L,us,v3,v4,v5,rfl,hL,hT⟩
  exact ⟨_,rfl,k L us H3 S3 hL hT⟩
abbrev sKeptL:cL:=top 68
abbrev sAllK:cL:=top 69
inductive spKeptL (vs:List V)(H:Hp)(Q:VK)(_:XK):Prop
 | mk (v:V)(q u:ak)(b m:Int)(sp:List Sn)(ts:List Int)(x:Sn)(_:vs=[v,.ref q,.ref u])(_:IsD H v (jX b m sp))(_:H q=some (.tup (x.row.map V.int)))(_:H u=some (.tup (ts.map V.int)))(_:0<b)(_:0≤x.s)(_:x.s<ts.length)(_:0≤x.g)(_:x.g<ts.length)(_:Q (.bl (!(brk b ts x))) H)
inductive spAllK (vs:List V)(H:Hp)(Q:VK)(_:XK):Prop
 | mk (v:V)(u:ak)(b m:Int)(sp:List Sn)(ts:List Int)(_:vs=[v,.ref u])(_:IsD H v (jX b m sp))(_:H u=some (.tup (ts.map V.int)))(_:Rdy b ts sp)(_:∀ H',bG H H'→Q (.bl (l9 b ts sp)) H')
def scKeptL:bW ["_law_net","_law_span","_law_table_here","_law_wait"] pzD (defScope sKeptL):=by trivial
def ok_keptL (F:Fun K "_law_kept" "_law_kept" sKeptL f fd):cO P w K mg base CX0 1 f fd pzD spKeptL:=by
 specialize F.ok scKeptL;obtain ⟨v,q,u,b,m,sp,ts,x,rfl,hv,hq,hu,hb,s0,s1,g0,g1,k⟩:=h;obtain ⟨t,pn,ys,rfl,ht,_⟩:=fJ hv;apply ⟨_,PSl.h (ba ⟨(psZ 3 scKeptL.nd (c9 l3 (c9 j8 (c9 j8 (fA fk (pv 2) (ixZ (pv 1)) (fun _ _=>rfl)) (fA fk (pv 2) (ixZ (pv 1)) (fun _ _=>rfl))) (ixZ (pv 1))) (ixZ (pv 0))))⟩
  (cS ⟨(b9 (jI op_le (pv 3) (c9 j8 (ixZ (pv 1)) (ixZ (pv 1))) (cP _)))⟩)),?_⟩
 apply ⟨_,rfl,_,rfl,q,_,_,_,rfl,rfl,SqT.of hq,aS (j:=1) rfl,u,_,_,_,rfl,rfl,SqT.of hu,oy g0 g1,_,rfl,_,rfl,q,_,_,_,rfl,rfl,SqT.of hq,aS (j:=0) rfl,u,_,_,_,rfl,rfl,SqT.of hu,oy s0 s1,_,_,rfl,rfl,_,rfl,q,_,_,_,rfl,rfl,SqT.of hq,aS (j:=2) rfl,_,_,rfl,rfl,_,rfl,t,_,_,_,rfl,rfl,SqT.of ht,aS (j:=0) rfl,_,_,rfl,rfl,hb,?_⟩;apply ⟨_,rfl,_,rfl,q,_,_,_,rfl,rfl,SqT.of hq,aS (j:=3) rfl,_,rfl,q,_,_,_,rfl,rfl,SqT.of hq,aS (j:=2) rfl,_,_,rfl,rfl,_,_,rfl,rfl,?_⟩;have e:decide ((tm ts x.g - tm ts x.s - x.l) % b≤x.o - x.l)= !(brk b ts x):=by
  unfold brk iU;rw [←decide_not];exact decide_eq_decide.mpr ⟨fun h=>by lia,fun h=>by lia⟩
 rw [←e] at k;exact k
def scAllK:bW pzi pzi (defScope sAllK):=by trivial
def ok_allK (F:Fun K "_law_all_kept" "_law_all_kept" sAllK f fd)(G1:Fn K mg "_law_kept" sKeptL pzD f1 fd1):cO P w K mg base CX0 2 f fd pzi spAllK:=by
 have F1:cO P w K mg base CX0 1 f1 fd1 pzD spKeptL:=ok_keptL G1.F;specialize F.ok scAllK;obtain ⟨v,u,b,m,sp,ts,rfl,hv,hu,R,k⟩:=h;obtain ⟨t,pn,ys,rfl,ht,hpn,hl,hy⟩:=fJ hv;apply ⟨_,PSl.h (cS ⟨(b9 (jI (op_eqL0 hr.units0) (gW (fr:=pzi) (js:=[0,1]) rfl (mr (ixZ (pv 0))) ⇑0 rfl ⇑0 rfl (by exists sAllK) ⇑0 rfl ⇑0 (fun _ _ _ _ _=>⟨(pv 0),(mq (j7 (iK (pc1 G1 F1 hr (ag (pv 1) (ag (pv 0) (ag (pv 2) aD)))))))⟩)) (ny aD) (cP _)))⟩),?_⟩;apply ⟨_,rfl,t,_,_,_,rfl,rfl,SqT.of ht,aS (j:=2) rfl,pn,rfl,⟨_,SqT.of hpn⟩,?_⟩;apply kQ (K:=K) (a:=pn) (xs:=ys) (fun i zs H2=>H2=H∧zs.isEmpty= !((sp.take i).any (brk b ts))∧zs.length≤i) ⟨rfl,rfl,az _⟩ (fun i zs H2 hi ⟨e1,e2,e3⟩=>?_) (by rw [hl];exact d8 R.few) (fun i x zs H2 hx ⟨e1,e2,e3⟩=>?_) (fun zs H2 ⟨e1,e2,e3⟩ D hD=>?_)
 ·subst e1;exact ⟨SqT.of hpn,e3⟩
 ·subst e1
  have hi:i<sp.length:=by rw [←hl];exact (ao.mp hx).1
  obtain ⟨q,hq,hq2⟩:=hy i sp[i] (gE hi);rw [hx] at hq;cases hq;obtain ⟨s0,s1,g0,g1⟩:=R.ends sp[i] (bb hi);have ht1:(sp.take (i+1)).any (brk b ts)=((sp.take i).any (brk b ts) || brk b ts sp[i]):=by
   rw [bj,gE hi,List.any_append];simp
  apply ⟨_,rfl,_,rfl,_,rfl,.ref t,q,u,b,m,sp,ts,sp[i],rfl,hv,hq2,hu,R.b1,s0,s1,g0,g1,_,rfl,?_⟩;cases hb:brk b ts sp[i] with
  | true=>exact ⟨_,rfl,rfl,by rw [ht1,hb];simp,by rw [au];show zs.length+1≤i+1;lia⟩
  | false=>exact ⟨rfl,by rw [ht1,hb,e2];simp,⋯⟩
 ·subst e1
  have S1:bG H2 (upd H2 D (.lst zs)):=bG.put (bG.refl H2) hD;have hD1:(upd H2 D (.lst zs)) D=some (.lst zs):=aV;generalize upd H2 D (.lst zs)=H3 at S1 hD1 ⊢;apply ⟨bo _,fun q4 H4 S4 h4=>⟨D,q4,_,rfl,rfl,SqL.of (S4 _ _ hD1),SqL.of h4,?_⟩⟩;have k1:=k H4 (S1.trans S4);have e:zs.isEmpty=l9 b ts sp:=by rw [e2,hl,bp];rfl
  rw [←e] at k1;exact k1
abbrev sWidth:cL:=top 7
def scWidth:bW ["net","span","least","most"] pzd (defScope sWidth):=by trivial
def ok_width (F:Fun K "width_of" "width_of" sWidth f fd):cO P w K mg base CX0 1 f fd pzd spWidth:=by
 specialize F.ok scWidth;obtain ⟨v,b,m,sp,i,x,rfl,hv,hx,k⟩:=h;obtain ⟨t,p,ys,rfl,ht,hp,hl,hy⟩:=fJ hv;obtain ⟨q,hq,hq2⟩:=hy i x hx;apply ⟨_,PSl.h (ba ⟨(psZ 2 scWidth.nd (ixZ (fA fk (ixZ (pv 0)) (pv 1) (fun _ _=>rfl))))⟩
  (ba ⟨(psZ 3 scWidth.nd (ixZ (fA fk (ixZ (pv 0)) (pv 1) (fun _ _=>rfl))))⟩
  (cS ⟨(b9 (c9 j8 (pv 3) (pv 2)))⟩))),?_⟩
 apply ⟨_,rfl,t,_,_,_,rfl,rfl,SqT.of ht,aS (j:=2) rfl,_,rfl,p,_,_,_,rfl,rfl,SqT.of hp,aS (j:=i) hq,q,_,_,_,rfl,rfl,SqT.of hq2,aS (j:=2) rfl,?_⟩;apply ⟨_,rfl,t,_,_,_,rfl,rfl,SqT.of ht,aS (j:=2) rfl,_,rfl,p,_,_,_,rfl,rfl,SqT.of hp,aS (j:=i) hq,q,_,_,_,rfl,rfl,SqT.of hq2,aS (j:=3) rfl,?_⟩;exact ⟨_,rfl,_,rfl,_,_,rfl,rfl,k⟩
abbrev sSpW:cL:=top 20
abbrev mh:cL:=top 21
def lamPos:List cL→Pos
 | [.Return (some (.Call _ _ [⟨_,.Lambda _ _ _ lp,_⟩] _)) _]=>lp
 | _=>⟨0,0,0,0⟩
abbrev lpW:Pos:=lamPos (fX sSpW)
abbrev lqW:Str:=(("spans_by_width" :Str) ++ ".<locals>.") ++ "<lambda>"
def okC {c:ak}{k:Nat}{sp:Sp}(F:Fun K x qual st f fd)(hc:fd.code= .ref c)(S:bW N ps (defScope st))(len:∀ vs H Q E,sp vs H Q E→vs.length=ps.length)
  (hbody:∀ (A:bS) (outer:List Env) (s:av) (H:Hp) (vs:List V) (Q:VK) (E:XK),ik k (A.deeper (envOfC qual (defScope st) s.heap.objs.size f (.ref c)))→sp vs H Q E →
   ∃ t,PSs (cxOf CX0 P w K mg base N qual (defScope st) f (.ref c) A outer s H E).nox (fX st) t∧t { nx:=fun _ H'=>Q .non H',rt:=Q } (L2.start N vs) H):cO P w K mg base CX0 (k+1) f fd ps sp:=by
 obtain ⟨oc,od,kV,doc,pm,an,cdv,ct,osl,rfl,lk,hcd⟩:=F.ex;have hc:cdv= .ref c:=hc;subst hc;apply fn_of lk hcd S len fun A outer s H vs Q E hr hsp=>?_
 obtain ⟨t,h,q⟩:=hbody A outer s H vs Q E hr hsp;exact ⟨t,h.nox,q⟩
def scSpW:bW pza pza (defScope sSpW):=by trivial
def ok_spW {c:ak}(F:Fun K "spans_by_width" "spans_by_width" sSpW f fd)(hcd:fd.code= .ref c)(C:df K c Tb0=true)(B:BM mg base)(T:Nm mg)(T2:Nt mg)(ms:mg "sorted" =none)(G1:Fn K mg "width_of" sWidth pzd f1 fd1) :
  cO P w K mg base CX0 5 f fd pza (spSpW Tb0 lpW lqW):=by
 have F1:cO P w K mg base CX0 1 f1 fd1 pzd spWidth:=ok_width G1.F;apply okC F hcd scSpW (by contradiction) (fun A outer s H vs Q E hr h=>?_);obtain ⟨v,b,m,sp,rfl,hv,few,hT,k⟩:=h;obtain ⟨t,p,ys,rfl,ht,hp,hl,hy⟩:=fJ hv;apply ⟨_,PSl.h (cS ⟨(b9 (pe_sortL (js:=[0]) (fr:=pza) (x := "span") (c:=c) (P:=Tb0) rfl hr.depth rfl ms (eP qA rfl T2.range boot_range (ag (cg bP rfl T.len bD (ag (ixZ (pv 0)) aD)) aD)) rfl rfl C B (fun _ _ _ _ _ _=>rfl) rfl rfl rfl ⇑0 rfl ↥0 (by exists sSpW) rfl ⇑0
  (fun cl L f' cd s' H'=>pe_tup (ag (pc1 G1 F1 (((hr.in1).in1).deeper _ |>.mono ↥0) (ag (pv 1) (ag (pv 0) aD))) (ag (pv 0) aD)))))⟩),?_⟩
 apply ⟨_,rfl,t,_,_,_,rfl,rfl,SqT.of ht,aS (j:=2) rfl,p,_,rfl,.inr (SqT.of hp),_,rfl,fun r H1 S1 hr1=>?_⟩;have hv1:IsD H1 (.ref t) (jX b m sp):=hv.same S1;have hT1:=LamT.same S1 hT;apply ⟨r,ys.length,wkey sp,rfl,hr1,⋯,hT1,wkey_nodup sp _,fun i hi H2 tb=>?_,fun D H4 π tb lt hD pm pw=>?_⟩
 ·have hv2:=cN (Tb.tupK (LamT.tbl hT1) tb) hv1
  apply ⟨_,rfl,_,rfl,.ref t,b,m,sp,i,sAt sp i,rfl,hv2,jE ⋯,_,rfl,pJ,fun q hq=>⟨fun a o e=>by rw [bq (bF e hq)];exact e,q,rfl,aV⟩⟩
 ·exact k D H4 π ((bG.tb S1).trans tb) lt hD ⟨by rw [←hl];exact pm,pw⟩
def lN:bW ["net","groups","taken","span","one","other"] pza (defScope mh):=by trivial
theorem ok_forest (F:Fun K "forest_of" "forest_of" mh f fd)(T:Nm mg)(T2:Nt mg)(ms:mg "sorted" =none)(G1:Fn K mg "spans_by_width" sSpW pza f1 fd1)(F1:cO P w K mg base CX0 5 f1 fd1 pza (spSpW Tb0 lp lq)) :
  cO P w K mg base CX0 6 f fd pza (lJ Tb0 lp lq):=by
 specialize F.ok lN;obtain ⟨v,b,m,sp,rfl,hv,N,hT,k⟩:=h;obtain ⟨t,p,ys,rfl,ht,hp,hl,hy⟩:=fJ hv;obtain ⟨mn,rfl⟩:=cG (show 0≤m by have:=N.m1;lia);have m2:=N.m2;have few:=N.few;have E:=N.ends;rw [cb] at E k;apply ⟨_,PSl.h (ba ⟨(psZ 1 lN.nd (eP (rJ rfl) rfl T2.tlist boot_list (ag (eP qA rfl T2.range boot_range (ag (ixZ (pv 0)) aD)) aD)))⟩
  (ba ⟨(psZ 2 lN.nd (jv aD))⟩
  (ba ⟨(iL bH rfl (gH (pc1 G1 F1 hr (ag (pv 0) aD))) (pgZ 3 lN.nd) (PSl.h (ba ⟨(psZ 4 lN.nd (fA gY (pv 1) (ixZ (fA fk (ixZ (pv 0)) (pv 3) (fun _ _=>rfl))) (fun _ _=>rfl)))⟩
  (ba ⟨(psZ 5 lN.nd (fA gY (pv 1) (ixZ (fA fk (ixZ (pv 0)) (pv 3) (fun _ _=>rfl))) (fun _ _=>rfl)))⟩
  (cS ⟨(gF (cA op_ne (pv 4) (pv 5) (cP _)) (PSl.h (ba ⟨(iB (l7 bf bR bQ gc (pv 2) (ag (pv 3) aD)))⟩
  (cS ⟨(ps_setC (iy:=1) (fr:=["one","other"]) (js:=[4,5]) lN.nd rfl (.inl rfl) rfl (gH (pv 1)) ⇑0 rfl ⇑0 rfl (by exists mh) ⇑0 rfl ⇑0 (fun _ _ _ _ _=>⟨(ph (cA kD (pv 0) (pv 2) (cP _)) (pv 1) (pv 0)),gU⟩))⟩))) dv)⟩)))))⟩
  (cS ⟨(b9 (eP i6 rfl T.ttup iG (ag (cg call_sortedI rfl ms boot_sorted (ag (pv 2) aD)) aD)))⟩)))),?_⟩
 apply ⟨_,rfl,t,_,_,_,rfl,rfl,SqT.of ht,aS (j:=1) rfl,(mn:Int),rfl,fun a1 H1 S1 h1=>⟨a1,mn,rfl,h1,⋯,fun Lg hLg=>?_⟩⟩;have S2:bG H (upd H1 Lg (.lst ((aJ mn).map fun k=>V.int (k:Nat)))):=S1.trans (bG.put (bG.refl H1) hLg);have hLg2:(upd H1 Lg (.lst ((aJ mn).map fun k=>V.int (k:Nat)))) Lg=some (.lst ((ke mn).map V.int)):=by rw [aV];unfold ke;rw [cY];rfl
 generalize upd H1 Lg (.lst ((aJ mn).map fun k=>V.int (k:Nat)))=H2 at S2 hLg2 ⊢;apply ⟨bo _,fun Lt hLt=>?_⟩;have S3:bG H (upd H2 Lt (.lst [])):=S2.trans (bG.put (bG.refl H2) hLt);have hgt:Lg≠Lt:=fun z=>by rw [z,hLt] at hLg2;cases hLg2
 have hLt3:(upd H2 Lt (.lst [])) Lt=some (.lst []):=aV;have hLg3:(upd H2 Lt (.lst [])) Lg=some (.lst ((ke mn).map V.int)):=by rw [bq hgt];exact hLg2
 generalize upd H2 Lt (.lst [])=H3 at S3 hLt3 hLg3 ⊢;have hT3:=LamT.same S3 hT;obtain ⟨ps3,hTb3⟩:=LamT.tbl hT3;apply ⟨_,rfl,.ref t,b,mn,sp,rfl,hv.same S3,few,hT3,fun D H4 π tb4 hT4 hD O=>?_⟩;obtain ⟨ps4,hTb4⟩:=LamT.tbl hT4;have nLg:Lg≠Tb0:=fR hLg3 hTb3 nofun;have nLt:Lt≠Tb0:=fR hLt3 hTb3 nofun;have hLg4:=tb4 _ _ nLg hLg3;have hLt4:=tb4 _ _ nLt hLt3;have nDg:D≠Lg:=fun z=>by rw [z,hLg4] at hD;cases hD
 have nDt:D≠Lt:=fun z=>by rw [z,hLt4] at hD;cases hD
 have S5:bG H4 (upd H4 D (.lst (π.map fun (i:Nat)=>V.int i))):=bG.put (bG.refl H4) hD;have tb5:L2.Tb Tb0 H (upd H4 D (.lst (π.map fun (i:Nat)=>V.int i))):=((bG.tb S3).trans tb4).trans (bG.tb S5);have hT5:=LamT.same S5 hT4;have hD5:(upd H4 D (.lst (π.map fun (i:Nat)=>V.int i))) D=some (.lst (π.map fun (i:Nat)=>V.int i)):=aV;have hLg5:=S5 _ _ hLg4;have hLt5:=S5 _ _ hLt4;generalize upd H4 D (.lst (π.map fun (i:Nat)=>V.int i))=H5 at tb5 hT5 hD5 hLg5 hLt5 ⊢;have hLtN:∀ o,H Lt=some o→False:=fun o e=>by rw [S2 _ _ e] at hLt;cases hLt
 clear hLg4 hLt4 S5 hD hTb4 hT4 tb4 hLg3 hLt3 hT3 hTb3 hLg2 hLt S2 h1 S1 hLg S3;apply ⟨D,rfl,⟨_,SqL.of hD5⟩,?_⟩;have tkE:∀ {H':Hp},L2.Tb Tb0 H H'→kg H H':=fun e=>Tb.tupK (LamT.tbl hT) e
 apply jx (K:=K) (a:=D) (xs:=π.map fun (i:Nat)=>V.int i) (fun i σ HA=>L2.Tb Tb0 H HA∧L2.LamT Tb0 lp lq HA∧HA D=some (.lst (π.map fun (i:Nat)=>V.int i))∧∃ (La:ak) (v3 v4 v5:Option V),σ=[some (.ref t),some (.ref La),some (.ref Lt),v3,v4,v5]∧La≠Lt∧HA La=some (.lst (((π.take i).foldl (gN sp) (ke mn,[])).1.map V.int))∧HA Lt=some (.lst (((π.take i).foldl (gN sp) (ke mn,[])).2.map fun (i:Nat)=>V.int i)))
  ⟨tb5,hT5,hD5,Lg,none,none,none,rfl,hgt,hLg5,hLt5⟩ (fun i σ HA _ ⟨_,_,h,_⟩=>SqL.of h) ?_ ?_
 ·rintro i x σ HA hx ⟨tbA,hTA,hDA,La,v3,v4,v5,rfl,nLa,hLa,hLtA⟩
  rw [ax] at hx;obtain ⟨j,hj,rfl⟩:=aO.mp hx;have hjn:j<sp.length:=O.lt (aW hj);have hvA:=cN (tkE tbA) hv;obtain ⟨t',p',ys',e0,htA,hpA,hlA,hyA⟩:=fJ hvA;cases e0;obtain ⟨q,hq,hq2⟩:=hyA j _ (jE hjn);obtain ⟨s0,s1,g0,g1⟩:=E _ (fu hjn);have fold:(π.take (i+1)).foldl (gN sp) (ke mn,[])=gN sp ((π.take i).foldl (gN sp) (ke mn,[])) j:=by
   rw [bj,hj];show (π.take i++[j]).foldl _ _=_;rw [cR];rfl
  rw [fold];obtain ⟨gl,gb⟩:((π.take i).foldl (gN sp) (ke mn,[])).1.length=mn∧((π.take i).foldl (gN sp) (ke mn,[])).2.length≤sp.length:=by
   apply ⟨(qq E (π.take i) _ _ [] (fun i hi=>O.lt (km hi)) (Rl.start mn)).1.len,?_⟩;have:=(kx sp (π.take i) (ke mn,[])).2;rw [bK] at this;have h2:=O.len;show _≤_;have h3:((ke mn,([]:List Nat)).2).length=0:=rfl;lia
  generalize (π.take i).foldl (gN sp) (ke mn,[])=c at hLa hLtA gl gb ⊢;obtain ⟨gs,tk⟩:=c;have hLa:HA La=some (.lst (gs.map V.int)):=hLa;have hLtA:HA Lt=some (.lst (tk.map fun (i:Nat)=>V.int i)):=hLtA;have gl:gs.length=mn:=gl;have gb:tk.length≤sp.length:=gb;have es:=oy (ts:=gs) s0 ⋯;have eg:=oy (ts:=gs) g0 ⋯;apply ⟨_,rfl,_,rfl,t,_,_,_,rfl,rfl,SqT.of htA,aS (j:=2) rfl,_,rfl,p',_,_,_,rfl,rfl,SqT.of hpA,aS (j:=j) hq,q,_,_,_,rfl,rfl,SqT.of hq2,aS (j:=0) rfl,La,_,_,_,rfl,rfl,SqL.of hLa,es,?_⟩;apply ⟨_,rfl,_,rfl,t,_,_,_,rfl,rfl,SqT.of htA,aS (j:=2) rfl,_,rfl,p',_,_,_,rfl,rfl,SqT.of hpA,aS (j:=j) hq,q,_,_,_,rfl,rfl,SqT.of hq2,aS (j:=1) rfl,La,_,_,_,rfl,rfl,SqL.of hLa,eg,?_⟩;apply ⟨_,rfl,_,rfl,rfl,_,rfl,?_⟩
  by_cases e:tm gs (sAt sp j).s=tm gs (sAt sp j).g
  ·have st:gN sp (gs,tk) j=(gs,tk):=by unfold gN;exact rO e
   rw [st,e,rR rfl];exact iteF ⟨tbA,hTA,hDA,La,_,_,_,rfl,nLa,hLa,hLtA⟩
  ·have st:gN sp (gs,tk) j=(jq gs (tm gs (sAt sp j).s) (tm gs (sAt sp j).g),tk++[j]):=by unfold gN;exact rN e
   rw [st,rS (fun z=>e (V.int.inj z))];apply iteT ?_;obtain ⟨x,hx⟩:∃ x,x=tm gs (sAt sp j).s:=⟨_,rfl⟩;obtain ⟨y,hy⟩:∃ y,y=tm gs (sAt sp j).g:=⟨_,rfl⟩;rw [←hx,←hy] at e ⊢;apply ⟨_,rfl,.inl ⟨rfl,_,SqL.of hLtA⟩,_,rfl,Lt,_,_,rfl,rfl,hLtA,nS (by rw [aa];lia),?_⟩;have hLt6:(upd HA Lt (.lst ((tk.map fun (i:Nat)=>V.int i)++[V.int j]))) Lt=some (.lst ((tk++[j]).map fun (i:Nat)=>V.int i)):=by rw [aV,aE];rfl
   have keep:∀ a o,a≠Lt→HA a=some o→(upd HA Lt (.lst ((tk.map fun (i:Nat)=>V.int i)++[V.int j]))) a=some o:=fun a o h e=>by rw [bq h];exact e
   have nTL:Tb0≠Lt:=fun z=>nLt z.symm
   have tb6:L2.Tb Tb0 H (upd HA Lt (.lst ((tk.map fun (i:Nat)=>V.int i)++[V.int j]))):=fun a o hn e=>keep a o (fun z=>by subst z;exact hLtN _ e) (tbA a o hn e)
   have hT6:L2.LamT Tb0 lp lq (upd HA Lt (.lst ((tk.map fun (i:Nat)=>V.int i)++[V.int j]))):=LamT.upd hTA (fun p u z=>by rw [hLtA] at z;cases z) fun ps z=>by rw [hLtA] at z;cases z
   have hD6:=keep _ _ nDt hDA;have hLa6:=keep _ _ nLa hLa;generalize upd HA Lt (.lst ((tk.map fun (i:Nat)=>V.int i)++[V.int j]))=HB at hLt6 keep tb6 hT6 hD6 hLa6 ⊢;apply ⟨_,rfl,La,rfl,⟨_,SqL.of hLa6⟩,?_⟩;apply kG (K:=K) (a:=La) (xs:=gs.map V.int) (fun i zs HC=>HC=HB∧zs=(jq (gs.take i) x y).map V.int) ⟨rfl,rfl⟩ (fun i zs HC hi ⟨e1,e2⟩=>?_) (by rw [aa];exact d8 ⋯) (fun i v zs HC hv ⟨e1,e2⟩=>?_) (fun zs HC ⟨e1,e2⟩ L hL=>?_)
   ·subst e1
    apply ⟨SqL.of hLa6,?_⟩;rw [aa] at hi;rw [e2,aa];unfold jq;rw [aa,bK];lia
   ·subst e1
    rw [ax] at hv;obtain ⟨g,hg,rfl⟩:=aO.mp hv;apply fS ?_;have nx:zs++[V.int (if g=y then x else g)]=(jq (gs.take (i+1)) x y).map V.int:=by
     rw [e2];unfold jq;rw [bj,hg,aE,aE];rfl
    apply ⟨_,rfl,_,rfl,rfl,_,rfl,?_⟩
    by_cases eg:g=y
    ·rw [eg,rR rfl]
     apply iteT ⟨_,rfl,rfl,?_⟩;rw [←nx,rO eg]
    ·rw [rS (fun z=>eg (V.int.inj z))]
     apply iteF ⟨_,rfl,rfl,?_⟩;rw [←nx,rN eg]
   ·subst e1
    have eL:zs=(jq gs x y).map V.int:=by rw [e2,aa,bp]
    subst eL;have S7:bG HC (upd HC L (.lst ((jq gs x y).map V.int))):=bG.put (bG.refl HC) hL;have nLL:L≠Lt:=fun z=>by rw [z,hLt6] at hL;cases hL
    exact ⟨tb6.trans (bG.tb S7),LamT.same S7 hT6,S7 _ _ hD6,L,_,_,_,rfl,nLL,aV,S7 _ _ hLt6⟩
 ·rintro σ HA ⟨tbA,hTA,hDA,La,v3,v4,v5,rfl,nLa,hLa,hLtA⟩
  rw [aa,bp] at hLtA;have tl:(π.foldl (gN sp) (ke mn,[])).2.length≤40:=by
   have:=(kx sp π (ke mn,[])).2;have h2:=O.len;have h3:((ke mn,([]:List Nat)).2).length=0:=rfl;lia
  have hLtI:HA Lt=some (.lst (((lg sp mn π).2.map fun (i:Nat)=>(i:Int)).map V.int)):=by rw [hLtA,cY];rfl
  apply ⟨_,rfl,Lt,_,rfl,SqL.of hLtI,by rw [aa];exact bX tl ↥0,fun L ns hL pm pw=>?_⟩;have S7:bG HA (upd HA L (.lst (ns.map V.int))):=bG.put (bG.refl HA) hL;apply ⟨L,_,rfl,.inl (Rd.of aV),fun u H8 S8 hu=>?_⟩;exact k u H8 ns ((tbA.trans (bG.tb S7)).trans (bG.tb S8)) (LamT.same S8 (LamT.same S7 hTA)) hu ⟨π,O,pm,pw⟩
abbrev sFrom:cL:=top 10
abbrev sTo:cL:=top 11
def scFrom:bW ["net","step","span"] pzc (defScope sFrom):=by trivial
def p9 (F:Fun K "leads_from" "leads_from" sFrom f fd):cO P w K mg base CX0 1 f fd pzc qV:=by
 apply F.ok scFrom (by contradiction) (fun cdv A outer s0 H vs Q E hr h=>?_);obtain ⟨v,q,b,m,sp,s,x,rfl,hv,hq,hx,k⟩:=h;obtain ⟨t,p,ys,rfl,ht,hp,hl,hy⟩:=fJ hv;obtain ⟨qx,hqx,hqx2⟩:=hy s.i x hx;apply ⟨_,PSl.h (ba ⟨(psZ 2 scFrom.nd (fA fk (ixZ (pv 0)) (ixZ (pv 1)) (fun _ _=>rfl)))⟩
  (cS ⟨(b9 (ph (cA kD (ixZ (pv 1)) bI (cP _)) (ixZ (pv 2)) (ixZ (pv 2))))⟩)),?_⟩
 apply ⟨_,rfl,t,_,_,_,rfl,rfl,SqT.of ht,aS (j:=2) rfl,_,rfl,q,_,_,_,rfl,rfl,SqT.of hq,aS (j:=0) rfl,p,_,_,_,rfl,rfl,SqT.of hp,aS (j:=s.i) hqx,?_⟩;apply ⟨_,rfl,q,_,_,_,rfl,rfl,SqT.of hq,aS (j:=1) rfl,rfl,_,rfl,?_⟩;apply rp (fun h1=>?_) (fun h1=>?_)
 ·have h1:s.d=1:=by have:=rT h1;injection this
  apply ⟨_,rfl,qx,_,_,_,rfl,rfl,SqT.of hqx2,aS (j:=0) rfl,?_⟩;have e:frm x s.d=x.s:=rO h1;rw [←e];exact k
 ·have h1:s.d≠1:=fun z=>h1 (rR (by rw [z]))
  apply ⟨_,rfl,qx,_,_,_,rfl,rfl,SqT.of hqx2,aS (j:=1) rfl,?_⟩;have e:frm x s.d=x.g:=rN h1;rw [←e];exact k
def scTo:bW ["net","step","span"] pzc (defScope sTo):=by trivial
def ok_to (F:Fun K "leads_to" "leads_to" sTo f fd):cO P w K mg base CX0 1 f fd pzc spTo:=by
 apply F.ok scTo (by contradiction) (fun cdv A outer s0 H vs Q E hr h=>?_);obtain ⟨v,q,b,m,sp,s,x,rfl,hv,hq,hx,k⟩:=h;obtain ⟨t,p,ys,rfl,ht,hp,hl,hy⟩:=fJ hv;obtain ⟨qx,hqx,hqx2⟩:=hy s.i x hx;apply ⟨_,PSl.h (ba ⟨(psZ 2 scTo.nd (fA fk (ixZ (pv 0)) (ixZ (pv 1)) (fun _ _=>rfl)))⟩
  (cS ⟨(b9 (ph (cA kD (ixZ (pv 1)) bI (cP _)) (ixZ (pv 2)) (ixZ (pv 2))))⟩)),?_⟩
 apply ⟨_,rfl,t,_,_,_,rfl,rfl,SqT.of ht,aS (j:=2) rfl,_,rfl,q,_,_,_,rfl,rfl,SqT.of hq,aS (j:=0) rfl,p,_,_,_,rfl,rfl,SqT.of hp,aS (j:=s.i) hqx,?_⟩;apply ⟨_,rfl,q,_,_,_,rfl,rfl,SqT.of hq,aS (j:=1) rfl,rfl,_,rfl,?_⟩;apply rp (fun h1=>?_) (fun h1=>?_)
 ·have h1:s.d=1:=by have:=rT h1;injection this
  apply ⟨_,rfl,qx,_,_,_,rfl,rfl,SqT.of hqx2,aS (j:=1) rfl,?_⟩;have e:too x s.d=x.g:=rO h1;rw [←e];exact k
 ·have h1:s.d≠1:=fun z=>h1 (rR (by rw [z]))
  apply ⟨_,rfl,qx,_,_,_,rfl,rfl,SqT.of hqx2,aS (j:=0) rfl,?_⟩;have e:too x s.d=x.s:=rN h1;rw [←e];exact k
abbrev pU:cL:=top 22
abbrev sWayB:cL:=top 23
abbrev sRingBy:cL:=top 24
inductive spSteps (vs:List V)(H:Hp)(Q:VK)(_:XK):Prop
 | mk (v u b m sp tk x:_)(_:vs=[v,.ref u,.int x])(_:IsD H v (jX b m sp))(_:H u=some (.tup (tk.map fun (i:Nat)=>V.int i)))(_:(∀ i∈tk,i<sp.length))(_:tk.length≤40)(_:∀ L H' zs,bG H H'→H L=none→H' L=some (.lst zs)→dW H' zs (de Stp.row (dM sp tk x))→Q (.ref L) H')
inductive spWayBt (vs:List V)(H:Hp)(Q:VK)(_:XK):Prop
 | mk (v u b m sp tk be en:_)(_:vs=[v,.ref u,.int be,.int en])(_:IsD H v (jX b m sp))(_:kl b m sp)(_:H u=some (.tup (tk.map fun (i:Nat)=>V.int i)))(_:(∀ i∈tk,i<sp.length))(_:tk.length≤40)(_:0≤be)(_:be<m)(_:rM sp tk be en)(_:∀ q H' p,bG H H'→IsD H' q (oW p)→WayR sp tk be en p→Q q H')
inductive spRingBy (T:ak)(lp:Pos)(lq:Str)(vs:List V)(H:Hp)(Q:VK)(_:XK):Prop
 | mk (v b m sp k:_)(_:vs=[v,.int (k:Nat)])(_:IsD H v (jX b m sp))(_:kl b m sp)(_:L2.LamT T lp lq H)(_:k<sp.length)(_:∀ q H' (l π:List Nat) p,L2.Tb T H H'→L2.LamT T lp lq H'→IsD H' q (oW (⟨k,1⟩::p))→oN m.toNat sp (l.map fun (i:Nat)=>(i:Int))→Ordd sp π→l.Perm (lg sp m.toNat π).2→WayR sp l (sAt sp k).g (sAt sp k).s p→Q q H')
def DW (H:Hp):List (Key×V)→List (Int×List Stp)→Prop:=j4 fun (p:Key×V) (q:Int×List Stp)=>p.1= .inl q.1∧IsD H p.2 (oW q.2)
def DW.none {H:Hp}{x:Int}:∀ {kvs:List (Key×V)} {l:List (Int×List Stp)},DW H kvs l→lkW l x=none→lW kvs (.inl x)=none
 | _,_,.nil,_=>rfl
 | _,_,.cons (b:=q) r t,h=>by
  rw [lP] at h
  by_cases e:q.1=x
  ·rw [rO e] at h;cases h
  ·rw [rN e] at h
   rw [gR (fun z=>e (Sum.inl.inj (r.1.symm.trans z)))];exact DW.none t h
def DW.some {H:Hp}{x:Int}{ws:List Stp}:∀ {kvs:List (Key×V)} {l:List (Int×List Stp)},DW H kvs l→lkW l x=some ws→∃ v,lW kvs (.inl x)=some v∧IsD H v (oW ws)
 | _,_,.nil,h=>by cases h
 | _,_,.cons (b:=q) r t,h=>by
  rw [lP] at h
  by_cases e:q.1=x
  ·rw [rO e] at h
   cases h;exact ⟨_,iF (by rw [r.1,e]),r.2⟩
  ·rw [rN e] at h
   rw [gR (fun z=>e (Sum.inl.inj (r.1.symm.trans z)))];exact DW.some t h
def qR (e:kg H H')(h:IsD H v (oW ws)):IsD H' v (oW ws):=by
 obtain ⟨p,ys,rfl,hp,_,r⟩:=gT h;exact .tup (e _ _ hp) (dk e r)
def DW.keep (e:kg H H'){kvs:List (Key×V)}{l:List (Int×List Stp)}(h:DW H kvs l):DW H' kvs l:=L2.Paired.mapP h fun _ _ z=>⟨z.1,qR e z.2⟩
def DW.len {H:Hp}:∀ {kvs:List (Key×V)} {l:List (Int×List Stp)},DW H kvs l→kvs.length=l.length
 | _,_,.nil=>rfl
 | _,_,.cons _ t=>rV (· + 1) (DW.len t)
def DW.snoc {H:Hp}{p:Key×V}{q:Int×List Stp}(h:p.1= .inl q.1∧IsD H p.2 (oW q.2)):∀ {kvs:List (Key×V)} {l:List (Int×List Stp)},DW H kvs l→DW H (kvs++[p]) (l++[q])
 | _,_,.nil=> .cons h .nil
 | _,_,.cons r t=> .cons r (DW.snoc h t)
structure JW (H Hc:Hp)(Da La:ak)(c:List (Int×List Stp)×List Int):Prop where
 same:bG H Hc
 da:∃ kvs,Hc Da=some (.dK kvs)∧DW Hc kvs c.1
 la:Hc La=some (.lst (c.2.map V.int))
def JW.on {Hc':Hp}{La:ak}(j:JW H Hc Da La c)(e:bG Hc Hc'):JW H Hc' Da La c:=by
 obtain ⟨kvs,h1,h2⟩:=j.da;exact ⟨j.same.trans e,⟨kvs,e _ _ h1,h2.keep (bG.tupK e)⟩,e _ _ j.la⟩
def JW.upL {La:ak}{td:List Int}(j:JW H Hc Da La c)(hL:H La=none)(n:Da≠La):JW H (upd Hc La (.lst (td.map V.int))) Da La (c.1,td):=by
 obtain ⟨kvs,h1,h2⟩:=j.da;exact ⟨fun a o e=>by rw [bq (bF e hL)];exact j.same a o e,⟨kvs,by rw [bq n];exact h1,h2.keep (eO j.la)⟩,aV⟩
def mapI_at {x:V}(h:(l.map fun (i:Nat)=>V.int i)[i]? =some x):∃ j,l[i]? =some j∧x=V.int (j:Nat):=by
 rw [ax] at h;obtain ⟨j,hj,rfl⟩:=aO.mp h;exact ⟨j,hj,rfl⟩
def lG {s:Stp}(h:s.i<sp.length):too (sAt sp s.i) s.d=fc sp s∧frm (sAt sp s.i) s.d=kU sp s:=by
 have e:sAt sp s.i=sp[s.i]:=by unfold sAt;rw [af,gE h];rfl
 rw [e];exact ⟨(lH h).symm,(nF h).symm⟩
def last_mem {l:List Int}(h:l.getLast? =some z):z∈l:=by
 obtain ⟨ys,rfl⟩:=List.getLast?_eq_some_iff.mp h;simp
def scSteps:bW ["net","spans","happening","steps"] pzk (defScope pU):=by trivial
def ok_steps (F:Fun K "steps_from" "steps_from" pU f fd)(G1:Fn K mg "leads_from" sFrom pzc f1 fd1):cO P w K mg base CX0 2 f fd pzk spSteps:=by
 have F1:cO P w K mg base CX0 1 f1 fd1 pzc qV:=p9 G1.F;specialize F.ok scSteps;obtain ⟨v,u,b,m,sp,tk,x,rfl,hv,hu,hlt,few,k⟩:=h;have hr1:=hr;apply ⟨_,PSl.h (ba ⟨(psZ 3 scSteps.nd (c9 op_catL (gW (fr:=[]) (js:=[]) rfl (mr (pv 1)) ⇑0 rfl ⇑0 rfl (by exists pU) ⇑0 rfl ⇑0 (fun _ _ _ _ _=>⟨(dB (ag (pv 0) (ag bI aD))),gU⟩)) (gW (fr:=[]) (js:=[]) rfl (mr (pv 1)) ⇑0 rfl ⇑0 rfl (by exists pU) ⇑0 rfl ⇑0 (fun _ _ _ _ _=>⟨(dB (ag (pv 0) (ag (pe_un qS bI) aD))),gU⟩))))⟩
  (cS ⟨(b9 (gW (fr:=["happening","net"]) (js:=[2,0]) rfl (gH (pv 3)) ⇑0 rfl ⇑0 rfl (by exists pU) ⇑0 rfl ⇑0 (fun _ _ _ _ _=>⟨(pv 0),(mq (cA kD (pc1 G1 F1 hr1 (ag (pv 2) (ag (pv 0) aD))) (pv 1) (cP _)))⟩)))⟩)),?_⟩
 have half:∀ (d:Int) (td:TE) (H0:Hp) (Rt:V→Hp→Prop),(∀ σ H1 (R:VK),R (.int d) H1→td σ H1 R)→bG H H0→(∀ L H' zs,bG H0 H'→H' L=some (.lst zs)→dW H' zs (de Stp.row (tk.map fun i=>⟨i,d⟩))→Rt (.ref L) H') →
   CompW [] tNoIf (tTupA (nR (tVar 0) (nR td tNil))) [some v,some (.ref u),some (.int x),none] Rt (Itt K u) H0:=fun d td H0 Rt htd S0 fin=>by
  apply kQ (K:=K) (a:=u) (xs:=tk.map fun (i:Nat)=>V.int i) (fun i zs HC=>bG H0 HC∧zs.length=i∧dW HC zs (de Stp.row ((tk.take i).map fun i=>⟨i,d⟩))) ⟨bG.refl H0,rfl,.nil⟩ (fun i zs HC hi ⟨e1,e2,_⟩=>⟨SqT.of (e1 _ _ (S0 _ _ hu)),Nat.le_of_eq e2⟩) (by rw [aa];exact d8 ⋯) (fun i y zs HC hy ⟨e1,e2,e3⟩=>?_) (fun zs HC ⟨e1,e2,e3⟩ D hD=>?_)
  ·obtain ⟨j,hj,rfl⟩:=mapI_at hy
   apply fS ⟨_,rfl,htd _ _ _ ⟨pJ,fun q H2 S2 h2=>⟨e1.trans S2,by rw [au,e2];rfl,?_⟩⟩⟩;rw [bj,hj];show dW H2 (zs++[.ref q]) (de Stp.row ((tk.take i++[j]).map fun i=>⟨i,d⟩));unfold de at e3 ⊢;rw [aE,aE];exact (e3.same S2).append (.cons (.tup h2 (dW.ints (Stp.row ⟨j,d⟩))) .nil)
  ·have S2:=bG.put (bG.refl HC) hD (o:= .lst zs)
   rw [aa,bp] at e3;exact fin D _ zs (e1.trans S2) aV (e3.same S2)
 apply ⟨_,rfl,u,rfl,⟨_,SqT.of hu⟩,half 1 _ H _ (fun _ _ _ h=>h) (bG.refl H) fun L1 H1 z1 S1 h1 d1=>?_⟩;apply ⟨_,rfl,u,rfl,⟨_,SqT.of (S1 _ _ hu)⟩,half (-1) _ H1 _ (fun _ _ _ h=>⟨1,rfl,h⟩) S1 fun L2' H2 z2 S2 h2 d2=>?_⟩;have l1:z1.length=tk.length:=by rw [d1.length];unfold de;rw [aa,aa]
 have l2:z2.length=tk.length:=by rw [d2.length];unfold de;rw [aa,aa]
 apply ⟨L1,L2',_,_,rfl,rfl,S2 _ _ h1,h2,by rw [l1,l2];exact d8 ⋯,fun L3 H3 S3 h3=>?_⟩;have d3:dW H3 (z1++z2) (de Stp.row (stF tk)):=by
  unfold stF de;rw [aE];exact ((d1.same S2).same S3).append (d2.same S3)
 have S03:=S1.trans (S2.trans S3);have hv3:=hv.same S03;apply ⟨_,rfl,L3,rfl,⟨_,SqL.of h3⟩,?_⟩;have ls:(z1++z2).length=(stF tk).length:=by rw [d3.length];unfold de;rw [aa]
 apply kG (K:=K) (a:=L3) (xs:=z1++z2) (fun i zs HC=>HC=H3∧zs.length≤i∧dW H3 zs (de Stp.row (((stF tk).take i).filter fun s=>decide (kU sp s=x)))) ⟨rfl,bo _,.nil⟩ (fun i zs HC hi ⟨e1,e2,_⟩=>⟨by rw [e1];exact SqL.of h3,e2⟩) (by rw [au,l1,l2];exact d8 ⋯) (fun i y zs HC hy ⟨e1,e2,e3⟩=>?_) (fun zs HC ⟨e1,e2,e3⟩ D hD=>?_)
 ·subst e1
  have hi:i<(stF tk).length:=by have:=(ao.mp hy).1;lia
  have hsi:=gE hi;obtain ⟨y',hy',dy⟩:=d3.at (i:=i) (d:= .tup ((Stp.row (stF tk)[i]).map Dt.int)) (by unfold de;rw [ax,hsi];rfl);rw [hy] at hy';cases hy';obtain ⟨q,qs,rfl,hq,rq⟩:=dy.tup_of;have eq:=rq.ints_of;subst eq;have hin:=hlt _ (mem_stF (bb hi)).1;apply ⟨_,rfl,_,rfl,v,q,b,m,sp,(stF tk)[i],sAt sp (stF tk)[i].i,rfl,hv3,hq,jE hin,_,rfl,rfl,_,rfl,?_⟩;rw [(lG hin).2];have nx:((stF tk).take (i+1)).filter (fun s=>decide (kU sp s=x))=((stF tk).take i).filter (fun s=>decide (kU sp s=x))++(if kU sp (stF tk)[i]=x then [(stF tk)[i]] else []):=by
   rw [bj,hsi,fZ];show _++[(stF tk)[i]].filter _=_;rw [eN,List.filter_nil]
   by_cases e:kU sp (stF tk)[i]=x
   ·rw [rO e,rO (rR e)]
   ·rw [rN e,rN (by rw [rS e];decide)]
  rw [nx]
  by_cases e:kU sp (stF tk)[i]=x
  ·rw [rO e,e,rR rfl]
   apply iteT ⟨_,rfl,rfl,by rw [au];exact Nat.succ_le_succ e2,?_⟩;unfold de at e3 ⊢;rw [aE];exact e3.append (.cons dy .nil)
  ·rw [rN e,rS (fun z=>e (V.int.inj z)),dg]
   exact iteF ⟨rfl,Nat.le_succ_of_le e2,e3⟩
 ·subst e1
  have S4:=bG.put (bG.refl HC) hD (o:= .lst zs);rw [ls,bp] at e3;exact k D _ zs (S03.trans S4) (bG.free S03 hD) aV (e3.same S4)
def qX:bW ["net","spans","begin","end","ways","ahead","here","step","there"] pzE (defScope sWayB):=by trivial
theorem ok_wayBt (F:Fun K "way_between" "way_between" sWayB f fd)(G1:Fn K mg "steps_from" pU pzk f1 fd1)(F1:cO P w K mg base CX0 2 f1 fd1 pzk spSteps)(G2:Fn K mg "leads_to" sTo pzc f2 fd2):cO P w K mg base CX0 3 f fd pzE spWayBt:=by
 have F2:cO P w K mg base CX0 1 f2 fd2 pzc spTo:=ok_to G2.F;specialize F.ok qX;obtain ⟨v,u,b,m,sp,tk,be,en,rfl,hv,N,hu,hlt,few,be0,be1,held,k⟩:=h;have u1:=bX (Nat.add_le_add_left (by decide:1≤64) _) hr.units;have hr1:ik 1 _:=hr.mono ↥0;have E:=N.ends;have m16:m.toNat≤16:=by have:=N.m2;lia
 have b1:be<(m.toNat:Int):=by lia
 apply ⟨_,PSl.h (ba ⟨(psZ 4 qX.nd (pe_disp (pps_cons (pv 2) (dB aD) pps_nil) rfl rfl ↥0 ↥0))⟩
  (ba ⟨(psZ 5 qX.nd (jv (ag (pv 2) aD)))⟩
  (ba ⟨(mM bH (pt_cmp (nW u1 (pv 3) (pv 4)) rfl) (PSl.h (ba ⟨(psZ 6 qX.nd (p8 bf fh fg qe (pv 5)))⟩
  (cS ⟨(iL bH rfl (gH (pc1 G1 F1 hr (ag (pv 0) (ag (pv 1) (ag (pv 6) aD))))) (pgZ 7 qX.nd) (PSl.h (ba ⟨(psZ 8 qX.nd (pc1 G2 F2 hr1 (ag (pv 0) (ag (pv 7) aD))))⟩
  (cS ⟨(gF (pt_cmp (nW u1 (pv 8) (pv 4)) rfl) (PSl.h (ba ⟨(ps_dput u1 (pv 4) (pv 8) (c9 mw (pe_dget u1 (pv 4) (pv 6) (fun _ _=>rfl)) (dB (ag (pv 7) aD))) rfl)⟩
  (cS ⟨(iB (l7 bf bR bQ gc (pv 5) (ag (pv 8) aD)))⟩))) dv)⟩))))⟩))))⟩
  (cS ⟨(b9 (pe_dget u1 (pv 4) (pv 3) (fun _ _=>rfl)))⟩)))),?_⟩
 intro Da hDa;apply ⟨_,rfl,bo _,fun q1 H1 S1 h1=>⟨S1 _ _ aV,[(.inl be,.ref q1)],rfl,(by show 1≤15;decide),?_⟩⟩;have S0:bG H (upd H Da (.dK [])):=bG.put (bG.refl H) hDa;have hDa1:H1 Da=some (.dK []):=S1 _ _ aV;have hDa2:(upd H1 Da (.dK (n4 [] [(.inl be,.ref q1)]))) Da=some (.dK [(.inl be,.ref q1)]):=aV;have S2:bG H (upd H1 Da (.dK (n4 [] [(.inl be,.ref q1)]))):=fun b o e=>by
  rw [bq (fun z=>by rw [z,hDa] at e;cases e)];exact S1 _ _ (S0 _ _ e)
 have hq1:(upd H1 Da (.dK (n4 [] [(.inl be,.ref q1)]))) q1=some (.tup []):=by
  rw [bq (fR h1 hDa1 nofun)];exact h1
 generalize upd H1 Da (.dK (n4 [] [(.inl be,.ref q1)]))=H2 at hDa2 S2 hq1 ⊢;clear hDa1 S0 S1 h1;apply ⟨_,rfl,szZ1,fun La hLa=>?_⟩;have nDL:Da≠La:=fun z=>by rw [z,hLa] at hDa2;cases hDa2
 have S3:bG H2 (upd H2 La (.lst [.int be])):=bG.put (bG.refl H2) hLa;have hLaH:H La=none:=by
  cases z:H La with
  | none=>rfl
  | some o=>rw [S2 _ _ z] at hLa;cases hLa
 have J3:JW H (upd H2 La (.lst [.int be])) Da La (itW sp tk be 0):=⟨S2.trans S3,⟨_,S3 _ _ hDa2,.cons ⟨rfl,.tup (S3 _ _ hq1) .nil⟩ .nil⟩,aV⟩;generalize upd H2 La (.lst [.int be])=H3 at J3 ⊢;clear S3 hLa hDa2 hq1 S2;have c0:(itW sp tk be 0).1.length+oj (itW sp tk be 0).1≤17:=by
  have:oj [(be,([]:List Stp))]≤16:=by
   unfold oj;have:=List.countP_le_length (p:=fun x:Nat=>(lkW [(be,([]:List Stp))] ((x:Nat):Int)).isNone) (l:=aJ 16);rw [aY] at this;exact this
  show 1+oj [(be,([]:List Stp))]≤17;lia
 have c1:2 * oj (itW sp tk be 0).1+(itW sp tk be 0).2.length≤40:=by
  have e1:(itW sp tk be 0).1.length=1:=rfl;have e2:(itW sp tk be 0).2.length=1:=rfl;lia
 apply ⟨fun n σ HA=>∃ (i:Nat) (v6 v7 v8:Option V),n=2 * oj (itW sp tk be i).1+(itW sp tk be i).2.length∧n≤40∧σ=[some v,some (.ref u),some (.int be),some (.int en),some (.ref Da),some (.ref La),v6,v7,v8]∧JW H HA Da La (itW sp tk be i)∧WI m.toNat sp tk be (itW sp tk be i)∧Clo sp tk (fun _=>False) (itW sp tk be i)∧(itW sp tk be i).1.length+oj (itW sp tk be i).1≤17∧∀ j,j<i→lkW (itW sp tk be j).1 en=none,
  ⟨_,0,none,none,none,rfl,c1,rfl,J3,(start_ok be0 b1).1,(start_ok be0 b1).2,c0,fun j hj=>rQ hj (Nat.not_lt_zero _)⟩,?_⟩
 rintro n σ HA ⟨i,v6,v7,v8,rfl,n40,rfl,JA,WA,CA,lA,bA⟩;obtain ⟨kvs,hDaA,dwA⟩:=JA.da;apply ⟨_,rfl,_,rfl,Da,_,rfl,DGet.k (k:= .inl en) hDaA,_,rfl,?_⟩;cases hen:lkW (itW sp tk be i).1 en with
 | some p =>
  obtain ⟨vp,hvp,dp⟩:=dwA.some hen;rw [hvp];apply iteF ⟨_,rfl,_,rfl,Da,vp,rfl,?_,k vp HA p JA.same dp ⟨i,hen,bA⟩⟩;have:=DGet.k (k:= .inl en) hDaA;rw [hvp] at this;exact this
 | none =>
  rw [dwA.none hen];apply iteT ⟨_,fun σ' H' z=>z,?_⟩;have hne:=left_of hlt held WA CA hen;obtain ⟨t1,t2,t3,t4⟩:=turn_ok E m16 hlt WA CA hne;have hlast:(itW sp tk be i).2.getLast? =some (mF (itW sp tk be i).2):=by
   unfold mF;rw [List.getLast?_eq_some_getLast hne];rfl
  have hget:((itW sp tk be i).2.map V.int)[((itW sp tk be i).2.map V.int).length - 1]? =some (V.int (mF (itW sp tk be i).2)):=by
   rw [aa,ax,←List.getLast?_eq_getElem?,hlast];rfl
  apply ⟨_,rfl,.inl ⟨rfl,_,SqL.of JA.la⟩,La,_,_,rfl,rfl,JA.la,hget,?_⟩;have JB:=JA.upL (td:=(itW sp tk be i).2.dropLast) hLaH nDL;rw [List.map_dropLast] at JB;generalize upd HA La (.lst ((itW sp tk be i).2.map V.int).dropLast)=HB at JB ⊢;have hx:lkW (itW sp tk be i).1 (mF (itW sp tk be i).2)≠none:=WA.ahd _ (last_mem hlast);have W0:WI m.toNat sp tk be ((itW sp tk be i).1,(itW sp tk be i).2.dropLast):=⟨WA.pth,WA.rng,fun y hy=>WA.ahd y ((List.dropLast_sublist _).subset hy),WA.beg⟩;have C0:Clo sp tk (· =mF (itW sp tk be i).2) ((itW sp tk be i).1,(itW sp tk be i).2.dropLast):=fun y hy hn ex t ht'=>CA y hy (fun z=>by
   rw [List.getLast?_eq_some_iff] at hlast;obtain ⟨ys,hys⟩:=hlast;rw [hys,fO] at hn;rw [hys] at z
   rcases aH.mp z with z | z
   ·exact hn z
   ·exact ex (aw.mp z)) (fun z=>z) t ht'
  have eT:itW sp tk be (i+1)=(dM sp tk (mF (itW sp tk be i).2)).foldl (iZ sp (mF (itW sp tk be i).2)) ((itW sp tk be i).1,(itW sp tk be i).2.dropLast):=rfl;have bN:∀ j,j<i+1→lkW (itW sp tk be j).1 en=none:=fun j hj=>by
   rcases jA.mp hj with h | h
   ·exact bA j h
   ·rw [h];exact hen
  rw [show qM sp tk (itW sp tk be i)=itW sp tk be (i+1) from rfl] at t1 t2 t3 t4;generalize mF (itW sp tk be i).2=x at hx C0 eT ⊢;generalize hc:((itW sp tk be i).1,(itW sp tk be i).2.dropLast)=c at JB W0 C0 eT;have hx:lkW c.1 x≠none:=by rw [←hc];exact hx
  have lc:c.1.length+oj c.1≤17:=by rw [←hc];exact lA
  have lc2:2 * oj c.1+c.2.length≤40:=by
   rw [←hc];show 2 * oj (itW sp tk be i).1+(itW sp tk be i).2.dropLast.length≤40;rw [List.length_dropLast];lia
  apply ⟨_,rfl,_,rfl,_,rfl,v,u,b,m,sp,tk,x,rfl,hv.same JB.same,JB.same _ _ hu,hlt,few,fun L HC zs SC fL hL dz=>⟨L,rfl,⟨_,SqL.of hL⟩,?_⟩⟩;have nLL:L≠La:=fun z=>by rw [z,JB.la] at fL;cases fL
  have JC:=JB.on SC;clear JB hc;have vis:∀ j:Nat,WI m.toNat sp tk be (((dM sp tk x).take j).foldl (iZ sp x) c)∧lkW (((dM sp tk x).take j).foldl (iZ sp x) c).1 x≠none∧(((dM sp tk x).take j).foldl (iZ sp x) c).1.length≤17∧(((dM sp tk x).take j).foldl (iZ sp x) c).2.length≤40:=fun j=>by
   obtain ⟨b1,_,_,b4,b5,b6⟩:=pE E m16 hlt (L:=(dM sp tk x).take j) W0 hx (fun t h=>km h) C0;exact ⟨b1,by rw [b4 x hx];exact hx,⋯,⋯⟩
  have lz:zs.length=(dM sp tk x).length:=by rw [dz.length];unfold de;rw [aa]
  apply jx (K:=K) (a:=L) (xs:=zs) (fun j σ HD=>JW H HD Da La (((dM sp tk x).take j).foldl (iZ sp x) c)∧HD L=some (.lst zs)∧dW HD zs (de Stp.row (dM sp tk x))∧∃ w7 w8,σ=[some v,some (.ref u),some (.int be),some (.int en),some (.ref Da),some (.ref La),some (.int x),w7,w8]) ⟨JC,hL,dz,_,_,rfl⟩ (fun j σ HD _ ⟨_,h,_⟩=>SqL.of h) ?_ ?_
  ·rintro j y σ HD hy ⟨JD,hLD,dD,w7,w8,rfl⟩
   have hj:j<(dM sp tk x).length:=by have:=(ao.mp hy).1;lia
   have hsj:=gE hj;obtain ⟨y',hy',dy⟩:=dD.at (i:=j) (d:= .tup ((Stp.row (dM sp tk x)[j]).map Dt.int)) (by unfold de;rw [ax,hsj];rfl);rw [hy] at hy';cases hy';obtain ⟨q,qs,rfl,hq,rq⟩:=dy.tup_of;have eq:=rq.ints_of;subst eq;have hmem:(dM sp tk x)[j]∈dM sp tk x:=bb hj;have hin:=hlt _ (mem_stF (cp.mp hmem).1).1;have fold:((dM sp tk x).take (j+1)).foldl (iZ sp x) c=iZ sp x (((dM sp tk x).take j).foldl (iZ sp x) c) (dM sp tk x)[j]:=by
    rw [bj,hsj];show ((dM sp tk x).take j++[(dM sp tk x)[j]]).foldl _ _=_;rw [cR];rfl
   rw [fold];obtain ⟨Wj,xj,kj,aj⟩:=vis j;generalize ((dM sp tk x).take j).foldl (iZ sp x) c=d at JD Wj xj kj aj;generalize (dM sp tk x)[j]=st at hq hin dy;apply ⟨_,rfl,_,rfl,v,q,b,m,sp,st,sAt sp st.i,rfl,hv.same JD.same,hq,jE hin,?_⟩;rw [(lG hin).1];obtain ⟨kv2,hDaD,dwD⟩:=JD.da;apply ⟨_,rfl,_,rfl,Da,_,rfl,DGet.k (k:= .inl (fc sp st)) hDaD,_,rfl,?_⟩;cases hto:lkW d.1 (fc sp st) with
   | some p0 =>
    obtain ⟨vp,hvp,_⟩:=dwD.some hto;rw [hvp];have ev:iZ sp x d st=d:=by unfold iZ;exact rN (by rw [hto];exact fun z=>nomatch z)
    rw [ev];exact iteF ⟨JD,hLD,dD,_,_,rfl⟩
   | none =>
    rw [dwD.none hto];apply iteT ?_;obtain ⟨ws,hws⟩:∃ ws,lkW d.1 x=some ws:=Option.ne_none_iff_exists'.mp xj;have ev:iZ sp x d st=(d.1++[(fc sp st,ws++[st])],d.2++[fc sp st]):=by
     unfold iZ;rw [rO hto,hws];rfl
    rw [ev];obtain ⟨vw,hvw,dw⟩:=dwD.some hws;obtain ⟨pw,yw,rfl,hpw,hlw,rw'⟩:=gT dw;have hget':DGet HD Da (V.int x) (some (.ref pw)):=by
     have:=DGet.k (k:= .inl x) hDaD;rw [hvw] at this;exact this
    have lw:=((Wj.pth x ws hws).1.len E be0 b1);apply ⟨_,rfl,_,rfl,Da,.ref pw,rfl,hget',_,rfl,szZ1,fun q4 H16 S16 h16=>⟨pw,q4,_,_,rfl,rfl,S16 _ _ hpw,h16,?_,fun q5 H17 S17 h17=>?_⟩⟩
    ·rw [hlw];exact aN (by show ws.length+1≤1000;lia) ↥0
    have ST:=S16.trans S17;have hDa7:=ST _ _ hDaD;have dw7:=dwD.keep (bG.tupK ST);have hLa7:=ST _ _ JD.la;have hL7:=ST _ _ hLD;have dD7:=dD.same ST;have S7:=JD.same.trans ST;have lk:kv2.length≤17:=by rw [dwD.len];exact kj
    apply ⟨_,rfl,_,rfl,Da,_,rfl,DPut.k (k:= .inl (fc sp st)) hDa7 (bX (by lia:kv2.length≤999) ↥0),?_⟩;have hway:IsD H17 (.ref q5) (oW (ws++[st])):=by
     apply .tup h17 ?_;rw [aE];exact (rw'.same ST).append (.cons (dy.same ST) .nil)
    rw [putK_new _ (dwD.none hto)];have K8:kg H17 (upd H17 Da (.dK (kv2++[(.inl (fc sp st),.ref q5)]))):=fun q xs h=>by rw [bq (fR h hDa7 nofun)];exact h
    have hDa8:(upd H17 Da (.dK (kv2++[(.inl (fc sp st),.ref q5)]))) Da=some (.dK (kv2++[(.inl (fc sp st),.ref q5)])):=aV;have dw8:DW (upd H17 Da (.dK (kv2++[(.inl (fc sp st),.ref q5)]))) (kv2++[(.inl (fc sp st),.ref q5)]) (d.1++[(fc sp st,ws++[st])]):=DW.snoc ⟨rfl,qR K8 hway⟩ (dw7.keep K8);have hLa8:(upd H17 Da (.dK (kv2++[(.inl (fc sp st),.ref q5)]))) La=some (.lst (d.2.map V.int)):=by rw [bq nDL.symm];exact hLa7
    have nLD:L≠Da:=fR hLD hDaD nofun;have hL8:(upd H17 Da (.dK (kv2++[(.inl (fc sp st),.ref q5)]))) L=some (.lst zs):=by rw [bq nLD];exact hL7
    have S8:bG H (upd H17 Da (.dK (kv2++[(.inl (fc sp st),.ref q5)]))):=fun a o e=>by rw [bq (bF e hDa)];exact S7 a o e
    have dD8:dW (upd H17 Da (.dK (kv2++[(.inl (fc sp st),.ref q5)]))) zs (de Stp.row (dM sp tk x)):=dk K8 dD7;generalize upd H17 Da (.dK (kv2++[(.inl (fc sp st),.ref q5)]))=H8 at hDa8 dw8 hLa8 hL8 S8 dD8 ⊢;apply ⟨_,rfl,.inl ⟨rfl,_,SqL.of hLa8⟩,_,rfl,La,_,_,rfl,rfl,hLa8,nS (by rw [aa];lia),?_⟩;have J8:JW H H8 Da La (d.1++[(fc sp st,ws++[st])],d.2):=⟨S8,⟨_,hDa8,dw8⟩,hLa8⟩;have J9:=J8.upL (td:=d.2++[fc sp st]) hLaH nDL;rw [aE] at J9;apply ⟨J9,?_,dk (eO hLa8) dD8,_,_,rfl⟩;rw [bq nLL];exact hL8
  ·rintro σ HD ⟨JD,hLD,dD,w7,w8,rfl⟩
   rw [lz,bp,←eT] at JD;exact ⟨_,t3,i+1,_,_,_,rfl,⋯,rfl,JD,t1,t2,⋯,bN⟩
def oN.natsF (a:oN m sp ns):∃ (l π:List Nat),ns=l.map (fun (i:Nat)=>(i:Int))∧Ordd sp π∧l.Perm (lg sp m π).2:=by
 obtain ⟨π,o,p,_⟩:=a;have nn:∀ x∈ns,0≤x:=fun x hx=>by
  obtain ⟨i,_,rfl⟩:=bc.mp (p.mem_iff.mp hx);lia
 apply ⟨ns.map Int.toNat,π,?_,o,?_⟩
 ·rw [cY]
  conv=>lhs;rw [←List.map_id ns]
  exact gZ fun x hx=>(fe (nn x hx)).symm
 ·have q:=p.map Int.toNat
  rw [cY] at q;have e:((lg sp m π).2.map (Int.toNat ∘ fun (i:Nat)=>(i:Int)))=(lg sp m π).2:=by
   conv=>rhs;rw [←List.map_id (lg sp m π).2]
   exact gZ fun x _=>rfl
  rw [e] at q;exact q
def gone_ltF (O:Ordd sp π)(pm:l.Perm (lg sp m π).2):∀ i∈l,i<sp.length:=fun i hi=>by
 rcases (kx sp π (ke m,[])).1 i (pm.mem_iff.mp hi) with z | z
 ·cases z
 ·exact O.lt z
def scRingBy:bW ["net","span","start","goal"] pzd (defScope sRingBy):=by trivial
theorem ok_ringBy (F:Fun K "ring_by" "ring_by" sRingBy f fd)(G1:Fn K mg "way_between" sWayB pzE f1 fd1)(F1:cO P w K mg base CX0 3 f1 fd1 pzE spWayBt)
  (G2:Fn K mg "forest_of" mh pza f2 fd2) (F2:cO P w K mg base CX0 6 f2 fd2 pza (lJ Tb0 lp lq)):cO P w K mg base CX0 7 f fd pzd (spRingBy Tb0 lp lq):=by
 specialize F.ok scRingBy;obtain ⟨v,b,m,sp,k,rfl,hv,N,hT,hk,fin⟩:=h;obtain ⟨t,p,ys,rfl,ht,hp,hl,hy⟩:=fJ hv;obtain ⟨q,hq,hq2⟩:=hy k _ (jE hk);have hr1:ik 3 _:=hr.mono ↥0;have E:=N.ends;have few:=N.few;obtain ⟨a0,a1,b0,b1⟩:=E _ (fu hk);apply ⟨_,PSl.h (ba ⟨(psZ 2 scRingBy.nd (ixZ (fA fk (ixZ (pv 0)) (pv 1) (fun _ _=>rfl))))⟩
  (ba ⟨(psZ 3 scRingBy.nd (ixZ (fA fk (ixZ (pv 0)) (pv 1) (fun _ _=>rfl))))⟩
  (cS ⟨(b9 (c9 mw (dB (ag (dB (ag (pv 1) (ag bI aD))) aD)) (pc1 G1 F1 hr1 (ag (pv 0) (ag (pc1 G2 F2 hr (ag (pv 0) aD)) (ag (pv 3) (ag (pv 2) aD)))))))⟩))),?_⟩
 apply ⟨_,rfl,t,_,_,_,rfl,rfl,SqT.of ht,aS (j:=2) rfl,_,rfl,p,_,_,_,rfl,rfl,SqT.of hp,aS (j:=k) hq,q,_,_,_,rfl,rfl,SqT.of hq2,aS (j:=0) rfl,?_⟩;apply ⟨_,rfl,t,_,_,_,rfl,rfl,SqT.of ht,aS (j:=2) rfl,_,rfl,p,_,_,_,rfl,rfl,SqT.of hp,aS (j:=k) hq,q,_,_,_,rfl,rfl,SqT.of hq2,aS (j:=1) rfl,?_⟩;apply ⟨_,rfl,pJ,fun q1 H1 S1 h1=>⟨szZ1,fun q2 H2 S2 h2=>⟨_,rfl,_,rfl,.ref t,b,m,sp,rfl,hv.same (S1.trans S2),N,LamT.same (S1.trans S2) hT,fun u H3 ns tb3 hT3 hu F0=>?_⟩⟩⟩;have hT2:=LamT.same (S1.trans S2) hT;have K3:=Tb.tupK (LamT.tbl hT2) tb3;obtain ⟨l,π,rfl,O,pm⟩:=F0.natsF;have hlt:=gone_ltF O pm;have lfew:l.length≤40:=by have:=F0.len;rw [aa] at this;lia
 rw [cY] at hu;apply ⟨_,rfl,_,rfl,.ref t,u,b,m,sp,l,(sAt sp k).g,(sAt sp k).s,rfl,cN K3 (hv.same (S1.trans S2)),N,hu,hlt,lfew,b0,by have:=N.m1;lia,held_span E O pm hk,fun w4 H4 pth S4 d4 wr=>?_⟩;obtain ⟨pw,yw,rfl,hpw,hlw,rw'⟩:=gT d4;have hP:=WayR.pth E (by have:=N.m2;lia) hlt b0 b1 (held_span E O pm hk) wr;have ln:=hP.len E b0 b1;have h24:=S4 _ _ (K3 _ _ h2);have h14:=S4 _ _ (K3 _ _ (S2 _ _ h1));apply ⟨q2,pw,_,_,rfl,rfl,h24,hpw,?_,fun q5 H5 S5 h5=>?_⟩
 ·rw [hlw];have:=N.m2;exact aN (by show 1+pth.length≤1000;lia) ↥0
 apply fin _ H5 l π pth ((bG.tb (S1.trans S2)).trans (tb3.trans (bG.tb (S4.trans S5)))) (LamT.same (S4.trans S5) hT3) ?_ F0 O pm wr;exact .tup h5 (.cons (.tup (S5 _ _ h14) (dW.ints (Stp.row ⟨k,1⟩))) (rw'.same S5))
abbrev sRingsO:cL:=top 26
def inV_intsF (x:Int):∀ p:List Int,inV (.int x) (p.map V.int)=decide (x∈p)
 | []=>by simp [inV]
 | y::p=>by
  have ih:=inV_intsF x p;unfold inV at ih ⊢;rw [bM,kh,ih]
  by_cases e:y=x
  ·subst e;simp [eqV]
  ·have:eqV (.int y) (.int x)=false:=by simp [eqV,e]
   rw [this];simp [aF,cH e]
def inV_nat (x:Nat)(l:List Nat):inV (.int (x:Int)) (l.map fun (i:Nat)=>V.int i)=decide (x∈l):=by
 have e:(l.map fun (i:Nat)=>V.int i)=(l.map fun (i:Nat)=>(i:Int)).map V.int:=by rw [cY];rfl
 rw [e,inV_intsF];apply decide_eq_decide.mpr ⟨fun h=>?_,fun h=>bc.mpr ⟨x,h,rfl⟩⟩;obtain ⟨j,hj,e⟩:=bc.mp h;have:j=x:=by lia
 rw [←this];exact hj
def scRingsO:bW ["net","taken"] pza (defScope sRingsO):=by trivial
theorem ok_ringsO (F:Fun K "rings_of" "rings_of" sRingsO f fd)(T:Nm mg)(T2:Nt mg)(G1:Fn K mg "forest_of" mh pza f1 fd1)(F1:cO P w K mg base CX0 6 f1 fd1 pza (lJ Tb0 lp lq))(G2:Fn K mg "ring_by" sRingBy pzd f2 fd2)(F2:cO P w K mg base CX0 7 f2 fd2 pzd (spRingBy Tb0 lp lq)):cO P w K mg base CX0 8 f fd pza (spRingsO Tb0 lp lq):=by
 specialize F.ok scRingsO;obtain ⟨v,b,m,sp,rfl,hv,N,hT,k⟩:=h;have hr6:ik 6 _:=hr.mono ↥0;have E:=N.ends;have few:=N.few;have m1:=N.m1;apply ⟨_,PSl.h (ba ⟨(psZ 1 scRingsO.nd (pc1 G1 F1 hr6 (ag (pv 0) aD)))⟩
  (cS ⟨(b9 (gW (fr:=["net","taken"]) (js:=[0,1]) rfl (gG rfl T2.range (ag (cg bP rfl T.len bD (ag (ixZ (pv 0)) aD)) aD)) ⇑0 rfl ⇑0 rfl (by exists sRingsO) ⇑0 rfl ⇑0 (fun _ _ _ _ _=>⟨(pc1 G2 F2 hr (ag (pv 1) (ag (pv 0) aD))),(mq (cA (r:=rIn K true) op_notIn_seq (pv 0) (pv 2) rfl))⟩)))⟩)),?_⟩
 apply ⟨_,rfl,v,b,m,sp,rfl,hv,N,hT,fun u H1 ns tb1 hT1 hu F0=>?_⟩;obtain ⟨l,π,rfl,O,pm⟩:=F0.natsF;have fr:jD m.toNat sp l:=⟨F0,π,O,pm⟩;rw [cY] at hu;have hu:H1 u=some (.tup (l.map fun (i:Nat)=>V.int i)):=hu;have hv1:=cN (Tb.lamT hT tb1) hv;obtain ⟨t,p,ys,rfl,ht,hp,hl,hy⟩:=fJ hv1;apply ⟨_,rfl,t,_,_,_,rfl,rfl,SqT.of ht,aS (j:=2) rfl,p,_,rfl,.inr (SqT.of hp),_,rfl,⋯,⋯,?_⟩;apply jM (n:=((ys.length:Int)).toNat) (fun i zs HC=>L2.Tb Tb0 H1 HC∧L2.LamT Tb0 lp lq HC∧∃ rg:List (Nat×List Stp),zs.length≤i∧dW HC zs (rg.map wayQ)∧(∀ q∈rg,RK sp l q)∧rg.map (·.1)=(aJ i).filter fun k=> !(decide (k∈l))) ⟨Tb.refl H1,hT1,[],az _,.nil,fun _ h=>rQ h ∅,rfl⟩ (fun i zs HC hi ⟨_,_,_,e2,_⟩=>e2) (d8 ⋯) (fun i zs HC hi ⟨tb,hTC,rg,lz,dz,hrk,hks⟩=>?_) (fun zs HC ⟨tb,hTC,rg,lz,dz,hrk,hks⟩ D hD=>?_)
 ·rw [iq]
  have hin:i<sp.length:=by lia
  have KC:=Tb.lamT hT1 tb;have ef:(aJ (i+1)).filter (fun k=> !(decide (k∈l)))=(aJ i).filter (fun k=> !(decide (k∈l)))++(if i∈l then [] else [i]):=by
   rw [ir,fZ];congr 1;rw [eN,List.filter_nil]
   by_cases c:i∈l
   ·rw [rO c,rR c];rfl
   ·rw [rN c,rS c];rfl
  apply ⟨_,rfl,_,rfl,u,_,rfl,.inr (SqT.of (KC _ _ hu)),rfl,(by rw [List.all_map];exact ia.mpr fun _ _=>rfl),_,rfl,?_⟩;rw [inV_nat];show if (!(decide (i∈l)))=true then _ else _;rw [ef];apply rp (fun hc=>?_) (fun hc=>?_)
  rotate_left
  ·have c:i∈l:=by simpa using hc
   rw [rO c,dg];exact ⟨tb,hTC,rg,⋯,dz,hrk,hks⟩
  have c:i ∉ l:=by simpa using hc
  rw [rN c];apply ⟨_,rfl,_,rfl,.ref t,b,m,sp,i,rfl,cN KC hv1,N,hTC,hin,fun q HD l' π' pw tbD hTD dq F0' O' pm' wr=>?_⟩;have el:l'=l:=jD.one (m:=m.toNat) (sp:=sp) ⟨F0',π',O',pm'⟩ fr;subst el;obtain ⟨s0,s1,g0,g1⟩:=E _ (fu hin);have hlt:=(fr.pots E).nodup.2;have Pw:=WayR.pth E (by have:=N.m2;lia) hlt g0 g1 (fr.held E hin).symm wr;have KD:=Tb.lamT hTC tbD;apply ⟨tb.trans tbD,hTD,rg++[(i,⟨i,1⟩::pw)],by rw [au];show zs.length+1≤i+1;lia,?_,fun q' hq'=>?_,by rw [aE,hks];rfl⟩
  ·rw [aE]
   exact (dW.keepP KD dz (nu rg fun q _=>pZ _ _)).append (.cons dq .nil)
  ·rcases aH.mp hq' with z | z
   ·exact hrk q' z
   ·rw [aw.mp z];exact ⟨hin,c,pw,rfl,Pw⟩
 ·have SD:bG HC (upd HC D (.lst zs)):=bG.put (bG.refl HC) hD
  have hDH:H D=none:=by
   cases z:H D with
   | none=>rfl
   | some o =>
    by_cases e:D=Tb0
    ·subst e
     obtain ⟨ps,hps⟩:=LamT.tbl hTC;rw [hps] at hD;cases hD
    ·have:=tb D o e (tb1 D o e z)
     rw [hD] at this;cases this
  apply k D zs l rg _ (tb1.trans (tb.trans (bG.tb SD))) (LamT.same SD hTC) hDH aV (dz.same SD) ⟨fr,hrk,?_⟩;rw [hks];unfold pX;rw [cb,hl]
abbrev sSpread:cL:=top 27
inductive spSpread (T:ak)(lp:Pos)(lq:Str)(vs:List V)(H:Hp)(Q:VK)(_:XK):Prop
 | mk (v:V)(b m:Int)(sp:List Sn)(_:vs=[v])(_:IsD H v (jX b m sp))(_:kl b m sp)(_:L2.LamT T lp lq H)(_:∀ (L:ak) (zs:List V) (l:List Nat) (S:List Stp) (H':Hp),L2.Tb T H H'→L2.LamT T lp lq H'→H L=none→H' L=some (.lst zs)→dW H' zs (de Stp.row S)→jD m.toNat sp l→SprOk m.toNat sp l S→Q (.ref L) H')
structure JS (H Hc:Hp)(Da Ls:ak)(R:List Int)(S:List Stp)(n:Nat):Prop where
 same:bG H Hc
 da:∃ kvs,Hc Da=some (.dK kvs)∧(∀ x,lW kvs (.inl x)=none↔x ∉ R)∧kvs.length≤R.length+n
 ls:∃ zs,Hc Ls=some (.lst zs)∧dW Hc zs (de Stp.row S)
def JS.on {Hc':Hp}{R:List Int}(j:JS H Hc Da Ls R S n)(e:bG Hc Hc'):JS H Hc' Da Ls R S n:=by
 obtain ⟨kvs,h1,h2⟩:=j.da;obtain ⟨zs,h3,h4⟩:=j.ls;exact ⟨j.same.trans e,⟨kvs,e _ _ h1,h2⟩,⟨zs,e _ _ h3,h4.same e⟩⟩
def JS.upL {La:ak}{R:List Int}(j:JS H Hc Da Ls R S n)(hL:H La=none)(hc:Hc La=some (.lst xs))(ne:Ls≠La):JS H (upd Hc La (.lst ys)) Da Ls R S n:=by
 obtain ⟨kvs,h1,h2⟩:=j.da;obtain ⟨zs,h3,h4⟩:=j.ls;exact ⟨fun a o e=>by rw [bq (bF e hL)];exact j.same a o e,⟨kvs,by rw [bq (fR h1 hc nofun)];exact h1,h2⟩,⟨zs,by rw [bq ne];exact h3,dk (eO hc) h4⟩⟩
def JS.upS {q:ak}{R:List Int}{s:Stp}(j:JS H Hc Da Ls R S n)(hL:H Ls=none)(hc:Hc Ls=some (.lst zs))(hz:dW Hc zs (de Stp.row S))(hq:IsD Hc (.ref q) (.tup ((Stp.row s).map Dt.int))):JS H (upd Hc Ls (.lst (zs++[.ref q]))) Da Ls R (S++[s]) n:=by
 obtain ⟨kvs,h1,h2⟩:=j.da;have hd:dW Hc (zs++[.ref q]) (de Stp.row (S++[s])):=by
  unfold de at hz ⊢;rw [aE];exact hz.append (.cons hq .nil)
 exact ⟨fun a o e=>by rw [bq (bF e hL)];exact j.same a o e,⟨kvs,by rw [bq (fR h1 hc nofun)];exact h1,h2⟩,⟨_,aV,dk (eO hc) hd⟩⟩
def JS.upD {R:List Int}{kvs:List (Key×V)}{x:Int}{y:V}{R':List Int}{n':Nat}(j:JS H Hc Da Ls R S n)(hD:H Da=none)(hc:Hc Da=some (.dK kvs))(hk:∀ x,lW kvs (.inl x)=none↔x ∉ R)(hR:∀ z,z∈R'↔z∈R∨z=x)(hl:kvs.length+1≤R'.length+n'):JS H (upd Hc Da (.dK (nU kvs (.inl x) y))) Da Ls R' S n':=by
 obtain ⟨zs,h3,h4⟩:=j.ls;have K:kg Hc (upd Hc Da (.dK (nU kvs (.inl x) y))):=fun q xs h=>by rw [bq (fR h hc nofun)];exact h
 apply ⟨fun a o e=>by rw [bq (bF e hD)];exact j.same a o e,⟨_,aV,fun z=>?_,?_⟩,⟨zs,by rw [bq (fR h3 hc nofun)];exact h3,dk K h4⟩⟩
 ·rw [valV_put,hR]
  by_cases e:z=x
  ·rw [rO (by rw [e])]
   exact ⟨fun h=>(by cases h),fun h=>rQ (Or.inr e) h⟩
  ·rw [rN (fun h=>e (Sum.inl.inj h)),hk]
   exact ⟨fun h h'=>h'.elim h e,fun h h'=>h (.inl h')⟩
 ·exact aN (kE _ _ _) hl
def kd:bW ["net","taken","reached","steps","first","ahead","here","step","there"] pza (defScope sSpread):=by trivial
theorem ok_spread (F:Fun K "spread_of" "spread_of" sSpread f fd)(T:Nm mg)(T2:Nt mg)(G1:Fn K mg "forest_of" mh pza f1 fd1)(F1:cO P w K mg base CX0 6 f1 fd1 pza (lJ Tb0 lp lq))(G2:Fn K mg "steps_from" pU pzk f2 fd2)(F2:cO P w K mg base CX0 2 f2 fd2 pzk spSteps)(G3:Fn K mg "leads_to" sTo pzc f3 fd3):cO P w K mg base CX0 7 f fd pza (spSpread Tb0 lp lq):=by
 have F3:cO P w K mg base CX0 1 f3 fd3 pzc spTo:=ok_to G3.F;apply F.ok kd (by contradiction) (fun cdv A outer s H0 vs Q E hr h=>?_);obtain ⟨v,b,m,sp,rfl,hv,N,hT,k⟩:=h;have hr2:ik 2 _:=hr.mono ↥0;have hr1:ik 1 _:=hr.mono ↥0;have u1:=bX (Nat.add_le_add_left (by decide:1≤64) _) hr.units;have E:=N.ends;have m1:=N.m1;have m2:=N.m2;apply ⟨_,PSl.h (ba ⟨(psZ 1 kd.nd (pc1 G1 F1 hr (ag (pv 0) aD)))⟩
  (ba ⟨(psZ 2 kd.nd pe_dnewK)⟩
  (ba ⟨(psZ 3 kd.nd (jv aD))⟩
  (ba ⟨(iL bH rfl (gG rfl T2.range (ag (ixZ (pv 0)) aD)) (pgZ 4 kd.nd) (PSl.h (ba ⟨(psZ 5 kd.nd (PE.cutV (ph (pt_cmp (nW u1 (pv 4) (pv 2)) rfl) (jv (ag (pv 4) aD)) (jv aD))))⟩
  (ba ⟨(ps_dput u1 (pv 2) (pv 4) mV rfl)⟩
  (cS ⟨(mM bH (cA op_gt (cg bP rfl T.len bD (ag (pv 5) aD)) bI (cP _)) (PSl.h (ba ⟨(psZ 6 kd.nd (p8 bf fh fg qe (pv 5)))⟩
  (cS ⟨(iL bH rfl (gH (pc1 G2 F2 hr2 (ag (pv 0) (ag (pv 1) (ag (pv 6) aD))))) (pgZ 7 kd.nd) (PSl.h (ba ⟨(psZ 8 kd.nd (pc1 G3 F3 hr1 (ag (pv 0) (ag (pv 7) aD))))⟩
  (cS ⟨(gF (pt_cmp (nW u1 (pv 8) (pv 2)) rfl) (PSl.h (ba ⟨(ps_dput u1 (pv 2) (pv 8) mV rfl)⟩
  (ba ⟨(iB (l7 bf bR bQ gc (pv 5) (ag (pv 8) aD)))⟩
  (cS ⟨(iB (l7 bf bR bQ gc (pv 3) (ag (pv 7) aD)))⟩)))) dv)⟩))))⟩))))⟩)))))⟩
  (cS ⟨(b9 (pv 3))⟩))))),?_⟩
 apply ⟨_,rfl,v,b,m,sp,rfl,hv,N,hT,fun u H ns tb1 hT1 hu F0=>?_⟩;obtain ⟨l,π,rfl,O,pm⟩:=F0.natsF;have fr:jD m.toNat sp l:=⟨F0,π,O,pm⟩;rw [cY] at hu;have hu:H u=some (.tup (l.map fun (i:Nat)=>V.int i)):=hu;have hv1:=cN (Tb.lamT hT tb1) hv;obtain ⟨t,p,ys,rfl,ht,hp,hl,hy⟩:=fJ hv1;clear hy hp hl hv;have PT:=fr.pots E;have hlt:=PT.nodup.2;have few:l.length≤40:=by have:=fr.few E ⋯;lia
 have ne:∀ i∈l,(sAt sp i).s≠(sAt sp i).g:=fun i hi=>(N.all _ (fu (hlt i hi))).ne
 intro Da hDa;have hDa1:(upd H Da (.dK [])) Da=some (.dK []):=aV;have S1:bG H (upd H Da (.dK [])):=bG.put (bG.refl H) hDa;generalize upd H Da (.dK [])=H1 at hDa1 S1 ⊢;apply ⟨bo _,fun Ls hLs=>?_⟩;have hLsH:H Ls=none:=bG.free S1 hLs;have S2:bG H1 (upd H1 Ls (.lst [])):=bG.put (bG.refl H1) hLs;have J2:JS H (upd H1 Ls (.lst [])) Da Ls [] [] 0:=⟨S1.trans S2,⟨[],S2 _ _ hDa1,fun x=>⟨fun _ h=>(by cases h),fun _=>rfl⟩,az _⟩,⟨[],aV,.nil⟩⟩;generalize upd H1 Ls (.lst [])=H2 at J2 ⊢;clear S2 hLs S1 hDa1;apply ⟨_,rfl,t,_,_,_,rfl,rfl,SqT.of (J2.same _ _ ht),aS (j:=1) rfl,m,rfl,⋯,⋯,?_⟩;apply lh (n:=m.toNat) (fun i σ HC=>∃ (R:List Int) (S:List Stp) (w4 w5 w6 w7 w8:Option V),σ=[some (.ref t),some (.ref u),some (.ref Da),some (.ref Ls),w4,w5,w6,w7,w8]∧JS H HC Da Ls R S i∧SI m.toNat sp l exN R [] S∧∀ x:Nat,x<i→(x:Int)∈R) ⟨[],[],none,none,none,none,none,rfl,J2,SI.start,fun x hx=>rQ hx (Nat.not_lt_zero _)⟩ ?_ ?_
 ·rintro i σ HC hi ⟨R,S,w4,w5,w6,w7,w8,rfl,JC,I0,hall⟩
  rw [iq];have hRm:=I0.few;obtain ⟨kvs,hDaC,hkv,hkl⟩:=JC.da;apply ⟨fun v H'=>∃ La A,v= .ref La∧H La=none∧La≠Ls∧JS H H' Da Ls R S i∧H' La=some (.lst (A.map V.int))∧((i:Int) ∉ R∧A=[(i:Int)]∨(i:Int)∈R∧A=[]),?_,?_⟩
  rotate_left
  ·apply ⟨_,rfl,_,rfl,Da,_,rfl,DGet.k (k:= .inl (i:Int)) hDaC,_,rfl,?_⟩
   have mk:∀ (La:ak) (xs:List V),HC La=none→JS H (upd HC La (.lst xs)) Da Ls R S i∧H La=none∧La≠Ls:=fun La xs hLa=>⟨JC.on (bG.put (bG.refl HC) hLa),bG.free JC.same hLa,fun z=>by
    obtain ⟨zs,hz,_⟩:=JC.ls;rw [z,hz] at hLa;cases hLa⟩
   cases c:lW kvs (.inl (i:Int)) with
   | none =>
    apply iteT ⟨_,rfl,szZ1,fun La hLa=>?_⟩;obtain ⟨a1,a2,a3⟩:=mk La [.int (i:Int)] hLa;exact ⟨La,[(i:Int)],rfl,a2,a3,a1,aV,.inl ⟨(hkv _).mp c,rfl⟩⟩
   | some o =>
    apply iteF ⟨bo _,fun La hLa=>?_⟩;obtain ⟨a1,a2,a3⟩:=mk La [] hLa;exact ⟨La,[],rfl,a2,a3,a1,aV,.inr ⟨e7 fun z=>(by rw [(hkv _).mpr z] at c;cases c),rfl⟩⟩
  rintro _ HD ⟨La,A,rfl,hLaH,nLL,JD,hLa,hA⟩;obtain ⟨kvD,hDaD,hkD,hlD⟩:=JD.da;apply ⟨_,rfl,_,rfl,Da,_,rfl,DPut.k (k:= .inl (i:Int)) hDaD (bX (by lia:kvD.length≤999) ↥0),?_⟩;obtain ⟨R',hR',IR,inR,hall'⟩:∃ R',(∀ z,z∈R'↔z∈R∨z=(i:Int))∧SI m.toNat sp l exN R' A S∧R.length≤R'.length∧(∀ x:Nat,x<i+1→(x:Int)∈R'):=by
   rcases hA with ⟨a1,rfl⟩ | ⟨a1,rfl⟩
   ·apply ⟨R++[(i:Int)],fun z=>by rw [aH,aw],I0.root a1 ⋯ ⋯,by rw [au];lia,fun x hx=>?_⟩
    rcases jA.mp hx with z | z
    ·exact aK _ (hall x z)
    ·rw [z];simp
   ·apply ⟨R,fun z=>⟨.inl,fun h=>h.elim id fun e=>e ▸ a1⟩,I0,az _,fun x hx=>?_⟩
    rcases jA.mp hx with z | z
    ·exact hall x z
    ·rw [z];exact a1
  have JE:=JD.upD (y:= .bl true) (R':=R') (n':=i+1) (x:=(i:Int)) hDa hDaD hkD hR' ⋯;have hLaE:(upd HD Da (.dK (nU kvD (.inl (i:Int)) (.bl true)))) La=some (.lst (A.map V.int)):=by rw [bq (fR hLa hDaD nofun)];exact hLa
  generalize upd HD Da (.dK (nU kvD (.inl (i:Int)) (.bl true)))=HE at JE hLaE ⊢;have lA:A.length≤1:=by rcases hA with ⟨_,rfl⟩ | ⟨_,rfl⟩ <;> simp
  clear hA hLa JD hDaD hkD hlD inR I0 hall hkv hDaC JC;apply ⟨fun n σ HA=>∃ (R A:List Int) (S:List Stp) (w6 w7 w8:Option V),n=2 * (16 - R.length)+A.length∧n≤40∧σ=[some (.ref t),some (.ref u),some (.ref Da),some (.ref Ls),some (.int (i:Int)),some (.ref La),w6,w7,w8]∧JS H HA Da Ls R S (i+1)∧HA La=some (.lst (A.map V.int))∧SI m.toNat sp l exN R A S∧∀ x:Nat,x<i+1→(x:Int)∈R,⟨_,R',A,S,_,_,_,rfl,⋯,rfl,JE,hLaE,IR,hall'⟩,?_⟩;clear JE hLaE IR hall' hR' hkl;rintro n σ HA ⟨R,A,S,w6,w7,w8,rfl,n40,rfl,JA,hLa,IA,hall⟩;apply ⟨_,rfl,La,_,rfl,.inl (SqL.of hLa),_,_,rfl,rfl,_,rfl,?_⟩
  rcases List.eq_nil_or_concat A with rfl | ⟨A',x,rfl⟩
  ·apply kL (by rfl) ?_
   exact ⟨R,S,_,_,_,_,_,rfl,JA,IA,hall⟩
  rw [List.concat_eq_append] at hLa n40 IA ⊢;apply ow (rR (by rw [aa,au];show ((A'.length+1:Nat):Int) > 0;lia)) ?_;apply ⟨_,fun σ' H' z=>z,?_⟩;rw [aE] at hLa;apply ⟨_,rfl,.inl ⟨rfl,_,SqL.of hLa⟩,La,_,.int x,rfl,rfl,hLa,by rw [au,bw ∅];simp,?_⟩;rw [show (A'.map V.int++[x].map V.int).dropLast=A'.map V.int from fO];have JB:=JA.upL (ys:=A'.map V.int) hLaH hLa nLL.symm;have hLaB:(upd HA La (.lst (A'.map V.int))) La=some (.lst (A'.map V.int)):=aV;generalize upd HA La (.lst (A'.map V.int))=HB at JB hLaB ⊢;obtain ⟨IB,xR⟩:=IA.pop;have lB:2 * (16 - R.length)+A'.length+1≤40:=by rw [au] at n40;exact n40
  have eB:2 * (16 - R.length)+(A'++[x]).length=2 * (16 - R.length)+A'.length+1:=by rw [au];rfl
  rw [eB];clear JA hLa IA n40 eB;apply ⟨_,rfl,_,rfl,_,rfl,.ref t,u,b,m,sp,l,x,rfl,hv1.same JB.same,JB.same _ _ hu,hlt,few,fun L HC zs SC fL hL dz=>⟨L,rfl,⟨_,SqL.of hL⟩,?_⟩⟩;have nL1:L≠La:=fun z=>by rw [z,hLaB] at fL;cases fL
  have nL2:L≠Ls:=fun z=>by
   obtain ⟨z1,hz1,_⟩:=JB.ls;rw [z,hz1] at fL;cases fL
  have JC:=JB.on SC;have hLaC:=SC _ _ hLaB;clear JB hLaB;have lz:zs.length=(dM sp l x).length:=by rw [dz.length];unfold de;rw [aa]
  apply jx (K:=K) (a:=L) (xs:=zs) (fun j σ HD=>∃ (R2 A2:List Int) (S2:List Stp) (w7 w8:Option V),JS H HD Da Ls R2 S2 (i+1)∧HD La=some (.lst (A2.map V.int))∧SI m.toNat sp l (· =x) R2 A2 S2∧x∈R2∧(∀ x:Nat,x<i+1→(x:Int)∈R2)∧2 * (16 - R2.length)+A2.length≤2 * (16 - R.length)+A'.length∧(∀ s∈(dM sp l x).take j,s.i∈S2.map Stp.i)∧HD L=some (.lst zs)∧dW HD zs (de Stp.row (dM sp l x))∧σ=[some (.ref t),some (.ref u),some (.ref Da),some (.ref Ls),some (.int (i:Int)),some (.ref La),some (.int x),w7,w8]) ⟨R,A',S,_,_,JC,hLaC,IB,xR,hall,az _,fun s hs=>rQ hs ∅,hL,dz,rfl⟩ (fun j σ HD _ q=>by obtain ⟨_,_,_,_,_,_,_,_,_,_,_,_,h,_⟩:=q;exact SqL.of h) ?_ ?_
  ·clear JC hLaC IB xR hall hL dz SC
   rintro j y σ HD hy ⟨R2,A2,S2,w7,w8,JD,hLaD,ID,xD,hallD,mD,hsD,hLD,dD,rfl⟩;have hj:j<(dM sp l x).length:=by have:=(ao.mp hy).1;lia
   have hsj:=gE hj;obtain ⟨y',hy',dy⟩:=dD.at (i:=j) (d:= .tup ((Stp.row (dM sp l x)[j]).map Dt.int)) (by unfold de;rw [ax,hsj];rfl);rw [hy] at hy';cases hy';obtain ⟨q,qs,rfl,hq,rq⟩:=dy.tup_of;have eq:=rq.ints_of;subst eq;have hmem:(dM sp l x)[j]∈dM sp l x:=bb hj;have hin:=hlt _ (oz hmem).1.1;have more:∀ S3:List Stp,(∀ s∈S2,s∈S3)→(dM sp l x)[j].i∈S3.map Stp.i→∀ s∈(dM sp l x).take (j+1),s.i∈S3.map Stp.i:=fun S3 sub hj3 s hs=>by
    rw [bj,hsj] at hs
    rcases aH.mp hs with z | z
    ·obtain ⟨t',ht',e⟩:=bc.mp (hsD s z)
     exact bc.mpr ⟨t',sub _ ht',e⟩
    ·rw [aw.mp (show s∈[(dM sp l x)[j]] from z)];exact hj3
   generalize (dM sp l x)[j]=st at hq hin dy hmem more;apply ⟨_,rfl,_,rfl,.ref t,q,b,m,sp,st,sAt sp st.i,rfl,hv1.same JD.same,hq,jE hin,?_⟩;rw [(lG hin).1];obtain ⟨kv2,hDaD,hk2,hl2⟩:=JD.da;have hR2:=ID.fewX;apply ⟨_,rfl,_,rfl,Da,_,rfl,DGet.k (k:= .inl (fc sp st)) hDaD,_,rfl,?_⟩;cases hto:lW kv2 (.inl (fc sp st)) with
   | some o =>
    have inR:fc sp st∈R2:=e7 fun z=>by rw [(hk2 _).mpr z] at hto;cases hto
    exact iteF ⟨R2,A2,S2,_,_,JD,hLaD,ID,xD,hallD,mD,more S2 (fun _ h=>h) (ID.has PT ne hmem inR),hLD,dD,rfl⟩
   | none =>
    have out:fc sp st ∉ R2:=(hk2 _).mp hto;have I3:=ID.add E hlt xD hmem out;have hR3:=I3.fewX;rw [au] at hR3;have hR3:R2.length+1≤m.toNat:=hR3;apply iteT ⟨_,rfl,_,rfl,Da,_,rfl,DPut.k (k:= .inl (fc sp st)) hDaD (bX (by lia:kv2.length≤999) ↥0),?_⟩;have J3:=JD.upD (y:= .bl true) (R':=R2++[fc sp st]) (n':=i+1) (x:=fc sp st) hDa hDaD hk2 (fun z=>by rw [aH,aw]) (by rw [au];show _≤R2.length+1+(i+1);lia);have K3:kg HD (upd HD Da (.dK (nU kv2 (.inl (fc sp st)) (.bl true)))):=fun q xs h=>by rw [bq (fR h hDaD nofun)];exact h
    have hLa3:(upd HD Da (.dK (nU kv2 (.inl (fc sp st)) (.bl true)))) La=some (.lst (A2.map V.int)):=by rw [bq (fR hLaD hDaD nofun)];exact hLaD
    have hL3:(upd HD Da (.dK (nU kv2 (.inl (fc sp st)) (.bl true)))) L=some (.lst zs):=by rw [bq (fR hLD hDaD nofun)];exact hLD
    generalize upd HD Da (.dK (nU kv2 (.inl (fc sp st)) (.bl true)))=H3 at J3 K3 hLa3 hL3 ⊢;have d3:=dk K3 dD;have q3:=K3 _ _ hq;apply ⟨_,rfl,.inl ⟨rfl,_,SqL.of hLa3⟩,_,rfl,La,_,_,rfl,rfl,hLa3,nS (by rw [aa];lia),?_⟩;have J4:=J3.upL (ys:=A2.map V.int++[V.int (fc sp st)]) hLaH hLa3 nLL.symm;have K4:kg H3 (upd H3 La (.lst (A2.map V.int++[V.int (fc sp st)]))):=eO hLa3;have hLa4:(upd H3 La (.lst (A2.map V.int++[V.int (fc sp st)]))) La=some (.lst (A2.map V.int++[V.int (fc sp st)])):=aV;have hL4:(upd H3 La (.lst (A2.map V.int++[V.int (fc sp st)]))) L=some (.lst zs):=by rw [bq nL1];exact hL3
    generalize upd H3 La (.lst (A2.map V.int++[V.int (fc sp st)]))=H4 at J4 K4 hLa4 hL4 ⊢;have d4:=dk K4 d3;have q4:=K4 _ _ q3;obtain ⟨z4,hz4,dz4⟩:=J4.ls;have lz4:z4.length=S2.length:=by rw [dz4.length];unfold de;rw [aa]
    have lS:=ID.len;apply ⟨_,rfl,.inl ⟨rfl,_,SqL.of hz4⟩,_,rfl,Ls,_,_,rfl,rfl,hz4,nS ⋯,?_⟩;have J5:=J4.upS (s:=st) hLsH hz4 dz4 (.tup q4 (dW.ints (Stp.row st)));apply ⟨R2++[fc sp st],A2++[fc sp st],S2++[st],_,_,J5,?_,I3,aK _ xD,fun x hx=>aK _ (hallD x hx),?_,more _ (fun _ h=>aK _ h) (by rw [aE];exact aA _ ∅),?_,dk (eO hz4) d4,rfl⟩
    ·rw [bq nLL,hLa4,aE];rfl
    ·rw [au,au]
     show 2 * (16 - (R2.length+1))+(A2.length+1)≤_;lia
    ·rw [bq nL2];exact hL4
  ·rintro σ HD ⟨R2,A2,S2,w7,w8,JD,hLaD,ID,xD,hallD,mD,hsD,hLD,dD,rfl⟩
   rw [lz,bp] at hsD;exact ⟨_,⋯,R2,A2,S2,_,_,_,rfl,⋯,rfl,JD,hLaD,ID.done hsD,hallD⟩
 ·rintro σ HC ⟨R,S,w4,w5,w6,w7,w8,rfl,JC,I0,hall⟩
  obtain ⟨zs,hz,dz⟩:=JC.ls;have hLs0:H0 Ls=none:=by
   cases z:H0 Ls with
   | none=>rfl
   | some o =>
    by_cases e:Ls=Tb0
    ·subst e
     obtain ⟨ps,hps⟩:=LamT.tbl hT1;rw [hps] at hLsH;cases hLsH
    ·rw [tb1 Ls o e z] at hLsH;cases hLsH
  exact ⟨_,rfl,k Ls zs l S HC (tb1.trans (bG.tb JC.same)) (LamT.same JC.same hT1) hLs0 hz dz fr (I0.ok E hlt hall)⟩
abbrev sRest:cL:=top 29
abbrev sTabBy:cL:=top 50
inductive spTabBy (vs:List V)(H:Hp)(Q:VK)(_:XK):Prop
 | mk (v vb:V)(L:ak)(b m:Int)(sp:List Sn)(bs:List (Int×Int))(zs:List V)(S:List Stp)(_:vs=[v,.ref L,vb])(_:IsD H v (jX b m sp))(_:0<b)(_:0<m)(_:m≤16)(_:lE m.toNat sp)(_:H L=some (.lst zs))(_:dW H zs (de Stp.row S))(_:S.length≤16)(_:(∀ s∈S,s.i<sp.length∧(s.d=1∨s.d= -1)))(_:IsD H vb (bndP bs))(_:bs.length=sp.length)(_:∀ q H',bG H H'→H' q=some (.tup ((tabOf b sp bs m.toNat S).map V.int))→Q (.ref q) H')
theorem frmS_rng (E:lE m sp){t:Stp}(h:t.i<sp.length):0≤kU sp t∧kU sp t<m:=by
 obtain ⟨a,b,c,d⟩:=E _ (fu h);rw [←(nQ h).2];unfold frm;split <;> lia
def ixN_int (h0:0≤z)(h1:z<n):ixN n z=some z.toNat:=by unfold ixN;rw [rO h0,rO h1]
theorem atI_int {xs:List α}{x:α}(h0:0≤z)(h:xs[z.toNat]? =some x):atI xs z=some x:=by
 have:=(ao.mp h).1;unfold atI;rw [ixN_int h0 ⋯];exact h
def map_set {l:List Int}{x:Int}:(l.map V.int).set n (V.int x)=(l.set n x).map V.int:=by rw [List.map_set]
def scRest:bW pzj pzj (defScope sRest):=by trivial
def ok_rest (F:Fun K "rest_by" "rest_by" sRest f fd):cO P w K mg base CX0 1 f fd pzj spRest:=by
 specialize F.ok scRest;obtain ⟨b,n,rfl,hb,k⟩:=h;apply ⟨_,PSl.h (cS ⟨(b9 (c9 l3 (pv 1) (pv 0)))⟩),?_⟩;exact ⟨_,rfl,_,rfl,_,_,rfl,rfl,hb,k⟩
def scTabBy:bW ["net","steps","bounds","times","step"] pzF (defScope sTabBy):=by trivial
theorem ok_tabBy (F:Fun K "table_by" "table_by" sTabBy f fd)(T:Nm mg)(G1:Fn K mg "leads_to" sTo pzc f1 fd1)(G2:Fn K mg "leads_from" sFrom pzc f2 fd2)(G3:Fn K mg "rest_by" sRest pzj f3 fd3):cO P w K mg base CX0 2 f fd pzF spTabBy:=by
 have F1:cO P w K mg base CX0 1 f1 fd1 pzc spTo:=ok_to G1.F;have F2:cO P w K mg base CX0 1 f2 fd2 pzc qV:=p9 G2.F;have F3:cO P w K mg base CX0 1 f3 fd3 pzj spRest:=ok_rest G3.F;specialize F.ok scTabBy;obtain ⟨v,vb,L,b,m,sp,bs,zs,S,rfl,hv,hb,m0,m16,E,hL,dz,lS,hS,hvb,lb,k⟩:=h;have hr1:=hr;obtain ⟨t,p,ys,rfl,ht,hp,hl,hy⟩:=fJ hv;obtain ⟨pb,yb,rfl,hpb,hlb,rb⟩:=gT hvb;apply ⟨_,PSl.h (ba ⟨(psZ 3 scTabBy.nd (c9 op_rep (ny (ag bI aD)) (ixZ (pv 0))))⟩
  (ba ⟨(iL bH rfl (gH (pv 1)) (pgZ 4 scTabBy.nd) (cw (oQ (c9 iC (fA gY (pv 3) (pc1 G2 F2 hr1 (ag (pv 0) (ag (pv 4) aD))) (fun _ _=>rfl)) (c9 nZ (ixZ (pv 4)) (ixZ (fA fk (pv 2) (ixZ (pv 4)) (fun _ _=>rfl))))) (rf (pv 3) (pc1 G1 F1 hr1 (ag (pv 0) (ag (pv 4) aD))) mL))))⟩
  (cS ⟨(b9 (eP i6 rfl T.ttup iG (ag (gW (fr:=pza) (js:=[0]) rfl (gH (pv 3)) ⇑0 rfl ⇑0 rfl (by exists sTabBy) ⇑0 rfl ⇑0 (fun _ _ _ _ _=>⟨(pc1 G3 F3 hr1 (ag (fA (r:=rIxT K) fk (pv 1) bI (fun _ _=>rfl)) (ag (pv 0) aD))),gU⟩)) aD)))⟩))),?_⟩
 apply ⟨szZ1,fun q1 H1 S1 h1=>⟨_,rfl,t,_,_,_,rfl,rfl,SqT.of (S1 _ _ ht),aS (j:=1) rfl,q1,m,_,rfl,rfl,h1,⋯,⋯,?_,fun Lt hLt=>?_⟩⟩
 ·show 1 * m.toNat≤bg
  exact d8 ⋯
 have hLtH:H Lt=none:=bG.free S1 hLt;have S2:bG H (upd H1 Lt (.lst (bx m.toNat [V.int 0]).flatten)):=S1.trans (bG.put (bG.refl H1) hLt);have h2:(upd H1 Lt (.lst (bx m.toNat [V.int 0]).flatten)) Lt=some (.lst ((bx m.toNat (0:Int)).map V.int)):=by
  rw [aV,List.map_replicate,List.flatten_replicate_singleton]
 generalize upd H1 Lt (.lst (bx m.toNat [V.int 0]).flatten)=H2 at S2 h2 ⊢;have lz:zs.length=S.length:=by rw [dz.length];unfold de;rw [aa]
 have len:∀ j,((S.take j).foldl (setT sp (lowB bs)) (bx m.toNat 0)).length=m.toNat:=fun j=>by rw [mK (m:=0),dI]
 apply ⟨_,rfl,L,rfl,⟨_,SqL.of (S2 _ _ hL)⟩,?_⟩;apply jx (K:=K) (a:=L) (xs:=zs) (fun j σ HD=>bG H HD∧HD Lt=some (.lst (((S.take j).foldl (setT sp (lowB bs)) (bx m.toNat 0)).map V.int))∧∃ w4,σ=[some (.ref t),some (.ref L),some (.ref pb),some (.ref Lt),w4]) ⟨S2,h2,none,rfl⟩ (fun j σ HD _ ⟨h,_⟩=>SqL.of (h _ _ hL)) ?_ ?_
 ·rintro j y σ HD hy' ⟨SD,hD,w4,rfl⟩
  have hj:j<S.length:=by have:=(ao.mp hy').1;lia
  have hsj:=gE hj;obtain ⟨y',hy2,dy⟩:=dz.at (i:=j) (d:= .tup ((Stp.row S[j]).map Dt.int)) (by unfold de;rw [ax,hsj];rfl);rw [hy'] at hy2;cases hy2;obtain ⟨q,qs,rfl,hq,rq⟩:=dy.tup_of;have eq:=rq.ints_of;subst eq;obtain ⟨hin,hd⟩:=hS _ (bb hj);have fold:(S.take (j+1)).foldl (setT sp (lowB bs)) (bx m.toNat 0)=setT sp (lowB bs) ((S.take j).foldl (setT sp (lowB bs)) (bx m.toNat 0)) S[j]:=by
   rw [bj,hsj,cR];rfl
  rw [fold];have lj:=len j;generalize (S.take j).foldl (setT sp (lowB bs)) (bx m.toNat 0)=ts at hD lj ⊢;generalize S[j]=st at hq hin hd;obtain ⟨f0,f1'⟩:=frmS_rng E hin;obtain ⟨t0,t1⟩:=jP E hin;have hbi:st.i<bs.length:=by lia
  obtain ⟨qb,hqb,hqb2⟩:=jb rb (gE hbi);have el:lowB bs st.i=bs[st.i].1:=by unfold lowB;rw [af,gE hbi];rfl
  have hat:∀ z:Int,0≤z→z<m.toNat→(ts.map V.int)[z.toNat]? =some (V.int (tm ts z)):=fun z z0 z1=>by
   rw [ax,gE (by lia:z.toNat<ts.length)];unfold tm;rw [af,gE (by lia:z.toNat<ts.length)];rfl
  apply ⟨_,rfl,_,rfl,_,rfl,.ref t,q,b,m,sp,st,sAt sp st.i,rfl,hv.same SD,SD _ _ hq,jE hin,?_⟩;rw [(lG hin).2];apply ⟨Lt,_,_,_,rfl,rfl,SqL.of hD,atI_int f0 (hat _ f0 f1'),?_⟩;apply ⟨_,rfl,q,_,_,_,rfl,rfl,SqT.of (SD _ _ hq),aS (j:=1) rfl,_,rfl,_,rfl,q,_,_,_,rfl,rfl,SqT.of (SD _ _ hq),aS (j:=0) rfl,pb,_,_,_,rfl,rfl,SqT.of (SD _ _ hpb),aS (j:=st.i) hqb,qb,_,_,_,rfl,rfl,SqT.of (SD _ _ hqb2),aS (j:=0) rfl,_,_,rfl,rfl,?_,_,_,rfl,rfl,?_⟩
  ·exact .inl (by rcases hd with e | e <;> rw [e] <;> decide)
  apply ⟨_,rfl,_,rfl,_,rfl,.ref t,q,b,m,sp,st,sAt sp st.i,rfl,hv.same SD,SD _ _ hq,jE hin,?_⟩;rw [(lG hin).1];apply ⟨Lt,_,_,_,rfl,rfl,hD,ixN_int t0 (by rw [aa];lia),?_⟩;rw [map_set,←el];exact ⟨fun a o e=>by rw [bq (bF e hLtH)];exact SD _ _ e,aV,_,rfl⟩
 ·rintro σ HD ⟨SD,hD,w4,rfl⟩
  rw [lz,bp] at hD;apply ⟨_,rfl,Lt,rfl,⟨_,SqL.of hD⟩,?_⟩;have lt:(kr sp (lowB bs) m.toNat S).length=m.toNat:=by have:=len S.length;rwa [bp] at this
  apply kG (K:=K) (a:=Lt) (xs:=(kr sp (lowB bs) m.toNat S).map V.int) (fun i zs HC=>HC=HD∧zs=(((kr sp (lowB bs) m.toNat S).take i).map (· % b)).map V.int) ⟨rfl,rfl⟩ (fun i zs HC hi ⟨e1,e2⟩=>⟨by rw [e1];exact SqL.of hD,by rw [e2,aa,aa,bK];lia⟩) (by rw [aa,lt];exact d8 ⋯) (fun i x zs HC hx ⟨e1,e2⟩=>?_) (fun zs HC ⟨e1,e2⟩ D hD2=>?_)
  ·subst e1
   rw [ax] at hx;obtain ⟨z,hz,rfl⟩:=aO.mp hx;apply fS ⟨_,rfl,t,_,_,_,rfl,rfl,SqT.of (SD _ _ ht),aS (j:=0) rfl,_,rfl,b,z,rfl,hb,?_⟩;rw [e2,bj,hz,aE,aE];exact ⟨rfl,rfl⟩
  ·subst e1
   rw [aa,bp] at e2;have S3:bG HC (upd HC D (.lst zs)):=bG.put (bG.refl HC) hD2;apply ⟨D,_,rfl,.inl (.inl aV),fun q H4 S4 h4=>?_⟩;exact k q H4 (SD.trans (S3.trans S4)) (by rw [h4,e2];rfl)
def setF (sp:List Sn)(fs:List Int)(s:Stp):List Int:=fs.set (fc sp s).toNat (tm fs (kU sp s))
def fstS (sp:List Sn)(m:Nat)(S:List Stp):List Int:=S.foldl (setF sp) (ke m)
def setF_len {sp:List Sn}:∀ (S:List Stp) (fs:List Int),(S.foldl (setF sp) fs).length=fs.length
 | [],_=>rfl
 | s::S,fs=>by
  rw [bV,setF_len S];exact fj
def fstS_len:(fstS sp m S).length=m:=by unfold fstS;rw [setF_len,kO]
def fstS_snoc {s:Stp}:fstS sp m (S++[s])=setF sp (fstS sp m S) s:=by unfold fstS;rw [cR];rfl
def snocRec {P:List α→Prop}(l:List α)(h0:P [])(h1:∀ l a,P l→P (l++[a])):P l:=by
 have:∀ r:List α,P r.reverse:=fun r=>by
  induction r with
  | nil=>exact h0
  | cons a r ih=>rw [eZ];exact h1 _ _ ih
 have h:=this l.reverse
 rwa [List.reverse_reverse] at h
theorem frm_rng0 (E:lE m sp){t:Stp}(h:t.i<sp.length):0≤kU sp t∧kU sp t<m:=by
 have e:=(nQ h).2;obtain ⟨a,b,c,d⟩:=E _ (fu h);rw [←e];unfold frm;split <;> lia
theorem fstS_ok (E:lE m sp)(h:Spr sp S):(∀ s∈S,s.i<sp.length)→∀ s∈S,tm (fstS sp m S) (fc sp s)=tm (fstS sp m S) (kU sp s):=by
 induction h with
 | nil=>exact fun _ s hs=>by cases hs
 | snoc h n o ih =>
  rename_i S s;intro hl t ht;have hl':∀ t∈S,t.i<sp.length:=fun t h'=>hl t (aK _ h')
  have hs:s.i<sp.length:=hl s ∅;obtain ⟨x0,x1⟩:=jP E hs;have len:(fstS sp m S).length=m:=fstS_len;rw [fstS_snoc];unfold setF
  rcases aH.mp ht with z | z
  ·rw [mW x0 ⋯ (jP E (hl' t z)).1,mW x0 ⋯ (frm_rng0 E (hl' t z)).1,rN (fun q=>(o t z).1 q.symm),rN (fun q=>(o t z).2 q.symm)]
   exact ih hl' t z
  ·rw [aw.mp z,mW x0 ⋯ x0,mW x0 ⋯ (frm_rng0 E hs).1,rO rfl,rN (fun q=>n q.symm)]
def Cn (sp:List Sn)(a c:Int):Prop:=∀ π:Int→Prop,(∀ x∈sp,π x.s↔π x.g)→(π a↔π c)
def Cn.refl {a:Int}:Cn sp a a:=fun _ _=>Iff.rfl
def Cn.symm {a c:Int}(h:Cn sp a c):Cn sp c a:=fun π hp=>(h π hp).symm
def Cn.trans {a c:Int}(h:Cn sp a c)(k:Cn sp c d):Cn sp a d:=fun π hp=>(h π hp).trans (k π hp)
def cn_step {s:Stp}(h:s.i<sp.length):Cn sp (kU sp s) (fc sp s):=fun π hp=>by
 obtain ⟨e1,e2⟩:=nQ h;rw [←e1,←e2];have:=hp _ (fu h);unfold frm too;split <;> first | exact this | exact this.symm
theorem fstS_cn (E:lE m sp):∀ (S:List Stp),(∀ s∈S,s.i<sp.length)→∀ x:Int,0≤x→x<m→Cn sp x (tm (fstS sp m S) x):=fun S=>by
 apply snocRec (P:=fun S=>(∀ s∈S,s.i<sp.length)→∀ x:Int,0≤x→x<m→Cn sp x (tm (fstS sp m S) x)) S ?_ ?_
 ·intro _ x x0 x1
  show Cn sp x (tm (ke m) x);rw [mZ x0 x1];exact Cn.refl
 ·intro S s ih hl x x0 x1
  have hs:s.i<sp.length:=hl s ∅;have ih:=ih fun t h'=>hl t (aK _ h')
  obtain ⟨y0,y1⟩:=jP E hs;have len:(fstS sp m S).length=m:=fstS_len;rw [fstS_snoc];unfold setF;rw [mW y0 ⋯ x0]
  by_cases e:x=fc sp s
  ·rw [rO e,e]
   obtain ⟨f0,f1⟩:=frm_rng0 E hs;exact (cn_step hs).symm.trans (ih _ f0 f1)
  ·rw [rN e]
   exact ih x x0 x1
structure Lbl (m:Nat)(sp:List Sn)(fs:List Int):Prop where
 len:fs.length=m
 spn:∀ x∈sp,tm fs x.s=tm fs x.g
 con:∀ x:Int,0≤x→x<m→Cn sp x (tm fs x)
def Lbl.of (E:lE m sp)(F:jD m sp l)(ok:SprOk m sp l S)(hl:∀ i∈l,i<sp.length):Lbl m sp (fstS sp m S):=by
 have hS:∀ s∈S,s.i<sp.length:=fun s hs=>hl _ (ok.inn s hs).1
 apply ⟨fstS_len,fun x hx=>?_,fstS_cn E S hS⟩;obtain ⟨k,hk,rfl⟩:=cn hx;have ek:sAt sp k=sp[k]:=by unfold sAt;rw [af,gE hk];rfl
 rw [←ek];have H:=F.held E hk;apply (H (fun z=>tm (fstS sp m S) (sAt sp k).s=tm (fstS sp m S) z) (fun i hi=>?_) rfl);obtain ⟨s,hs,rfl⟩:=bc.mp (ok.all i hi);have e:=fstS_ok E ok.spr hS s hs;obtain ⟨f1,f2,f3,f4⟩:=qu (hl _ hi);have hd:=(ok.inn s hs).2;obtain ⟨i,d⟩:=s
 dsimp only at e f1 f2 f3 f4 hd ⊢
 rcases hd with rfl | rfl
 ·rw [f1,f2] at e;rw [e]
 ·rw [f3,f4] at e;rw [e]
def Lbl.same {fs:List Int}(h:Lbl m sp fs){x:Int}(x0:0≤x)(x1:x<m)(y0:0≤y)(y1:y<m):tm fs x=tm fs y↔Cn sp x y:=by
 constructor
 ·intro e
  have a:=h.con x x0 x1;rw [e] at a;exact a.trans (h.con y y0 y1).symm
 ·intro c
  exact (c (fun z=>tm fs x=tm fs z) fun z hz=>by rw [h.spn z hz]).mp rfl
def k7 (fs:List Int)(f:Int):List Int:=((aJ fs.length).filter fun i=>decide (fs.getD i 0=f)).map fun i:Nat=>(i:Int)
def jw (fs:List Int):List Int:=fs.foldl (fun a f=>if f∈a then a else a++[f]) []
def oa {fs:List Int}{f:Int}:jw (fs++[f])=if f∈jw fs then jw fs else jw fs++[f]:=by unfold jw;rw [cR];rfl
def mQ {f:Int}:∀ (fs:List Int),f∈jw fs↔f∈fs:=fun fs=>by
 apply snocRec (P:=fun fs=>f∈jw fs↔f∈fs) fs ?_ ?_
 ·exact Iff.rfl
 ·intro fs g ih
  rw [oa]
  by_cases e:g∈jw fs
  ·rw [rO e,ih,aH,aw]
   exact ⟨.inl,fun h=>h.elim id fun z=>by rw [←z] at e;exact ih.mp e⟩
  ·rw [rN e,aH,aH,ih]
def jJ:∀ (fs:List Int),(jw fs).Nodup:=fun fs=>by
 apply snocRec (P:=fun fs=>(jw fs).Nodup) fs ?_ ?_
 ·exact jS
 ·intro fs g ih
  rw [oa]
  by_cases e:g∈jw fs
  ·rw [rO e];exact ih
  ·rw [rN e]
   exact nd_snoc ih e
def idxF_snoc {fs:List Int}{f g:Int}:k7 (fs++[g]) f=if g=f then k7 fs f++[(fs.length:Int)] else k7 fs f:=by
 unfold k7;rw [au,dH,ir,fZ,aE];have e1:(aJ fs.length).filter (fun i=>decide ((fs++[g]).getD i 0=f))=(aJ fs.length).filter (fun i=>decide (fs.getD i 0=f)):=by
  apply List.filter_congr fun i hi=>?_
  rw [af,af,cI (bT.mp hi)]
 have e2:(fs++[g]).getD fs.length 0=g:=by
  rw [af,bw (az _),gJ];rfl
 rw [e1,eN,List.filter_nil]
 by_cases z:g=f
 ·rw [rO z,rO (by rw [decide_eq_true_eq,e2];exact z)];rfl
 ·rw [rN z,rN (by rw [decide_eq_true_eq,e2];exact z),List.map_nil,dg]
theorem kN {fs:List Int}{f:Int}:z∈k7 fs f↔0≤z∧z<fs.length∧tm fs z=f:=by
 unfold k7;rw [bc]
 constructor
 ·rintro ⟨i,hi,rfl⟩
  obtain ⟨a,c⟩:=cp.mp hi;have:=bT.mp a;exact ⟨⋯,⋯,by unfold tm;rw [cb];exact rT c⟩
 ·rintro ⟨a,c,d⟩
  exact ⟨z.toNat,cp.mpr ⟨bT.mpr ⋯,rR d⟩,⋯⟩
end HN
namespace L2
open PySem PySem.Spec PyProof.Rows
section
variable {kvs:List (Key×V)}{k:Key}{z:V}{r:ae}
def d_setdef (I:Inv X aR σ H s)(e:H a=some (.dK kvs))(ry:gq (kV k) u)(rz:gq z r)(hl:kvs.length<bg)
  (h1:∀ v w' s',lW kvs k=some v→Inv X aR σ H s'→gq v w'→Q w' s') (h2:∀ s',lW kvs k=none→Inv X aR σ (upd H a (.dK (nU kvs k z))) s'→Q r s') :
  aU (bt X.prog X.w) A (jZ (.builtin "dict.setdefault") [.ref a,u,r]) Q E s:=by
 obtain ⟨zz,hd,vs,rel,dd⟩:=dk_of I.hok e;apply call_meetsIn PySem.F.slot_dict_setdefault dd.typeIs PySem.F.entry_dict_setdefault (PySem.F.args_dict_setdefault_3 _ _ _) (kt_meets_setdefault (ie X.prog X.w) a (kV_is ry) hd r)
  ⟨vs,dd,by rw [←rel.length];exact zz,fun w' hv=>?_,fun hn h' dd' hs=>?_⟩
 ·cases l:lW kvs k with
  | none =>
   have:=RelO.none_of (by rw [←l];exact rel.val k);rw [this] at hv;cases hv
  | some v =>
   obtain ⟨w2,hw,rw'⟩:=RelO.some_of (v:=v) (o:=valueAt vs k) (by rw [←l];exact rel.val k);rw [hw] at hv;cases hv;exact h1 v _ _ l (I.tok _) rw'
 ·have l:lW kvs k=none:=by
   cases l:lW kvs k with
   | none=>rfl
   | some v =>
    obtain ⟨w2,hw,_⟩:=RelO.some_of (v:=v) (o:=valueAt vs k) (by rw [←l];exact rel.val k);rw [hw] at hn;cases hn
  have he:∃ q,h'.get? a=some q:=let ⟨q,_,_,hq,_⟩:=dd';⟨q,hq⟩;exact h2 _ l (d_write I (by rw [e];exact True.intro) hs he (dk_new (aN (kE kvs k z) hl) hd (rel.put k rz) dd'))
end
def tDSetd (td ty tx:TE):TE:=fun σ H Q=>td σ H fun x H1=>∃ a,x= .ref a∧IsDct H1 a∧ty σ H1 fun y H2=>tx σ H2 fun z H3=>∃ kvs k,H3 a=some (.dK kvs)∧y=kV k∧kvs.length<bg ∧
 (∀ v,lW kvs k=some v→Q v H3)∧(lW kvs k=none→Q z (upd H3 a (.dK (nU kvs k z))))
def isVV (r d:ak):HO:= .ext fun h=>h.IsValuesView r d
def tDVals (td:TE):TE:=fun σ H Q=>td σ H fun x H1=>∃ a kvs,x= .ref a∧H1 a=some (.dK kvs)∧∀ p,H1 p=none→Q (.ref p) (upd H1 p (isVV p a))
structure M0 (X:Cx)(o:Expr)(m:Str)(apos:Pos)(cpos:Pos):Prop where
 base:kR o m X.env (eE o X.env)=eE o X.env
 few:((eR cpos (br [] X.env)).all (fun x=> !x.1) && (backToKw cpos (keywordEach [] X.env)).all (fun x=>x.1.isSome)
  && decide (([]:List Expr).length+([]:List Keyword).length+(if ([]:List Keyword).isEmpty then 0 else 1)<30))=true
 line:(apos.endLine == cpos.line)=true
 trees:eR cpos (br [] X.env)=[]
def Paired.getR {α β:Type}{F:α→β→Prop}:∀ {l:List α} {k:List β},j4 F l k→∀ {i:Nat} {x:α},l[i]? =some x→∃ y,k[i]? =some y∧F x y
 | _,_,.nil,_,_,h=>by cases h
 | _,_,.cons r t,0,x,h=>by cases h;exact ⟨_,rfl,r⟩
 | _,_,.cons r t,i+1,x,h=>Paired.getR t (i:=i) h
section
variable {o f:Expr}{cpos:Pos}{td ty tx:TE}
def pe_dsetd (ho:PE X o td)(he:PE X e ty)(hf:PE X f tx)(m:M2 X o "setdefault" apos e f cpos):PE X (.Call (.Attribute o "setdefault" apos) [e,f] [] cpos) (tDSetd td ty tx):=by
 intro aR s σ H Q I h;apply wpAny_Call_method m.base m.few m.line PySem.F.plainAttrs_dict PySem.F.slot_dict_setdefault PySem.F.type_dict_setdefault (thn (ho aR s σ H _ I h) fun u s1 ⟨x,H1,I1,rx,a,ex,d,q1⟩=>?_);subst ex;obtain rfl:u=ae.ref a:=rx;obtain ⟨t1,t2,_⟩:=isDct_at I1 d;apply ⟨t1,t2,?_⟩;rw [m.trees];apply jN rfl (Calls.evalArgs_plain (Calls.spliced_cons (thn (he aR s1 σ H1 _ I1 q1) fun iv s2 ⟨y,H2,I2,ry,q2⟩ =>
  Calls.spliced_cons (thn (hf aR s2 σ H2 _ I2 q2) fun fv s3 ⟨z,H3,I3,rz,kvs,k,ea,ey,hl,q3,q4⟩=>Calls.spliced_nil ?_))))
 subst ey;exact d_setdef I3 ea ry rz hl (fun v w' s4 l I4 rw'=>⟨v,H3,I4,rw',q3 v l⟩) fun s4 l I4=>⟨z,_,I4,rz,q4 l⟩
def pe_dvals (ho:PE X o td)(m:M0 X o "values" apos cpos):PE X (.Call (.Attribute o "values" apos) [] [] cpos) (tDVals td):=by
 intro aR s σ H Q I h;apply wpAny_Call_method m.base m.few m.line PySem.F.plainAttrs_dict PySem.F.slot_dict_values PySem.F.type_dict_values (thn (ho aR s σ H _ I h) fun u s1 ⟨x,H1,I1,rx,a,kvs,ex,ea,q1⟩=>?_);subst ex;obtain rfl:u=ae.ref a:=rx;obtain ⟨t1,t2,_⟩:=isDct_at I1 (.inl ⟨kvs,.inl ea⟩);apply ⟨t1,t2,?_⟩;rw [m.trees];obtain ⟨zz,hd,vs,rel,dd⟩:=dk_of I1.hok ea;apply jN rfl (PySem.evalArgs_none ?_);apply call_meetsIn PySem.F.slot_dict_values dd.typeIs PySem.F.entry_dict_values (PySem.F.args_dict_values_1 _) (meets_dict_values (ie X.prog X.w) a hd) ⟨⟨vs,dd⟩,?_⟩;have hg:(s1.heap.push { cls:= .type "dict_values",data:= .fields #[.ref a] }).get? s1.heap.objs.size=some { cls:= .type "dict_values",data:= .fields #[.ref a] }:=aQ _ rfl;apply ⟨.ref s1.heap.objs.size,_,I1.laid (t':=s1.toks) (o:=isVV s1.heap.objs.size a) (fun _ _ z=>aq _ z) (az _) ⟨⟨_,hg,rfl,rfl⟩,⟨_,hg⟩,fun h1 h2 ⟨o,e,r⟩ k=>⟨o,k o e,r⟩⟩,rfl,q1 _ I1.fresh⟩
def call_listV (hc:X.calm=true):jO X (.type "list") (fun xs H Q=>∃ (r d:ak) (kvs:List (Key×V)),xs=[.ref r]∧H r=some (isVV r d)∧H d=some (.dK kvs)∧∀ l,H l=none→Q (.ref l) (upd H l (.lst (kvs.map (·.2))))):=by
 intro aR s σ H xs us Q I r h;obtain ⟨rv,d,kvs,rfl,hr,hd,q⟩:=h;obtain ⟨u,rfl,ru⟩:=nN r;cases (show u=ae.ref rv from ru);obtain ⟨hv,_,_⟩:=I.hok rv _ hr;obtain ⟨zz,lo,vs,rel,dd⟩:=dk_of I.hok hd;obtain ⟨ep,hat⟩:=dd.dictAt;have ll:=rel.length;apply PySem.W.kdl_call (PySem.W.kdl_values (knd:=ie X.prog X.w) (kvs:=vs) (ep:=ep)) (I.ok.hd hc) ⟨hv,hat⟩ (by rw [←ll];exact zz) fun h' tk acc c hk hg hi=>?_
 apply ⟨.ref s.heap.objs.size,_,I.laid (t':=tk) (o:= .lst (kvs.map (·.2))) hk (az _) ⟨?_,acc.toList,c,?_,?_⟩,rfl,q _ I.fresh⟩
 ·rw [aa];exact zz
 ·apply vals_at ((aa ..).trans (ll.trans (hi.1.symm.trans (cj ..).symm))) fun i x hx=>?_
  rw [ax] at hx;obtain ⟨p,hp,rfl⟩:=aO.mp hx;have hik:i<acc.size:=by rw [hi.1,←ll];exact (ao.mp hp).1
  have e:=d5 hik;obtain ⟨k',e2⟩:=hi.2 i _ e;apply ⟨_,by rw [j6];exact e,?_⟩;obtain ⟨q',hq',rq⟩:=Paired.getR rel hp;rw [e2] at hq';cases hq';exact rq.2
 ·rw [Array.toArray_toList];exact hg
end
def enumL_step {z i1:ak}{k:Nat}{xs:Array ae}{x:ae}(E0:IsEnum s.heap z i1 k was)(J0:s.heap.IsListIter i1 a k)(T0:s.heap.IsList a xs)(hx:xs[k]? =some x)(hzi:z≠i1)
  (q:∀ g,IsEnumOut g z i1 ((k:Int)+1) x s.heap.objs.size→g.IsListIter i1 a (k+1)→g.get? s.heap.objs.size=some { cls:= .type "tuple",data:= .seq #[.int k s.toks,x] }→g.objs.size=s.heap.objs.size+1 →
   (∀ c o,c≠z→c≠i1→s.heap.get? c=some o→g.get? c=some o)→Q (.ref s.heap.objs.size) { s with heap:=g,toks:=s.toks+1 }) :
  aU (bt prog w) A (eQ.«enumerate.__next__» ⟨[.ref z],[]⟩) (fun fin s'=>∃ v,fin= .done (.ret v)∧Q v s') E s:=by
 obtain ⟨h0,gs,dr,tk,os⟩:=s;show aU _ _ (field (.ref z) 2 >>= _) _ _ _;apply ai (cU E0 rfl (x:= .ref i1) rfl ?_);apply ai (wpAny_nextOf_list_item J0 T0 hx fun g1 J1 s1=>?_);have s1:cy i1 h0 g1:=s1;have E1:IsEnum g1 z i1 k was:=(s1.2 z hzi).trans E0;show aU _ _ (field (.ref z) 3 >>= _) _ _ ⟨g1,gs,dr,tk,os⟩;apply ai (cU E1 rfl (x:=jo k) rfl ?_);show aU _ _ (field (.ref z) 4 >>= _) _ _ ⟨g1,gs,dr,tk,os⟩;apply ai (cU E1 rfl (x:= .none) rfl ?_);show aU _ _ (mkInt k >>= _) _ _ ⟨g1,gs,dr,tk,os⟩;apply ai (wpAny_mkInt ?_);show aU _ _ (setField (.ref z) 3 (jo ((k:Int)+1)) >>= _) _ _ ⟨g1,gs,dr,tk+1,os⟩;apply ai (dX E1 ∅ fun g2 E2 s2=>?_);have s2:cy z g1 g2:=s2;have E2:IsEnum g2 z i1 ((k:Int)+1) was:=E2;show aU _ _ (setField (.ref z) 4 .none >>= _) _ _ ⟨g2,gs,dr,tk+1,os⟩;apply ai (dX E2 ∅ fun g3 E3 s3=>?_);have s3:cy z g2 g3:=s3;have E3:IsEnum g3 z i1 ((k:Int)+1) was:=E3;show aU _ _ (newTuple [.int k tk,x] >>= _) _ _ ⟨g3,gs,dr,tk+1,os⟩;apply ai (wpAny_newTuple ?_);have E4:IsEnum (g3.push { cls:= .type "tuple",data:= .seq #[.int k tk,x] }) z i1 ((k:Int)+1) was:=aq _ E3;have z3:g3.objs.size=h0.objs.size:=by rw [s3.1,s2.1,s1.1]
 have J4:(g3.push { cls:= .type "tuple",data:= .seq #[.int k tk,x] }).IsListIter i1 a (k+1):=by
  obtain ⟨o,e,r⟩:=(J1.extBut s2.extBut hzi.symm).extBut s3.extBut hzi.symm;exact ⟨o,aq _ e,r⟩
 have T4:(g3.push { cls:= .type "tuple",data:= .seq #[.int k tk,x] }).get? h0.objs.size=some { cls:= .type "tuple",data:= .seq #[.int k tk,x] }:=by rw [←z3];exact aQ _ rfl
 have z4:(g3.push { cls:= .type "tuple",data:= .seq #[.int k tk,x] }).objs.size=h0.objs.size+1:=by rw [dh,z3]
 have k4:∀ c o,c≠z→c≠i1→h0.get? c=some o→(g3.push { cls:= .type "tuple",data:= .seq #[.int k tk,x] }).get? c=some o:=fun c o c1 c2 e=>aq _ (s3.extBut c o c1 (s2.extBut c o c1 (s1.extBut c o c2 e)))
 have zlt:z<h0.objs.size:=aI E0;generalize g3.push { cls:= .type "tuple",data:= .seq #[.int k tk,x] }=g4 at E4 J4 T4 z4 k4;rw [z3];show aU _ _ (fF (.ref z) >>= _) _ _ ⟨g4,gs,dr,tk+1,os⟩;apply ai ?_;unfold fF;apply ai (cU E4 rfl (x:= .none) rfl (aL ?_));simp only [if_true];apply ai (wpAny_rule ?_);apply ai (cU E4 rfl (x:=was) rfl ?_);apply ai (dX E4 ∅ fun g5 E5 s5=>?_);have s5:cy z g4 g5:=s5;have E5:IsEnum g5 z i1 ((k:Int)+1) x:=E5;show aU _ _ (ib (.ref z) (.ref h0.objs.size) >>= _) _ _ ⟨g5,gs,dr,tk+1,os⟩;apply ai ?_;unfold ib;apply ai (dX E5 ∅ fun g6 E6 s6=>?_);have s6:cy z g5 g6:=s6;have E6:IsEnumOut g6 z i1 ((k:Int)+1) x h0.objs.size:=E6;apply dX E6 ∅ fun g7 E7 s7=>?_
 have s7:cy z g6 g7:=s7;have E7:IsEnumOut g7 z i1 ((k:Int)+1) x h0.objs.size:=E7;have up:∀ c o,c≠z→g4.get? c=some o→g7.get? c=some o:=fun c o c1 e=>s7.extBut c o c1 (s6.extBut c o c1 (s5.extBut c o c1 e))
 apply ai (gh (aL ⟨_,rfl,q g7 E7 ?_ (up _ _ (cE zlt) T4) (by rw [s7.1,s6.1,s5.1,z4]) fun c o c1 c2 e=>up c o c1 (k4 c o c1 c2 e)⟩));obtain ⟨o,e,r⟩:=J4;exact ⟨o,up _ o hzi.symm e,r⟩
def enumL_item {z i1:ak}{k:Nat}{xs:Array ae}{x:ae}{Q:Option ae→av→Prop}(E0:IsEnum s.heap z i1 k was)(J0:s.heap.IsListIter i1 a k)(T0:s.heap.IsList a xs)(hx:xs[k]? =some x)(hzi:z≠i1)
  (q:∀ g,IsEnumOut g z i1 ((k:Int)+1) x s.heap.objs.size→g.IsListIter i1 a (k+1)→g.get? s.heap.objs.size=some { cls:= .type "tuple",data:= .seq #[.int k s.toks,x] }→g.objs.size=s.heap.objs.size+1 →
   (∀ c o,c≠z→c≠i1→s.heap.get? c=some o→g.get? c=some o)→Q (some (.ref s.heap.objs.size)) { s with heap:=g,toks:=s.toks+1 }):aU (bt prog w) A (jB (.ref z)) Q E s:=by
 have ht:s.TypeIs (.ref z) "enumerate" := ⟨_,E0,rfl⟩;unfold jB;apply ai (wpAny_attempt (dQ (name:=cq "__next__") ht ko (gk ko ht F.entry_enumerate_next ?_ (F.args_enumerate_next_1 _))));exact enumL_step E0 J0 T0 hx hzi fun g e1 e2 e3 e4 e5=>aL (q g e1 e2 e3 e4 e5)
def enumL_end {z i1:ak}{k:Nat}{xs:Array ae}{Q:Option ae→av→Prop}(hh:A.handled=none)(E0:IsEnum s.heap z i1 k was)(J0:s.heap.IsListIter i1 a k)(T0:s.heap.IsList a xs)(hx:xs[k]? =none)
  (q:∀ g,bL.ExtBut i1 s.heap g→Q none { s with heap:=g }):aU (bt prog w) A (jB (.ref z)) Q E s:=by
 have ht:s.TypeIs (.ref z) "enumerate" := ⟨_,E0,rfl⟩;unfold jB;apply ai (wpAny_attempt (dQ (name:=cq "__next__") ht ko (gk ko ht F.entry_enumerate_next ?_ (F.args_enumerate_next_1 _))));show aU _ _ (field (.ref z) 2 >>= _) _ _ _;apply ai (cU E0 rfl (x:= .ref i1) rfl ?_);apply ai (wpAny_nextOf_list_end hh J0 T0 hx fun g x kp hxx=>?_);obtain ⟨o,e1,e2⟩:=hxx;apply ai (wpAny_isInstance (T := "StopIteration") (b:=true) ⟨o,e1,e2⟩ isSubtype_stop ?_);exact aL (q _ kp)
section
open AutoSeq1 (wpAny_loadPart')
def enumL_new (a:ak)(xs:Array ae) :
  Meets (eQ.«enumerate.__new__» ⟨[.type "enumerate",.ref a],[]⟩) (fun _ R s=>s.heap.IsList a xs ∧
   R (.ok (.ret (.ref (s.heap.push { cls:= .type "list_iterator",data:= .fields #[.ref a,.int 0 0] }).objs.size)))
    {s with heap:=(s.heap.push { cls:= .type "list_iterator",data:= .fields #[.ref a,.int 0 0] }).push { cls:= .type "enumerate",data:= .fields #[.none,.bool false,.ref s.heap.objs.size,jo 0,.none,.none] } }) :=
 .of_wp fun prog w A R s h=>by
  obtain ⟨hp,g,d,tk,os⟩:=s;obtain ⟨h1,h⟩:=h;have subE:=sub_enumerate;have k1:bL.IsList (av.heap ⟨hp,g,d,tk,os⟩) a xs:=h1
  wp_walk using fq k1
  apply wpAny_stack_any fun st=>aL ?_
  split
  ·rename_i c _ _ _ _ _
   cases (c == ae.type "enumerate")
   ·wp_walk using fq k1
    exact ⟨_,rfl,h⟩
   ·wp_walk using fq k1
    exact ⟨_,rfl,h⟩
  ·wp_walk using fq k1
   exact ⟨_,rfl,h⟩
def call_enumL {xs:Array ae}(h1:s.heap.IsList a xs)
  (q:∀ g,IsEnum g (s.heap.objs.size+1) s.heap.objs.size 0 .none→g.IsListIter s.heap.objs.size a 0→g.objs.size=s.heap.objs.size+2→(∀ c o,s.heap.get? c=some o→g.get? c=some o)→Q (.ref (s.heap.objs.size+1)) { s with heap:=g }) :
  aU (bt prog w) A (jZ (.type "enumerate") [.ref a]) Q E s:=by
 apply callType_new F.called_enumerate ↥0 (F.typeCall_enumerate_1 _) (F.newCall_enumerate_1 _) (fun obj=>F.args_object_init_2 obj _) F.entry_enumerate_new (enumL_new a xs) ⟨h1,?_⟩;have e1:(s.heap.push { cls:= .type "list_iterator",data:= .fields #[.ref a,.int 0 0] }).objs.size=s.heap.objs.size+1:=dh ..;have f2:=aQ (s.heap.push { cls:= .type "list_iterator",data:= .fields #[.ref a,.int 0 0] }) (o:={ cls:= .type "enumerate",data:= .fields #[.none,.bool false,.ref s.heap.objs.size,jo 0,.none,.none] }) rfl;show _∧_;rw [e1] at f2 ⊢;exact ⟨⟨_,f2,rfl⟩,q _ f2 ⟨_,aq _ (aQ _ rfl),rfl,rfl⟩ (by rw [dh,e1]) fun c o x=>aq _ (aq _ x)⟩
end
def ItL (a:ak):It :=
 ⟨fun i H=>∃ xs x,H a=some (.lst xs)∧xs[i]? =some x,
  fun i H v H'=>∃ p x,H p=none∧v= .ref p∧H'=upd H p (.tup [.int (i:Nat),x])∧∀ xs,H a=some (.lst xs)→xs[i]? =some x,
  fun i H=>∃ xs,H a=some (.lst xs)∧xs.length≤i⟩
def turn_enumL {k0}{z i1:ak}(a:ak)(hzi:z≠i1) :
  Turn P w K (.Tuple es k0 pos) (ItL a) [z,i1] z (fun i h=>(∃ was,IsEnum h z i1 i was)∧h.IsListIter i1 a i) where
 mem:=by simp
 obj:=fun i h st c hc=>by
  obtain ⟨⟨was,e1⟩,⟨o2,e2,_,d2⟩⟩:=st;simp only [aF,cx,or_false] at hc
  rcases hc with rfl | rfl
  ·exact ⟨_,e1,fun v z=>by cases z⟩
  ·exact ⟨_,e2,fun v z=>by rw [d2] at z;cases z⟩
 keep:=fun i h h' st k=>by
  obtain ⟨⟨was,e1⟩,⟨o2,e2,r2⟩⟩:=st;exact ⟨⟨was,k z ∅ _ e1⟩,⟨o2,k i1 ∅ _ e2,r2⟩⟩
 item:=by
  intro X hP hw hK hc i aR s σ H E I hf st hg;subst hP hw hK;obtain ⟨xs,x,ha,hx⟩:=hg;obtain ⟨⟨was,e1⟩,j1⟩:=st;obtain ⟨its,rv,pt,_⟩:=I.list (SqL.of (K:=X.K) ha);obtain ⟨u,hu,ru⟩:=rv.get hx;have nz:∀ e∈[z,i1],H e=none:=fun e he=>(hf e he).1
  have hT:H s.heap.objs.size=none:=I.fresh;apply enumL_item e1 j1 (pt.isList) (x:=u) (by simpa using hu) hzi fun g z1 m1 tp sz kk=>⟨_,rfl,?_⟩
  apply wpAny_letOwnedTupleGo_enum z1 fun g2 z2 s2=>?_
  have s2:cy z g g2:=s2;have k2:∀ e o,e ∉ [z,i1]→s.heap.get? e=some o→g2.get? e=some o:=fun e o hn h=>by
   simp only [aF,cx,or_false,not_or] at hn;exact s2.extBut _ _ hn.1 (kk e o hn.1 hn.2 h)
  have zlt:z<s.heap.objs.size:=aI e1;have tp2:g2.get? s.heap.objs.size=some { cls:= .type "tuple",data:= .seq #[.int i s.toks,u] }:=s2.extBut _ _ (cE zlt) tp;have trk:∀ e o,H e=some o→e ∉ [z,i1]:=fun e o he hm=>by rw [nz e hm] at he;cases he
  have I':=I.tok (s.toks+1);have J:Inv X aR σ (upd H s.heap.objs.size (.tup [.int (i:Nat),x])) { s with heap:=g2,toks:=s.toks+1 }:=by
   apply I'.turnAll (ch:=[z,i1]) (fun e he=>hf e he) k2 (fun e o h=>by rw [bq (bF h hT)];exact h) (fun e o h n=>by rw [bq (bB (aI h))];exact n) fun e o h=>?_
   by_cases q:e=s.heap.objs.size
   ·subst q
    rw [aV] at h;cases h;exact ⟨by show 2≤bg;decide,[.int i s.toks,u],.cons ⟨_,rfl⟩ (.cons ru .nil),_,tp2,rfl,rfl,_,rfl⟩
   ·rw [bq q] at h
    apply (I.hok e o h).stay (fun c v hc' q'=>k2 c v (by
     rcases hc' with z' | z'
     ·rw [z'];exact trk e o h
     ·exact trk c _ z') q') (fun c q'=>by rw [bq (bF q' hT)];exact q') fun c xs q'=>by rw [bq (bF q' hT)];exact q'
  apply ⟨.ref s.heap.objs.size,_,J,rfl,⟨_,x,hT,rfl,rfl,fun xs' h'=>by rw [ha] at h';cases h';exact hx⟩,⟨⟨u,z2⟩,m1.extBut s2.extBut hzi.symm⟩,fun e he=>?_⟩;obtain ⟨o4,q4,_⟩:=j1;have hlt:e<s.heap.objs.size:=by
   simp only [aF,cx,or_false] at he
   rcases he with rfl | rfl
   ·exact aI e1
   ·exact aI q4
  rw [bq (bB hlt)];exact nz e he
 done:=by
  intro X hP hw hK hc i aR s σ H E I hf st hg;subst hP hw hK;obtain ⟨xs,ha,hx⟩:=hg;obtain ⟨⟨was,e1⟩,j1⟩:=st;obtain ⟨its,rv,pt,_⟩:=I.list (SqL.of (K:=X.K) ha);obtain ⟨f0,f1,f2,f3,f4,f5⟩:=hf i1 ∅;have hl:=rv.length;exact enumL_end (I.ok.hd hc) e1 j1 (pt.isList) (by simp;lia) fun g kp=>⟨rfl,I.turned (t':=s.toks) (fun b o hb e=>kp b o hb e) f0 f1 f3 f4 f5⟩
 self:=fun _ _ _ _ _ st h=>let ⟨⟨_,e1⟩,_⟩:=st;wpAny_pyIter_enum e1 h
def iEnumL (ta:TA):TI:=fun σ H R=>ta σ H fun vs H1=>∃ a xs,vs=[.ref a]∧H1 a=some (.lst xs)∧R (ItL a) H1
def pi_enumL {ta:TA}{p:Pos}{k0}{pt:Pos}(hg:Gl X "enumerate")(hm:X.mg "enumerate" =none)(ha:PA X [ea] ta)(hs:br [ea] X.env=[(false,eE ea X.env)]:=by rfl) :
  PI X (.Tuple es k0 pt) (.Call (.Name "enumerate" p) [ea] [] pos) (iEnumL ta):=by
 intro aR s σ H R I h;apply Call_ (mE I hg hm boot_enumerate (fN (thn (ha pos aR s σ H _ I h) fun us s1 ⟨vs,H1,I1,r1,q1⟩=>?_) hs rfl));obtain ⟨a,xs,e,hA,q⟩:=q1;subst e;obtain ⟨u1,rfl,r2⟩:=nN r1;cases (show u1=ae.ref a from r2);obtain ⟨its,rv,pt',_⟩:=I1.list (SqL.of (K:=X.K) hA);apply call_enumL (pt'.isList) fun g z1 j1 sz kk=>?_
 apply wpAny_pyIter_enum z1 ⟨s1.heap.objs.size+1,[s1.heap.objs.size+1,s1.heap.objs.size],_,ItL a,H1,rfl,I1.kept (t':=s1.toks) kk,turn_enumL a (by show @Ne Nat _ _;lia),⟨⟨_,z1⟩,j1⟩,fun e he=>?_,q⟩;have hge:s1.heap.objs.size≤e:=by
  simp only [aF,cx,or_false] at he
  rcases he with rfl | rfl <;> (show @LE.le Nat _ _ _;lia)
 exact I1.fpOk hge (I1.hok.fresh hge)
theorem for_enumL {tb:TS}{D:lE}(Pv:Nat→St→Hp→Prop)(h0:Pv 0 σ H)(hl:∀ i σ H,i≤xs.length→Pv i σ H→H a=some (.lst xs))
  (hs:∀ i x p σ H,xs[i]? =some x→Pv i σ H→H p=none→g (.ref p) σ (upd H p (.tup [.int (i:Nat),x])) fun σ2 H2=>tb { D with nx:=Pv (i+1),ct:=Pv (i+1),bk:=D.nx } σ2 H2) (hd:∀ σ H,Pv xs.length σ H→D.nx σ H) :
  ∃ W:Nat→Nat→St→Hp→Prop,(∃ m,W 0 m σ H)∧∀ i m σ H,W i m σ H →
   ((ItL a).stop i H∧D.nx σ H)∨((ItL a).go i H∧∃ N:St→Hp→Prop,(∀ σ' H',N σ' H'→∃ m',m'<m∧W (i+1) m' σ' H')∧∀ x H',(ItL a).yld i H x H'→g x σ H' fun σ2 H2=>tb { D with nx:=N,ct:=N,bk:=D.nx } σ2 H2):=by
 apply ⟨fun i m σ H=>i≤xs.length∧m=xs.length - i∧Pv i σ H,⟨_,bo _,rfl,h0⟩,fun i m σ H ⟨hi,hm,hp⟩=>?_⟩;have qa:=hl i σ H hi hp
 by_cases e:i=xs.length
 ·subst e
  exact .inl ⟨⟨xs,qa,az _⟩,hd σ H hp⟩
 ·have hlt:i<xs.length:=fH hi e
  apply .inr ⟨⟨xs,_,qa,gE hlt⟩,Pv (i+1),fun σ' H' hp'=>⟨xs.length - (i+1),⋯,⋯,rfl,hp'⟩,fun v H3 hy=>?_⟩;obtain ⟨p,x,hn,rfl,rfl,hx⟩:=hy;exact hs i x p σ H (hx xs qa) hp hn
end L2
namespace HN
open PySem L2 PyProof.Rows
abbrev sParts:cL:=top 56
def PtsD (H:Hp)(zs:List V)(fs:List Int):Prop:=∃ As:List ak,zs=As.map V.ref∧As.length=(jw fs).length∧∀ (i:Nat) (f:Int) (A:ak),(jw fs)[i]? =some f→As[i]? =some A→H A=some (.lst ((k7 fs f).map V.int))
inductive spParts (T:ak)(lp:Pos)(lq:Str)(vs:List V)(H:Hp)(Q:VK)(_:XK):Prop
 | mk (v:V)(b m:Int)(sp:List Sn)(_:vs=[v])(_:IsD H v (jX b m sp))(_:kl b m sp)(_:L2.LamT T lp lq H)(_:∀ (L:ak) (zs:List V) (fs:List Int) (H':Hp),L2.Tb T H H'→L2.LamT T lp lq H'→H' L=some (.lst zs)→PtsD H' zs fs→Lbl m.toNat sp fs→Q (.ref L) H')
def kvsF (hs:List Int)(As:List ak):List (Key×V):=List.zipWith (fun f A=>(Sum.inl f,V.ref A)) hs As
def kvsF_len (h:As.length=hs.length):(kvsF hs As).length=hs.length:=by unfold kvsF;rw [List.length_zipWith,h,Nat.min_self]
def kvsF_snd:∀ {hs:List Int} {As:List ak},As.length=hs.length→(kvsF hs As).map (·.2)=As.map V.ref
 | [],[],_=>rfl
 | _::_,[],h=>by cases h
 | [],_::_,h=>by cases h
 | f::hs,A::As,h=>by
  have:=kvsF_snd (hs:=hs) (As:=As) (by simpa using h);show V.ref A::(kvsF hs As).map (·.2)=_;rw [this];rfl
def kvsF_snoc:∀ {hs:List Int} {As:List ak} {f:Int} {A:ak},As.length=hs.length→kvsF (hs++[f]) (As++[A])=kvsF hs As++[(.inl f,.ref A)]
 | [],[],_,_,_=>rfl
 | _::_,[],_,_,h=>by cases h
 | [],_::_,_,_,h=>by cases h
 | g::hs,B::As,f,A,h=>by
  have:=kvsF_snoc (hs:=hs) (As:=As) (f:=f) (A:=A) (by simpa using h);show (Sum.inl g,V.ref B)::kvsF (hs++[f]) (As++[A])=_;rw [this];rfl
def kvsF_no:∀ {hs:List Int} {As:List ak} {f:Int},f ∉ hs→lW (kvsF hs As) (.inl f)=none
 | [],_,_,_=>rfl
 | _::_,[],_,_=>rfl
 | g::hs,B::As,f,h=>by
  show lW ((Sum.inl g,V.ref B)::kvsF hs As) (.inl f)=none;rw [gR (fun z=>h (by injection z with z;rw [z];simp))];exact kvsF_no fun z=>h (ay _ z)
def kvsF_at:∀ {hs:List Int} {As:List ak} {f:Int} {A:ak} {i:Nat},hs.Nodup→hs[i]? =some f→As[i]? =some A→lW (kvsF hs As) (.inl f)=some (.ref A)
 | [],_,_,_,_,_,h,_=>by cases h
 | _::_,[],_,_,_,_,_,h=>by cases h
 | g::hs,B::As,f,A,0,_,h,k=>by
  cases h;cases k;exact iF rfl
 | g::hs,B::As,f,A,i+1,nd,h,k=>by
  have nd:=bz.mp nd;have h:hs[i]? =some f:=h;show lW ((Sum.inl g,V.ref B)::kvsF hs As) (.inl f)=_;rw [gR (fun z=>nd.1 (by injection z with z;rw [z];exact aW h))];exact kvsF_at nd.2 h k
def frst_lt (F:jD m sp l):∀ i∈l,i<sp.length:=fun i hi=>by
 obtain ⟨_,π,O,pm⟩:=F
 rcases (kx sp π (ke m,[])).1 i (pm.mem_iff.mp hi) with z | z
 ·cases z
 ·exact O.lt z
def nodup_at {A:ak}{k:Nat}(nd:As.Nodup)(h:As[j]? =some A)(g:As[k]? =some A):j=k:=by
 obtain ⟨h1,h2⟩:=ao.mp h;obtain ⟨g1,g2⟩:=ao.mp g;exact (ka nd).mp (h2.trans g2.symm)
theorem idxF_no {fs:List Int}{f:Int}(h:f ∉ fs):k7 fs f=[]:=qL.mpr fun z hz=>by
 obtain ⟨a,c,d⟩:=kN.mp hz;exact h (d ▸ pI a c)
def i5 {T:ak}(k:L2.LamT T lp lq H)(hT:∀ ps,H T=some (.tbl ps)→H' T=some (.tbl ps))(hf:∀ a o u,H a=some (.frz o u)→H' a=some (.frz o u)):L2.LamT T lp lq H':=by
 rcases k with k | ⟨c,k,oc,vs,t,e,r⟩
 ·exact .inl (hT _ k)
 ·exact .inr ⟨c,hT _ k,oc,vs,t,hf _ _ _ e,r⟩
def oA:bW ["net","firsts","step","parts","happening","first"] pza (defScope sParts):=by trivial
theorem ok_parts (F:Fun K "parts_of" "parts_of" sParts f fd)(T:Nm mg)(T2:Nt mg)(G1:Fn K mg "spread_of" sSpread pza f1 fd1)(F1:cO P w K mg base CX0 7 f1 fd1 pza (spSpread Tb0 lp lq))(G2:Fn K mg "leads_to" sTo pzc f2 fd2)(G3:Fn K mg "leads_from" sFrom pzc f3 fd3):cO P w K mg base CX0 8 f fd pza (spParts Tb0 lp lq):=by
 have F2:cO P w K mg base CX0 1 f2 fd2 pzc spTo:=ok_to G2.F;have F3:cO P w K mg base CX0 1 f3 fd3 pzc qV:=p9 G3.F;specialize F.ok oA;obtain ⟨v,b,m,sp,rfl,hv,N,hT,k⟩:=h;have hr1:ik 1 _:=hr.mono ↥0;obtain ⟨t,p,ys,rfl,ht,hp,hl,hy⟩:=fJ hv;apply ⟨_,PSl.h (ba ⟨(psZ 1 oA.nd (eP (rJ rfl) rfl T2.tlist boot_list (ag (eP qA rfl T2.range boot_range (ag (ixZ (pv 0)) aD)) aD)))⟩
  (ba ⟨(iL bH rfl (gH (pc1 G1 F1 hr (ag (pv 0) aD))) (pgZ 2 oA.nd) (cw (oQ (fA gY (pv 1) (pc1 G3 F3 hr1 (ag (pv 0) (ag (pv 2) aD))) (fun _ _=>rfl)) (rf (pv 1) (pc1 G2 F2 hr1 (ag (pv 0) (ag (pv 2) aD))) mL))))⟩
  (ba ⟨(psZ 3 oA.nd pe_dnewK)⟩
  (ba ⟨(iL bH rfl (pi_enumL rfl T2.enum (ag (pv 1) aD)) (pg_tup rfl (ju (pgZ 4 oA.nd) (ju (pgZ 5 oA.nd) p7))) (cw (iB (l7 bf bR bQ gc (pe_dsetd (pv 3) (pv 5) (jv aD) ⟨rfl,rfl,rfl,rfl⟩) (ag (pv 4) aD)))))⟩
  (cS ⟨(b9 (eP (call_listV rfl) rfl T2.tlist boot_list (ag (pe_dvals (pv 3) ⟨rfl,rfl,rfl,rfl⟩) aD)))⟩))))),?_⟩
 have m1:=N.m1;have m2:=N.m2;have em:((m.toNat:Nat):Int)=m:=fe ⋯;apply ⟨_,rfl,t,_,_,_,rfl,rfl,SqT.of ht,aS (j:=1) rfl,m,rfl,fun q0 H0 S0 h0=>?_⟩;apply ⟨q0,m.toNat,rfl,by rw [h0,em],⋯,fun L1 hL1=>?_⟩;have nL1:H L1=none:=S0.free hL1;have S1:bG H (upd H0 L1 (.lst ((aJ m.toNat).map fun k=>V.int (k:Nat)))):=S0.put hL1;have h1:(upd H0 L1 (.lst ((aJ m.toNat).map fun k=>V.int (k:Nat)))) L1=some (.lst ((ke m.toNat).map V.int)):=by
  rw [aV];unfold ke;rw [cY];rfl
 generalize upd H0 L1 (.lst ((aJ m.toNat).map fun k=>V.int (k:Nat)))=H1 at S1 h1 ⊢;apply ⟨_,rfl,.ref t,b,m,sp,rfl,hv.same S1,N,LamT.same S1 hT,fun LS zS l S H2 tb2 hT2 hLS1 hLS dS fr ok=>?_⟩;have lz:zS.length=S.length:=by rw [dS.length];unfold de;rw [aa]
 obtain ⟨ps,eT⟩:=LamT.tbl (LamT.same S1 hT);have nT:∀ {a:ak} {o:HO},H1 a=some o→(∀ ps,o≠ .tbl ps)→a≠Tb0:=fun e n z=>by rw [z,eT] at e;exact n _ (bE e).symm
 have h2:H2 L1=some (.lst ((ke m.toNat).map V.int)):=tb2 _ _ (nT h1 (fun _ z=>by cases z)) h1;have K12:kg H1 H2:=fun a xs e=>tb2 _ _ (nT e (fun _ z=>by cases z)) e
 have hv2:IsD H2 (.ref t) (jX b m sp):=cN K12 (hv.same S1);have ht2:=K12 _ _ (S1 _ _ ht);have nLS:LS≠L1:=fun z=>by rw [z,h1] at hLS1;cases hLS1
 have E:=N.ends;have hin:∀ s∈S,s.i<sp.length:=fun s hs=>frst_lt fr _ (ok.inn s hs).1
 have len:∀ j,((S.take j).foldl (setF sp) (ke m.toNat)).length=m.toNat:=fun j=>by rw [setF_len,kO]
 apply ⟨LS,rfl,⟨_,SqL.of hLS⟩,?_⟩;apply jx (K:=K) (a:=LS) (xs:=zS) (fun j σ HD=>(∀ a o,a≠L1→H2 a=some o→HD a=some o)∧HD L1=some (.lst (((S.take j).foldl (setF sp) (ke m.toNat)).map V.int))∧∃ w2,σ=[some (.ref t),some (.ref L1),w2,none,none,none]) ⟨fun _ _ _ e=>e,h2,none,rfl⟩ (fun j σ HD _ ⟨h,_⟩=>SqL.of (h _ _ nLS hLS)) ?_ ?_
 ·rintro j y σ HD hy' ⟨KD,hD,w2,rfl⟩
  have hj:j<S.length:=by have:=(ao.mp hy').1;lia
  have hsj:=gE hj;obtain ⟨y',hy2,dy⟩:=dS.at (i:=j) (d:= .tup ((Stp.row S[j]).map Dt.int)) (by unfold de;rw [ax,hsj];rfl);rw [hy'] at hy2;cases hy2;obtain ⟨q,qs,rfl,hq,rq⟩:=dy.tup_of;have eq:=rq.ints_of;subst eq;have fold:(S.take (j+1)).foldl (setF sp) (ke m.toNat)=setF sp ((S.take j).foldl (setF sp) (ke m.toNat)) S[j]:=by
   rw [bj,hsj,cR];rfl
  rw [fold];have lj:=len j;generalize (S.take j).foldl (setF sp) (ke m.toNat)=ts at hD lj ⊢;have hinj:=hin _ (bb hj);generalize S[j]=st at hq hinj;obtain ⟨f0,f1'⟩:=frmS_rng E hinj;obtain ⟨t0,t1⟩:=jP E hinj;have hat:∀ z:Int,0≤z→z<m.toNat→(ts.map V.int)[z.toNat]? =some (V.int (tm ts z)):=fun z z0 z1=>by
   rw [ax,gE (by lia:z.toNat<ts.length)];unfold tm;rw [af,gE (by lia:z.toNat<ts.length)];rfl
  have KT:kg H2 HD:=fun a xs e=>KD a _ (fR e h2 nofun) e
  have hvD:=cN KT hv2;have hqD:=KT _ _ hq;apply ⟨_,rfl,_,rfl,_,rfl,.ref t,q,b,m,sp,st,sAt sp st.i,rfl,hvD,hqD,jE hinj,?_⟩;rw [(lG hinj).2];apply ⟨L1,_,_,_,rfl,rfl,SqL.of hD,atI_int f0 (hat _ f0 f1'),?_⟩;apply ⟨_,rfl,_,rfl,_,rfl,.ref t,q,b,m,sp,st,sAt sp st.i,rfl,hvD,hqD,jE hinj,?_⟩;rw [(lG hinj).1];apply ⟨L1,_,_,_,rfl,rfl,hD,ixN_int t0 (by rw [aa];lia),?_⟩;rw [map_set];exact ⟨fun a o n e=>by rw [bq n];exact KD _ _ n e,aV,_,rfl⟩
 rintro σ HD ⟨KD,hD,w2,rfl⟩;rw [lz,bp] at hD;have lb:Lbl m.toNat sp (fstS sp m.toNat S):=Lbl.of E fr ok (frst_lt fr);have hD:HD L1=some (.lst ((fstS sp m.toNat S).map V.int)):=hD;have lF:=lb.len;generalize fstS sp m.toNat S=fs at hD lb lF;apply fun Da hDa=>?_
 have nDL:Da≠L1:=fun z=>by rw [z,hD] at hDa;cases hDa
 have S3:bG HD (upd HD Da (.dK [])):=(bG.refl HD).put hDa;have e3:(upd HD Da (.dK [])) Da=some (.dK []):=aV;have h3:=S3 _ _ hD;generalize upd HD Da (.dK [])=H3 at S3 e3 h3 ⊢;apply ⟨_,rfl,L1,_,rfl,h3,?_⟩;apply for_enumL (a:=L1) (xs:=fs.map V.int) (fun i σ HE=>(∀ a o,a≠Da→H3 a=some o→HE a=some o)∧(∃ As:List ak,HE Da=some (.dK (kvsF (jw (fs.take i)) As))∧As.length=(jw (fs.take i)).length∧As.Nodup∧(∀ A∈As,H3 A=none)∧∀ (j:Nat) (f:Int) (A:ak),(jw (fs.take i))[j]? =some f→As[j]? =some A→HE A=some (.lst ((k7 (fs.take i) f).map V.int)))∧∃ w4 w5,σ=[some (.ref t),some (.ref L1),w2,some (.ref Da),w4,w5]) ⟨fun _ _ _ e=>e,⟨[],e3,rfl,jS,fun _ h=>(by cases h),fun _ _ _ h=>(by cases h)⟩,none,none,rfl⟩ (fun i σ HE _ ⟨h,_⟩=>h _ _ (cH nDL) h3) ?_ ?_
 ·rintro i x p σ HE hx ⟨KE,⟨As,eDa,lA,ndA,frA,hA⟩,w4,w5,rfl⟩ hp0
  rw [ax] at hx;obtain ⟨f,hf,rfl⟩:=aO.mp hx;have hi:i<fs.length:=(ao.mp hf).1;have li:(fs.take i).length=i:=by rw [bK];lia
  have et:fs.take (i+1)=fs.take i++[f]:=by rw [bj,hf];rfl
  have SE:bG HE (upd HE p (.tup [.int (i:Nat),.int f])):=(bG.refl HE).put hp0;have ep:(upd HE p (.tup [.int (i:Nat),.int f])) p=some (.tup [.int (i:Nat),.int f]):=aV;generalize upd HE p (.tup [.int (i:Nat),.int f])=HF at SE ep ⊢;apply ⟨p,_,rfl,SqT.of ep,rfl,_,_,rfl,_,_,rfl,rfl,?_⟩;apply ⟨_,rfl,Da,rfl,.inl ⟨_,.inl (SE _ _ eDa)⟩,_,rfl,bo _,fun Ln hLn=>?_⟩;have hLE:HE Ln=none:=SE.free hLn;have SG:bG HE (upd HF Ln (.lst [])):=SE.put hLn;have eLn:(upd HF Ln (.lst [])) Ln=some (.lst []):=aV;generalize upd HF Ln (.lst [])=HG at SG eLn ⊢;have few:(jw (fs.take i)).length≤16:=by
   have:=md (jJ (fs.take i)) fun z hz=>(mQ _).mp hz
   lia
  have nLD:Ln≠Da:=fun z=>by rw [z,eDa] at hLE;cases hLE
  have app:∀ (A:ak) (HI:Hp),(∀ a o,a≠Da→HE a=some o→HI a=some o)→∀ (As':List ak),HI Da=some (.dK (kvsF (jw (fs.take i++[f])) As'))→As'.length=(jw (fs.take i++[f])).length→As'.Nodup→(∀ A∈As',H3 A=none)→HI A=some (.lst ((k7 (fs.take i) f).map V.int))→A≠Da→H3 A=none→(∃ j:Nat,(jw (fs.take i++[f]))[j]? =some f∧As'[j]? =some A)→(∀ (j:Nat) (g:Int) (B:ak),(jw (fs.take i++[f]))[j]? =some g→As'[j]? =some B→B≠A→HI B=some (.lst ((k7 (fs.take i) g).map V.int))∧g≠f) →
    (∀ a o,a≠Da→H3 a=some o→(upd HI A (.lst ((k7 (fs.take i) f).map V.int++[.int (i:Nat)]))) a=some o)∧(∃ As:List ak,(upd HI A (.lst ((k7 (fs.take i) f).map V.int++[.int (i:Nat)]))) Da=some (.dK (kvsF (jw (fs.take (i+1))) As))∧As.length=(jw (fs.take (i+1))).length∧As.Nodup∧(∀ A∈As,H3 A=none)∧∀ (j:Nat) (g:Int) (B:ak),(jw (fs.take (i+1)))[j]? =some g→As[j]? =some B→(upd HI A (.lst ((k7 (fs.take i) f).map V.int++[.int (i:Nat)]))) B=some (.lst ((k7 (fs.take (i+1)) g).map V.int))):=by
   intro A HI KI As' d1 d2 d3 d4 hAI nAD nA3 ⟨j0,a1,a2⟩ oth;rw [et];apply ⟨fun a o n e=>?_,As',by rw [bq (cH nAD)];exact d1,d2,d3,d4,fun j g B hg hB=>?_⟩
   ·rw [bq (fun z=>by rw [z,nA3] at e;cases e)]
    exact KI _ _ n (KE _ _ n e)
   ·by_cases z:B=A
    ·have eg:g=f:=by
      have:j=j0:=by
       have hj:=(ao.mp hB).1;have hj0:=(ao.mp a2).1;rw [z] at hB;exact nodup_at d3 hB a2
      rw [this,a1] at hg;exact (bE hg).symm
     rw [z,aV,eg,idxF_snoc,rO rfl,aE,li];rfl
    ·obtain ⟨o1,o2⟩:=oth j g B hg hB z
     rw [bq z,idxF_snoc,rN (fun q=>o2 q.symm)];exact o1
  apply ⟨_,.inl f,SG _ _ eDa,rfl,aM (by rw [kvsF_len lA];lia:_<1000) (by decide:1000≤bg),fun v hv=>?_,fun hn=>?_⟩
  ·by_cases mem:f∈jw (fs.take i)
   ·obtain ⟨j,hj,ej⟩:=cn mem
    have ej:(jw (fs.take i))[j]? =some f:=by rw [gE hj,ej]
    have hjA:j<As.length:=by lia
    have eA:=gE hjA;rw [kvsF_at (jJ _) ej eA] at hv;cases hv;have hAE:=hA j f _ ej eA;have hAG:=SG _ _ hAE;have nAD:As[j]≠Da:=fun z=>by rw [z,eDa] at hAE;cases hAE
    apply ⟨.inl ⟨rfl,_,SqL.of hAG⟩,_,rfl,As[j],_,_,rfl,rfl,hAG,?_,?_⟩
    ·have:(k7 (fs.take i) f).length≤16:=by unfold k7;rw [aa];exact aN (cX _ _) (by rw [aY];lia)
     rw [aa];exact aM (by lia:_<1000) (by decide:1000≤bg)
    ·have eh:jw (fs.take i++[f])=jw (fs.take i):=by rw [oa,rO mem]
     obtain ⟨r1,r2⟩:=app As[j] HG (fun a o _ e=>SG _ _ e) As (by rw [eh];exact SG _ _ eDa) (by rw [eh];exact lA) ndA frA hAG nAD (frA _ (bb hjA)) ⟨j,by rw [eh];exact ej,eA⟩ (fun j' g B hg hB nB=>by
      rw [eh] at hg;apply ⟨SG _ _ (hA j' g B hg hB),fun z=>nB ?_⟩;have:j'=j:=by
       rw [z] at hg;obtain ⟨h1,h2⟩:=ao.mp hg;obtain ⟨g1,g2⟩:=ao.mp ej;exact (ka (jJ _)).mp (h2.trans g2.symm)
      rw [this,eA] at hB;exact (bE hB).symm)
     exact ⟨r1,r2,_,_,rfl⟩
   ·rw [kvsF_no mem] at hv;cases hv
  ·have mem:f ∉ jw (fs.take i):=fun mem=>by
    obtain ⟨j,hj,ej⟩:=cn mem;have ej:(jw (fs.take i))[j]? =some f:=by rw [gE hj,ej]
    rw [kvsF_at (jJ _) ej (gE (by lia:j<As.length))] at hn;cases hn
   have eh:jw (fs.take i++[f])=jw (fs.take i)++[f]:=by rw [oa,rN mem]
   have ei:k7 (fs.take i) f=[]:=idxF_no fun z=>mem ((mQ _).mpr z)
   rw [putK_new _ hn,←kvsF_snoc lA,←eh];have hH3:H3 Ln=none:=by
    cases z:H3 Ln with
    | none=>rfl
    | some o=>rw [KE _ _ nLD z] at hLE;cases hLE
   have inA:∀ B∈As,∃ o,HE B=some o:=fun B hB=>by
    obtain ⟨j,hj,ej⟩:=cn hB;exact ⟨_,hA j _ B (gE (by lia:j<(jw (fs.take i)).length)) (by rw [gE hj,ej])⟩
   have nLA:Ln ∉ As:=fun z=>by
    obtain ⟨o,e⟩:=inA _ z;rw [hLE] at e;cases e
   have eLI:(upd HG Da (.dK (kvsF (jw (fs.take i++[f])) (As++[Ln])))) Ln=some (.lst ((k7 (fs.take i) f).map V.int)):=by rw [bq nLD,ei];exact eLn
   apply ⟨.inl ⟨rfl,_,SqL.of eLI⟩,_,rfl,Ln,_,_,rfl,rfl,eLI,(by rw [ei];show 0<bg;decide),?_⟩;obtain ⟨r1,r2⟩:=app Ln _ (fun a o n e=>by rw [bq n];exact SG _ _ e) (As++[Ln]) aV (by rw [eh,au,au,lA];rfl) (nd_snoc ndA nLA) (fun A h=>by
    rcases aH.mp h with h | h
    ·exact frA A h
    ·rw [aw.mp h];exact hH3) eLI nLD hH3 ⟨(jw (fs.take i)).length,by rw [eh,bw (az _),gJ];rfl,by rw [←lA,bw (az _),gJ];rfl⟩ (fun j g B hg hB nB=>by
     have hjl:j<As.length:=by
      have:=(ao.mp hB).1;rw [au,dH] at this
      rcases Nat.lt_or_ge j As.length with z | z
      ·exact z
      ·exfalso
       have:j=As.length:=by lia
       rw [this,bw (az _),gJ] at hB;exact nB (bE hB).symm
     rw [cI hjl] at hB;rw [eh,cI ⋯] at hg;have hBE:=hA j g B hg hB;apply ⟨?_,fun z=>mem (by rw [←z];exact aW hg)⟩;rw [bq (fun z=>by rw [z,eDa] at hBE;cases hBE)];exact SG _ _ hBE)
   exact ⟨r1,r2,_,_,rfl⟩
 rintro σ HE ⟨KE,⟨As,eDa,lA,ndA,frA,hA⟩,w4,w5,rfl⟩;rw [aa,bp] at eDa lA hA;apply ⟨_,rfl,Da,_,rfl,eDa,fun r hr=>⟨r,Da,_,rfl,aV,by rw [bq (bF eDa hr)];exact eDa,fun L hL=>?_⟩⟩;have S4:bG HE (upd (upd HE r (isVV r Da)) L (.lst ((kvsF (jw fs) As).map (·.2)))):=((bG.refl HE).put hr).put hL;have e4:(upd (upd HE r (isVV r Da)) L (.lst ((kvsF (jw fs) As).map (·.2)))) L=some (.lst (As.map V.ref)):=by rw [aV,kvsF_snd lA]
 generalize upd (upd HE r (isVV r Da)) L (.lst ((kvsF (jw fs) As).map (·.2)))=H4 at S4 e4 ⊢;have keep2:∀ a o,a≠L1→H2 a=some o→H4 a=some o:=fun a o n e=>by
  have e3':=S3 _ _ (KD _ _ n e);exact S4 _ _ (KE _ _ (fun z=>by have q:=KD _ _ n e;rw [z,hDa] at q;cases q) e3')
 apply k L _ fs H4 (fun a o n e=>keep2 a o (fun z=>by rw [z,nL1] at e;cases e) (tb2 _ _ n (S1 _ _ e))) (i5 hT2 (fun ps e=>keep2 _ _ (fun z=>by rw [z,h2] at e;cases e) e) fun a o u e=>keep2 _ _ (fun z=>by rw [z,h2] at e;cases e) e) e4 ⟨As,rfl,lA,fun i f A h1 h2=>S4 _ _ (hA i f A h1 h2)⟩ lb
end HN
namespace L2
open PySem PySem.Spec PyProof.Rows
theorem rG {c1 c2:Sq}{Q:VK}(Pv:Nat→List V→Hp→Prop)(h0:Pv 0 [] H)(hl:∀ i zs H,i≤ys.length→Pv i zs H→HSq H c1 xs∧HSq H c2 ys∧zs.length≤i)(hxy:ys.length≤xs.length)
  (hs:∀ i x y zs p H,xs[i]? =some x→ys[i]? =some y→Pv i zs H→H p=none→tt (some x::some y::cZ σ js) (upd H p (.tup [x,y])) fun b H4=>if b=true then te (some x::some y::cZ σ js) H4 fun y H5=>Pv (i+1) (zs++[y]) H5 else Pv (i+1) zs H4)
  (hz:ys.length≤bg) (hd:∀ zs H,Pv ys.length zs H→∀ D,H D=none→Q (.ref D) (upd H D (.lst zs))):qK 2 (gPair K) js tt te σ Q (Itq [c1,c2]) H:=by
 apply ⟨fun i m zs H=>i≤ys.length∧m=ys.length - i∧Pv i zs H,⟨_,bo _,rfl,h0⟩,fun i m zs H2 ⟨hi,hm,hp⟩=>?_⟩;obtain ⟨qa,qb,hy⟩:=hl i zs H2 hi hp
 by_cases e:i=ys.length
 ·subst e
  apply .inl ⟨?_,hd zs H2 hp⟩
  by_cases q:ys.length<xs.length
  ·apply ⟨1,c2,ys,rfl,qb,az _,fun n c hc hn=>?_⟩
   have:n=0:=by lia
   subst this;cases hc;exact ⟨xs,_,qa,gE q⟩
  ·exact ⟨0,c1,xs,rfl,qa,⋯,fun n c _ hn=>rQ hn ⋯⟩
 ·have hlt2:i<ys.length:=fH hi e
  have hlt:i<xs.length:=by lia
  apply .inr ⟨⟨[xs[i],ys[i]],rfl,fun n c hc=>?_⟩,⋯,Pv (i+1),fun ys' H' hp'=>⟨ys.length - (i+1),⋯,⋯,rfl,hp'⟩,fun v H3 hy3 v0 hv0=>?_⟩
  ·match n,hc with
   | 0,hc=>cases hc;exact ⟨xs,xs[i],qa,gE hlt,rfl⟩
   | 1,hc=>cases hc;exact ⟨ys,ys[i],qb,gE hlt2,rfl⟩
   | n+2,hc=>simp at hc
  ·obtain ⟨p,vs,hn,rfl,rfl,lv,hx⟩:=hy3
   match vs,lv,hx,v0,hv0 with
   | [x,y],_,hx,[v1,v2],_=>exact ⟨p,_,rfl,SqT.of aV,rfl,_,_,rfl,_,_,rfl,rfl,⟨[some x,some y],rfl,rfl⟩,hs i x y zs p H2 (hx 0 c1 x xs rfl qa rfl) (hx 1 c2 y ys rfl qb rfl) hp hn⟩
end L2
namespace HN
open PySem L2 PyProof.Rows
abbrev sShifts:cL:=top 57
abbrev sMvP:cL:=top 58
def shM (b:Int)(ts us:List Int):List Int:=List.zipWith (fun t u=>(t - u) % b) ts us
def shM_len {us:List Int}(h:us.length=ts.length):(shM b ts us).length=ts.length:=by unfold shM;rw [List.length_zipWith,h,Nat.min_self]
theorem shM_tm {us:List Int}(h:us.length=ts.length){k:Int}(h0:0≤k)(h1:k<ts.length):tm (shM b ts us) k=(tm ts k - tm us k) % b:=by
 have h2:k.toNat<ts.length:=by lia
 have h3:k.toNat<us.length:=by lia
 unfold tm shM;rw [af,af,af,List.getElem?_zipWith,gE h2,gE h3];rfl
inductive spShifts (vs:List V)(H:Hp)(Q:VK)(_:XK):Prop
 | mk (v:V)(u1 u2:ak)(b m:Int)(sp:List Sn)(ts us:List Int)(_:vs=[v,.ref u1,.ref u2])(_:IsD H v (jX b m sp))(_:0<b)(_:H u1=some (.tup (ts.map V.int)))(_:H u2=some (.tup (us.map V.int)))(_:us.length=ts.length)(_:ts.length≤1000)(_:∀ (L:ak) (H':Hp),bG H H'→H L=none→H' L=some (.lst ((shM b ts us).map V.int))→Q (.ref L) H')
def setA (v:Int→Int)(l:List Int)(X:List Int):List Int:=l.foldl (fun X z=>X.set z.toNat (v z)) X
def setA_len {v:Int→Int}:∀ (l X:List Int),(setA v l X).length=X.length
 | [],_=>rfl
 | z::l,X=>by
  show (setA v l (X.set z.toNat (v z))).length=_;rw [setA_len l,fj]
theorem setA_tm {v:Int→Int}{k:Int}(k0:0≤k):∀ (l X:List Int),(∀ z∈l,0≤z∧z<X.length)→tm (setA v l X) k=if k∈l then v k else tm X k
 | [],_,_=>by rw [rN ∅];rfl
 | z::l,X,h=>by
  obtain ⟨z0,z1⟩:=h z ∅;show tm (setA v l (X.set z.toNat (v z))) k=_;rw [setA_tm k0 l _ (fun y hy=>by rw [fj];exact h y (ay _ hy)),mW z0 z1 k0]
  by_cases e:k∈l
  ·rw [rO e,rO (ay _ e)]
  ·rw [rN e]
   by_cases q:k=z
   ·rw [rO q,rO (by rw [q];simp),q]
   ·rw [rN q,rN (fun y=>(aF.mp y).elim q e)]
def setA_snoc {v:Int→Int}{l X:List Int}:setA v (l++[z]) X=(setA v l X).set z.toNat (v z):=by unfold setA;rw [cR];rfl
inductive spMvP (vs:List V)(H:Hp)(Q:VK)(_:XK):Prop
 | mk (v:V)(p u q:ak)(b m:Int)(sp:List Sn)(zs:List V)(fs ts:List Int)(g:Int→Int)(_:vs=[v,.ref p,.ref u,.ref q])(_:IsD H v (jX b m sp))(_:0<b)(_:H p=some (.lst zs))(_:PtsD H zs fs)(_:H u=some (.tup (ts.map V.int)))(_:fs.length=ts.length)(_:ts.length≤1000)(_:H q=some (.lst (((jw fs).map g).map V.int)))(_:∀ (r:ak) (H':Hp) (X:List Int),bG H H'→H' r=some (.tup (X.map V.int))→X.length=ts.length→(∀ k:Int,0≤k→k<ts.length→tm X k=(tm ts k+g (tm fs k)) % b)→Q (.ref r) H')
def hdF (fs:List Int)(f:Int):Int:=(k7 fs f).headD 0
theorem idxF_hd {fs:List Int}{f:Int}(h:f∈jw fs):(k7 fs f)[0]? =some (hdF fs f)∧0≤hdF fs f∧hdF fs f<fs.length∧tm fs (hdF fs f)=f:=by
 have h:=(mQ fs).mp h;obtain ⟨i,hi,e⟩:=cn h;have m0:((i:Nat):Int)∈k7 fs f:=kN.mpr ⟨⋯,⋯,by unfold tm;rw [cb,af,gE hi];exact e⟩;unfold hdF;cases e2:k7 fs f with
 | nil=>rw [e2] at m0;cases m0
 | cons a l=>exact ⟨rfl,kN.mp (by rw [e2];exact bu)⟩
def scShifts:bW pzs pzs (defScope sShifts):=by trivial
theorem ok_shifts (F:Fun K "shifts_between" "shifts_between" sShifts f fd)(T2:Nt mg)(G1:Fn K mg "rest_by" sRest pzj f1 fd1):cO P w K mg base CX0 2 f fd pzs spShifts:=by
 have F1:cO P w K mg base CX0 1 f1 fd1 pzj spRest:=ok_rest G1.F;specialize F.ok scShifts;obtain ⟨v,u1,u2,b,m,sp,ts,us,rfl,hv,b0,h1,h2,lu,few,k⟩:=h;obtain ⟨t,p,ys,rfl,ht,hp,hl,hy⟩:=fJ hv;apply ⟨_,PSl.h (cS ⟨(b9 (pe_compT (xs:=["time","base"]) (fr:=pza) (js:=[0]) rfl (pi_zip2 rfl T2.zip (ag (pv 1) (ag (pv 2) aD))) ⇑0 rfl ⇑0 (by exists sShifts) rfl ⇑0 (fun _ _ _ _ _=>pg_two rfl ⇑0 rfl rfl) (fun _ _ _ _ _=>⟨(pc1 G1 F1 hr (ag (fA (r:=rIxT K) fk (pv 2) bI (fun _ _=>rfl)) (ag (c9 j8 (pv 0) (pv 1)) aD))),gU⟩)))⟩),?_⟩;apply ⟨_,rfl,_,rfl,⟨false,u1⟩,⟨false,u2⟩,_,_,rfl,h1,h2,?_⟩;apply rG (K:=K) (c1:=⟨false,u1⟩) (c2:=⟨false,u2⟩) (xs:=ts.map V.int) (ys:=us.map V.int) (fun i zs H2=>bG H H2∧zs=((shM b ts us).take i).map V.int) ⟨bG.refl H,rfl⟩ (fun i zs H2 hi ⟨S2,e2⟩=>⟨S2 _ _ h1,S2 _ _ h2,?_⟩) (by rw [aa,aa,lu];exact az _) (fun i x y zs pz H2 hx hx' ⟨S2,e2⟩ hpz=>?_) (by rw [aa,lu];exact d8 few) (fun zs H2 ⟨S2,e2⟩ D hD=>?_)
 ·rw [e2,aa,bK];lia
 ·rw [ax] at hx hx'
  obtain ⟨x,ex,rfl⟩:=aO.mp hx;obtain ⟨y,ey,rfl⟩:=aO.mp hx';have S3:bG H (upd H2 pz (.tup [.int x,.int y])):=S2.put hpz;generalize upd H2 pz (.tup [.int x,.int y])=H3 at S3 ⊢;apply fS ?_;apply ⟨_,rfl,t,_,_,_,rfl,rfl,SqT.of (S3 _ _ ht),aS (j:=0) rfl,_,rfl,_,rfl,_,_,rfl,rfl,b,_,rfl,b0,S3,?_⟩;have e3:(shM b ts us)[i]? =some ((x - y) % b):=by unfold shM;rw [List.getElem?_zipWith,ex,ey]
  rw [e2,bj,e3,aE];rfl
 ·rw [aa,lu,←shM_len (b:=b) lu,bp] at e2
  rw [e2];exact k D _ (S2.put hD) (S2.free hD) aV
def scMvP:bW ["net","parts","table","shifts","times","part","shift","happening"] pzw (defScope sMvP):=by trivial
theorem ok_mvP (F:Fun K "moved_in_parts" "moved_in_parts" sMvP f fd)(T:Nm mg)(T2:Nt mg)(G1:Fn K mg "rest_by" sRest pzj f1 fd1):cO P w K mg base CX0 2 f fd pzw spMvP:=by
 have F1:cO P w K mg base CX0 1 f1 fd1 pzj spRest:=ok_rest G1.F;specialize F.ok scMvP;obtain ⟨v,p,u,q,b,m,sp,zs,fs,ts,g,rfl,hv,b0,hp,hz,hu,lf,few,hq,k⟩:=h;obtain ⟨t,pp,ys,rfl,ht,hpp,hl,hy⟩:=fJ hv;obtain ⟨As,rfl,lA,hA⟩:=hz;apply ⟨_,PSl.h (ba ⟨(psZ 4 scMvP.nd (eP oU rfl T2.tlist boot_list (ag (pv 2) aD)))⟩
  (ba ⟨(iL bH rfl (pi_zip2 rfl T2.zip (ag (pv 1) (ag (pv 3) aD))) (pg_tup rfl (ju (pgZ 5 scMvP.nd) (ju (pgZ 6 scMvP.nd) p7))) (cw (iL bH rfl (gH (pv 5)) (pgZ 7 scMvP.nd) (cw (oQ (pc1 G1 F1 hr (ag (ixZ (pv 0)) (ag (c9 iC (fA fk (pv 2) (pv 7) (fun _ _=>rfl)) (pv 6)) aD))) (rf (pv 4) (pv 7) mL))))))⟩
  (cS ⟨(b9 (eP i6 rfl T.ttup iG (ag (pv 4) aD)))⟩))),?_⟩
 apply ⟨_,rfl,u,_,rfl,.inr (SqT.of hu),fun L hL=>?_⟩;have S1:bG H (upd H L (.lst (ts.map V.int))):=(bG.refl H).put hL;have h1:(upd H L (.lst (ts.map V.int))) L=some (.lst (ts.map V.int)):=aV;generalize upd H L (.lst (ts.map V.int))=H1 at S1 h1 ⊢;apply ⟨_,rfl,_,rfl,⟨true,p⟩,⟨true,q⟩,_,_,rfl,S1 _ _ hp,S1 _ _ hq,?_⟩;apply for_zip2 (c1:=⟨true,p⟩) (c2:=⟨true,q⟩) (xs:=As.map V.ref) (ys:=((jw fs).map g).map V.int) (fun j σ H2=>bG H H2∧(∃ X:List Int,H2 L=some (.lst (X.map V.int))∧X.length=ts.length∧∀ k:Int,0≤k→k<ts.length→tm X k=if tm fs k∈(jw fs).take j then (tm ts k+g (tm fs k)) % b else tm ts k)∧∃ v5 v6 v7,σ=[some (.ref t),some (.ref p),some (.ref u),some (.ref q),some (.ref L),v5,v6,v7]) ⟨S1,⟨ts,h1,rfl,fun k _ _=>by rw [rN ∅]⟩,none,none,none,rfl⟩ (fun i σ H2 _ ⟨S2,_⟩=>⟨S2 _ _ hp,S2 _ _ hq⟩) (by rw [aa,aa,aa,lA]) ?_ ?_
 ·rintro j x y pz σ H2 hx hx' ⟨S2,⟨X,hX,lX,eX⟩,v5,v6,v7,rfl⟩ hpz
  rw [ax] at hx;obtain ⟨A,eA,rfl⟩:=aO.mp hx;rw [ax,ax] at hx';obtain ⟨_,e0,rfl⟩:=aO.mp hx';obtain ⟨f,ef,rfl⟩:=aO.mp e0;have S3:bG H (upd H2 pz (.tup [.ref A,.int (g f)])):=S2.put hpz;have h3:(upd H2 pz (.tup [.ref A,.int (g f)])) pz=some (.tup [.ref A,.int (g f)]):=aV;have hX3:(upd H2 pz (.tup [.ref A,.int (g f)])) L=some (.lst (X.map V.int)):=by rw [bq (bF hX hpz)];exact hX
  generalize upd H2 pz (.tup [.ref A,.int (g f)])=H3 at S3 h3 hX3 ⊢;have hAH:=hA j f A ef eA;have hm:∀ z∈k7 fs f,0≤z∧z<X.length:=fun z hz=>by
   obtain ⟨a,c,_⟩:=kN.mp hz;exact ⟨a,⋯⟩
  apply ⟨pz,_,rfl,SqT.of h3,rfl,_,_,rfl,_,_,rfl,rfl,?_⟩;apply ⟨_,rfl,A,rfl,⟨_,SqL.of (S3 _ _ hAH)⟩,?_⟩;apply jx (K:=K) (a:=A) (xs:=(k7 fs f).map V.int) (fun i σ HD=>bG H HD∧HD L=some (.lst ((setA (fun z=>(tm ts z+g f) % b) ((k7 fs f).take i) X).map V.int))∧∃ w7,σ=[some (.ref t),some (.ref p),some (.ref u),some (.ref q),some (.ref L),some (.ref A),some (.int (g f)),w7]) ⟨S3,hX3,v7,rfl⟩ (fun i σ HD _ ⟨h,_⟩=>SqL.of (h _ _ hAH)) ?_ ?_
  ·rintro i y σ HD hy' ⟨SD,hD,w7,rfl⟩
   rw [ax] at hy';obtain ⟨z,ez,rfl⟩:=aO.mp hy';obtain ⟨z0,z1⟩:=hm z (aW ez);apply ⟨_,rfl,t,_,_,_,rfl,rfl,SqT.of (SD _ _ ht),aS (j:=0) rfl,_,rfl,_,rfl,u,_,_,_,rfl,rfl,SqT.of (SD _ _ hu),oy z0 ⋯,_,rfl,_,_,rfl,rfl,b,_,rfl,b0,?_⟩;apply ⟨_,rfl,_,rfl,L,_,_,_,rfl,rfl,hD,ixN_int z0 (by rw [aa,setA_len];lia),?_⟩;rw [map_set,bj,ez];exact ⟨fun a o e=>by rw [bq (bF e hL)];exact SD _ _ e,by rw [aV];show _=some (HO.lst ((setA _ (_++[z]) X).map V.int));rw [setA_snoc],_,rfl⟩
  ·rintro σ HD ⟨SD,hD,w7,rfl⟩
   rw [aa,bp] at hD;apply ⟨SD,⟨_,hD,by rw [setA_len];exact lX,fun k k0 k1=>?_⟩,_,_,_,rfl⟩;rw [setA_tm k0 _ _ hm,bj,ef,eX k k0 k1]
   by_cases e:tm fs k=f
   ·rw [rO (kN.mpr ⟨k0,⋯,e⟩),rO (by rw [e];simp),e]
   ·rw [rN (fun q=>e (kN.mp q).2.2)]
    by_cases c:tm fs k∈(jw fs).take j
    ·rw [rO c,rO (aK _ c)]
    ·rw [rN c,rN (fun q=>(aH.mp q).elim c fun r=>e (by simpa using r))]
 ·rintro σ H2 ⟨S2,⟨X,hX,lX,eX⟩,v5,v6,v7,rfl⟩
  apply ⟨_,rfl,L,_,rfl,SqL.of hX,fun r H4 S4 h4=>?_⟩;apply k r H4 X (S2.trans S4) h4 lX fun k k0 k1=>?_
  rw [eX k k0 k1,rO];rw [aa,lA,bp];exact (mQ fs).mpr (pI k0 ⋯)
abbrev sSum:cL:=top 15
abbrev sBeats:cL:=top 16
def scSum:bW ["bounds","way","low","high","step","bound"] pzG (defScope sSum):=by trivial
def ok_sum (F:Fun K "sum_of" "sum_of" sSum f fd):cO P w K mg base CX0 1 f fd pzG spSum:=by
 specialize F.ok scSum;obtain ⟨vb,vw,bs,ws,rfl,hb,hw,hin,k⟩:=h;obtain ⟨pb,yb,rfl,hpb,hlb,rb⟩:=gT hb;obtain ⟨pw,yw,rfl,hpw,hlw,rw'⟩:=gT hw;apply ⟨_,PSl.h (ba ⟨(psZ 2 scSum.nd bI)⟩
  (ba ⟨(psZ 3 scSum.nd bI)⟩
  (ba ⟨(iL bH rfl (mr (pv 1)) (pgZ 4 scSum.nd) (PSl.h (ba ⟨(psZ 5 scSum.nd (fA fk (pv 0) (ixZ (pv 4)) (fun _ _=>rfl)))⟩
  (cS ⟨(gF (cA kD (ixZ (pv 4)) bI (cP _)) (PSl.h (ba ⟨(ps_aug (i:=2) scSum.nd rfl (.inl rfl) (ixZ (pv 5)) ip_add)⟩
  (cS ⟨(ps_aug (i:=3) scSum.nd rfl (.inl rfl) (ixZ (pv 5)) ip_add)⟩))) (PSl.h (ba ⟨(ps_aug (i:=2) scSum.nd rfl (.inl rfl) (ixZ (pv 5)) ip_sub)⟩
  (cS ⟨(ps_aug (i:=3) scSum.nd rfl (.inl rfl) (ixZ (pv 5)) ip_sub)⟩))))⟩))))⟩
  (cS ⟨(b9 (dB (ag (pv 2) (ag (pv 3) aD))))⟩)))),?_⟩
 apply ⟨_,rfl,pw,rfl,⟨_,SqT.of hpw⟩,?_⟩;apply for_tup (K:=K) (xs:=yw) (fun i σ H2=>H2=H∧∃ v4 v5,σ=[some (.ref pb),some (.ref pw),some (.int (gv bs (ws.take i))),some (.int (i3 bs (ws.take i))),v4,v5]) ⟨rfl,none,none,rfl⟩ (fun i σ H2 _ ⟨e1,_⟩=>by rw [e1];exact SqT.of hpw) ?_ ?_
 ·rintro i y σ H2 hy ⟨rfl,v4,v5,rfl⟩
  have hi:i<ws.length:=by rw [←hlw];exact (ao.mp hy).1
  obtain ⟨q,hq,hq2⟩:=jb rw' (gE hi);rw [hy] at hq;cases hq;obtain ⟨i1,d1⟩:=hin ws[i] (bb hi);have hm1:gv bs (ws.take (i+1))=gv bs (ws.take i)+lowS bs ws[i]:=by
   unfold gv;rw [bj,gE hi,aE,List.sum_append];simp
  have hm2:i3 bs (ws.take (i+1))=i3 bs (ws.take i)+mI bs ws[i]:=by
   unfold i3;rw [bj,gE hi,aE,List.sum_append];simp
  obtain ⟨qb,hqb,hqb2⟩:=jb rb (gE i1);apply ⟨_,rfl,_,rfl,q,_,_,_,rfl,rfl,SqT.of hq2,aS (j:=0) rfl,pb,_,_,_,rfl,rfl,SqT.of hpb,aS (j:=ws[i].i) hqb,?_⟩;apply ⟨_,rfl,q,_,_,_,rfl,rfl,SqT.of hq2,aS (j:=1) rfl,rfl,_,rfl,?_⟩;apply rp (fun h1=>?_) (fun h1=>?_)
  ·have h1:ws[i].d=1:=by have:=rT h1;injection this
   apply ⟨_,rfl,_,rfl,qb,_,_,_,rfl,rfl,SqT.of hqb2,aS (j:=0) rfl,_,_,rfl,rfl,?_⟩;apply ⟨_,rfl,_,rfl,qb,_,_,_,rfl,rfl,SqT.of hqb2,aS (j:=1) rfl,_,_,rfl,rfl,rfl,some (.ref q),some (.ref qb),?_⟩;have l1:lowS bs ws[i]=bs[ws[i].i].1:=by unfold lowS;rw [gE i1];exact rO h1
   have l2:mI bs ws[i]=bs[ws[i].i].2:=by unfold mI;rw [gE i1];exact rO h1
   rw [hm1,hm2,l1,l2];rfl
  ·have h1:ws[i].d≠1:=fun z=>h1 (rR (by rw [z]))
   apply ⟨_,rfl,_,rfl,qb,_,_,_,rfl,rfl,SqT.of hqb2,aS (j:=1) rfl,_,_,rfl,rfl,?_⟩;apply ⟨_,rfl,_,rfl,qb,_,_,_,rfl,rfl,SqT.of hqb2,aS (j:=0) rfl,_,_,rfl,rfl,rfl,some (.ref q),some (.ref qb),?_⟩;have l1:lowS bs ws[i]= -bs[ws[i].i].2:=by unfold lowS;rw [gE i1];exact rN h1
   have l2:mI bs ws[i]= -bs[ws[i].i].1:=by unfold mI;rw [gE i1];exact rN h1
   rw [hm1,hm2,l1,l2,←Int.sub_eq_add_neg,←Int.sub_eq_add_neg];rfl
 ·rintro σ H2 ⟨rfl,v4,v5,rfl⟩
  rw [hlw,bp];exact ⟨_,rfl,_,rfl,pJ,fun p3 H3 S3 h3=>k p3 H3 S3 h3⟩
def scBeats:bW ["net","bounds","ring","beat","ends"] pze (defScope sBeats):=by trivial
def ok_beats (F:Fun K "beats_of" "beats_of" sBeats f fd)(G1:Fn K mg "sum_of" sSum pzG f1 fd1):cO P w K mg base CX0 2 f fd pze spBeats:=by
 have F1:cO P w K mg base CX0 1 f1 fd1 pzG spSum:=ok_sum G1.F;specialize F.ok scBeats;obtain ⟨vn,vb,vw,b,m,sp,bs,ws,rfl,hv,hb0,hb1,hb,hw,hin,k⟩:=h;obtain ⟨t,pn,ys,rfl,ht,_⟩:=fJ hv;apply ⟨_,PSl.h (ba ⟨(psZ 3 scBeats.nd (ixZ (pv 0)))⟩
  (ba ⟨(psZ 4 scBeats.nd (pc1 G1 F1 hr (ag (pv 1) (ag (pv 2) aD))))⟩
  (cS ⟨(b9 (dB (ag (pe_un qS (c9 op_fdivB (pe_un qS (ixZ (pv 4))) (pv 3))) (ag (c9 op_fdivB (ixZ (pv 4)) (pv 3)) aD))))⟩))),?_⟩
 apply ⟨_,rfl,t,_,_,_,rfl,rfl,SqT.of ht,aS (j:=0) rfl,?_⟩;apply ⟨_,rfl,_,rfl,vb,vw,bs,ws,rfl,hb,hw,hin,fun p1 H1 S1 h1=>?_⟩;apply ⟨_,rfl,p1,_,_,_,rfl,rfl,SqT.of h1,aS (j:=0) rfl,_,rfl,_,rfl,_,_,rfl,rfl,log_ok hb0 hb1,_,rfl,?_⟩;apply ⟨_,rfl,p1,_,_,_,rfl,rfl,SqT.of h1,aS (j:=1) rfl,_,rfl,_,_,rfl,rfl,log_ok hb0 hb1,pJ,fun p2 H2 S2 h2=>k p2 H2 (S1.trans S2) h2⟩
abbrev sDead:cL:=top 17
def scDead:bW ["net","bounds","ring","beats"] pze (defScope sDead):=by trivial
def ok_dead (F:Fun K "is_dead" "is_dead" sDead f fd)(G1:Fn K mg "beats_of" sBeats pze f1 fd1)(F1:cO P w K mg base CX0 2 f1 fd1 pze spBeats):cO P w K mg base CX0 3 f fd pze spDead:=by
 specialize F.ok scDead;obtain ⟨vn,vb,vw,b,m,sp,bs,ws,rfl,hv,hb0,hb1,hb,hw,hin,k⟩:=h;apply ⟨_,PSl.h (ba ⟨(psZ 3 scDead.nd (pc1 G1 F1 hr (ag (pv 0) (ag (pv 1) (ag (pv 2) aD)))))⟩
  (cS ⟨(b9 (jI op_gt (ixZ (pv 3)) (ixZ (pv 3)) (cP _)))⟩)),?_⟩
 apply ⟨_,rfl,_,rfl,_,rfl,vn,vb,vw,b,m,sp,bs,ws,rfl,hv,hb0,hb1,hb,hw,hin,fun p1 H1 S1 h1=>?_⟩;exact ⟨_,rfl,p1,_,_,_,rfl,rfl,SqT.of h1,aS (j:=0) rfl,_,rfl,p1,_,_,_,rfl,rfl,SqT.of h1,aS (j:=1) rfl,_,_,rfl,rfl,k H1 S1⟩
abbrev sOverR:cL:=top 46
abbrev sMid:cL:=top 48
abbrev sDeadL:cL:=top 49
def noFree {n:List (Str×cQ)}{p:Str×cQ→Prop}(h:(n.all fun y=>y.2 != .free)=true):∀ y∈n,y.2= .free→p y:=fun y hy e=>by
 have:=ia.mp h y hy;rw [e] at this;exact rQ this ↥0
def pi_tupK {l:Expr}(e:X.K=K)(hl:PE X l tl):PI X tg l (iTup K tl):=e ▸ mr hl
def scOverR:bW pzx pzx (defScope sOverR):=by trivial
def ok_overR (F:Fun K "rings_over" "rings_over" sOverR f fd):cO P w K mg base CX0 1 f fd pzx spOverR:=by
 specialize F.ok scOverR;obtain ⟨u,kk,rl,rg,rfl,hu,hrs,few,hlen,k⟩:=h;have lrl:rl.length=rg.length:=by rw [hrs.length,aa]
 apply ⟨_,PSl.h (cS ⟨(b9 (gW (fr:=["span"]) (js:=[1]) rfl (gH (pv 0)) ⇑0 rfl ⇑0 rfl (by exists sOverR) ⇑0 rfl ⇑0 (fun _ _ _ _ _=>⟨(pv 0),(mq (cA (r:=rIn K false) op_in_seq (pv 1) (by exact (gW (fr:=[]) (js:=[]) rfl (pi_tupK (K:=K) rfl (pv 0)) ⇑0 rfl ⇑0 rfl (noFree ⇑0) ⇑0 rfl ⇑0 (fun _ _ _ _ _=>⟨(fA (r:=rIxT K) fk (pv 0) bI (fun _ _=>rfl)),gU⟩))) rfl))⟩)))⟩),?_⟩;apply ⟨_,rfl,u,rfl,⟨_,SqL.of hu⟩,?_⟩;apply kG (K:=K) (a:=u) (xs:=rl) (fun i zs HC=>bG H HC∧zs.length≤i∧dW HC zs (((rg.take i).filter (i4 kk)).map wayQ)) ⟨bG.refl H,az _,.nil⟩ (fun i zs HC hi ⟨S,e2,_⟩=>⟨SqL.of (S _ _ hu),e2⟩) (by rw [lrl];exact d8 ⋯) (fun i x zs HC hx ⟨S,e2,e3⟩=>?_) (fun zs HC ⟨S,e2,e3⟩ D hD=>?_)
 ·have hi:i<rg.length:=by have:=(ao.mp hx).1;lia
  obtain ⟨d,ed,dx⟩:=hrs.get hx;rw [ax,gE hi] at ed;cases ed;have dx:IsD H x (oW rg[i].2):=dx;obtain ⟨px,yx,rfl,hpx,hlx,rx⟩:=gT dx;have et:(rg.take (i+1)).filter (i4 kk)=(rg.take i).filter (i4 kk)++(if i4 kk rg[i]=true then [rg[i]] else []):=by
   rw [bj,gE hi,fZ];congr 1;show List.filter _ [rg[i]]=_;rw [eN];rfl
  have ln:=hlen _ (bb hi);apply ⟨_,rfl,_,rfl,px,rfl,⟨_,SqT.of (S _ _ hpx)⟩,?_⟩;apply kQ (K:=K) (a:=px) (xs:=yx) (fun j ws HD=>HD=HC∧ws=((rg[i].2.take j).map fun s=>V.int (s.i:Int))) ⟨rfl,rfl⟩ (fun j ws HD hj ⟨e1,e2'⟩=>⟨by rw [e1];exact SqT.of (S _ _ hpx),by rw [e2',aa,bK];lia⟩) (by rw [hlx];exact d8 ln) (fun j y ws HD hy' ⟨e1,e2'⟩=>?_) (fun ws HD ⟨e1,e2'⟩ D hD=>?_)
  ·subst e1
   have hj:j<rg[i].2.length:=by have:=(ao.mp hy').1;lia
   obtain ⟨q,hq,hq2⟩:=jb rx (gE hj);rw [hy'] at hq;cases hq;apply fS ?_;apply ⟨_,rfl,q,_,_,_,rfl,rfl,SqT.of (S _ _ hq2),aS (j:=0) rfl,rfl,?_⟩;rw [e2',bj,gE hj,aE];rfl
  ·subst e1
   have S1:bG HD (upd HD D (.lst ws)):=bG.put (bG.refl HD) hD;have hD1:(upd HD D (.lst ws)) D=some (.lst ws):=aV;generalize upd HD D (.lst ws)=HE at S1 hD1 ⊢;rw [hlx,bp] at e2';subst e2';apply ⟨D,_,rfl,.inl (SqL.of hD1),rfl,(by rw [List.all_map];exact ia.mpr fun _ _=>rfl),_,rfl,?_⟩;rw [show (rg[i].2.map fun s=>V.int (s.i:Int))=(rg[i].2.map Stp.i).map (fun (i:Nat)=>V.int i) by rw [cY];rfl,inV_nat,et];show if (decide (kk∈rg[i].2.map Stp.i))=true then _ else _;have eo:i4 kk rg[i]=decide (kk∈rg[i].2.map Stp.i):=rfl;rw [eo];apply rp (fun c=>?_) (fun c=>?_)
   ·apply ⟨_,rfl,S.trans S1,by rw [au];show zs.length+1≤i+1;lia,?_⟩
    rw [rO c,aE];exact (e3.same S1).append (.cons (dx.same (S.trans S1)) .nil)
   ·apply ⟨S.trans S1,⋯,?_⟩
    rw [rN c,dg];exact e3.same S1
 ·rw [lrl,bp] at e3
  have S1:bG HC (upd HC D (.lst zs)):=bG.put (bG.refl HC) hD;apply k D zs _ (S.trans S1) (bG.free S hD) aV (e3.same S1)
def scMid:bW ["case","span","bound"] pzt (defScope sMid):=by trivial
def ok_mid (F:Fun K "middle_of" "middle_of" sMid f fd):cO P w K mg base CX0 1 f fd pzt spMid:=by
 specialize F.ok scMid;obtain ⟨c,kk,bs,rs,rfl,hc,hk,k⟩:=h;obtain ⟨vb,u,rl,h1,h2,h3,h4⟩:=hc.ex;obtain ⟨pb,yb,rfl,hpb,hlb,rb⟩:=gT h2;obtain ⟨q,hq,hq2⟩:=jb rb (gE hk);have e0:bs.getD kk (0,0)=bs[kk]:=by rw [af,gE hk];rfl
 apply ⟨_,PSl.h (ba ⟨(psZ 2 scMid.nd (fA fk (ixZ (pv 0)) (pv 1) (fun _ _=>rfl)))⟩
  (cS ⟨(b9 (c9 op_fdiv (c9 iC (ixZ (pv 2)) (ixZ (pv 2))) bI))⟩)),?_⟩
 apply ⟨_,rfl,c,_,_,_,rfl,rfl,SqT.of h1,aS (j:=0) rfl,_,rfl,pb,_,_,_,rfl,rfl,SqT.of hpb,aS (j:=kk) hq,?_⟩;apply ⟨_,rfl,q,_,_,_,rfl,rfl,SqT.of hq2,aS (j:=0) rfl,_,rfl,q,_,_,_,rfl,rfl,SqT.of hq2,aS (j:=1) rfl,_,_,rfl,rfl,_,_,rfl,rfl,⟨↥0,↥0⟩,?_⟩;rw [e0] at k;exact k
def scDeadL:bW ["net","case","ring"] pzl (defScope sDeadL):=by trivial
def ok_deadL (F:Fun K "dead_leaf" "dead_leaf" sDeadL f fd)(G1:Fn K mg "is_dead" sDead pze f1 fd1)(F1:cO P w K mg base CX0 3 f1 fd1 pze spDead):cO P w K mg base CX0 4 f fd pzl spDeadL:=by
 specialize F.ok scDeadL;obtain ⟨v,c,b,m,sp,bs,rs,rfl,hv,b0,b61,hc,few,hin,k⟩:=h;obtain ⟨vb,u,rl,h1,h2,h3,h4⟩:=hc.ex;have hr3:ik 3 _:=hr;have lrl:rl.length=rs.length:=by rw [h4.length,aa]
 apply ⟨_,PSl.h (ba ⟨(iL bH rfl (gH (ixZ (pv 1))) (pgZ 2 scDeadL.nd) (cw (gF (iK (pc1 G1 F1 hr3 (ag (pv 0) (ag (ixZ (pv 1)) (ag (pv 2) aD))))) (cw (b9 (dB (ag kB (ag (pv 2) aD))))) dv)))⟩
  (cS ⟨(b9 oR)⟩)),?_⟩
 apply ⟨_,rfl,c,_,_,_,rfl,rfl,SqT.of h1,aS (j:=1) rfl,u,rfl,⟨_,SqL.of h3⟩,?_⟩;apply jx (K:=K) (a:=u) (xs:=rl) (fun i σ H1=>bG H H1∧(∀ q∈rs.take i,jL b bs q.2=false)∧∃ v2,σ=[some v,some (.ref c),v2]) ⟨bG.refl H,fun _ h=>rQ h ∅,none,rfl⟩ (fun i σ H1 _ ⟨S,_⟩=>SqL.of (S _ _ h3)) ?_ ?_
 ·rintro i x σ H1 hx ⟨S1,hal,v2,rfl⟩
  have hi:i<rs.length:=by have:=(ao.mp hx).1;lia
  obtain ⟨d,ed,dx⟩:=h4.get hx;rw [ax,gE hi] at ed;cases ed;have dx:IsD H x (oW rs[i].2):=dx;apply ⟨_,rfl,_,rfl,c,_,_,_,rfl,rfl,SqT.of (S1 _ _ h1),aS (j:=0) rfl,_,rfl,v,vb,x,b,m,sp,bs,rs[i].2,rfl,hv.same S1,b0,b61,h2.same S1,dx.same S1,hin _ (bb hi),fun H2 S2=>⟨_,rfl,rp (fun hc=>?_) (fun hc=>?_)⟩⟩
  ·apply ⟨_,rfl,pJ,fun q3 H3 S3 h3'=>?_⟩
   exact k (.ref q3) H3 (S1.trans (S2.trans S3)) (.inr ⟨rs[i],bb hi,.tup h3' (.cons (.str _) (.cons (dx.same (S1.trans (S2.trans S3))) .nil)),hc⟩)
  ·apply ⟨S1.trans S2,fun q hq=>?_,_,rfl⟩
   rw [bj,gE hi] at hq
   rcases aH.mp hq with z | z
   ·exact hal q z
   ·rw [aw.mp z];exact lV.mpr hc
 ·rintro σ H1 ⟨S1,hal,v2,rfl⟩
  rw [lrl,bp] at hal;exact k .non H1 S1 (.inl ⟨rfl,hal⟩)
abbrev sFirst:cL:=top 14
def scFirst:bW pza pza (defScope sFirst):=by trivial
def ok_first (F:Fun K "first_bounds" "first_bounds" sFirst f fd)(T:Nm mg):cO P w K mg base CX0 1 f fd pza spFirst:=by
 specialize F.ok scFirst;obtain ⟨v,b,m,sp,rfl,hv,few,k⟩:=h;obtain ⟨t,p,ys,rfl,ht,hp,hl,hy⟩:=fJ hv;apply ⟨_,PSl.h (cS ⟨(b9 (eP i6 rfl T.ttup iG (ag (gW (fr:=[]) (js:=[]) rfl (mr (ixZ (pv 0))) ⇑0 rfl ⇑0 rfl (by exists sFirst) ⇑0 rfl ⇑0 (fun _ _ _ _ _=>⟨(dB (ag (fA (r:=rIxT K) fk (pv 0) bI (fun _ _=>rfl)) (ag (fA (r:=rIxT K) fk (pv 0) bI (fun _ _=>rfl)) aD))),gU⟩)) aD)))⟩),?_⟩;apply ⟨_,rfl,t,_,_,_,rfl,rfl,SqT.of ht,aS (j:=2) rfl,p,rfl,⟨_,SqT.of hp⟩,?_⟩;apply kQ (K:=K) (a:=p) (xs:=ys) (fun i zs H2=>bG H H2∧dW H2 zs (((sp.take i).map fun x=>(x.l,x.o)).map fun x=> .tup ((bndR x).map Dt.int))) ⟨bG.refl H,.nil⟩ (fun i zs H2 hi ⟨e1,e2⟩=>?_) (by rw [hl];exact d8 few) (fun i x zs H2 hx ⟨e1,e2⟩=>?_) (fun zs H2 ⟨e1,e2⟩ D hD=>?_)
 ·apply ⟨SqT.of (e1 _ _ hp),?_⟩
  rw [e2.length,aa,aa,bK];lia
 ·have hi:i<sp.length:=by rw [←hl];exact (ao.mp hx).1
  obtain ⟨q,hq,hq2⟩:=hy i sp[i] (gE hi);rw [hx] at hq;cases hq;have hq3:=e1 _ _ hq2;apply fS ?_;apply ⟨_,rfl,q,_,_,_,rfl,rfl,SqT.of hq3,aS (j:=2) rfl,_,rfl,q,_,_,_,rfl,rfl,SqT.of hq3,aS (j:=3) rfl,pJ,fun q4 H4 S4 h4=>⟨e1.trans S4,?_⟩⟩;rw [bj,gE hi,aE,aE];exact (e2.same S4).append (.cons (.tup h4 (dW.ints [sp[i].l,sp[i].o])) .nil)
 ·apply ⟨D,_,rfl,SqL.of aV,fun p3 H3 S3 h3=>?_⟩
  have S23:=(bG.put (o:= .lst zs) (bG.refl H2) hD).trans S3;apply k (.ref p3) H3 (e1.trans S23) (.tup h3 ?_);rw [hl,bp] at e2;exact e2.same S23
abbrev sWithB:cL:=top 37
def cutU {i:Int}(hi:i=(n:Int)):cutV xs none (some i)=xs.take n:=by
 unfold cutV;subst hi;have e:=HT.sIx_nat xs.length xs.length n;rw [e];show (xs.drop 0).take (min n xs.length - 0)=xs.take n;rw [List.drop_zero,Nat.sub_zero]
 by_cases h:n≤xs.length
 ·rw [Nat.min_eq_left h]
 ·rw [Nat.min_eq_right ⋯,bp,jR ⋯]
def cutF {i:Int}(hi:i=(n:Int)):cutV xs (some i) none=xs.drop n:=by
 unfold cutV;subst hi;have e:=HT.sIx_nat xs.length 0 n;rw [e];show (xs.drop (min n xs.length)).take (xs.length - min n xs.length)=xs.drop n
 by_cases h:n≤xs.length
 ·rw [Nat.min_eq_left h,jR (by rw [dt];lia)]
 ·rw [Nat.min_eq_right ⋯,List.drop_length,List.drop_of_length_le ⋯,List.take_nil]
def scWithB:bW pzm pzm (defScope sWithB):=by trivial
theorem ok_withB (F:Fun K "with_bound" "with_bound" sWithB f fd):cO P w K mg base CX0 1 f fd pzm spWithB:=by
 specialize F.ok scWithB;obtain ⟨vb,n,lo,hi,bs,rfl,hb,hn,few,k⟩:=h;obtain ⟨pb,yb,rfl,hpb,hlb,rb⟩:=gT hb;apply ⟨_,PSl.h (cS ⟨(b9 (c9 mw (c9 mw (pe_slice sl_tupN (pv 0) po_none (po_some (pv 1))) (dB (ag (dB (ag (pv 2) (ag (pv 3) aD))) aD))) (pe_slice sl_tupN (pv 0) (po_some (c9 iC (pv 1) bI)) po_none)))⟩),?_⟩;have lyb:yb.length≤40:=by lia
 apply ⟨_,rfl,_,rfl,_,rfl,pb,_,rfl,hpb,fun qB HB SB hB=>⟨_,rfl,_,rfl,pJ,fun q1 H1 S1 h1=>⟨szZ1,fun qC HC SC hC=>?_⟩⟩⟩;rw [cutU (n:=n) rfl] at hB;apply ⟨qB,qC,_,_,rfl,rfl,SC _ _ (S1 _ _ hB),hC,?_,fun qD HD SD hD=>?_⟩
 ·rw [bK];exact aN (by show min n yb.length+1≤1000;lia) ↥0
 apply ⟨_,rfl,_,rfl,_,_,rfl,rfl,_,rfl,pb,_,rfl,SD _ _ (SC _ _ (S1 _ _ (SB _ _ hpb))),fun qE HE SE hE=>?_⟩;rw [cutF (n:=n+1) ⋯] at hE;apply ⟨qD,qE,_,_,rfl,rfl,SE _ _ hD,hE,?_,fun qF HF SF hF=>?_⟩
 ·rw [au,bK,dt];exact aN (by show min n yb.length+1+(yb.length - (n+1))≤1000;lia) ↥0
 have S1F:bG H1 HF:=SC.trans (SD.trans (SE.trans SF));have SF':bG H HF:=SB.trans (S1.trans S1F);apply k (.ref qF) HF SF' (.tup hF ?_);have e:bs.set n (lo,hi)=bs.take n++[(lo,hi)]++bs.drop (n+1):=by
  rw [List.set_eq_take_append_cons_drop,rO hn,jU];rfl
 rw [e,aE,aE,List.map_take,List.map_drop];exact ((dW.takeN n (rb.same SF')).append (.cons (.tup (S1F _ _ h1) (dW.ints [lo,hi])) .nil)).append (dW.dropN (n+1) (rb.same SF'))
abbrev cCuts:cL:=top 47
abbrev qZ:cL:=clsOf cCuts 0
abbrev sSpanC:cL:=clsOf cCuts 1
abbrev sSidesC:cL:=clsOf cCuts 2
def lamPosC:List cL→Pos
 | [_,_,_,_,.Assign _ (.Call _ _ [⟨_,.Lambda _ _ _ lp,_⟩] _) _]=>lp
 | _=>⟨0,0,0,0⟩
abbrev lpC:Pos:=lamPosC (fX qZ)
abbrev lqC:Str:=(("Cuts.__init__" :Str) ++ ".<locals>.") ++ "<lambda>"
def lenNC (K:ar)(hK:X.K=K:=by rfl):jO X (.builtin "len") (fun xs H Q=>∃ p ys,xs=[.ref p]∧(SqL K H p ys∨SqT K H p ys)∧Q (.int ys.length) H):=by subst hK;exact bP
structure CutC (K:ar)(C:ak):Prop where
 cl:Cls K C
 n1:oq K C "first_case"
 n2:oq K C "touched"
 n3:oq K C "order"
def scInitC:bW ["self","net","rings","touched"] ["self","net"] (defScope qZ):=by trivial
theorem ok_initC {c:ak}(F:Fun K "__init__" "Cuts.__init__" qZ f fd)(hcd:fd.code= .ref c)(CH:df K c T1=true)(B:BM mg base)(ne:T0≠T1)(T:Nm mg)(T2:Nt mg)(ms:mg "sorted" =none)(CC:CutC K C)
  (G1:Fn K mg "rings_of" sRingsO pza f1 fd1) (F1:cO P w K mg base CX0 8 f1 fd1 pza (spRingsO T0 p0 q0))
  (G2:Fn K mg "rings_over" sOverR pzx f2 fd2) (G3:Fn K mg "first_bounds" sFirst pza f3 fd3)
  (G4:Fn K mg "forest_of" mh pza f4 fd4) (F4:cO P w K mg base CX0 6 f4 fd4 pza (lJ T0 p0 q0)):cO P w K mg base CX0 9 f fd ["self","net"] (spInitC T0 p0 q0 T1 lpC lqC C):=by
 have F2:cO P w K mg base CX0 1 f2 fd2 pzx spOverR:=ok_overR G2.F;have F3:cO P w K mg base CX0 1 f3 fd3 pza spFirst:=ok_first G3.F T;apply okC F hcd scInitC (by contradiction) (fun A outer s H vs Q E hr h=>?_);obtain ⟨x,dx,v,b,m,sp,rfl,hx,hv,N,hT0,hT1,k⟩:=h;have hr1:ik 1 _:=hr.mono ↥0;have hr6:ik 6 _:=hr.mono ↥0;have E:=N.ends;have few:=N.few;have m1:=N.m1;have m2:=N.m2;apply ⟨_,PSl.h (ba ⟨(psZ 2 scInitC.nd (pc1 G1 F1 hr (ag (pv 1) aD)))⟩
  (ba ⟨(psZ 3 scInitC.nd (gW (fr:=["rings"]) (js:=[2]) rfl (gG rfl T2.range (ag (cg bP rfl T.len bD (ag (ixZ (pv 1)) aD)) aD)) ⇑0 rfl ⇑0 rfl (by exists qZ) ⇑0 rfl ⇑0 (fun _ _ _ _ _=>⟨(pc1 G2 F2 hr1 (ag (pv 1) (ag (pv 0) aD))),gU⟩)))⟩
  (ba ⟨(ps_fld (pv 0) (dB (ag (pc1 G3 F3 hr1 (ag (pv 1) aD)) (ag (pv 2) aD))) rfl)⟩
  (ba ⟨(ps_fld (pv 0) (pv 3) rfl)⟩
  (cS ⟨(ps_fld (pv 0) (pe_sortT (js:=[3]) (fr:=["touched"]) (x := "span") (c:=c) (P:=T1) rfl hr.depth rfl ms (pc1 G4 F4 hr6 (ag (pv 1) aD)) rfl rfl CH B (fun _ _ _ _ _ _=>rfl) rfl rfl rfl ⇑0 rfl ↥0 (by exists qZ) rfl ⇑0
   (fun cl L f' cd s' H'=>pe_tup (ag (pe_un qS (cg (lenNC K) rfl T.len bD (ag (fA (r:=rIxL K) gY (pv 1) (pv 0) (fun _ _=>rfl)) aD))) (ag (pv 0) aD)))) rfl)⟩))))),?_⟩
 apply ⟨_,rfl,v,b,m,sp,rfl,hv,N,hT0,fun L rl l rg H1 tb1 hT01 fL hL dL R=>?_⟩;have fr:=R.fr;have xT0:x≠T0:=by obtain ⟨ps,h⟩:=LamT.tbl hT0;exact fR hx h nofun
 have xT1:x≠T1:=by obtain ⟨ps,h⟩:=LamT.tbl hT1;exact fR hx h nofun
 have K1:Kp H H1:=Tb.kp hT0 tb1;have hT11:=LamT.ntb hT1 hT0 (cH ne) tb1;have hx1:=tb1 x _ xT0 hx;have hv1:=cN K1.tup hv;have tl:l.length≤15:=by have:=fr.few E ⋯;lia
 have lrg:rg.length≤40:=by
  have:rg.length=(pX sp l).length:=by rw [←R.ks,aa]
  have h2:(pX sp l).length≤sp.length:=by unfold pX;exact aN (cX _ _) (by rw [aY];exact az _)
  lia
 have lng:∀ q∈rg,q.2.length≤1000:=fun q hq=>by
  have:=((R.rk q hq).rg N tl).few;lia
 have st1:∀ a o,a≠T0→a≠T1→a≠x→H a=some o→H1 a=some o:=fun a o n0 _ _ e=>tb1 a o n0 e
 obtain ⟨t,p,ys,ev,ht,hp,hl,hy⟩:=fJ hv1;subst ev;clear hy hv fL tb1;apply ⟨_,rfl,t,_,_,_,rfl,rfl,SqT.of ht,aS (j:=2) rfl,p,_,rfl,.inr (SqT.of hp),_,rfl,⋯,⋯,?_⟩;apply jM (n:=((ys.length:Int)).toNat) (fun i zs HC=>bG H1 HC∧zs.length=i∧∀ j,j<i→∃ u ql,zs[j]? =some (.ref u)∧HC u=some (.lst ql)∧dW HC ql ((rg.filter (i4 j)).map wayQ)) ⟨bG.refl H1,rfl,fun j hj=>rQ hj (Nat.not_lt_zero _)⟩ (fun i zs HC hi ⟨_,e2,_⟩=>Nat.le_of_eq e2) (d8 ⋯) (fun i zs HC hi ⟨S,lz,dz⟩=>?_) (fun zs HC ⟨S,lz,dz⟩ D hD=>?_)
 ·rw [iq]
  apply fS ⟨_,rfl,_,rfl,L,i,rl,rg,rfl,S _ _ hL,dL.same S,lrg,lng,fun L' rl' H2 S2 f2 h2 d2=>⟨S.trans S2,by rw [au,lz];rfl,fun j hj=>?_⟩⟩
  rcases jA.mp hj with z | z
  ·obtain ⟨u,ql,a1,a2,a3⟩:=dz j z
   exact ⟨u,ql,by rw [cI ⋯];exact a1,S2 _ _ a2,a3.same S2⟩
  ·subst z
   exact ⟨L',rl',by rw [bw ⋯,lz,gJ];rfl,h2,d2⟩
 have S1:bG H1 (upd HC D (.lst zs)):=S.trans (bG.put (bG.refl HC) hD);have tch:TchD (upd HC D (.lst zs)) D sp.length rg:=by
  apply ⟨zs,aV,by rw [lz];lia,fun j hj=>?_⟩;obtain ⟨u,ql,a1,a2,a3⟩:=dz j ⋯;have S2:bG HC (upd HC D (.lst zs)):=bG.put (bG.refl HC) hD;exact ⟨u,ql,a1,S2 _ _ a2,a3.same S2⟩
 generalize upd HC D (.lst zs)=H2 at S1 tch ⊢;clear dz hD;apply ⟨_,rfl,.ref t,b,m,sp,rfl,hv1.same S1,⋯,fun ub H3 S3 hub=>⟨_,rfl,pJ,fun q4 H4 S4 h4=>⟨_,rfl,x,C,dx,_,rfl,S4 _ _ (S3 _ _ (S1 _ _ hx1)),CC.cl,CC.n1,↥0,?_⟩⟩⟩;have S14:bG H1 H4:=S1.trans (S3.trans S4);have cs4:CsD H4 q4 (sp.map fun z=>(z.l,z.o)) rg:=⟨ub,L,rl,h4,hub.same S4,S14 _ _ hL,dL.same S14⟩;have tch4:=tch.kp (bG.kp (S3.trans S4));have hx4:=S14 _ _ hx1;have K4:Kp H4 (upd H4 x (.ins C dx (nM "first_case" (.ref q4) []))):=Kp.upd hx4;have st5:∀ a o,a≠T0→a≠T1→a≠x→H a=some o→(upd H4 x (.ins C dx (nM "first_case" (.ref q4) []))) a=some o:=fun a o n0 n1 n2 e=>by rw [bq n2];exact S14 _ _ (st1 a o n0 n1 n2 e)
 have kp5:Kp H (upd H4 x (.ins C dx (nM "first_case" (.ref q4) []))):=K1.trans ((bG.kp S14).trans K4);have hx5:(upd H4 x (.ins C dx (nM "first_case" (.ref q4) []))) x=some (.ins C dx [("first_case",.ref q4)]):=aV;have hT05:=mR (o:= .ins C dx (nM "first_case" (.ref q4) [])) (LamT.same S14 hT01) hx4;have hT15:=mR (o:= .ins C dx (nM "first_case" (.ref q4) [])) (LamT.same S14 hT11) hx4;have hv5:=cN K4.tup (hv1.same S14);have cs5:=cs4.kp K4;have tch5:=tch4.kp K4;generalize upd H4 x (.ins C dx (nM "first_case" (.ref q4) []))=H5 at st5 kp5 hx5 hT05 hT15 hv5 cs5 tch5 ⊢;clear K4 hx4 tch4 cs4 S14 h4 S4 hub S3 tch S1 ht hp st1 hv1 hT11 hT01 hx1 K1 dL hL;apply ⟨_,rfl,_,rfl,x,C,dx,_,rfl,hx5,CC.cl,CC.n2,(by show 1<1000;decide),?_⟩;have K5:Kp H5 (upd H5 x (.ins C dx (nM "touched" (.ref D) [("first_case",.ref q4)]))):=Kp.upd hx5;have st6:∀ a o,a≠T0→a≠T1→a≠x→H a=some o→(upd H5 x (.ins C dx (nM "touched" (.ref D) [("first_case",.ref q4)]))) a=some o:=fun a o n0 n1 n2 e=>by rw [bq n2];exact st5 a o n0 n1 n2 e
 have kp6:=kp5.trans K5;have hx6:(upd H5 x (.ins C dx (nM "touched" (.ref D) [("first_case",.ref q4)]))) x=some (.ins C dx [("first_case",.ref q4),("touched",.ref D)]):=aV;have hT06:=mR (o:= .ins C dx (nM "touched" (.ref D) [("first_case",.ref q4)])) hT05 hx5;have hT16:=mR (o:= .ins C dx (nM "touched" (.ref D) [("first_case",.ref q4)])) hT15 hx5;have hv6:=cN K5.tup hv5;have cs6:=cs5.kp K5;have tch6:=tch5.kp K5;generalize upd H5 x (.ins C dx (nM "touched" (.ref D) [("first_case",.ref q4)]))=H6 at st6 kp6 hx6 hT06 hT16 hv6 cs6 tch6 ⊢;clear K5 st5 kp5 hx5 hT05 hT15 hv5 cs5 tch5;apply ⟨_,rfl,.ref t,b,m,sp,rfl,hv6,N,hT06,fun u H7 ns tb7 hT07 hu F0=>?_⟩;obtain ⟨l',π0,rfl,O0,pm0⟩:=F0.natsF;have el:l'=l:=jD.one (m:=m.toNat) (sp:=sp) ⟨F0,π0,O0,pm0⟩ fr;subst el;have K6:Kp H6 H7:=Tb.kp hT06 tb7;have hT17:=LamT.ntb hT16 hT06 (cH ne) tb7;have hx7:=tb7 x _ xT0 hx6;have st7:∀ a o,a≠T0→a≠T1→a≠x→H a=some o→H7 a=some o:=fun a o n0 n1 n2 e=>tb7 a o n0 (st6 a o n0 n1 n2 e)
 have kp7:=kp6.trans K6;have cs7:=cs6.kp K6;have tch7:=tch6.kp K6;clear K6 st6 kp6 hx6 hT06 hT16 hv6 cs6 tch6 tb7;have hlt:=(fr.pots E).nodup.2;have hnd:=(fr.pots E).nodup.1;have lns:(l'.map fun (i:Nat)=>(i:Int)).length=l'.length:=aa ..;have gns:∀ i,i<l'.length→(l'.map fun (i:Nat)=>(i:Int)).getD i 0=((l'.getD i 0:Nat):Int):=fun i hi=>by
  rw [af,ax,af,gE hi];rfl
 apply ⟨u,l'.map fun (i:Nat)=>(i:Int),fun i=>(-(((rg.filter (i4 (l'.getD i 0))).length:Nat):Int),((l'.getD i 0:Nat):Int)),rfl,hu,by rw [lns];lia,hT17,?_,fun i hi H8 tb8=>?_,fun D2 H8 π tb8 hT18 f8 pm8 _=>?_⟩
 ·apply List.Pairwise.of_map (S:=fun a c:Int=>a≠c) Prod.snd (fun a c h e=>h (by rw [e])) ?_
  rw [cY,lns];have e:(aJ l'.length).map (Prod.snd ∘ fun i=>(-(((rg.filter (i4 (l'.getD i 0))).length:Nat):Int),((l'.getD i 0:Nat):Int)))=l'.map fun (i:Nat)=>(i:Int):=by
   apply List.ext_getElem (by rw [aa,aa,aY]) fun i h1 h2=>?_
   rw [aa,aY] at h1;rw [j9,kY,j9];show ((l'.getD i 0:Nat):Int)=_;rw [af,gE h1];rfl
  rw [e,gB];exact (bY.mp hnd).imp fun hh e=>hh ⋯
 ·rw [lns] at hi
  rw [gns i hi];obtain ⟨tv,a1,a2,a3⟩:=tch7.ex;have hk:l'.getD i 0<sp.length:=by
   rw [af,gE hi];exact hlt _ (bb hi)
  obtain ⟨uu,ql,b1,b2,b3⟩:=a3 _ hk;have K8:Kp H7 H8:=Tb.kp hT17 tb8;have lq:ql.length=(rg.filter (i4 (l'.getD i 0))).length:=by rw [b3.length,aa]
  apply ⟨_,rfl,_,rfl,D,_,_,_,rfl,rfl,SqL.of (K8.lst _ _ a1),aS b1,uu,_,rfl,.inl (SqL.of (K8.lst _ _ b2)),_,rfl,_,rfl,pJ,fun a9 h9=>⟨bG.put (bG.refl H8) h9,a9,rfl,?_⟩⟩;rw [aV,lq]
 ·have K8:Kp H7 H8:=Tb.kp hT17 tb8
  have S9:bG H8 (upd H8 D2 (.lst (π.map fun (i:Nat)=>V.int ((l'.map fun (i:Nat)=>(i:Int)).getD i 0)))):=bG.put (bG.refl H8) f8;have h9:(upd H8 D2 (.lst (π.map fun (i:Nat)=>V.int ((l'.map fun (i:Nat)=>(i:Int)).getD i 0)))) D2=some (.lst ((π.map fun i=>l'.getD i 0).map fun (i:Nat)=>V.int i)):=by
   rw [aV,cY];congr 2;apply gZ fun i hi=>?_
   have:=bT.mp (pm8.mem_iff.mp hi);rw [lns] at this;rw [gns i this];rfl
  generalize upd H8 D2 (.lst (π.map fun (i:Nat)=>V.int ((l'.map fun (i:Nat)=>(i:Int)).getD i 0)))=H9 at S9 h9 ⊢;have hx9:=S9 _ _ (tb8 x _ xT1 hx7);apply ⟨_,rfl,x,C,dx,_,rfl,hx9,CC.cl,CC.n3,(by show 2<1000;decide),?_⟩;have K9:Kp H7 H9:=K8.trans (bG.kp S9);have hT08:=LamT.same S9 (LamT.ntb hT07 hT17 ne tb8);have hT19:=LamT.same S9 hT18;have KX:Kp H9 (upd H9 x (.ins C dx (nM "order" (.ref D2) [("first_case",.ref q4),("touched",.ref D)]))):=Kp.upd hx9;apply k l' rg _ (fun a o n0 n1 n2 e=>?_) (kp7.trans (K9.trans KX)) (mR hT08 hx9) (mR hT19 hx9) R ⟨dx,q4,D,D2,_,aV,(cs7.kp K9).kp KX,(tch7.kp K9).kp KX,KX.lst _ _ h9,ord_perm (by rw [lns] at pm8;exact pm8)⟩;rw [bq n2];exact S9 _ _ (tb8 a o n1 (st7 a o n0 n1 n2 e))
def scSpanC:bW ["self","case","span","bound"] ["self","case"] (defScope sSpanC):=by trivial
def ok_spanC (F:Fun K "span_to_cut" "Cuts.span_to_cut" sSpanC f fd)(CC:CutC K C):cO P w K mg base CX0 1 f fd ["self","case"] (spSpanC C):=by
 specialize F.ok scSpanC;obtain ⟨x,c,sp,l,rg,rs,bs,rfl,hx,hc,hl,few,k1,k2⟩:=h;obtain ⟨dx,c0,tl,ol,ord,h1,h2,h3,h4,h5⟩:=hx.ex;obtain ⟨vb,u,rl,c1,c2,c3,c4⟩:=hc.ex;obtain ⟨pb,yb,rfl,hpb,hlb,rb⟩:=gT c2;apply ⟨_,PSl.h (ba ⟨(iL bH rfl (gH (pe_fld (pv 0) rfl)) (pgZ 2 scSpanC.nd) (PSl.h (ba ⟨(psZ 3 scSpanC.nd (fA fk (ixZ (pv 1)) (pv 2) (fun _ _=>rfl)))⟩
  (cS ⟨(gF (cA op_lt (ixZ (pv 3)) (ixZ (pv 3)) (cP _)) (cw (b9 (pv 2))) dv)⟩))))⟩
  (cS ⟨(b9 oR)⟩)),?_⟩
 apply ⟨_,rfl,x,C,dx,_,_,rfl,h1,CC.cl,CC.n3,rfl,ol,rfl,⟨_,SqL.of h4⟩,?_⟩;apply jx (K:=K) (a:=ol) (xs:=ord.map fun (i:Nat)=>V.int i) (fun i σ H1=>H1=H∧(∀ j∈ord.take i,¬ ((bs.getD j (0,0)).1<(bs.getD j (0,0)).2))∧∃ v2 v3,σ=[some (.ref x),some (.ref c),v2,v3]) ⟨rfl,fun _ h=>rQ h ∅,none,none,rfl⟩ (fun i σ H1 _ ⟨e,_⟩=>by rw [e];exact SqL.of h4) ?_ ?_
 ·rintro i y σ H1 hy ⟨rfl,hal,v2,v3,rfl⟩
  obtain ⟨j,hj,rfl⟩:=mapI_at hy;have hm:j∈ord:=aW hj;have hjl:=h5.mem_iff.mp hm;have hjb:=hl j hjl;obtain ⟨q,hq,hq2⟩:=jb rb (gE hjb);have e0:bs.getD j (0,0)=bs[j]:=by rw [af,gE hjb];rfl
  apply ⟨_,rfl,c,_,_,_,rfl,rfl,SqT.of c1,aS (j:=0) rfl,_,rfl,pb,_,_,_,rfl,rfl,SqT.of hpb,aS (j:=j) hq,?_⟩;apply ⟨_,rfl,q,_,_,_,rfl,rfl,SqT.of hq2,aS (j:=0) rfl,_,rfl,q,_,_,_,rfl,rfl,SqT.of hq2,aS (j:=1) rfl,_,_,rfl,rfl,_,rfl,?_⟩;show if decide (bs[j].1<bs[j].2)=true then _ else _;apply rp (fun hc=>?_) (fun hc=>?_)
  ·exact ⟨_,rfl,k2 j hjl (by rw [e0];exact rT hc)⟩
  ·apply ⟨rfl,fun z hz=>?_,_,_,rfl⟩
   rw [bj,hj] at hz
   rcases aH.mp hz with y | y
   ·exact hal z y
   ·rw [aw.mp (show z∈[j] from y),e0]
    exact fun w=>hc (rR w)
 ·rintro σ H1 ⟨rfl,hal,v2,v3,rfl⟩
  rw [aa,bp] at hal;exact k1 fun j hj=>hal j (h5.mem_iff.mpr hj)
def o9:bW ["self","case","span","at","bounds","one","other"] pzH (defScope sSidesC):=by trivial
theorem ok_sidesC (F:Fun K "sides" "Cuts.sides" sSidesC f fd)(CC:CutC K C)(G1:Fn K mg "with_bound" sWithB pzm f1 fd1):cO P w K mg base CX0 2 f fd pzH (spSidesC C):=by
 have F1:cO P w K mg base CX0 1 f1 fd1 pzm spWithB:=ok_withB G1.F;specialize F.ok o9;obtain ⟨Hb,x,c,n,a,sp,l,rg,rs,bs,rfl,Sb,hx,hc,hn,lb,few,k⟩:=h;obtain ⟨dx,c0,tl,ol,ord,h1,h2,h3,h4,h5⟩:=hx.ex;obtain ⟨tv,t1,t2,t3⟩:=h3.ex;obtain ⟨u,ql,b1,b2,b3⟩:=t3 n ⋯;obtain ⟨vb,u0,rl,c1,c2,c3,c4⟩:=hc.ex;obtain ⟨pb,yb,rfl,hpb,hlb,rb⟩:=gT c2;obtain ⟨qn,hqn,hqn2⟩:=jb rb (gE hn);have e0:bs.getD n (0,0)=bs[n]:=by rw [af,gE hn];rfl
 have e1:kW bs n a=bs.set n (bs[n].1,a):=by unfold kW;rw [e0]
 have e2:eC bs n a=bs.set n (a+1,bs[n].2):=by unfold eC;rw [e0]
 apply ⟨_,PSl.h (ba ⟨(psZ 4 o9.nd (ixZ (pv 1)))⟩
  (ba ⟨(psZ 5 o9.nd (pc1 G1 F1 hr (ag (pv 4) (ag (pv 2) (ag (ixZ (fA fk (pv 4) (pv 2) (fun _ _=>rfl))) (ag (pv 3) aD))))))⟩
  (ba ⟨(psZ 6 o9.nd (pc1 G1 F1 hr (ag (pv 4) (ag (pv 2) (ag (c9 iC (pv 3) bI) (ag (ixZ (fA fk (pv 4) (pv 2) (fun _ _=>rfl))) aD))))))⟩
  (cS ⟨(b9 (jv (ag (dB (ag (pv 6) (ag (fA gY (pe_fld (pv 0) rfl) (pv 2) (fun _ _=>rfl)) aD))) (ag (dB (ag (pv 5) (ag (fA gY (pe_fld (pv 0) rfl) (pv 2) (fun _ _=>rfl)) aD))) aD))))⟩)))),?_⟩
 apply ⟨_,rfl,c,_,_,_,rfl,rfl,SqT.of c1,aS (j:=0) rfl,?_⟩;apply ⟨_,rfl,_,rfl,_,rfl,_,rfl,pb,_,_,_,rfl,rfl,SqT.of hpb,aS (j:=n) hqn,qn,_,_,_,rfl,rfl,SqT.of hqn2,aS (j:=0) rfl,_,rfl,.ref pb,n,bs[n].1,a,bs,rfl,c2,hn,few,fun u1 H1 S1 hu1=>?_⟩;apply ⟨_,rfl,_,rfl,_,rfl,_,_,rfl,rfl,_,rfl,_,rfl,pb,_,_,_,rfl,rfl,SqT.of (S1 _ _ hpb),aS (j:=n) hqn,qn,_,_,_,rfl,rfl,SqT.of (S1 _ _ hqn2),aS (j:=1) rfl,.ref pb,n,a+1,bs[n].2,bs,rfl,c2.same S1,hn,few,fun u2 H2 S2 hu2=>?_⟩;have S02:=S1.trans S2;have Sb2:=Sb.trans S02;apply ⟨_,rfl,_,rfl,x,C,dx,_,_,rfl,Sb2 _ _ h1,CC.cl,CC.n2,rfl,_,rfl,tl,_,_,_,rfl,rfl,SqL.of (Sb2 _ _ t1),aS b1,pJ,fun q3 H3 S3 h3'=>?_⟩;apply ⟨_,rfl,_,rfl,x,C,dx,_,_,rfl,S3 _ _ (Sb2 _ _ h1),CC.cl,CC.n2,rfl,_,rfl,tl,_,_,_,rfl,rfl,SqL.of (S3 _ _ (Sb2 _ _ t1)),aS b1,pJ,fun q4 H4 S4 h4'=>?_⟩;apply ⟨pJ,fun L hL=>?_⟩;have S5:bG H4 (upd H4 L (.lst [.ref q3,.ref q4])):=bG.put (bG.refl H4) hL;have S25:=S3.trans (S4.trans S5);apply k L q3 q4 _ (S02.trans S25) (bG.free (S02.trans (S3.trans S4)) hL) aV ⟨u2,u,ql,S5 _ _ (S4 _ _ h3'),?_,b2,b3⟩ ⟨u1,u,ql,S5 _ _ h4',?_,b2,b3⟩
 ·rw [e2];exact hu2.same S25
 ·rw [e1];exact (hu1.same S2).same S25
abbrev sTabF:cL:=top 51
def CutD.move {x:ak}{rg:List (Nat×List Stp)}(a:CutD H C x sp l rg)(e:Kp H H')(hx:∀ o,H x=some o→H' x=some o):CutD H' C x sp l rg:=by
 obtain ⟨dx,c0,tl,ol,ord,h1,h2,h3,h4,h5⟩:=a.ex;exact ⟨dx,c0,tl,ol,ord,hx _ h1,h2.kp e,h3.kp e,e.lst _ _ h4,h5⟩
structure CutK (P:aX)(w:bC)(K:ar)(mg:Str→Option ae)(base:bL)(T0:ak)(p0:Pos)(q0:Str)(T1:ak)(p1:Pos)(q1:Str)(C fi g1 g2:ak)(di d1 d2:bh):Prop where
 cc:CutC K C
 mke:Mk K C fi
 gl:mg "Cuts" =some (.ref C)
 ini:cO P w K mg base CX0 9 fi di ["self","net"] (spInitC T0 p0 q0 T1 p1 q1 C)
 bi:oO K di ["self","net"] []
 m1:Meth K C "span_to_cut" g1
 f1:cO P w K mg base CX0 1 g1 d1 ["self","case"] (spSpanC C)
 b1:oO K d1 ["self","case"] []
 m2:Meth K C "sides" g2
 f2:cO P w K mg base CX0 2 g2 d2 pzH (spSidesC C)
 b2:oO K d2 pzH []
def pT:bW ["net","most","cuts","steps","tables","ahead","case","span"] pzn (defScope sTabF):=by trivial
theorem ok_tabF {f5 fi g1 g2:ak}{di d1 d2:bh}(F:Fun K "tables_that_fit" "tables_that_fit" sTabF f fd)(T:Nm mg)(ne:T0≠T1)(CK:CutK P w K mg base T0 p0 q0 T1 p1 q1 C fi g1 g2 di d1 d2)
  (G2:Fn K mg "spread_of" sSpread pza f2 fd2) (F2:cO P w K mg base CX0 7 f2 fd2 pza (spSpread T0 p0 q0))
  (G3:Fn K mg "dead_leaf" sDeadL pzl f3 fd3) (F3:cO P w K mg base CX0 4 f3 fd3 pzl spDeadL)
  (G4:Fn K mg "table_by" sTabBy pzF f4 fd4) (F4:cO P w K mg base CX0 2 f4 fd4 pzF spTabBy)
  (G5:Fn K mg "middle_of" sMid pzt f5 fd5):cO P w K mg base CX0 11 f fd pzn (spTabF T0 p0 q0 T1 p1 q1):=by
 have F5:cO P w K mg base CX0 1 f5 fd5 pzt spMid:=ok_mid G5.F;specialize F.ok pT;obtain ⟨v,b,m,sp,most,rfl,hv,N,hmost,hcases,hT0,hT1,k⟩:=h;have hr1:ik 1 _:=hr.mono ↥0;have hr2:ik 2 _:=hr.mono ↥0;have hr4:ik 4 _:=hr.mono ↥0;have hr7:ik 7 _:=hr.mono ↥0;have E:=N.ends;have nfew:=N.few;have m1:=N.m1;have m2:=N.m2;have nb1:=N.b1;apply ⟨_,PSl.h (ba ⟨(psZ 2 pT.nd (pe_make CK.mke CK.ini hr rfl CK.gl CK.bi .nil pass0 (ag (pv 0) aD)))⟩
  (ba ⟨(psZ 3 pT.nd (pc1 G2 F2 hr7 (ag (pv 0) aD)))⟩
  (ba ⟨(psZ 4 pT.nd (jv aD))⟩
  (ba ⟨(psZ 5 pT.nd (jv (ag (pe_fld (pv 2) rfl) aD)))⟩
  (ba ⟨(mM bH (PW.pt (pw_and (cA op_gt (cg bP rfl T.len bD (ag (pv 5) aD)) bI (cP _)) (pw_and1 (cA op_lt (cg bP rfl T.len bD (ag (pv 4) aD)) (pv 1) (cP _))))) (PSl.h (ba ⟨(psZ 6 pT.nd (p8 bf fh fg qe (pv 5)))⟩
  (cS ⟨(gF (cA op_isN (pc1 G3 F3 hr4 (ag (pv 0) (ag (pv 6) aD))) oR (cP _)) (PSl.h (ba ⟨(psZ 7 pT.nd (pe_meth (pv 2) CK.cc.cl CK.m1 CK.f1 hr1 CK.b1 .nil pass0 (ag (pv 6) aD)))⟩
  (cS ⟨(gF (cA op_isN (pv 7) oR (cP _)) (cw (iB (l7 bf bR bQ gc (pv 4) (ag (pc1 G4 F4 hr2 (ag (pv 0) (ag (pv 3) (ag (ixZ (pv 6)) aD)))) aD)))) (cw (iB (l7 bf PySem.F.slot_list_extend PySem.F.type_list_extend mt_extend (pv 5) (ag (pe_meth (pv 2) CK.cc.cl CK.m2 CK.f2 hr2 CK.b2 .nil pass0 (ag (pv 6) (ag (pv 7) (ag (pc1 G5 F5 hr1 (ag (pv 6) (ag (pv 7) aD))) aD)))) aD)))))⟩))) dv)⟩))))⟩
  (cS ⟨(b9 (pv 4))⟩)))))),?_⟩
 apply ⟨_,rfl,fun x dx hx hdx nxd=>?_⟩;have S0:bG H (upd (upd H dx (.own x)) x (.ins C dx [])):=by
  have Sa:bG H (upd H dx (.own x)):=bG.put (bG.refl H) hdx;exact bG.put Sa (by rw [bq (cH nxd)];exact hx)
 have hx0:(upd (upd H dx (.own x)) x (.ins C dx [])) x=some (.ins C dx []):=aV;generalize upd (upd H dx (.own x)) x (.ins C dx [])=H0 at S0 hx0 ⊢;apply ⟨x,dx,v,b,m,sp,rfl,hx0,hv.same S0,N,LamT.same S0 hT0,LamT.same S0 hT1,fun l rg H1 st1 kp1 hT01 hT11 R cd1=>⟨rfl,?_⟩⟩;have f:=R.ff N;have fr:=R.fr;have lrg:rg.length≤40:=by
  have:rg.length=(pX sp l).length:=by rw [←R.ks,aa]
  have h2:(pX sp l).length≤sp.length:=by unfold pX;exact aN (cX _ _) (by rw [aY];exact az _)
  lia
 have tl:l.length≤15:=by have:=fr.few E ⋯;lia
 have hlt:=f.acy.nodup.2;have st1':∀ a o,a≠T0→a≠T1→H a=some o→H1 a=some o:=fun a o n0 n1 e=>st1 a o n0 n1 (bF e hx) (S0 _ _ e)
 have kp1':Kp H H1:=(bG.kp S0).trans kp1;have hv1:=cN kp1'.tup hv;apply ⟨_,rfl,v,b,m,sp,rfl,hv1,N,hT01,fun Ls zsS l' S H2 tb2 hT02 fLs hLs dS fr' SO=>?_⟩;have el:l'=l:=jD.one fr' fr;subst el;have kp2:Kp H1 H2:=Tb.kp hT01 tb2;have hT12:=LamT.ntb hT11 hT01 (cH ne) tb2;have cd2:CutD H2 C x sp l' rg:=cd1.move kp2 fun o e=>tb2 x o (by
  obtain ⟨_,_,_,_,_,h1,_⟩:=cd1.ex;obtain ⟨ps,h⟩:=LamT.tbl hT01;exact fR h1 h nofun) e
 have st2:∀ a o,a≠T0→a≠T1→H a=some o→H2 a=some o:=fun a o n0 n1 e=>tb2 a o n0 (st1' a o n0 n1 e)
 have kp2':=kp1'.trans kp2;have hv2:=cN kp2.tup hv1;clear kp2 tb2 cd1 hT01 hT11 hv1 kp1' st1' kp1 st1 hv S0 fr' hx0;obtain ⟨dx',c0,tl',ol,ord,h1,h2,h3,h4,h5⟩:=cd2.ex;apply ⟨bo _,fun Lt hLt=>?_⟩;have S3:bG H2 (upd H2 Lt (.lst [])):=bG.put (bG.refl H2) hLt;have hLt3:(upd H2 Lt (.lst [])) Lt=some (.lst []):=aV;generalize upd H2 Lt (.lst [])=H3 at S3 hLt3 ⊢;apply ⟨_,rfl,x,C,dx',_,_,rfl,S3 _ _ h1,CK.cc.cl,CK.cc.n1,rfl,szZ1,fun Ah hAh=>?_⟩;have hAh2:H2 Ah=none:=bG.free S3 hAh;have nLA:Lt≠Ah:=fun z=>by rw [←z,hLt3] at hAh;cases hAh
 have S4:bG H3 (upd H3 Ah (.lst [.ref c0])):=bG.put (bG.refl H3) hAh;have hAh4:(upd H3 Ah (.lst [.ref c0])) Ah=some (.lst [.ref c0]):=aV;generalize upd H3 Ah (.lst [.ref c0])=H4 at S4 hAh4 ⊢;have S24:=S3.trans S4;have cl4:CsL H2 H4 [.ref c0] [(sp.map fun z=>(z.l,z.o),rg)]:=by
  obtain ⟨vb,u,rl,a1,a2,a3,a4⟩:=h2.ex;exact .cons ⟨c0,rfl,vb,u,rl,S24 _ _ a1,a2.same S24,a3,a4⟩ .nil
 have sz0:szC l' [(sp.map fun z=>(z.l,z.o),rg)]≤8191:=by
  have e:=lO l' hlt fun y hy=>(N.all y hy).lo
  have:=hcases l' fr;show (2 * fI (sp.map fun z=>(z.l,z.o)) l' - 1)+0≤8191;lia
 apply ⟨fun n σ Hc=>∃ (cs:List Cse) (Ts:List (List Int)) (zs tv:List V) (w6 w7:Option V),n=szC l' cs∧n≤8191∧σ=[some v,some (.int (most:Nat)),some (.ref x),some (.ref Ls),some (.ref Lt),some (.ref Ah),w6,w7]∧bG H2 Hc∧Hc Ah=some (.lst zs)∧CsL H2 Hc zs cs∧Hc Lt=some (.lst tv)∧dW Hc tv (de id Ts)∧SrcI b m sp l' rg cs Ts∧Ts.length≤most,⟨_,_,[],_,[],_,_,rfl,sz0,rfl,S24,hAh4,cl4,S4 _ _ hLt3,.nil,SrcI.start N lrg,bo _⟩,?_⟩;clear cl4 hAh4 S4 S24 hLt3 S3 hAh sz0;rintro n σ Hc ⟨cs,Ts,zs,tv,w6,w7,rfl,n8,rfl,Sc,hAc,clc,hLc,dtv,I,hTs⟩;have lzs:zs.length=cs.length:=Paired.len clc;have ltv:tv.length=Ts.length:=by rw [dtv.length];unfold de;rw [aa]
 have lcs:=szC_len hlt cs I.ok;have pF:fI (sp.map fun z=>(z.l,z.o)) l'≤4096:=by
  have e:=lO l' hlt fun y hy=>(N.all y hy).lo
  have:=hcases l' fr;lia
 have fin:(Ts.length<most∨most=4096→cs=[])→Q (.ref Lt) Hc:=fun he=>k Lt tv l' rg Ts Hc (fun a o n0 n1 e=>Sc _ _ (st2 a o n0 n1 e)) (kp2'.trans (bG.kp Sc)) (LamT.same Sc hT02) (LamT.same Sc hT12) hLc dtv R I.tabs hTs fun lt T hT=>by
  rcases I.hold T hT with h | ⟨c,hc,_⟩
  ·exact h
  ·rw [he lt] at hc;cases hc
 apply ⟨_,rfl,Ah,_,rfl,.inl (SqL.of hAc),_,_,rfl,rfl,_,rfl,?_⟩
 rcases List.eq_nil_or_concat cs with rfl | ⟨cs',c,rfl⟩
 ·have:zs=[]:=dJ.mp lzs
  subst this;apply kL (by rfl) (iteF ⟨_,rfl,fin fun _=>rfl⟩)
 rw [List.concat_eq_append] at *;obtain ⟨zs',y,rfl,clc',q,rfl,ce⟩:=Paired.snoc_of clc;apply ow (rR (by rw [au];show ((zs'.length+1:Nat):Int) > 0;lia)) ?_;apply ⟨_,rfl,Lt,_,rfl,.inl (SqL.of hLc),_,rfl,_,_,rfl,rfl,_,rfl,?_⟩
 by_cases hlm:Ts.length<most
 rotate_left
 ·exact kL (rS ⋯) ⟨_,rfl,fin fun z=>rQ z fun z=>by
   rcases z with z | z
   ·exact hlm z
   ·have h0:=I.cnt
    rw [pY] at h0;have h1:=jr (I.ok c ∅).ob hlt;have e1:psC l' [c]=fI c.1 l'+0:=rfl;lia⟩
 apply ow (rR ⋯) ⟨_,fun σ' H' z=>z,?_⟩;apply ⟨_,rfl,.inl ⟨rfl,_,SqL.of hAc⟩,Ah,_,.ref q,rfl,rfl,hAc,by rw [au,bw ∅];simp,?_⟩;rw [fO];have K5:kg Hc (upd Hc Ah (.lst zs')):=eO hAc;have S5:bG H2 (upd Hc Ah (.lst zs')):=fun a o e=>by rw [bq (bF e hAh2)];exact Sc _ _ e
 have hA5:(upd Hc Ah (.lst zs')) Ah=some (.lst zs'):=aV;have hL5:(upd Hc Ah (.lst zs')) Lt=some (.lst tv):=by rw [bq nLA];exact hLc
 have cl5:=CsL.keep K5 (show CsL H2 Hc zs' cs' from clc');have ce5:=ce.keep K5;have dtv5:=dk K5 dtv;generalize upd Hc Ah (.lst zs')=H5 at K5 S5 hA5 hL5 cl5 ce5 dtv5 ⊢;have C:=I.ok c ∅;have less:=I.less f;have lcs':cs'.length+1≤8191:=by rw [au] at lcs;show cs'.length+[c].length≤8191;lia
 have lz':zs'.length=cs'.length:=Paired.len cl5;clear clc clc' ce hAc hLc dtv K5 lzs fin;apply ⟨_,rfl,_,rfl,v,q,b,m,sp,c.1,c.2,rfl,hv2.same S5,⋯,by have:=N.b2;lia,ce5.dn S5,C.few,fun z hz=>by rw [C.ob.len];exact ((f.rk z (C.sub z hz)).rg N tl).inn,fun r H6 S6 hd=>⟨rfl,_,rfl,?_⟩⟩;have S26:=S5.trans S6;have hA6:=S6 _ _ hA5;have hL6:=S6 _ _ hL5;have ce6:=ce5.keep (bG.tupK S6);have cl6:=CsL.keep (bG.tupK S6) cl5;have dtv6:=dtv5.same S6;clear ce5 cl5 dtv5 hA5 hL5
 rcases hd with ⟨rfl,al⟩ | ⟨z,hz,dz,hdz⟩
 rotate_left
 ·have:r≠ .non:=fun e=>by rw [e] at dz;cases dz
  apply kL (rS this) ?_;exact ⟨_,less,cs',Ts,zs',tv,_,_,rfl,⋯,rfl,S26,hA6,cl6,hL6,dtv6,I.dead N f hz hdz,hTs⟩
 apply ow (rR rfl) ?_;apply ⟨_,rfl,x,dx',_,rfl,S26 _ _ h1,rfl,_,rfl,x,q,sp,l',rg,c.2,c.1,rfl,cd2.same S26,ce6.dn S26,fun j hj=>by rw [C.ob.len];exact hlt j hj,⋯,fun fx=>?_,fun j hj hlj=>?_⟩
 ·apply ⟨_,rfl,rfl,_,rfl,ow (rR rfl) ?_⟩
  obtain ⟨vb,u,rl,a1,a2,a3,a4⟩:=ce6.ex;apply ⟨_,rfl,.inl ⟨rfl,_,SqL.of hL6⟩,_,rfl,_,rfl,_,rfl,q,_,_,_,rfl,rfl,SqT.of a1,aS (j:=0) rfl,v,vb,Ls,b,m,sp,c.1,zsS,S,rfl,hv2.same S26,⋯,⋯,m2,E,S26 _ _ hLs,dS.same S26,by have:=SO.len;lia,fun s' hs'=>⟨hlt _ (SO.inn s' hs').1,(SO.inn s' hs').2⟩,a2,C.ob.len,fun qt H7 S7 h7=>?_⟩;apply ⟨Lt,_,_,rfl,rfl,S7 _ _ hL6,bX (m:=4096) ⋯ ↥0,?_⟩;have K8:kg H7 (upd H7 Lt (.lst (tv++[.ref qt]))):=eO (S7 _ _ hL6);apply ⟨_,less,cs',Ts++[tabOf b sp c.1 m.toNat S],zs',tv++[.ref qt],_,_,rfl,⋯,rfl,fun a o e=>?_,?_,CsL.keep K8 (CsL.keep (bG.tupK S7) cl6),aV,?_,I.leaf N f SO al fx,by rw [au];exact hlm⟩
  ·rw [bq (bF e hLt)];exact S7 _ _ (S26 _ _ e)
  ·rw [bq (cH nLA)];exact S7 _ _ hA6
  ·apply dk K8 ?_
   unfold de;rw [aE];exact (dtv6.same S7).append (.cons (.tup h7 (dW.ints _)) .nil)
 ·apply ⟨_,rfl,rfl,_,rfl,kL (rS nofun) ?_⟩
  have hjb:j<c.1.length:=by rw [C.ob.len];exact hlt j hj
  apply ⟨_,rfl,.inl ⟨rfl,_,SqL.of hA6⟩,_,rfl,x,dx',_,rfl,S26 _ _ h1,rfl,_,rfl,_,rfl,_,rfl,_,rfl,q,j,c.1,c.2,rfl,ce6.dn S26,hjb,?_⟩;obtain ⟨a,ha⟩:∃ a,a=((c.1.getD j (0,0)).1+(c.1.getD j (0,0)).2) / 2:=⟨_,rfl⟩;rw [←ha];apply ⟨H2,x,q,j,a,sp,l',rg,c.2,c.1,rfl,S26,cd2,ce6.dn S26,hjb,C.ob.len,by rw [C.ob.len];exact nfew,fun L q1 q2 H7 S7 fL hL e1 e2=>?_⟩;have nLA2:L≠Ah:=fun z=>by rw [z,hA6] at fL;cases fL
  apply ⟨Ah,L,_,_,rfl,rfl,S7 _ _ hA6,hL,aN (m:=10000) (by show zs'.length+2≤10000;lia) ↥0,?_⟩;have K8:kg H7 (upd H7 Ah (.lst (zs'++[.ref q1,.ref q2]))):=eO (S7 _ _ hA6);obtain ⟨I',less'⟩:=I.cut N f lrg al hj (a:=a) ⋯ ⋯;apply ⟨_,less',_,Ts,_,tv,_,_,rfl,⋯,rfl,fun a o e=>?_,aV,?_,?_,dk K8 (dtv6.same S7),I',hTs⟩
  ·rw [bq (bF e hAh2)];exact S7 _ _ (S26 _ _ e)
  ·exact Paired.app (CsL.keep K8 (CsL.keep (bG.tupK S7) cl6)) (.cons ⟨q1,rfl,e1.keep K8⟩ (.cons ⟨q2,rfl,e2.keep K8⟩ .nil))
  ·rw [bq nLA];exact S7 _ _ hL6
abbrev sTreeF:cL:=top 52
def pS:bW ["marks","trees","mark","one","other"] ["marks"] (defScope sTreeF):=by trivial
theorem ok_treeF (F:Fun K "tree_from" "tree_from" sTreeF f fd)(RV:mg "reversed" =none):cO P w K mg base CX0 1 f fd ["marks"] spTreeF:=by
 specialize F.ok pS;obtain ⟨L,ys,ms,t,rfl,hL,dys,ems,hlw,few,k⟩:=h;apply ⟨_,PSl.h (ba ⟨(psZ 1 pS.nd (jv aD))⟩
  (ba ⟨(iL bH rfl (pi_revL rfl RV (ag (pv 0) aD)) (pgZ 2 pS.nd) (cw (gF (cA kD (ixZ (pv 2)) kB (cP _)) (PSl.h (ba ⟨(psZ 3 pS.nd (p8 bf fh fg qe (pv 1)))⟩
  (ba ⟨(psZ 4 pS.nd (p8 bf fh fg qe (pv 1)))⟩
  (cS ⟨(iB (l7 bf bR bQ gc (pv 1) (ag (c9 mw (pv 2) (dB (ag (pv 3) (ag (pv 4) aD)))) aD)))⟩)))) (cw (iB (l7 bf bR bQ gc (pv 1) (ag (pv 2) aD)))))))⟩
  (cS ⟨(b9 (fA gY (pv 1) bI (fun _ _=>rfl)))⟩))),?_⟩
 apply ⟨bo _,fun Lt hLt=>?_⟩;have nLL:L≠Lt:=bF hL hLt;have S1:bG H (upd H Lt (.lst [])):=bG.put (bG.refl H) hLt;have h1:(upd H Lt (.lst [])) Lt=some (.lst []):=aV;generalize upd H Lt (.lst [])=H1 at S1 h1 ⊢;have lys:ys.length=ms.length:=by rw [dys.length,aa]
 have tot:ms.reverse.foldl stpT (some [])=some [t]:=by rw [ems];exact stp_pre t []
 apply ⟨_,rfl,L,ys,rfl,SqL.of (S1 _ _ hL),?_⟩;apply for_revL (K:=K) (a:=L) (xs:=ys) (fun i σ H2=>bG H H2∧∃ (zs:List V) (st:List Tq) (v2 v3 v4:Option V),σ=[some (.ref L),some (.ref Lt),v2,v3,v4]∧H2 Lt=some (.lst zs)∧(ms.reverse.take i).foldl stpT (some [])=some st∧dW H2 zs (st.reverse.map kq)∧st.length≤i∧∀ t∈st,pl (kq t)=true) ⟨S1,[],[],none,none,none,rfl,h1,rfl,.nil,az _,fun _ h=>rQ h ∅⟩ (fun i σ H2 _ ⟨S2,_⟩=>SqL.of (S2 _ _ hL)) ?_ ?_
 ·rintro i x σ H2 hx ⟨S2,zs,st,v2,v3,v4,rfl,hz,hst,dz,lst,pls'⟩
  have hi:i<ys.length:=by have:=(ao.mp hx).1;rwa [d7] at this
  have hm:ms.reverse[i]? =some (ms.reverse[i]'(by rw [d7];lia)):=gE _;obtain ⟨mk,hmk⟩:∃ mk,ms.reverse[i]? =some mk:=⟨_,hm⟩;clear hm;have dx:IsD H2 x (mrkD mk):=by
   have hj:ys.length - 1 - i<ys.length:=by lia
   rw [List.getElem?_reverse ⋯] at hx;rw [List.getElem?_reverse ⋯] at hmk;obtain ⟨y,hy,dy⟩:=(dys.same S2).at (i:=ys.length - 1 - i) (d:=mrkD mk) (by rw [ax,lys,hmk];rfl);rw [hx] at hy;cases hy;exact dy
  obtain ⟨st',est,est2⟩:=stp_at tot hmk hst;have lzs:zs.length≤10000:=by
   have:=dz.length;rw [aa,d7] at this;lia
  cases mk with
  | leaf d =>
   have e:st'= .leaf d::st:=by
    have:some (Tq.leaf d::st)=some st':=est;cases this;rfl
   subst e;obtain ⟨pd,w1,x1,ed,nw⟩:=hlw d (List.mem_reverse.mp (aW hmk));have dx:IsD H2 x d:=dx;rw [ed] at dx;obtain ⟨q,xs,rfl,hq,rq⟩:=IsD.tup_of dx;cases rq with
   | cons d0 rq =>
    cases d0;apply ⟨_,rfl,q,_,_,_,rfl,rfl,SqT.of hq,aS (j:=0) rfl,rfl,_,rfl,kL (rS (fun z=>nw (by injection z))) ?_⟩;apply ⟨_,rfl,.inl ⟨rfl,_,SqL.of hz⟩,_,rfl,Lt,zs,_,rfl,rfl,hz,(bX lzs ↥0),?_⟩;have KC:kg H2 (upd H2 Lt (.lst (zs++[.ref q]))):=eO hz;apply ⟨fun a o e=>by rw [bq (bF e hLt)];exact S2 _ _ e,zs++[.ref q],_,_,_,_,rfl,aV,est2,?_,by rw [aP];lia,fun t ht=>?_⟩
    ·rw [eZ,aE]
     apply (dW.keepP KC dz (nu _ fun t ht=>pls' t (List.mem_reverse.mp ht))).append (.cons ?_ .nil);rw [←ed] at dx;exact IsD.keepP KC dx pd
    ·rcases aF.mp ht with rfl | ht
     ·exact pd
     ·exact pls' t ht
  | cut kc ac =>
   obtain ⟨x1,y1,s1,rfl,e⟩:∃ x1 y1 s1,st=x1::y1::s1∧st'= .cut kc ac x1 y1::s1:=by
    rcases st with _ | ⟨x1,_ | ⟨y1,s1⟩⟩
    ·cases est
    ·cases est
    ·apply ⟨x1,y1,s1,rfl,?_⟩
     have:some (Tq.cut kc ac x1 y1::s1)=some st':=est;cases this;rfl
   subst e;have dx:IsD H2 x (.tup [.str "cut",.int (kc:Nat),.int ac]):=dx;obtain ⟨q,xs,rfl,hq,rq⟩:=IsD.tup_of dx;obtain rfl:xs=[.str "cut",.int (kc:Nat),.int ac]:=by
    cases rq with
    | cons d0 rq =>
     cases d0;cases rq with
     | cons d1 rq =>
      cases d1;cases rq with
      | cons d2 rq=>cases d2;cases rq;rfl
   rw [eZ,eZ,aE,aE] at dz;obtain ⟨zs1,vx,rfl,dz1,dvx⟩:=dW.snocD dz;obtain ⟨zs2,vy,rfl,dz2,dvy⟩:=dW.snocD dz1;have px:=pls' x1 ∅;have py:=pls' y1 ∅;apply ⟨_,rfl,q,_,_,_,rfl,rfl,SqT.of hq,aS (j:=0) rfl,rfl,_,rfl,ow (rR rfl) ?_⟩;apply ⟨_,rfl,.inl ⟨rfl,_,SqL.of hz⟩,Lt,_,vx,rfl,rfl,hz,by rw [au,bw ∅];simp,?_⟩;rw [fO];have K3:kg H2 (upd H2 Lt (.lst (zs2++[vy]))):=eO hz;have S3:bG H (upd H2 Lt (.lst (zs2++[vy]))):=fun a o e=>by rw [bq (bF e hLt)];exact S2 _ _ e
   have h3:(upd H2 Lt (.lst (zs2++[vy]))) Lt=some (.lst (zs2++[vy])):=aV;generalize upd H2 Lt (.lst (zs2++[vy]))=H3 at K3 S3 h3 ⊢;apply ⟨_,rfl,.inl ⟨rfl,_,SqL.of h3⟩,Lt,_,vy,rfl,rfl,h3,by rw [au,bw ∅];simp,?_⟩;rw [fO];have K4:kg H2 (upd H3 Lt (.lst zs2)):=K3.trans (eO h3);have S4:bG H (upd H3 Lt (.lst zs2)):=fun a o e=>by rw [bq (bF e hLt)];exact S3 _ _ e
   have h4:(upd H3 Lt (.lst zs2)) Lt=some (.lst zs2):=aV;generalize upd H3 Lt (.lst zs2)=H4 at K4 S4 h4 ⊢;apply ⟨_,rfl,.inl ⟨rfl,_,SqL.of h4⟩,_,rfl,_,rfl,_,rfl,pJ,fun q5 H5 S5 h5=>?_⟩;apply ⟨q,q5,_,_,rfl,rfl,S5 _ _ (K4 _ _ hq),h5,szZ5,fun q6 H6 S6 h6=>?_⟩;have S46:=S5.trans S6;apply ⟨Lt,zs2,_,rfl,rfl,S46 _ _ h4,(bX (by rw [au,au] at lzs;lia:zs2.length≤10000) ↥0),?_⟩;have K26:kg H2 H6:=fun a xs e=>S46 _ _ (K4 _ _ e)
   have KC:kg H6 (upd H6 Lt (.lst (zs2++[.ref q6]))):=eO (S46 _ _ h4);have K2C:=K26.trans KC;apply ⟨fun a o e=>by rw [bq (bF e hLt)];exact S46 _ _ (S4 _ _ e),zs2++[.ref q6],_,_,_,_,rfl,aV,est2,?_,by simp only [aP] at lst ⊢;lia,fun t ht=>?_⟩
   ·rw [eZ,aE]
    apply (dW.keepP K2C dz2 (nu _ fun t ht=>pls' t (by simp [List.mem_reverse.mp ht]))).append (.cons ?_ .nil);exact .tup (KC _ _ h6) (.cons (.str _) (.cons (.int _) (.cons (.int _) (.cons (IsD.keepP K2C dvx px) (.cons (IsD.keepP K2C dvy py) .nil)))))
   ·rcases aF.mp ht with rfl | ht
    ·exact pl_cut px py
    ·exact pls' t (by simp [ht])
 ·rintro σ H2 ⟨S2,zs,st,v2,v3,v4,rfl,hz,hst,dz,lst,pls'⟩
  rw [lys,←d7,bp,tot] at hst;cases hst;cases dz with
  | cons d0 dn =>
   cases dn;exact ⟨_,rfl,Lt,_,_,_,rfl,rfl,SqL.of hz,aS (j:=0) rfl,k _ H2 S2 d0⟩
def qQ (T0 T1:ak)(H H':Hp):Prop:=∀ a o,a≠T0→a≠T1→H a=some o→H' a=some o
def qQ.trans (a:qQ T0 T1 H H1)(b:qQ T0 T1 H1 H2):qQ T0 T1 H H2:=fun x o n0 n1 e=>b x o n0 n1 (a x o n0 n1 e)
def bG.stayT (a:bG H H'):qQ T0 T1 H H':=fun x o _ _ e=>a x o e
inductive spLeafIn (v:V)(b m:Int)(sp:List Sn)(R:List (Int×Int)→Dt→Prop)(vs:List V)(H:Hp)(Q:VK)(_:XK):Prop
 | mk (l:List Nat)(rg:List (Nat×List Stp))(q:ak)(c:Cse)(_:vs=[.ref q])(_:FR m sp l rg)(_:CsD H q c.1 c.2)(_:j5 b sp l rg c)(_:IsD H v (jX b m sp))(_:∀ r H',bG H H'→((∃ d,IsD H' r d∧LeafW d∧R c.1 d)∨(r= .non∧(∀ z∈c.2,jL b c.1 z.2=false)∧∃ k∈l,(c.1.getD k (0,0)).1<(c.1.getD k (0,0)).2))→Q r H')
inductive spTreeBy (P:aX)(w:bC)(K:ar)(mg:Str→Option ae)(base:bL)(T0:ak)(p0:Pos)(q0:Str)(T1:ak)(p1:Pos)(q1:Str)(vs:List V)(H:Hp)(Q:VK)(_:XK):Prop
 | mk (v:V)(g:ak)(b m:Int)(sp:List Sn)(R:List (Int×Int)→Dt→Prop)(_:vs=[v,.ref g])(_:IsD H v (jX b m sp))(_:kl b m sp)(_:(∀ l,jD m.toNat sp l→k5 sp l≤4096))(_:L2.LamT T0 p0 q0 H)(_:L2.LamT T1 p1 q1 H)(_:LmOk P w K mg base 6 g (qQ T0 T1 H) (spLeafIn v b m sp R))(_:∀ (u:V) (t:Tq) (H':Hp),qQ T0 T1 H H'→Kp H H'→L2.LamT T0 p0 q0 H'→L2.LamT T1 p1 q1 H'→IsD H' u (kq t)→pl (kq t)=true→GoodT R t (sp.map fun z=>(z.l,z.o)) 21→siz t≤8191→Q u H')
section
variable {m:Int}{rg:List (Nat×List Stp)}{cs:List Cse}{c:Cse}
theorem sz_cut (f:FF m sp l rg)(lrg:rg.length≤40)(C:j5 b sp l rg c)(al:∀ q∈c.2,jL b c.1 q.2=false){k:Nat}{a:Int}(hk:k∈l)(h1:(c.1.getD k (0,0)).1≤a)(h2:a<(c.1.getD k (0,0)).2)(hc:∀ d∈cs,j5 b sp l rg d) :
  (∀ d∈cs++[(eC c.1 k a,rg.filter (i4 k)),(kW c.1 k a,rg.filter (i4 k))],j5 b sp l rg d)∧szC l (cs++[(eC c.1 k a,rg.filter (i4 k)),(kW c.1 k a,rg.filter (i4 k))])<szC l (cs++[c])∧2≤fI c.1 l:=by
 have ht2:=f.acy.nodup.2;obtain ⟨o1,o2⟩:=C.cut lrg ht2 al hk h1 h2;have p1:0<fI (eC c.1 k a) l:=jr o1.ob ht2;have p2:0<fI (kW c.1 k a) l:=jr o2.ob ht2;have e:=nq C.ob f.acy.nodup.1 ht2 hk h1 h2;apply ⟨fun d hd=>?_,?_,⋯⟩
 ·rcases aH.mp hd with z | z
  ·exact hc d z
  ·rcases aF.mp z with rfl | z
   ·exact o1
   ·rw [aw.mp z];exact o2
 ·rw [nc,nc]
  show _+((2 * fI (eC c.1 k a) l - 1)+((2 * fI (kW c.1 k a) l - 1)+0))<_+((2 * fI c.1 l - 1)+0);lia
theorem sz_less (f:FF m sp l rg)(C:j5 b sp l rg c):szC l cs<szC l (cs++[c]):=by
 have:=jr C.ob f.acy.nodup.2;rw [nc];show _<_+((2 * fI c.1 l - 1)+0);lia
end
def siz_pre:∀ t:Tq,siz t=(pre t).length
 | .leaf _=>rfl
 | .cut k a x y=>by
  show siz x+siz y+1=(pre x++pre y).length+1;rw [au,siz_pre x,siz_pre y]
def pls_appT:∀ (xs ys:List Dt),pls (xs++ys)=(pls xs && pls ys)
 | [],ys=>by show pls ys=(true && pls ys);rw [Bool.true_and]
 | x::xs,ys=>by
  show (pl x && pls (xs++ys))=((pl x && pls xs) && pls ys);rw [pls_appT xs ys,Bool.and_assoc]
def LmOk.mono {k:Nat}{sp:Sp}(L:LmOk P w K mg base j f Hf sp)(h:j≤k):LmOk P w K mg base k f Hf sp:=⟨L.isFn,fun A outer s H u v Q hr=>L.run A outer s H u v Q (hr.mono h)⟩
def pl_pre:∀ (t:Tq),(∀ d,Mrk.leaf d∈pre t→LeafW d)→pl (kq t)=true
 | .leaf d,h=>(h d (by simp [pre])).1
 | .cut k a x y,h=>pl_cut (pl_pre x fun d hd=>h d (by simp [pre,hd])) (pl_pre y fun d hd=>h d (by simp [pre,hd]))
abbrev sTreeB:cL:=top 53
def lL:bW ["net","leaf_in","cuts","marks","ahead","case","mark","span","at"] pzy (defScope sTreeB):=by trivial
theorem ok_treeBy {f5 f6 fi g1 g2:ak}{fd6 di d1 d2:bh}(F:Fun K "tree_by" "tree_by" sTreeB f fd)(T:Nm mg)(CK:CutK P w K mg base T0 p0 q0 T1 p1 q1 C fi g1 g2 di d1 d2)
  (G5:Fn K mg "middle_of" sMid pzt f5 fd5) (G6:Fn K mg "tree_from" sTreeF ["marks"] f6 fd6) (F6:cO P w K mg base CX0 1 f6 fd6 ["marks"] spTreeF):cO P w K mg base CX0 11 f fd pzy (spTreeBy P w K mg base T0 p0 q0 T1 p1 q1):=by
 have F5:cO P w K mg base CX0 1 f5 fd5 pzt spMid:=ok_mid G5.F;specialize F.ok lL;obtain ⟨v,g,b,m,sp,R,rfl,hv,N,hcases,hT0,hT1,LM,k⟩:=h;have hr1:ik 1 _:=hr.mono ↥0;have hr2:ik 2 _:=hr.mono ↥0;have hr6:ik 6 _:=hr.mono ↥0;have E:=N.ends;have nfew:=N.few;have m1:=N.m1;have m2:=N.m2;have nb1:=N.b1;apply ⟨_,PSl.h (ba ⟨(psZ 2 lL.nd (pe_make CK.mke CK.ini hr rfl CK.gl CK.bi .nil pass0 (ag (pv 0) aD)))⟩
  (ba ⟨(psZ 3 lL.nd (jv aD))⟩
  (ba ⟨(psZ 4 lL.nd (jv (ag (pe_fld (pv 2) rfl) aD)))⟩
  (ba ⟨(mM bH (cA op_gt (cg bP rfl T.len bD (ag (pv 4) aD)) bI (cP _)) (PSl.h (ba ⟨(psZ 5 lL.nd (p8 bf fh fg qe (pv 4)))⟩
  (ba ⟨(psZ 6 lL.nd (pe_callV (i:=1) LM hr6 (pv 5)))⟩
  (ba ⟨(nk (gF (cA op_isN (pv 6) oR (cP _)) (PSl.h (ba ⟨(psZ 7 lL.nd (pe_meth (pv 2) CK.cc.cl CK.m1 CK.f1 hr1 CK.b1 .nil pass0 (ag (pv 5) aD)))⟩
  (ba ⟨(psZ 8 lL.nd (pc1 G5 F5 hr1 (ag (pv 5) (ag (pv 7) aD))))⟩
  (ba ⟨(psZ 6 lL.nd (dB (ag kB (ag (pv 7) (ag (pv 8) aD)))))⟩
  (cS ⟨(iB (l7 bf PySem.F.slot_list_extend PySem.F.type_list_extend mt_extend (pv 4) (ag (pe_meth (pv 2) CK.cc.cl CK.m2 CK.f2 hr2 CK.b2 .nil pass0 (ag (pv 5) (ag (pv 7) (ag (pv 8) aD)))) aD)))⟩))))) dv))⟩
  (cS ⟨(iB (l7 bf bR bQ gc (pv 3) (ag (pv 6) aD)))⟩))))))⟩
  (cS ⟨(b9 (pc1 G6 F6 hr1 (ag (pv 3) aD)))⟩))))),?_⟩
 apply ⟨_,rfl,fun x dx hx hdx nxd=>?_⟩;have S0:bG H (upd (upd H dx (.own x)) x (.ins C dx [])):=by
  have Sa:bG H (upd H dx (.own x)):=bG.put (bG.refl H) hdx;exact bG.put Sa (by rw [bq (cH nxd)];exact hx)
 have hx0:(upd (upd H dx (.own x)) x (.ins C dx [])) x=some (.ins C dx []):=aV;generalize upd (upd H dx (.own x)) x (.ins C dx [])=H0 at S0 hx0 ⊢;apply ⟨x,dx,v,b,m,sp,rfl,hx0,hv.same S0,N,LamT.same S0 hT0,LamT.same S0 hT1,fun l rg H2 st1 kp1 hT02 hT12 RR cd2=>⟨rfl,?_⟩⟩;have f:=RR.ff N;have fr:=RR.fr;have lrg:rg.length≤40:=by
  have:rg.length=(pX sp l).length:=by rw [←RR.ks,aa]
  have h2:(pX sp l).length≤sp.length:=by unfold pX;exact aN (cX _ _) (by rw [aY];exact az _)
  lia
 have tl:l.length≤15:=by have:=fr.few E ⋯;lia
 have hlt:=f.acy.nodup.2;have st2:qQ T0 T1 H H2:=fun a o n0 n1 e=>st1 a o n0 n1 (bF e hx) (S0 _ _ e)
 have kp2':Kp H H2:=(bG.kp S0).trans kp1;have hv2:=cN kp2'.tup hv;clear st1 kp1 S0 hx0 hv;obtain ⟨dx',c0,tl',ol,ord,h1,h2,h3,h4,h5⟩:=cd2.ex;apply ⟨bo _,fun Lt hLt=>?_⟩;have S3:bG H2 (upd H2 Lt (.lst [])):=bG.put (bG.refl H2) hLt;have hLt3:(upd H2 Lt (.lst [])) Lt=some (.lst []):=aV;generalize upd H2 Lt (.lst [])=H3 at S3 hLt3 ⊢;apply ⟨_,rfl,x,C,dx',_,_,rfl,S3 _ _ h1,CK.cc.cl,CK.cc.n1,rfl,szZ1,fun Ah hAh=>?_⟩;have hAh2:H2 Ah=none:=bG.free S3 hAh;have nLA:Lt≠Ah:=fun z=>by rw [←z,hLt3] at hAh;cases hAh
 have S4:bG H3 (upd H3 Ah (.lst [.ref c0])):=bG.put (bG.refl H3) hAh;have hAh4:(upd H3 Ah (.lst [.ref c0])) Ah=some (.lst [.ref c0]):=aV;generalize upd H3 Ah (.lst [.ref c0])=H4 at S4 hAh4 ⊢;have S24:=S3.trans S4;have cl4:CsL H2 H4 [.ref c0] [(sp.map fun z=>(z.l,z.o),rg)]:=by
  obtain ⟨vb,u,rl,a1,a2,a3,a4⟩:=h2.ex;exact .cons ⟨c0,rfl,vb,u,rl,S24 _ _ a1,a2.same S24,a3,a4⟩ .nil
 have pr0:fI (sp.map fun z=>(z.l,z.o)) l≤4096:=by
  have e:=lO l hlt fun y hy=>(N.all y hy).lo
  have:=hcases l fr;lia
 have sz0:szC l [(sp.map fun z=>(z.l,z.o),rg)]+0≤8191:=by
  show (2 * fI (sp.map fun z=>(z.l,z.o)) l - 1)+0+0≤8191;lia
 have ok0:∀ c∈[(sp.map (fun z=>(z.l,z.o)),rg)],j5 b sp l rg c:=(SrcI.start (b:=b) (l:=l) N lrg).ok;apply ⟨fun n σ Hc=>∃ (cs:List Cse) (ms:List Mrk) (zs mv:List V) (w5 w6 w7 w8:Option V),n=szC l cs∧n+ms.length≤8191∧σ=[some v,some (.ref g),some (.ref x),some (.ref Lt),some (.ref Ah),w5,w6,w7,w8]∧bG H2 Hc∧Hc Ah=some (.lst zs)∧CsL H2 Hc zs cs∧Hc Lt=some (.lst mv)∧dW Hc mv (ms.map mrkD)∧(∀ c∈cs,j5 b sp l rg c)∧Wn R l (sp.map (fun z=>(z.l,z.o)),rg) ms cs.reverse∧(∀ d,Mrk.leaf d∈ms→LeafW d)∧pls (ms.map mrkD)=true,⟨_,_,[],_,[],_,_,_,_,rfl,sz0,rfl,S24,hAh4,cl4,S4 _ _ hLt3,.nil,ok0,Wn.start,fun _ h=>rQ h ∅,rfl⟩,?_⟩;clear cl4 hAh4 S4 S24 hLt3 S3 hAh sz0 ok0;rintro n σ Hc ⟨cs,ms,zs,mv,w5,w6,w7,w8,rfl,n8,rfl,Sc,hAc,clc,hLc,dmv,ok,W,lw,pm⟩;have lzs:zs.length=cs.length:=Paired.len clc;have lmv:mv.length=ms.length:=by rw [dmv.length,aa]
 have lcs:=szC_len hlt cs ok;apply ⟨_,rfl,Ah,_,rfl,.inl (SqL.of hAc),_,_,rfl,rfl,_,rfl,?_⟩
 rcases List.eq_nil_or_concat cs with rfl | ⟨cs',c,rfl⟩
 ·have:zs=[]:=dJ.mp lzs
  subst this;obtain ⟨t,et,gt⟩:=Wn.fin W;apply kL (by rfl) ⟨_,rfl,Lt,mv,ms,t,rfl,hLc,dmv,et,lw,⋯,fun u H9 S9 h9=>?_⟩;have S29:=Sc.trans S9;apply k u t H9 (st2.trans (bG.stayT S29)) (kp2'.trans (bG.kp S29)) (LamT.same S29 hT02) (LamT.same S29 hT12) h9 (pl_pre t (by rw [←et];exact lw)) (gt 21 ?_) (by rw [siz_pre,←et];lia);have:2 ^ 21 * fI (sp.map fun z=>(z.l,z.o)) l≤2 ^ 21 * 4096:=Nat.mul_le_mul_left _ pr0;exact aN this ↥0
 rw [List.concat_eq_append] at *;obtain ⟨zs',y,rfl,clc',q,rfl,ce⟩:=Paired.snoc_of clc;apply ow (rR (by rw [au];show ((zs'.length+1:Nat):Int) > 0;lia)) ⟨_,fun σ' H' z=>z,?_⟩;apply ⟨_,rfl,.inl ⟨rfl,_,SqL.of hAc⟩,Ah,_,.ref q,rfl,rfl,hAc,by rw [au,bw ∅];simp,?_⟩;rw [fO];have K5:kg Hc (upd Hc Ah (.lst zs')):=eO hAc;have S5:bG H2 (upd Hc Ah (.lst zs')):=fun a o e=>by rw [bq (bF e hAh2)];exact Sc _ _ e
 have hA5:(upd Hc Ah (.lst zs')) Ah=some (.lst zs'):=aV;have hL5:(upd Hc Ah (.lst zs')) Lt=some (.lst mv):=by rw [bq nLA];exact hLc
 have cl5:=CsL.keep K5 (show CsL H2 Hc zs' cs' from clc');have ce5:=ce.keep K5;have dmv5:=dW.keepP K5 dmv pm;generalize upd Hc Ah (.lst zs')=H5 at K5 S5 hA5 hL5 cl5 ce5 dmv5 ⊢;have C':=ok c ∅;have less:=sz_less (cs:=cs') f C';rw [List.reverse_append] at W;have W:Wn R l (sp.map (fun z=>(z.l,z.o)),rg) ms (c::cs'.reverse):=W;have ok':∀ d∈cs',j5 b sp l rg d:=fun d hd=>ok d (aK _ hd)
 have lcs':cs'.length+1≤8191:=by rw [au] at lcs;show cs'.length+[c].length≤8191;lia
 have lz':zs'.length=cs'.length:=Paired.len cl5;have stH5:qQ T0 T1 H H5:=st2.trans (bG.stayT S5);clear clc clc' ce hAc hLc dmv K5 lzs ok;apply ⟨rfl,stH5,_,rfl,stH5,l,rg,q,c,rfl,RR,ce5.dn S5,C',hv2.same S5,fun r H6 S6 hd=>?_⟩;have S26:=S5.trans S6;have hA6:=S6 _ _ hA5;have hL6:=S6 _ _ hL5;have ce6:=ce5.keep (bG.tupK S6);have cl6:=CsL.keep (bG.tupK S6) cl5;have dmv6:=dmv5.same S6;clear ce5 cl5 dmv5 hA5 hL5 stH5;apply ⟨fun σ' H'=>∃ (cs2:List Cse) (mk:Mrk) (zs2:List V) (v6:V) (w7 w8:Option V),szC l cs2<szC l (cs'++[c])∧σ'=[some v,some (.ref g),some (.ref x),some (.ref Lt),some (.ref Ah),some (.ref q),some v6,w7,w8]∧bG H2 H'∧H' Ah=some (.lst zs2)∧CsL H2 H' zs2 cs2∧H' Lt=some (.lst mv)∧dW H' mv (ms.map mrkD)∧IsD H' v6 (mrkD mk)∧(∀ c∈cs2,j5 b sp l rg c)∧Wn R l (sp.map (fun z=>(z.l,z.o)),rg) (ms++[mk]) cs2.reverse∧(∀ d,mk= .leaf d→LeafW d)∧pl (mrkD mk)=true,?_,?_⟩
 ·rintro σ' H7 ⟨cs2,mk,zs2,v6,w7,w8,less2,rfl,S7,hA7,cl7,hL7,dm7,d6,ok2,W2,lw2,pm2⟩
  apply ⟨_,rfl,.inl ⟨rfl,_,SqL.of hL7⟩,_,rfl,Lt,mv,_,rfl,rfl,hL7,(bX (by lia:mv.length≤10000) ↥0),?_⟩;have K8:kg H7 (upd H7 Lt (.lst (mv++[v6]))):=eO hL7;apply ⟨_,less2,cs2,ms++[mk],zs2,mv++[v6],_,_,_,_,rfl,by rw [au];show _+(ms.length+1)≤8191;lia,rfl,fun a o e=>by rw [bq (bF e hLt)];exact S7 _ _ e,by rw [bq (cH nLA)];exact hA7,CsL.keep K8 cl7,aV,?_,ok2,W2,fun d hd=>?_,?_⟩
  ·rw [aE]
   exact (dW.keepP K8 dm7 pm).append (.cons (IsD.keepP K8 d6 pm2) .nil)
  ·rcases aH.mp hd with z | z
   ·exact lw d z
   ·exact lw2 d (aw.mp z).symm
  ·rw [aE,pls_appT,pm,Bool.true_and]
   show (pl (mrkD mk) && true)=true;rw [pm2];rfl
 apply ⟨_,rfl,rfl,_,rfl,?_⟩
 rcases hd with ⟨d,dr,dw,dR⟩ | ⟨rfl,al,k0,hk0,hlk0⟩
 ·have nr:r≠ .non:=fun e=>by
   obtain ⟨_,w',x',ed,_⟩:=dw;rw [e,ed] at dr;cases dr
  apply kL (rS nr) ?_;exact ⟨cs',.leaf d,zs',r,_,_,less,rfl,S26,hA6,cl6,hL6,dmv6,dr,ok',W.leaf dR,(fun d' e=>by cases e;exact dw),dw.1⟩
 apply ow (rR rfl) ?_;apply ⟨_,rfl,x,dx',_,rfl,S26 _ _ h1,rfl,_,rfl,x,q,sp,l,rg,c.2,c.1,rfl,cd2.same S26,ce6.dn S26,fun j hj=>by rw [C'.ob.len];exact hlt j hj,⋯,fun fx=>rQ hlk0 (fx k0 hk0),fun j hj hlj=>?_⟩;have hjb:j<c.1.length:=by rw [C'.ob.len];exact hlt j hj
 apply ⟨_,rfl,_,rfl,q,j,c.1,c.2,rfl,ce6.dn S26,hjb,?_⟩;obtain ⟨a,ha⟩:∃ a,a=((c.1.getD j (0,0)).1+(c.1.getD j (0,0)).2) / 2:=⟨_,rfl⟩;rw [←ha];apply ⟨_,rfl,_,rfl,(by show 3≤bg;decide),fun qm H7 S7 hm7=>?_⟩;have S27:=S26.trans S7;apply ⟨_,rfl,.inl ⟨rfl,_,SqL.of (S7 _ _ hA6)⟩,_,rfl,x,dx',_,rfl,S27 _ _ h1,rfl,_,rfl,_,rfl,_,rfl,H2,x,q,j,a,sp,l,rg,c.2,c.1,rfl,S27,cd2,(ce6.keep (bG.tupK S7)).dn S27,hjb,C'.ob.len,by rw [C'.ob.len];exact nfew,fun L q1 q2 H8 S8 fL hL e1 e2=>?_⟩;have nLA2:L≠Ah:=fun z=>by rw [z,S7 _ _ hA6] at fL;cases fL
 have hA8:=S8 _ _ (S7 _ _ hA6);apply ⟨Ah,L,_,_,rfl,rfl,hA8,hL,aN (m:=10000) (by show zs'.length+2≤10000;lia) ↥0,?_⟩;have K9:kg H8 (upd H8 Ah (.lst (zs'++[.ref q1,.ref q2]))):=eO hA8;have K68:kg H6 H8:=fun a xs e=>S8 _ _ (S7 _ _ e)
 obtain ⟨okn,lessn,p2⟩:=sz_cut f lrg C' al hj (a:=a) ⋯ ⋯ ok';obtain ⟨mid1,mid2⟩:=prodC_mid C'.ob f.acy.nodup.1 hlt hj hlj ha;apply ⟨_,.cut j a,_,.ref qm,_,_,lessn,rfl,fun a o e=>?_,aV,?_,?_,?_,?_,okn,?_,(fun d e=>by cases e),rfl⟩
 ·rw [bq (bF e hAh2)];exact S8 _ _ (S27 _ _ e)
 ·exact Paired.app (CsL.keep K9 (CsL.keep K68 cl6)) (.cons ⟨q1,rfl,e1.keep K9⟩ (.cons ⟨q2,rfl,e2.keep K9⟩ .nil))
 ·rw [bq nLA];exact S8 _ _ (S7 _ _ hL6)
 ·exact dW.keepP K9 (dW.keepP K68 dmv6 pm) pm
 ·exact .tup (K9 _ _ (S8 _ _ hm7)) (.cons (.str _) (.cons (.int _) (.cons (.int _) .nil)))
 ·rw [List.reverse_append]
  exact W.cut hjb ⋯ ⋯ p2 mid1 mid2
abbrev sCases:cL:=top 25
def oN.nats (a:oN m sp ns):∃ (l π:List Nat),ns=l.map (fun (i:Nat)=>(i:Int))∧Ordd sp π∧l.Perm (lg sp m π).2:=by
 obtain ⟨π,o,p,_⟩:=a;have nn:∀ x∈ns,0≤x:=fun x hx=>by
  obtain ⟨i,_,rfl⟩:=bc.mp (p.mem_iff.mp hx);lia
 apply ⟨ns.map Int.toNat,π,?_,o,?_⟩
 ·rw [cY]
  conv=>lhs;rw [←List.map_id ns]
  exact gZ fun x hx=>(fe (nn x hx)).symm
 ·have q:=p.map Int.toNat
  rw [cY] at q;have e:((lg sp m π).2.map (Int.toNat ∘ fun (i:Nat)=>(i:Int)))=(lg sp m π).2:=by
   conv=>rhs;rw [←List.map_id (lg sp m π).2]
   exact gZ fun x _=>rfl
  rw [e] at q;exact q
def gone_few (E:lE m sp)(h:∀ i∈π,i<sp.length):(lg sp m π).2.length≤m:=by
 obtain ⟨D,_,_,l⟩:=gone_cnt E π (ke m) [] (kO m) h (Cnt.start m);have l:D.length+(lg sp m π).2.length=m:=l;lia
def gone_lt (h:∀ i∈π,i<sp.length):∀ i∈(lg sp m π).2,i<sp.length:=fun i hi=>by
 rcases (kx sp π (ke m,[])).1 i hi with z | z
 ·cases z
 ·exact h i z
def WOk (sp:List Sn):Prop:=∀ x∈sp,0≤x.o - x.l∧x.o - x.l+1≤10 ^ 61
theorem kl.wok {m:Int}(N:kl b m sp)(h:b≤10 ^ 61):WOk sp:=fun x hx=>by
 have s:=N.all x hx;have:=s.lo;have:=s.ob;lia
theorem prodW_abs {sp:List Sn}(w:WOk sp):∀ {l:List Nat},(∀ i∈l,i<sp.length)→(k5 sp l).natAbs≤(10 ^ 61) ^ l.length
 | [],_=>by show 1≤(10 ^ 61) ^ 0;decide
 | i::l,h=>by
  rw [oG,Int.natAbs_mul,aP,Nat.pow_succ,jd ((10 ^ 61) ^ l.length)];apply Nat.mul_le_mul ?_ (prodW_abs w fun j hj=>h j (ay _ hj));have:=w _ (fu (h i bu));show ((sAt sp i).o - (sAt sp i).l+1).natAbs≤_;lia
def pow_33 {k:Nat}(h:n≤(10 ^ 61) ^ k)(hk:k≤16):n<10 ^ 1000:=by
 apply bX h ?_;rw [←Nat.pow_mul];exact Nat.pow_lt_pow_right ↥0 ⋯
inductive spCases (T:ak)(lp:Pos)(lq:Str)(vs:List V)(H:Hp)(Q:VK)(_:XK):Prop
 | mk (v b m sp:_)(_:vs=[v])(_:IsD H v (jX b m sp))(_:kl b m sp)(_:b≤10 ^ 61)(_:L2.LamT T lp lq H)(_:∀ H' (l:List Nat),L2.Tb T H H'→L2.LamT T lp lq H'→jD m.toNat sp l→Q (.int (k5 sp l)) H')
def scCases:bW ["net","cases","span"] pza (defScope sCases):=by trivial
theorem ok_cases (F:Fun K "cases_of" "cases_of" sCases f fd)(G1:Fn K mg "forest_of" mh pza f1 fd1)(F1:cO P w K mg base CX0 6 f1 fd1 pza (lJ Tb0 lp lq))(G2:Fn K mg "width_of" sWidth pzd f2 fd2) :
  cO P w K mg base CX0 7 f fd pza (spCases Tb0 lp lq):=by
 have F2:cO P w K mg base CX0 1 f2 fd2 pzd spWidth:=ok_width G2.F;specialize F.ok scCases;obtain ⟨v,b,m,sp,rfl,hv,N,b33,hT,k⟩:=h;have hr1:ik 1 _:=hr.mono ↥0;have E:=N.ends;have m2:=N.m2;have m1:=N.m1;have wk:=N.wok b33;apply ⟨_,PSl.h (ba ⟨(psZ 1 scCases.nd bI)⟩
  (ba ⟨(iL bH rfl (mr (pc1 G1 F1 hr (ag (pv 0) aD))) (pgZ 2 scCases.nd) (cw (ps_aug (i:=1) scCases.nd rfl (.inl rfl) (c9 iC (pc1 G2 F2 hr1 (ag (pv 0) (ag (pv 2) aD))) bI) ip_mulG)))⟩
  (cS ⟨(b9 (pv 1))⟩))),?_⟩
 apply ⟨_,rfl,v,b,m,sp,rfl,hv,N,hT,fun u H1 ns tb hT1 hu F0=>?_⟩;obtain ⟨l,π,rfl,O,pm⟩:=F0.nats;have hp:∀ i∈π,i<sp.length:=fun i hi=>O.lt hi
 have hlt:∀ i∈l,i<sp.length:=fun i hi=>gone_lt hp i (pm.mem_iff.mp hi)
 have few:l.length≤16:=by have:=gone_few E hp;rw [pm.length_eq];lia
 have hv1:=cN (Tb.tupK (LamT.tbl hT) tb) hv;rw [cY] at hu;apply ⟨u,rfl,⟨_,SqT.of hu⟩,?_⟩;apply for_tup (K:=K) (a:=u) (xs:=l.map (V.int ∘ fun (i:Nat)=>(i:Int))) (fun i σ HA=>HA=H1∧∃ v2,σ=[some v,some (.int (k5 sp (l.take i))),v2]) ⟨rfl,none,rfl⟩ (fun i σ HA _ ⟨e,_⟩=>by rw [e];exact SqT.of hu) ?_ ?_
 ·rintro i x σ HA hx ⟨rfl,v2,rfl⟩
  rw [ax] at hx;obtain ⟨j,hj,rfl⟩:=aO.mp hx;have hjl:=aW hj;have hjn:=hlt j hjl;have w0:=wk _ (fu hjn);apply ⟨_,rfl,_,rfl,_,rfl,v,b,m,sp,j,sAt sp j,rfl,hv1,jE hjn,_,_,rfl,rfl,?_⟩;apply ⟨_,_,rfl,rfl,⟨?_,?_⟩,rfl,some (.int j),?_⟩
  ·exact pow_33 (prodW_abs wk (l:=l.take i) fun k hk=>hlt k (km hk)) (by rw [bK];lia)
  ·exact pow_33 (k:=1) (by rw [Nat.pow_one];lia) ↥0
  ·rw [bj,hj]
   show _=[some v,some (.int (k5 sp (l.take i++[j]))),_];rw [prodW_snoc];rfl
 ·rintro σ HA ⟨rfl,v2,rfl⟩
  rw [aa,bp];exact ⟨_,rfl,k HA l tb hT1 ⟨F0,π,O,pm⟩⟩
def qI {sp:List Sn}:∀ {ws:List Stp} {x y:Int},oY sp x ws y→(∀ (h:0<ws.length),kU sp ws[0]=x)∧(∀ (h:0<ws.length),fc sp (ws[ws.length - 1]'(Nat.sub_lt h Nat.one_pos))=y)∧∀ i (h:i+1<ws.length),fc sp ws[i]=kU sp ws[i+1]
 | [],_,_,_=>⟨fun h=>rQ h ∅,fun h=>rQ h ∅,fun i h=>rQ h ∅⟩
 | [s],x,y,⟨a,b⟩=>⟨fun _=>a,fun _=>b,fun i h=>rQ h ∅⟩
 | s::s'::ws,x,y,⟨a,b⟩=>by
  obtain ⟨f,l,n⟩:=qI (ws:=s'::ws) b;apply ⟨fun _=>a,fun _=>?_,fun i h=>?_⟩
  ·have:=l ∅
   simpa using this
  ·cases i with
   | zero=>exact (f ∅).symm
   | succ i=>exact n i (by simpa using h)
def RDead (b:Int)(sp:List Sn)(bs:List (Int×Int))(d:Dt):Prop:=∃ p:List Stp,d=leafP (.ring p)∧Rg sp p∧jL b bs p=true
def rn (p:List Stp):LeafW (leafP (.ring p)):=⟨by show (true && (pl (oW p) && true))=true;rw [show pl (oW p)=true from pZ _ _];rfl,"ring",oW p,rfl,↥0⟩
def ps_outL:PS X st (fun _ _ _=>False):=fun _ _ _ _ _ _ h=>h.elim
abbrev kA:cL:=top 54
def lamE5:List cL→Expr
 | [_,_,_,_,.Return (some (.Tuple [_,.Call _ [_,e] _ _] _ _)) _]=>e
 | _=> .Constant .none 0 ⟨0,0,0,0⟩
def lamP5:Expr→Pos
 | .Lambda _ _ _ p=>p
 | _=>⟨0,0,0,0⟩
def lamS5:Expr→fG
 | .Lambda _ _ s _=>s
 | _=>{ kind:= .function,names:=[],isGenerator:=false,isCoroutine:=false }
def lamA5:Expr→fU
 | .Lambda a _ _ _=>a
 | _=>{ posonlyargs:=[],args:=[],vararg:=none,kwonlyargs:=[],kw_defaults:=[],kwarg:=none,defaults:=[] }
def lamB5:Expr→Expr
 | .Lambda _ e _ _=>e
 | e=>e
abbrev laT:fU:=lamA5 (lamE5 (fX kA))
abbrev lbT:Expr:=lamB5 (lamE5 (fX kA))
abbrev lpT:Pos:=lamP5 (lamE5 (fX kA))
abbrev lsT:fG:=lamS5 (lamE5 (fX kA))
abbrev lqT:Str:=(("table_for" :Str) ++ ".<locals>.") ++ "<lambda>"
def ptF_same (N:∀ b o,fz b=some o→H b=none):bG H (ptF H fz):=fun a o e=>by
 cases q:fz a with
 | none=>rw [iA q];exact e
 | some o'=>rw [N a o' q] at e;cases e
def ctF_kp (F:Fz fz H):Kp H (ctF H fz):=⟨fun q xs e=>F.cut e (fun _ z=>by cases z),fun q xs e=>F.cut e (fun _ z=>by cases z),fun q _ xs e=>F.cut e (fun _ z=>by cases z)⟩
def ptF_back (F:Fz fz H)(S:bG (ctF H fz) H'):bG H (ptF H' fz):=fun a o e=>by
 cases q:fz a with
 | some o'=>rw [F a o' q] at e;cases e;exact ra q
 | none=>rw [iA q];exact S a o (by rw [iV q];exact e)
def LamT.cutF {T:ak}(F:Fz fz H)(cl:∀ c o,fz c=some o→∃ v,o.data= .cell v)(h:L2.LamT T lp lq H):L2.LamT T lp lq (ctF H fz):=by
 rcases h with h | ⟨c,h,oc,vs,t,e,hd,r⟩
 ·exact .inl (F.cut h (fun _ z=>by cases z))
 ·apply .inr ⟨c,F.cut h (fun _ z=>by cases z),oc,vs,t,?_,hd,r⟩
  cases q:fz c with
  | none=>rw [iV q];exact e
  | some o' =>
   obtain ⟨v,hv⟩:=cl c o' q;rw [F c o' q] at e;cases e;rw [hd] at hv;cases hv
def LmOk.imp {k:Nat}{Hg:Hp→Prop}{sp:Sp}(L:LmOk P w K mg base k f Hf sp)(h:∀ H,Hg H→Hf H):LmOk P w K mg base k f Hg sp:=⟨fun H hh g=>L.isFn H hh (h H g),fun A outer s H u v Q hr e0 g=>L.run A outer s H u v Q hr e0 (h H g)⟩
inductive pP (T0:ak)(p0:Pos)(q0:Str)(T1:ak)(p1:Pos)(q1:Str)(T2:ak)(vs:List V)(H:Hp)(Q:VK)(_:XK):Prop
 | mk (v:V)(b m:Int)(sp:List Sn)(_:vs=[v])(_:IsD H v (jX b m sp))(_:kl b m sp)(_:(∀ l,jD m.toNat sp l→k5 sp l≤4096))(_:L2.LamT T0 p0 q0 H)(_:L2.LamT T1 p1 q1 H)(_:L2.LamT T2 lpT lqT H)(_:∀ (q:ak) (H':Hp),(∀ a o,a≠T0→a≠T1→a≠T2→H a=some o→H' a=some o)→Kp H H'→L2.LamT T0 p0 q0 H'→L2.LamT T1 p1 q1 H'→L2.LamT T2 lpT lqT H'→((∃ (qt:ak) (t:List Int),H' q=some (.tup [.str "table",.ref qt])∧H' qt=some (.tup (t.map V.int))∧nI b m sp t)∨∃ (u:V) (t:Tq),H' q=some (.tup [.str "none",u])∧IsD H' u (kq t)∧pl (kq t)=true∧(∀ T,¬ l9 b T sp=true)∧GoodT (RDead b sp) t (sp.map fun z=>(z.l,z.o)) 21∧siz t≤8191)→Q (.ref q) H')
def ps_out:PS X st (fun _ _ _=>False):=fun _ _ _ _ _ _ h=>h.elim
def scTabFor:bW ["net","many","tables"] pza (defScope kA):=by trivial
theorem ok_tabForN {c T2:ak}(F:Fun K "table_for" "table_for" kA f fd)(hcd:fd.code= .ref c)(CH:df K c T2=true)(B:BM mg base)(T:Nm mg)(MC:∃ t,mg "MOST_CASES" =some (.int 4096 t))(ne:T0≠T1)(n2:T2≠T0)(n3:T2≠T1)
  (G1:Fn K mg "cases_of" sCases pza f1 fd1) (F1:cO P w K mg base CX0 7 f1 fd1 pza (spCases T0 p0 q0))
  (G2:Fn K mg "tables_that_fit" sTabF pzn f2 fd2) (F2:cO P w K mg base CX0 11 f2 fd2 pzn (spTabF T0 p0 q0 T1 p1 q1))
  (G3:Fn K mg "tree_by" sTreeB pzy f3 fd3) (F3:cO P w K mg base CX0 11 f3 fd3 pzy (spTreeBy P w K mg base T0 p0 q0 T1 p1 q1))
  (G4:Fn K mg "dead_leaf" sDeadL pzl f4 fd4) (F4:cO P w K mg base CX0 4 f4 fd4 pzl spDeadL):cO P w K mg base CX0 12 f fd pza (pP T0 p0 q0 T1 p1 q1 T2):=by
 apply okC F hcd scTabFor (by contradiction) (fun A outer s H vs Q E hr h=>?_);obtain ⟨v,b,m,sp,rfl,hv,N,hc,hT0,hT1,hT2,k⟩:=h;have hr7:ik 7 _:=hr.mono ↥0;apply ⟨_,PSl.h (ba ⟨(psZ 1 scTabFor.nd (pc1 G1 F1 hr7 (ag (pv 0) aD)))⟩
  (ba ⟨(gF (cA op_gt (pv 1) (pe_gint MC) (cP _)) (cw ps_out) dv)⟩
  (ba ⟨(psZ 2 scTabFor.nd (pc1 G2 F2 hr (ag (pv 0) (ag bI aD))))⟩
  (ba ⟨(gF (cA op_gt (cg bP rfl T.len bD (ag (pv 2) aD)) bI (cP _)) (cw (b9 (dB (ag kB (ag (fA gY (pv 2) bI (fun _ _=>rfl)) aD))))) dv)⟩
  (cS ⟨(b9 (dB (ag kB (ag (pe_callZ (scope:=lsT) (fr:=pza) (js:=[0]) F3 hr (fun _=>rfl) rfl G3.mg G3.F.kp G3.b rfl ⇑0 (by exists kA) (ag (pv 0) (ag (pe_lam (T:=T2) rfl rfl CH B (by exists kA)) aD))) aD))))⟩))))),?_⟩
 apply ⟨_,rfl,v,b,m,sp,rfl,hv,N,by have:=N.b2;lia,hT0,fun H1 l tb1 hT01 fr=>?_⟩;have kp1:=Tb.kp hT0 tb1;have hT11:=LamT.ntb hT1 hT0 (cH ne) tb1;have hT21:=LamT.ntb hT2 hT0 n2 tb1;have cl:=hc l fr;apply ⟨_,rfl,_,_,rfl,rfl,_,rfl,kL (rS ⋯) ?_⟩;apply ⟨_,rfl,v,b,m,sp,1,rfl,cN kp1.tup hv,N,↥0,hc,hT01,hT11,fun L tv l' rg Ts H2 st2 kp2 hT02 hT12 hL dL R tabs few hold=>?_⟩;have hT22:L2.LamT T2 lpT lqT H2:=by
  obtain ⟨ps0,e0⟩:=LamT.tbl hT01;obtain ⟨ps1,e1⟩:=LamT.tbl hT11
  rcases hT21 with h | ⟨c',h,oc,vs,t,e,r⟩
  ·exact .inl (st2 _ _ n2 n3 h)
  ·exact .inr ⟨c',st2 _ _ n2 n3 h,oc,vs,t,st2 _ _ (fR e e0 nofun) (fR e e1 nofun) e,r⟩
 have ltv:tv.length=Ts.length:=by rw [dL.length];unfold de;rw [aa]
 apply ⟨_,rfl,L,_,rfl,.inl (SqL.of hL),_,_,rfl,rfl,_,rfl,?_⟩;cases Ts with
 | cons t Ts =>
  apply ow (rR (by rw [ltv,aP];show ((Ts.length+1:Nat):Int) > 0;lia)) ?_;cases dL with
  | cons d0 ds =>
   rename_i y ys;obtain ⟨qt,qs,rfl,hq,rq⟩:=IsD.tup_of d0;have eq:=rq.ints_of;subst eq;apply ⟨_,rfl,L,_,_,_,rfl,rfl,SqL.of hL,aS (j:=0) rfl,pJ,fun q H3 S3 h3=>?_⟩;exact k q H3 (fun a o n0 n1 _ e=>S3 _ _ (st2 a o n0 n1 (tb1 a o n0 e))) (kp1.trans (kp2.trans (bG.kp S3))) (LamT.same S3 hT02) (LamT.same S3 hT12) (LamT.same S3 hT22) (.inl ⟨qt,t,h3,S3 _ _ hq,tabs t ∅⟩)
 | nil =>
  apply kL (rS (by rw [ltv];decide)) ?_;have nof:∀ T',¬ l9 b T' sp=true:=fun T' hT'=>by
   obtain ⟨t,ht,_⟩:=hold (.inl ↥0) T' hT';cases ht
  have hv2:=cN kp2.tup (cN kp1.tup hv);apply ⟨_,rfl,hT22,fun g cl' H3 tb3 hT23 LF LE=>⟨cl',[v],LE,rfl,fun fz C0 N0=>?_⟩⟩;have kp3:=Tb.kp hT22 tb3;have hT03:=LamT.ntb hT02 hT22 (cH n2) tb3;have hT13:=LamT.ntb hT12 hT22 (cH n3) tb3;have SP:=ptF_same N0;have hT04:=LamT.same SP hT03;have hT14:=LamT.same SP hT13;have LF:LamF lqT laT lbT lsT cl' g H3:=LF;have LF4:=LF.same SP;have hv4:=(cN kp3.tup hv2).same SP;have m2:=N.m2;have m1:=N.m1;have LM:LmOk P w K mg base 6 g (qQ T0 T1 (ptF H3 fz)) (spLeafIn v b m sp (RDead b sp)):=by
   apply LmOk.mono (j:=5) (LmOk.imp (lam_run (k:=4) (q:=lqT) (params:=laT) (body:=lbT) (scope:=lsT) (cl:=cl') (fz:=fz) (x := "case") (fr:=pza) (ws:=[v]) (fun _ _ _ _=>rfl) rfl rfl rfl ⇑0 rfl ↥0 C0 (fun y hy hf=>?_) ⇑0 (fun L' cd A' outer' s' H' hr'=>pc1 G4 F4 hr' (ag (pv 1) (ag (pv 0) aD))) (fun v' Hx Qx _ Zx hsp=>?_)) fun Hx st=>?_) ↥0
   ·have e:y.1 = "net" := (by trivial:∀ y:Str×cQ,y∈lsT.names→y.2=cQ.free→y.1 = "net") y hy hf
    obtain ⟨cc,_,_,ec,_⟩:=C0.val 0 "net" v rfl rfl;exact ⟨cc,by rw [e];exact ec⟩
   ·obtain ⟨l2,rg2,q2,c2,e2,R2,cd2,ok2,hvx,kk⟩:=hsp
    cases e2;have KX:=ctF_kp Zx;have f2:=R2.ff N;have tl:l2.length≤15:=by have:=R2.fr.few N.ends ⋯;lia
    apply ⟨_,rfl,_,rfl,v,q2,b,m,sp,c2.1,c2.2,rfl,cN KX.tup hvx,by have:=N.b1;lia,by have:=N.b2;lia,cd2.kp KX,ok2.few,fun z hz=>by rw [ok2.ob.len];exact ((f2.rk z (ok2.sub z hz)).rg N tl).inn,fun r H' S' hd fr'=>?_⟩;apply kk r _ (ptF_back Zx S') ?_
    rcases hd with ⟨rfl,al⟩ | ⟨z,hz,dz,hdz⟩
    ·apply .inr ⟨rfl,al,e7 fun nz=>?_⟩
     have ht2:=f2.acy.nodup.2;have fix:∀ j∈l2,(c2.1.getD j (0,0)).1=(c2.1.getD j (0,0)).2:=fun j hj=>by
      have h1:=(ok2.ob.lo j (ht2 j hj)).2.1;have h2:¬ ((c2.1.getD j (0,0)).1<(c2.1.getD j (0,0)).2):=fun z=>nz ⟨j,hj,z⟩
      lia
     obtain ⟨ts,_,_,hf,_⟩:=tight N f2 ok2.ob ⟨fix,ok2.all al⟩;exact nof ts hf
    ·exact .inl ⟨_,IsD.keepP (bG.tupK (ptF_same fr')) dz (rn z.2).1,rn z.2,z.2,rfl,(f2.rk z (ok2.sub z hz)).rg N tl,hdz⟩
   ·obtain ⟨ps0,e0⟩:=LamT.tbl hT04
    obtain ⟨ps1,e1⟩:=LamT.tbl hT14;have fz':∀ a o u,ptF H3 fz a=some (.frz o u)→Hx a=some (.frz o u):=fun a o u e=>st a _ (fR e e0 nofun) (fR e e1 nofun) e
    obtain ⟨pm,cd,ct,e,oc,vs,t,ec,r⟩:=LF4;exact ⟨⟨pm,cd,ct,fz' _ _ _ e,oc,vs,t,fz' _ _ _ ec,r⟩,fun a o z=>fz' _ _ _ (ra z)⟩
  apply ⟨v,g,b,m,sp,RDead b sp,rfl,hv4,N,hc,hT04,hT14,LM,fun u t H5 st5 kp5 hT05 hT15 du plu gd sz Z5=>?_⟩;have KC:=ctF_kp Z5;have hT25:L2.LamT T2 lpT lqT H5:=by
   obtain ⟨ps0,e0⟩:=LamT.tbl hT04;obtain ⟨ps1,e1⟩:=LamT.tbl hT14
   rcases LamT.same SP hT23 with h | ⟨c',h,oc,vs,t,e,r⟩
   ·exact .inl (st5 _ _ n2 n3 h)
   ·exact .inr ⟨c',st5 _ _ n2 n3 h,oc,vs,t,st5 _ _ (fR e e0 nofun) (fR e e1 nofun) e,r⟩
  apply ⟨pJ,fun q H6 S6 h6=>?_⟩;have kpa:Kp H H6:=kp1.trans (kp2.trans (kp3.trans ((bG.kp SP).trans (kp5.trans (KC.trans (bG.kp S6))))));have sta:∀ a o,a≠T0→a≠T1→a≠T2→H a=some o→H6 a=some o:=fun a o n0 n1 n2' e=>by
   have e3:=tb3 a o n2' (st2 a o n0 n1 (tb1 a o n0 e));have e5:=st5 a o n0 n1 (SP _ _ e3);apply S6 _ _ ?_;have fo:fz a=none:=by
    cases z:fz a with
    | none=>rfl
    | some o'=>rw [N0 a o' z] at e3;cases e3
   rw [iV fo];exact e5
  exact k q H6 sta kpa (LamT.same S6 (LamT.cutF Z5 C0.cell hT05)) (LamT.same S6 (LamT.cutF Z5 C0.cell hT15)) (LamT.same S6 (LamT.cutF Z5 C0.cell hT25)) (.inr ⟨u,t,h6,(IsD.keepP KC.tup du plu).same S6,plu,nof,gd,sz⟩)
structure Mvd (b:Int)(fs us X:List Int)(g:Int→Int):Prop where
 len:X.length=us.length
 tm:∀ k:Int,0≤k→k<us.length→tm X k=(tm us k+g (tm fs k)) % b
theorem Mvd.ok {m:Int}{fs us X:List Int}{g:Int→Int}(M:Mvd b fs us X g)(N:kl b m sp)(lb:Lbl m.toNat sp fs)(h:nI b m sp us):nI b m sp X:=by
 have b1:=N.b1;have lu:=h.1;apply ⟨M.len.trans lu,fun x hx=>?_,?_⟩
 ·obtain ⟨i,hi,rfl⟩:=cn hx
  have lx:=M.len;have e:=M.tm i ⋯ ⋯;have e2:HN.tm X i=X[i]:=by unfold HN.tm;rw [cb,af,gE hi];rfl
  rw [←e2,e];exact ⟨eI _ ⋯,dO _ ⋯⟩
 ·have hf:=h.2.2
  unfold l9 at hf ⊢;rw [jW,jV] at hf ⊢;intro x hx;have s:=N.ends x hx;have w:iU b X x=iU b us x:=by
   unfold iU;rw [M.tm x.g s.2.2.1 ⋯,M.tm x.s s.1 ⋯,←lb.spn x hx];have a1:=fE (HN.tm us x.g+g (HN.tm fs x.s)) b;have a2:=fE (HN.tm us x.s+g (HN.tm fs x.s)) b;have:(HN.tm us x.g+g (HN.tm fs x.s)) % b - (HN.tm us x.s+g (HN.tm fs x.s)) % b - x.l=HN.tm us x.g - HN.tm us x.s - x.l+b * ((HN.tm us x.s+g (HN.tm fs x.s)) / b - (HN.tm us x.g+g (HN.tm fs x.s)) / b):=by
    rw [Int.mul_sub];lia
   rw [this,i7]
  have:=hf x hx;unfold brk at this ⊢;rw [w];exact this
abbrev AT:=ak×List Int
structure NoneC (H:Hp)(q:ak)(b:Int)(sp:List Sn)(u:V)(t:Tq):Prop where
 q:H q=some (.tup [.str "none",u])
 tree:IsD H u (kq t)
 pl:pl (kq t)=true
 no:∀ T,¬ l9 b T sp=true
 good:GoodT (RDead b sp) t (sp.map fun z=>(z.l,z.o)) 21∧siz t≤8191
def qf {x:Int}:x % b=y % b↔∃ k,x=y+b * k:=by
 constructor
 ·intro h
  have a1:=fE x b;have a2:=fE y b;exact ⟨x / b - y / b,by rw [Int.mul_sub];lia⟩
 ·rintro ⟨k,rfl⟩
  exact i7 y b k
def md_eq {x k:Int}(x0:0≤x)(x1:x<b)(y0:0≤y)(y1:y<b)(h:x=y+b * k):x=y:=by
 have:=qf.mpr ⟨k,h⟩;rw [fP x0 x1,fP y0 y1] at this;exact this
theorem part_same {m:Int}{fs t T:List Int}(N:kl b m sp)(fr:jD m.toNat sp l)(hl:∀ i∈l,i<sp.length)(h:∀ k∈l,kF b t sp k=kF b T sp k)(lb:Lbl m.toNat sp fs){x:Int}(x0:0≤x)(x1:x<m)(y0:0≤y)(y1:y<m)(e:tm fs x=tm fs y) :
  ∃ k,tm t x - tm T x=tm t y - tm T y+b * k:=by
 have P:∀ i∈l,∃ k,tm t (sAt sp i).g - tm T (sAt sp i).g=tm t (sAt sp i).s - tm T (sAt sp i).s+b * k:=fun i hi=>by
  have hk:=hl i hi;have ek:sAt sp i=sp[i]:=by unfold sAt;rw [af,gE hk];rfl
  have q:=h i hi;unfold kF at q;rw [gE hk] at q;have q:sp[i].l+iU b t sp[i]=sp[i].l+iU b T sp[i]:=q;have q2:iU b t sp[i]=iU b T sp[i]:=by lia
  unfold iU at q2;obtain ⟨k,hk2⟩:=qf.mp q2;rw [ek];exact ⟨k,⋯⟩
 have A:∀ z∈sp,(∃ k,tm t z.s - tm T z.s=tm t y - tm T y+b * k)↔∃ k,tm t z.g - tm T z.g=tm t y - tm T y+b * k:=fun z hz=>by
  obtain ⟨j,hj,rfl⟩:=cn hz;have ej:sAt sp j=sp[j]:=by unfold sAt;rw [af,gE hj];rfl
  rw [←ej];have I:∀ i∈l,(∃ k,tm t (sAt sp i).s - tm T (sAt sp i).s=tm t y - tm T y+b * k)↔∃ k,tm t (sAt sp i).g - tm T (sAt sp i).g=tm t y - tm T y+b * k:=fun i hi=>by
   obtain ⟨k,e⟩:=P i hi
   constructor
   ·rintro ⟨k2,e2⟩;exact ⟨k+k2,by rw [kI];lia⟩
   ·rintro ⟨k2,e2⟩;exact ⟨k2 - k,by rw [Int.mul_sub];lia⟩
  have H:=fr.held N.ends hj;apply ⟨H (fun z=>∃ k,tm t z - tm T z=tm t y - tm T y+b * k) I,fun hg=>e7 fun ns=>?_⟩;exact H (fun z=>¬ ∃ k,tm t z - tm T z=tm t y - tm T y+b * k) (fun i hi=>not_congr (I i hi)) ns hg
 have m1:=N.m1;exact ((lb.same x0 ⋯ y0 ⋯).mp e (fun z=>∃ k,tm t z - tm T z=tm t y - tm T y+b * k) A).mpr ⟨0,⋯⟩
def zrT (b:Int)(T:List Int)(m:Nat):List Int:=(aJ m).map fun (i:Nat)=>(tm T i - tm T 0) % b
def tm_zr {T:List Int}{x:Int}(h0:0≤x)(h1:x<m):tm (zrT b T m) x=(tm T x - tm T 0) % b:=by
 obtain ⟨j,rfl⟩:=cG h0;unfold tm zrT;rw [cb,af,ax,fb ⋯];rfl
theorem zr_ok {m:Int}{fs T:List Int}(N:kl b m sp)(lb:Lbl m.toNat sp fs)(h:nI b m sp T):nI b m sp (zrT b T m.toNat)∧tm (zrT b T m.toNat) 0=0:=by
 have m1:=N.m1;have lT:=h.1;apply ⟨Mvd.ok (fs:=fs) (g:=fun _=> - tm T 0) ⟨by unfold zrT;rw [aa,aY,lT],fun k k0 k1=>?_⟩ N lb h,?_⟩
 ·rw [tm_zr k0 ⋯];rfl
 ·rw [tm_zr ↥0 ⋯,Int.sub_self,Int.zero_emod]
structure FitL (b m:Int)(sp:List Sn)(F:List (List Int)):Prop where
 all:∀ t∈F,nI b m sp t∧tm t 0=0
 hold:∀ t,nI b m sp t→tm t 0=0→t∈F
abbrev sFitg:cL:=top 72
abbrev sIsT6:cL:=top 73
theorem allT_rng {b:Nat}:∀ (n:Nat),∀ t∈oo b n,∀ x∈t,0≤x∧x<(b:Int)
 | 0,t,h,x,hx=>by rw [aw.mp h] at hx;cases hx
 | n+1,t,h,x,hx=>by
  obtain ⟨t',h1,h2⟩:=List.mem_flatMap.mp (show t∈l4 b (oo b n) from h);obtain ⟨c,hc,rfl⟩:=bc.mp h2
  rcases aH.mp hx with z | z
  ·exact allT_rng n t' h1 x z
  ·rw [aw.mp z];have:=bT.mp hc;lia
def fitF (b m:Int)(sp:List Sn)(l:List (List Int)):List (List Int):=(l.map fun t=>(0:Int)::t).filter fun t=>l9 b t sp
theorem fitL_of {m:Int}(N:kl b m sp):FitL b m sp (fitF b m sp (oo b.toNat (m - 1).toNat)):=by
 have b1:=N.b1;have m1:=N.m1
 constructor
 ·intro t ht
  obtain ⟨h1,h2⟩:=cp.mp ht;obtain ⟨t',h3,rfl⟩:=bc.mp h1;apply ⟨⟨by rw [aP,om _ _ _ h3];lia,fun x hx=>?_,h2⟩,rfl⟩
  rcases aF.mp hx with rfl | hx
  ·lia
  ·have:=allT_rng _ _ h3 x hx;lia
 ·intro t ok z
  obtain ⟨l1,r1,f1⟩:=ok;cases t with
  | nil=>rw [kJ] at l1;lia
  | cons a t =>
   have z:a=0:=z;subst z;apply cp.mpr ⟨bc.mpr ⟨t,pj _ _ (by rw [aP] at l1;lia) (fun x hx=>?_),rfl⟩,f1⟩;have:=r1 x (ay _ hx);lia
inductive spFitg (vs:List V)(H:Hp)(Q:VK)(_:XK):Prop
 | mk (v:V)(b m:Int)(sp:List Sn)(_:vs=[v])(_:IsD H v (jX b m sp))(_:kl b m sp)(_:b≤6)(_:m≤4)(_:∀ (L:ak) (us:List V) (F:List (List Int)) (H':Hp),bG H H'→H' L=some (.lst us)→dW H' us (de id F)→FitL b m sp F→F.length≤216→Q (.ref L) H')
inductive spIsT6 (vs:List V)(H:Hp)(Q:VK)(_:XK):Prop
 | mk (v:V)(u:ak)(b m:Int)(sp:List Sn)(ts:List Int)(_:vs=[v,.ref u])(_:IsD H v (jX b m sp))(_:H u=some (.tup (ts.map V.int)))(_:(ts.length:Int)=m)(_:m≤16)(_:∀ H',bG H H'→Q (.bl true) H')
def scFitg:bW ["_law_net","_law_found","_law_table_here"] ["_law_net"] (defScope sFitg):=by trivial
theorem ok_fitg (F:Fun K "_law_fitting" "_law_fitting" sFitg f fd)
  (G1:Fn K mg "_law_tables" sTables pzC f1 fd1) (F1:cO P w K mg base CX0 1 f1 fd1 pzC spTabsA)
  (G2:Fn K mg "_law_all_kept" sAllK pzi f2 fd2) (F2:cO P w K mg base CX0 2 f2 fd2 pzi spAllK):cO P w K mg base CX0 3 f fd ["_law_net"] spFitg:=by
 specialize F.ok scFitg;obtain ⟨v,b,m,sp,rfl,hv,N,b6,m4,k⟩:=h;obtain ⟨t,p,ys,rfl,ht,hp,hl,hy⟩:=fJ hv;have hr1:ik 1 _:=hr.mono ↥0;have b1:=N.b1;have m1:=N.m1;apply ⟨_,PSl.h (ba ⟨(psZ 1 scFitg.nd (jv aD))⟩
  (ba ⟨(iL bH rfl (gH (pc1 G1 F1 hr1 (ag (ixZ (pv 0)) (ag (c9 j8 (ixZ (pv 0)) bI) aD)))) (pgZ 2 scFitg.nd) (cw (gF (iK (pc1 G2 F2 hr (ag (pv 0) (ag (c9 mw (dB (ag bI aD)) (pv 2)) aD)))) (cw (iB (l7 bf bR bQ gc (pv 1) (ag (c9 mw (dB (ag bI aD)) (pv 2)) aD)))) dv)))⟩
  (cS ⟨(b9 (pv 1))⟩))),?_⟩
 apply ⟨bo _,fun Ls hLs=>?_⟩;have S1:bG H (upd H Ls (.lst [])):=(bG.refl H).put hLs;have h1:(upd H Ls (.lst [])) Ls=some (.lst []):=aV;generalize upd H Ls (.lst [])=H1 at S1 h1 ⊢;apply ⟨_,rfl,t,_,_,_,rfl,rfl,SqT.of (S1 _ _ ht),aS (j:=0) rfl,_,rfl,t,_,_,_,rfl,rfl,SqT.of (S1 _ _ ht),aS (j:=1) rfl,_,_,rfl,rfl,b,m - 1,rfl,⋯,b6,⋯,⋯,fun L us H2 S2 hL dT=>⟨L,rfl,⟨_,SqL.of hL⟩,?_⟩⟩;have nL:L≠Ls→True:=fun _=>trivial
 have lus:us.length=(oo b.toNat (m - 1).toNat).length:=by rw [dT.length];exact aa ..
 have cap:(oo b.toNat (m - 1).toNat).length≤216:=aN (allT_len _ _) (aN (Nat.pow_le_pow_left (by lia:b.toNat≤6) _) (Nat.pow_le_pow_right ↥0 (by lia:(m - 1).toNat≤3)));have h2:=S2 _ _ h1;have S02:=S1.trans S2
 by_cases nLL:L=Ls
 ·subst nLL
  rw [hL] at h2;cases h2;rw [kJ] at lus;have e:oo b.toNat (m - 1).toNat=[]:=dJ.mp lus.symm;have:=pj (b:=b.toNat) (m - 1).toNat (bx (m - 1).toNat 0) (dI ..) (fun x hx=>by rw [(kX.mp hx).2];lia);rw [e] at this;cases this
 apply jx (K:=K) (a:=L) (xs:=us) (fun i σ HD=>bG H HD∧HD L=some (.lst us)∧kg H2 HD∧∃ (v2:Option V) (zs:List V),σ=[some (.ref t),some (.ref Ls),v2]∧HD Ls=some (.lst zs)∧dW HD zs (de id (fitF b m sp ((oo b.toNat (m - 1).toNat).take i)))) ⟨S02,hL,fun _ _ e=>e,none,[],rfl,h2,.nil⟩ (fun i σ HD _ ⟨_,e,_⟩=>SqL.of e) ?_ ?_
 ·rintro i u σ HD hu ⟨SD,hLD,KD,v2,zs,rfl,hD,dD⟩
  have hi:i<us.length:=(ao.mp hu).1;have hi2:i<(oo b.toNat (m - 1).toNat).length:=by lia
  obtain ⟨d,ed,dd⟩:=dT.get hu;unfold de at ed;rw [ax,gE hi2] at ed;cases ed;obtain ⟨q,xs,rfl,hq,rx⟩:=dd.tup_of;have ex:=rx.ints_of;subst ex;have hlen:=om b.toNat _ _ (bb hi2);obtain ⟨ts,hts⟩:∃ ts,ts=(oo b.toNat (m - 1).toNat)[i]:=⟨_,rfl⟩;have hq2:HD q=some (.tup (ts.map V.int)):=by rw [hts];exact KD _ _ hq
  rw [←hts] at hlen;have ef:fitF b m sp ((oo b.toNat (m - 1).toNat).take (i+1))=fitF b m sp ((oo b.toNat (m - 1).toNat).take i)++(if l9 b (0::ts) sp=true then [0::ts] else []):=by
   unfold fitF;rw [bj,gE hi2,aE,fZ,←hts];congr 1;show List.filter _ [0::ts]=_;rw [eN];rfl
  have lz:zs.length≤216:=by
   rw [dD.length];unfold de fitF;rw [aa];apply aN (cX _ _) ?_;rw [aa,bK];lia
  have c1:([V.int 0]++ts.map V.int)=(0::ts).map V.int:=rfl;apply ⟨_,rfl,szZ1,fun q1 H3 S3 h3=>⟨_,rfl,q1,q,_,_,rfl,rfl,h3,S3 _ _ hq2,?_,fun q4 H4 S4 h4=>?_⟩⟩
  ·rw [aa,hlen];exact aN (by show 1+(m - 1).toNat≤1000;lia) ↥0
  rw [c1] at h4;apply ⟨.ref t,q4,b,m,sp,0::ts,rfl,(hv.same SD).same (S3.trans S4),h4,N.rdy (by rw [aP];lia),fun H5 S5=>⟨_,rfl,?_⟩⟩;have SD5:bG HD H5:=S3.trans (S4.trans S5);rw [ef];apply rp (fun hc=>?_) (fun hc=>?_)
  ·rw [rO hc]
   have hD5:=SD5 _ _ hD;apply ⟨_,rfl,.inl ⟨rfl,_,SqL.of hD5⟩,szZ1,fun q6 H6 S6 h6=>⟨_,rfl,q6,q,_,_,rfl,rfl,h6,S6 _ _ (SD5 _ _ hq2),?_,fun q7 H7 S7 h7=>?_⟩⟩
   ·rw [aa,hlen];exact aN (by show 1+(m - 1).toNat≤1000;lia) ↥0
   rw [c1] at h7;have S57:bG HD H7:=SD5.trans (S6.trans S7);have hD7:=S57 _ _ hD;apply ⟨Ls,zs,_,rfl,rfl,hD7,(bX lz ↥0),?_⟩;have KU:kg H7 (upd H7 Ls (.lst (zs++[.ref q7]))):=eO hD7;apply ⟨fun a o e=>?_,by rw [bq nLL];exact S57 _ _ hLD,fun a xs e=>KU _ _ (S57 _ _ (KD _ _ e)),_,zs++[.ref q7],rfl,aV,?_⟩
   ·rw [bq (bF e hLs)];exact S57 _ _ (SD _ _ e)
   ·unfold de
    rw [aE];exact (dk KU (dD.same S57)).append (.cons (.tup (KU _ _ h7) (dW.ints _)) .nil)
  ·rw [rN hc,dg]
   exact ⟨SD.trans SD5,SD5 _ _ hLD,fun a xs e=>SD5 _ _ (KD _ _ e),_,zs,rfl,SD5 _ _ hD,dD.same SD5⟩
 ·rintro σ HD ⟨SD,hLD,KD,v2,zs,rfl,hD,dD⟩
  rw [lus,bp] at dD;apply ⟨_,rfl,k Ls zs _ HD SD hD dD (fitL_of N) ?_⟩;unfold fitF;apply aN (cX _ _) ?_;rw [aa];exact cap
def scIsT6:bW pzz pzz (defScope sIsT6):=by trivial
def ok_isT6 (F:Fun K "_law_is_table" "_law_is_table" sIsT6 f fd)(T:Nm mg):cO P w K mg base CX0 1 f fd pzz spIsT6:=by
 specialize F.ok scIsT6;obtain ⟨v,u,b,m,sp,ts,rfl,hv,hu,hl,m16,k⟩:=h;obtain ⟨t,p,ys,rfl,ht,hp,_,hy⟩:=fJ hv;apply ⟨_,PSl.h (ba ⟨(gF (PW.pt (oF (j7 (iK (mN T (pv 1)))) (mm (cA op_ne (cg bP rfl T.len bD (ag (pv 1) aD)) (ixZ (pv 0)) (cP _))))) (cw (b9 mV)) dv)⟩
  (cS ⟨(b9 (jI (op_eqL0 hr.units0) (gW (fr:=[]) (js:=[]) rfl (mr (pv 1)) ⇑0 rfl ⇑0 rfl (by exists sIsT6) ⇑0 rfl ⇑0 (fun _ _ _ _ _=>⟨(pv 0),(mq (PW.pt (oF (j7 (iK (pe_isInt T (pv 0)))) (mm (iK (pe_isBool T (pv 0)))))))⟩)) (ny aD) (cP _)))⟩)),?_⟩
 apply ⟨_,rfl,_,_,rfl,(IsD.tup hu (dW.ints ts)).tyn,_,rfl,kL rfl ?_⟩;apply ⟨_,rfl,u,_,rfl,.inr (SqT.of hu),_,rfl,t,_,_,_,rfl,rfl,SqT.of ht,aS (j:=1) rfl,rfl,_,rfl,kL ?_ ?_⟩
 ·rw [aa,hl,rR rfl];rfl
 apply ⟨_,rfl,u,rfl,⟨_,SqT.of hu⟩,?_⟩;apply kQ (K:=K) (a:=u) (xs:=ts.map V.int) (fun i zs H2=>H2=H∧zs=[]) ⟨rfl,rfl⟩ (fun i zs H2 hi ⟨e1,e2⟩=>⟨by rw [e1];exact SqT.of hu,by rw [e2];exact bo _⟩) (by rw [aa];exact d8 ⋯) (fun i x zs H2 hx ⟨e1,e2⟩=>?_) (fun zs H2 ⟨e1,e2⟩ D hD=>?_)
 ·subst e1
  obtain ⟨y,hy',rfl⟩:=bc.mp (aW hx);apply ⟨_,rfl,_,_,rfl,(IsD.int y).tyn,_,rfl,kL rfl ?_⟩;apply ⟨_,rfl,_,_,rfl,(IsD.int y).tyn,_,rfl,?_⟩;exact ⟨rfl,e2⟩
 ·subst e1 e2
  apply ⟨(by show 0≤bg;exact bo _),fun l2 H3 S3 h3=>⟨D,l2,_,rfl,rfl,SqL.of (S3 _ _ aV),SqL.of h3,?_⟩⟩;exact k H3 (((bG.refl H2).put hD).trans S3)
end HN
variable {Ys:List HN.AT}
namespace L2
open PySem PySem.W PySem.Spec PyProof.Rows
def LamG (P:ak)(q:Str)(H:Hp):Prop:=∃ l:List (Pos×ak),H P=some (.tbl (triples l).toArray)∧∀ e∈l,CdK q H e.2
def LamG.tbl {P:ak}(k:LamG P q H):∃ ps,H P=some (.tbl ps):=let ⟨_,e,_⟩:=k;⟨_,e⟩
def LamG.nil {P:ak}(e:H P=some (.tbl #[])):LamG P q H:=⟨[],e,fun _ h=>rQ h ∅⟩
def CdK.ne {P c:ak}{ps:Array ae}(k:CdK q H c)(e:H P=some (.tbl ps)):c≠P:=fun z=>by
 obtain ⟨oc,vs,t,e2,_⟩:=k;rw [z,e] at e2;cases e2
def LamG.stay {P:ak}(k:LamG P q H)(hT:∀ ps,H P=some (.tbl ps)→H' P=some (.tbl ps))(hf:∀ a o u,H a=some (.frz o u)→H' a=some (.frz o u)):LamG P q H':=by
 obtain ⟨l,e,r⟩:=k;apply ⟨l,hT _ e,fun x hx=>?_⟩;obtain ⟨oc,vs,t,e2,z⟩:=r x hx;exact ⟨oc,vs,t,hf _ _ _ e2,z⟩
def LamG.same {P:ak}(a:bG H H')(k:LamG P q H):LamG P q H':=k.stay (fun _ e=>a _ _ e) fun _ _ _ e=>a _ _ e
def ox:∀ l:List (Pos×ak),TriplesOk (triples l)
 | []=>trivial
 | (p,c)::r=>ox r
def pH {pos:Pos}:∀ {l:List (Pos×ak)} {cv:ae},codeAmong pos (triples l)=some cv→∃ e∈l,cv= .ref e.2
 | [],cv,h=>by cases h
 | (p,c)::r,cv,h=>by
  have h:(if (((p.line:Nat):Int) == ((pos.line:Nat):Int) && ((p.col:Nat):Int) == ((pos.col:Nat):Int))=true then some (ae.ref c) else codeAmong pos (triples r))=some cv:=h;split at h
  ·cases h;exact ⟨(p,c),∅,rfl⟩
  ·obtain ⟨e,he,z⟩:=pH h
   exact ⟨e,by simp [he],z⟩
section
variable {σ:List (Option V)}
def lam_makeG {c P:ak}(I:Inv X aR σ H s)(hd:defaultsOf params X.env=([],[]))(nE:X.env.code= .ref c)(C:codeHdIn X.K c P=true)(B:BM X.mg X.base)
  (hfr:∀ y∈scope.names,y.2= .free→X.env.scope.names.lookup y.1=some .cell) (T:LamG P (X.env.qual ++ "<lambda>") H)
  (h:∀ f cl H' s',Inv X aR σ H' s'→Tb P H H'→LamG P (X.env.qual ++ "<lambda>") H'→LamF (X.env.qual ++ "<lambda>") params body scope cl f H'→(∀ x c,cl.lookup x=some c→X.env.cells.lookup x=some c)→(∀ y∈scope.names,y.2= .free→cl.lookup y.1=X.env.cells.lookup y.1)→Q (.ref f) s') :
  aU (bt X.prog X.w) X.A (eE (.Lambda params body scope pos) X.env) Q X.xe s:=by
 obtain ⟨cl,hclos,c1,c2⟩:=nG (scope:=scope) (env:=X.env) fun y hy hk=>I.ok.has _ (.inl (hfr y hy hk))
 apply kla_eval hd ?_;have hgs:s.heap.Ns bO X.mg:=I.mod.glob.keeps I.bk;obtain ⟨bm,ob,b1,b2,b3,b4,b5⟩:=B;have CH:CodeHd s.heap c P:=codeHd_of_K I.kIn C;obtain ⟨l,hP,K⟩:=T;have hbP:bm≠P:=fun q=>by have z:=(I.bs bm ob b4).2;rw [q,hP] at z;cases z
 have hgP:bO≠P:=fun q=>by
  obtain ⟨o,es,ep,e,_⟩:=I.mod.glob;have z:=(I.bs _ o e).2;rw [q,hP] at z;cases z
 have hBA:s.heap.BuiltinsAt X.mg P:=⟨bm,ob,b1,b2,b3,hbP,I.bk _ _ b4,b5⟩;have fin:∀ (H1:Hp) (h1:bL) (tk:Nat) (c':ak) (ctv:ae),Inv X aR σ H1 { s with heap:=h1,toks:=tk }→Tb P H H1→LamG P (X.env.qual ++ "<lambda>") H1→CdK (X.env.qual ++ "<lambda>") H1 c' →
   Q (.ref h1.objs.size) { s with heap:=h1.push (kla_obj "<lambda>" (X.env.qual ++ "<lambda>") params body scope cl ((X.mg "__name__").getD .none) c' ctv),toks:=tk }:=fun H1 h1 tk c' ctv I1 t1 T1 K1=>by
  have fr:H1 h1.objs.size=none:=I1.hok.fresh (az _);have S:bG H1 (upd H1 h1.objs.size (.frz (kla_obj "<lambda>" (X.env.qual ++ "<lambda>") params body scope cl ((X.mg "__name__").getD .none) c' ctv) (.own 0))):=fun a o e=>by rw [bq (bF e fr)];exact e
  have I2:=I1.laid (t':=tk) (a:=h1.objs.size) (o:= .frz (kla_obj "<lambda>" (X.env.qual ++ "<lambda>") params body scope cl ((X.mg "__name__").getD .none) c' ctv) (.own 0)) (h':=h1.push (kla_obj "<lambda>" (X.env.qual ++ "<lambda>") params body scope cl ((X.mg "__name__").getD .none) c' ctv)) (fun b u e=>aq _ e) (az _) ⟨aQ _ rfl,_,aQ _ rfl⟩;obtain ⟨oc,vs,t,e,r⟩:=K1;exact h _ cl _ _ I2 (t1.trans S.tb) (T1.same S) ⟨_,c',ctv,aV,oc,vs,t,S _ _ e,r⟩ c1 c2
 have hPh:s.heap.get? P=some (tabObj (triples l).toArray):=I.hok P _ hP;cases hq:codeAmong pos (triples l) with
 | none =>
  apply kla_makeFunction (mg:=X.mg) hclos I.ok.glob hgs nE CH hPh (by rw [e8];exact ox l) (by rw [e8];exact hq) hgP hBA fun c' ctv h' tk hx hge hlt hrec htb=>?_
  have I1:=I.grown (tk:=tk) hP hx htb;obtain ⟨c2',oc,vs,t,e2,hoc,hdd,hv⟩:=hrec;cases e2;have Plt:P<s.heap.objs.size:=aI hPh;have ncP:c'≠P:=cE (aM Plt hge);have frc:H c'=none:=I.hok.fresh hge;have hn1:(upd H P (.tbl ((triples l).toArray++ #[jo pos.line,jo pos.col,.ref c']))) c'=none:=by rw [bq ncP];exact frc
  have old:∀ b o,s.heap.get? b=some o→b≠c':=fun b o e=>bB (aM (aI e) hge)
  have I2:=I1.take (D:=c') (o:= .frz oc (.own 0)) hn1 (aN I.sz hge) (cE (aM I.lt hge)) (fun x d e=>by obtain ⟨v,o,ho,_⟩:=I.cell x d e;exact old d o ho) (fun p hp=>old _ _ (I.pin p hp).1) ⟨hoc,_,hoc⟩;have tb:Tb P H (upd (upd H P (.tbl ((triples l).toArray++ #[jo pos.line,jo pos.col,.ref c']))) c' (.frz oc (.own 0))):=fun a o hn e=>by
   rw [bq (bF e frc),bq hn];exact e
  apply fin _ h' tk c' ctv I2 tb ⟨l++[(pos,c')],?_,fun x hx=>?_⟩ ⟨oc,vs,t,aV,hdd,hv⟩
  ·rw [bq (cH ncP),aV,triples_append]
   congr 2
   apply Array.toList_inj.mp ?_
   simp
  ·rcases aH.mp hx with hx | hx
   ·exact (K x hx).tb tb ((K x hx).ne hP)
   ·rw [aw.mp hx]
    exact ⟨oc,vs,t,aV,hdd,hv⟩
 | some cv =>
  obtain ⟨e,he,rfl⟩:=pH hq;apply kla_makeFunctionHit (cv:= .ref e.2) (mg:=X.mg) hclos I.ok.glob hgs nE CH hPh (by rw [e8];exact ox l) (by rw [e8];exact hq) hBA fun ctv h' tk hk hsz=>?_
  exact fin H h' tk e.2 ctv (I.kept hk) (Tb.refl H) ⟨l,hP,K⟩ (K e he)
def Inv.repinE {o o':Obj}(I:Inv X ((kS,o)::aR) σ H s)(hs0:X.s₀.heap.objs.size≤kS)(hC:∀ x c,X.env.cells.lookup x=some c→c≠kS)(hP:∀ p∈X.pn++aR,p.1≠kS)(k:∀ b o,b≠kS→s.heap.get? b=some o→h'.get? b=some o)(ho':h'.get? kS=some o')(hd:∀ v,o'.data≠ .cell v):Inv X ((kS,o')::aR) σ H { s with heap:=h',toks:=t' }:=by
 obtain ⟨p1,p2,p3,p4,_⟩:=I.pin (kS,o) (aA _ (bu ..));have I2:=I.unpin.turned (t':=t') (it:=kS) (h':=h') k p2 p3 (.inr hs0) hC hP;apply I2.pins_of fun p hp=>?_
 rcases aF.mp hp with rfl | hp
 ·exact ⟨ho',p2,p3,p4,hd⟩
 ·exact I2.pin p (aA _ hp)
def Inv.swap {p q:ak×Obj}(I:Inv X (p::q::aR) σ H s):Inv X (q::p::aR) σ H s:=I.pins_of fun z hz=>by
 apply I.pin z (aA _ ?_)
 rcases aF.mp hz with rfl | hz
 ·simp
 ·rcases aF.mp hz with rfl | hz
  ·simp
  ·simp [hz]
end
def gp (key:Nat→Int):Nat→Nat:=argBest fun i j=>decide (key i<key j)
def best_ok (key:Nat→Int):∀ n,gp key n≤n∧∀ j,j≤n→key (gp key n)≤key j
 | 0=>⟨az 0,fun j hj=>by rw [Nat.le_zero.mp hj];exact fW _⟩
 | n+1=>by
  obtain ⟨h1,h2⟩:=best_ok key n;have e:gp key (n+1)=if decide (key (n+1)<key (gp key n))=true then n+1 else gp key n:=rfl;rw [e]
  by_cases c:key (n+1)<key (gp key n)
  ·rw [rO (rR c)]
   apply ⟨az _,fun j hj=>?_⟩
   by_cases z:j=n+1
   ·rw [z];exact fW _
   ·have:=h2 j ⋯;lia
  ·rw [rN (by rw [rS c];exact aZ)]
   apply ⟨⋯,fun j hj=>?_⟩
   by_cases z:j=n+1
   ·rw [z];lia
   ·exact h2 j ⋯
section
variable {σ:List (Option V)}
def KeyI (X:Cx)(σ:List (Option V))(H:Hp)(f:ae)(vs:List V)(key:Nat→Int):Prop :=
 ∀ (t:av) (H':Hp) (pins':List (ak×Obj)) (i:Nat) (v:V) (u:ae),vs[i]? =some v→gq v u→Inv X pins' σ H' t→bG H H'→aU (bt X.prog X.w) X.A.in1 (jZ f [u]) (fun k t'=>∃ H'' tk,Inv X pins' σ H'' t'∧bG H' H''∧k= .int (key i) tk) (fun _ _=>False) t
structure Two (X:Cx)(aR:List (ak×Obj))(It S:ak):Prop where
 i0:X.s₀.heap.objs.size≤It
 s0:X.s₀.heap.objs.size≤S
 ic:∀ x c,X.env.cells.lookup x=some c→c≠It
 sc:∀ x c,X.env.cells.lookup x=some c→c≠S
 ip:∀ p∈X.pn++aR,p.1≠It
 sp:∀ p∈X.pn++aR,p.1≠S
 ne:It≠S
def Two.ipS {It S:ak}(T:Two X aR It S)(o:Obj):∀ p∈X.pn++((S,o)::aR),p.1≠It:=fun p hp=>by
 rcases aH.mp hp with hp | hp
 ·exact T.ip p (aK _ hp)
 ·rcases aF.mp hp with rfl | hp
  ·exact cH T.ne
  ·exact T.ip p (aA _ hp)
def Two.spI {It S:ak}(T:Two X aR It S)(o:Obj):∀ p∈X.pn++((It,o)::aR),p.1≠S:=fun p hp=>by
 rcases aH.mp hp with hp | hp
 ·exact T.sp p (aK _ hp)
 ·rcases aF.mp hp with rfl | hp
  ·exact T.ne
  ·exact T.sp p (aA _ hp)
def mO {It S:ak}{oS:Obj}{vs:List V}{Q:Option ae→av→Prop}(hh:A.handled=none)(T:Two X aR It S)(I:Inv X ((It,oI)::(S,oS)::aR) σ H s)(hL:H L=some (.lst vs))(hI:oI.cls= .type "list_iterator" ∧oI.data= .fields #[.ref L,.int j 0])
  (hit:∀ v u oI' s',vs[j]? =some v→gq v u→Inv X ((It,oI')::(S,oS)::aR) σ H s'→oI'.cls= .type "list_iterator" ∧oI'.data= .fields #[.ref L,.int ((j+1:Nat):Int) 0]→Q (some u) s')
  (hend:∀ s',j=vs.length→Inv X ((S,oS)::aR) σ H s'→Q none s') (hj:j≤vs.length):aU (bt X.prog X.w) A (jB (.ref It)) Q E s:=by
 obtain ⟨its,rv,⟨o,n,ho,hcl,_,hd⟩,_⟩:=I.list (SqL.of hL);have gI:=(I.pin (It,oI) (aA _ (bu ..))).1;have hLI:L≠It:=fun z=>by have:=(I.pin (It,oI) (aA _ (bu ..))).2.1;rw [←z,hL] at this;cases this
 have st:s.heap.IsListIter It L j∧s.heap.IsList L its.toArray:=⟨⟨oI,gI,hI.1,hI.2⟩,⟨o,ho,hcl,n,hd⟩⟩;have W:=Walks.list (prog:=X.prog) (w:=X.w) (A:=A) hh It L hLI its.toArray;have lz:its.length=vs.length:=rv.length.symm
 by_cases e:j=vs.length
 ·apply W.done s _ _ (by rw [aG,lz,←e];exact st) fun h' tk hk=>hend _ e ?_
  have:=I.unpin.turned (t':=tk) (it:=It) (h':=h') (fun b o hb e=>hk b o (by simp [hb]) e) (I.pin (It,oI) (aA _ (bu ..))).2.1 (I.pin (It,oI) (aA _ (bu ..))).2.2.1 (.inr T.i0) T.ic (T.ipS oS);exact this
 ·apply W.item j s _ _ (by rw [aG];lia) st fun u h' tk hu st' hk=>?_
  obtain ⟨oI',gI',c1,c2⟩:=st'.1;have hu:its[j]? =some u:=by simpa using hu
  have hv:vs[j]? =some (vs[j]'⋯):=gE _;apply hit vs[j] u oI' _ hv ?_ (I.repinE T.i0 T.ic (T.ipS oS) (fun b o hb e=>hk b o (by simp [hb]) e) gI' (fun v z=>by rw [c2] at z;cases z)) ⟨c1,c2⟩;obtain ⟨u',hu',ru⟩:=gw.get rv hv;rw [hu] at hu';cases hu';exact ru
end
def kH {id:String}{b:eQ}{args:List ae}(hk:builtinKind id=none)(hp:plainId id=true)
  (hb:entryFor table id=some b) (ha:argsOk id ⟨args,kw⟩)
  (hfin:aU (bt prog w) A.in1 (b ⟨args,kw⟩) (fun fin s'=>match fin with
   | .done f=>(match (Except.ok f:Result) with | .ok (.ret v)=>Q v s' | .ok _=>False | .error e=>E e s')
   | .again c'=>c'.quiet=true∧i9 (bt prog w) A c' (fun r s'=>match r with | .ok (.ret v)=>Q v s' | .ok _=>False | .error e=>E e s') s') E s):aU (bt prog w) A (jZ (.builtin id) args kw) Q E s:=by
 apply wpAny_call (codeAny_call_builtin hp hb ?_);simp only [checkBuiltinCall,hk];cases hsig:Manifest.signature? id with
 | none=>exact aL hfin
 | some sig =>
  have ha':Bind.checkArgs id sig ⟨args,kw⟩=fQ ():=by simpa only [argsOk,hsig] using ha
  simp only [ha'];exact aL hfin
section
variable {σ:List (Option V)}
def Inv.pin1 {p:ak×Obj}(I:Inv X (p::aR) σ H s):s.heap.get? p.1=some p.2:=(I.pin p (aA _ (bu ..))).1
def Inv.pin2 {p q:ak×Obj}(I:Inv X (p::q::aR) σ H s):s.heap.get? q.1=some q.2:=I.unpin.pin1
def min_put {It S:ak}{xs:Array ae}{c:Nat}(T:Two X aR It S)(I:Inv X ((It,oI)::(S,bJ "list" xs c)::aR) σ H s)(ys:Array ae):∃ c',Inv X ((It,oI)::(S,bJ "list" ys c')::aR) σ H { s with heap:=s.heap.update S (cK fun _=>ys) }:=by
 have hS:=I.pin2;obtain ⟨c',hc'⟩:∃ c',(s.heap.update S (cK fun _=>ys)).get? S=some (bJ "list" ys c'):=⟨_,fV hS fun _=>ys⟩;exact ⟨c',(I.swap.repinE (t':=s.toks) T.s0 T.sc (T.spI oI) (fun b o hb e=>(il _ _ (cH hb)).trans e) hc' (fun v z=>by cases z)).swap⟩
theorem min_loop {It S g:ak}{vs:List V}(T:Two X aR It S)(hh:X.A.handled=none)(hkey:KeyI X σ H (.ref g) vs key)(hL:H L=some (.lst vs))
  (fin:∀ v u H' s',vs[gp key (vs.length - 1)]? =some v→gq v u→bG H H'→Inv X aR σ H' s'→R (.ok (.ret u)) s') :
  ∀ (k j:Nat) (s:av) (H':Hp) (v:V) (vb:ae) (tb:Tok) (c:Nat) (oI:Obj),vs.length - (j+1)=k→j+1≤vs.length→bG H H'→Inv X ((It,oI)::(S,bJ "list" #[vb,.int (key (gp key j)) tb] c)::aR) σ H' s →
   oI.cls= .type "list_iterator" ∧oI.data= .fields #[.ref L,.int ((j+1:Nat):Int) 0]→vs[gp key j]? =some v→gq v vb→i9 (bt X.prog X.w) X.A (.builtin "min.loop" ⟨[.ref It,.ref g,.ref S],[]⟩) R s:=by
 have hname:(jH "min" ++ jH ".loop" :String) = "min.loop" := by decide
 intro k
 induction k with
 | zero =>
  intro j s H' v vb tb c oI hk hj S' I hI hv rv;have hin:j+1=vs.length:=by lia
  have hS:=I.pin2;apply gQ F.entry_min_loop ?_;rw [gu ig _];show aU _ X.A.in1 (seqItems? (.ref S) >>= _) _ _ s;apply ai (dY hS rfl ?_);show aU _ X.A.in1 (jG (jB (.ref It)) _ >>= _) _ _ s;apply ai (eK (mO (A:=X.A.in1) (j:=j+1) hh T I (S' _ _ hL) hI (fun v2 u2 _ _ z=>rQ (ao.mp z).1 ⋯) (fun s' _ I'=>?_) ⋯));have hS':=I'.pin1;show aU _ X.A.in1 (updateSeq S (fun _=> #[]) >>= _) _ _ _;apply ai ?_;apply iS hS' rfl (ai (gh (aL ?_)));have I2:=(I'.repinE (t':=s'.toks) T.s0 T.sc T.sp (h':=s'.heap.update S (cK fun _=> #[])) (fun b o hb e=>(il _ _ (cH hb)).trans e) (fV hS' fun _=> #[]) (fun v z=>by cases z)).unpin;exact fin v vb H' _ (by rw [←hin];exact hv) rv S' I2
 | succ k ih =>
  intro j s H' v vb tb c oI hk hj S' I hI hv rv;have hlt:j+1<vs.length:=by lia
  have hS:=I.pin2;apply gQ F.entry_min_loop ?_;rw [gu ig _];show aU _ X.A.in1 (seqItems? (.ref S) >>= _) _ _ s;apply ai (dY hS rfl ?_);show aU _ X.A.in1 (jG (jB (.ref It)) _ >>= _) _ _ s;apply ai (eK (mO (A:=X.A.in1) (j:=j+1) hh T I (S' _ _ hL) hI (fun v2 u2 oI2 s2 hv2 ru2 I2 hI2=>?_) (fun s' z _=>rQ z ⋯) ⋯));show aU _ X.A.in1 (jG (holding [u2] (jZ (.ref g) [u2])) _ >>= _) _ _ _;apply ai (eK (cW (cf (hkey _ H' _ (j+1) v2 u2 hv2 ru2 I2 S') (fun kv s3 hk3=>?_) fun _ _ z=>z.elim)));obtain ⟨H3,tk,I3,S3,rfl⟩:=hk3;have hS3:=I3.pin2;show aU _ X.A.in1 (jG (holding [u2,.int (key (j+1)) tk] (richCompare .Lt (.int (key (j+1)) tk) (.int (key (gp key j)) tb) >>= _)) _ >>= _) _ _ _;apply ai (eK (cW (ai (CmpOf.ints_lt (P:=fun i v=>∃ t,v= .int (key i) t) key (fun _ _ z=>z) (j+1) (gp key j) _ _ _ _ _ ⟨tk,rfl⟩ ⟨tb,rfl⟩ ?_))));apply ai (cW (fm ?_));apply ai (gh (aL ?_));have eb:gp key (j+1)=if decide (key (j+1)<key (gp key j))=true then j+1 else gp key j:=rfl;cases hb:decide (key (j+1)<key (gp key j)) with
  | true =>
   rw [hb,rO rfl] at eb;rw [rO hb];apply ai ?_;apply iS hS3 rfl (ai (gh ?_));rw [hname];obtain ⟨c',I4⟩:=min_put T I3 #[u2,.int (key (j+1)) tk];apply aL ⟨iX ig _,ih (j+1) _ H3 v2 u2 tk c' oI2 ⋯ hlt (S'.trans S3) (by rw [eb];exact I4) hI2 (by rw [eb];exact hv2) ru2⟩
  | false =>
   rw [hb,rN aZ] at eb;rw [rN (fun z=>aZ (hb.symm.trans z))];apply ai (gh ?_);rw [hname];exact aL ⟨iX ig _,ih (j+1) _ H3 v vb tb c oI2 ⋯ hlt (S'.trans S3) (by rw [eb];exact I3) hI2 (by rw [eb];exact hv) rv⟩
theorem min_first {It S g:ak}{vs:List V}(T:Two X aR It S)(hh:X.A.handled=none)(hkey:KeyI X σ H (.ref g) vs key)(hL:H L=some (.lst vs))(hne:vs≠[])
  (fin:∀ v u H' s',vs[gp key (vs.length - 1)]? =some v→gq v u→bG H H'→Inv X aR σ H' s'→R (.ok (.ret u)) s')
  {c:Nat} (I:Inv X ((It,oI)::(S,bJ "list" #[] c)::aR) σ H s) (hI:oI.cls= .type "list_iterator" ∧oI.data= .fields #[.ref L,.int ((0:Nat):Int) 0]):i9 (bt X.prog X.w) X.A (.builtin "min.loop" ⟨[.ref It,.ref g,.ref S],[]⟩) R s:=by
 have hname:(jH "min" ++ jH ".loop" :String) = "min.loop" := by decide
 have hlt:0<vs.length:=g9.mpr hne;have hS:=I.pin2;apply gQ F.entry_min_loop ?_;rw [gu ig _];show aU _ X.A.in1 (seqItems? (.ref S) >>= _) _ _ s;apply ai (dY hS rfl ?_);show aU _ X.A.in1 (jG (jB (.ref It)) _ >>= _) _ _ s;apply ai (eK (mO (A:=X.A.in1) (j:=0) hh T I hL hI (fun v2 u2 oI2 s2 hv2 ru2 I2 hI2=>?_) (fun s' z _=>rQ z ⋯) ⋯));show aU _ X.A.in1 (jG (holding [u2] (jZ (.ref g) [u2])) _ >>= _) _ _ _;apply ai (eK (cW (cf (hkey _ H _ 0 v2 u2 hv2 ru2 I2 (bG.refl H)) (fun kv s3 hk3=>?_) fun _ _ z=>z.elim)));obtain ⟨H3,tk,I3,S3,rfl⟩:=hk3;have hS3:=I3.pin2;show aU _ X.A.in1 (updateSeq S (fun _=> #[u2,.int (key 0) tk]) >>= _) _ _ _;apply ai ?_;apply iS hS3 rfl ?_;rw [hname];obtain ⟨c',I4⟩:=min_put T I3 #[u2,.int (key 0) tk];exact aL ⟨iX ig _,min_loop T hh hkey hL fin _ 0 _ H3 v2 u2 tk c' oI2 rfl hlt S3 I4 hI2 hv2 ru2⟩
def args_minK (a g:ae):argsOk "min" ⟨[a],[(cq "key",g)]⟩:=by unfold argsOk;kernel_rfl
def call_minK {g:ak}{vs:List V}(I:Inv X aR σ H s)(hh:X.A.handled=none)(hkey:KeyI X σ H (.ref g) vs key)(hL:H L=some (.lst vs))(hne:vs≠[])
  (fin:∀ v u H' s',vs[gp key (vs.length - 1)]? =some v→gq v u→bG H H'→Inv X aR σ H' s'→Q u s'):aU (bt X.prog X.w) X.A (jZ (.builtin "min") [.ref L] [(cq "key",.ref g)]) Q E s:=by
 have hname:(jH "min" ++ jH ".loop" :String) = "min.loop" := by decide
 apply kH F.kind_min F.plain_min F.entry_min (args_minK _ _) ?_;show aU _ X.A.in1 (gP "min" ["key","default"] 0 ⟨[],[(cq "key",.ref g)]⟩ >>= _) _ _ s;apply ai (wpAny_of_eq (show gP "min" ["key","default"] 0 ⟨[],[(cq "key",.ref g)]⟩=fQ [some (.ref g),none] from rfl) ?_);apply ai (aL ?_);obtain ⟨its,rv,⟨o,n,ho,hcl,_,hd⟩,_⟩:=I.list (SqL.of hL);apply ai (fq ⟨o,ho,hcl,n,hd⟩ ?_);apply ai (eG ?_);rw [hname];obtain ⟨h1,eh1⟩:∃ h1,h1=s.heap.push { cls:= .type "list_iterator",data:= .fields #[.ref L,.int 0 0] }:=⟨_,rfl⟩;have z1:h1.objs.size=s.heap.objs.size+1:=by rw [eh1];exact dh ..
 rw [←eh1];obtain ⟨h2,eh2⟩:∃ h2,h2=h1.push { cls:= .type "list",data:= .seq #[] }:=⟨_,rfl⟩;have keep:∀ b o,s.heap.get? b=some o→h2.get? b=some o:=fun b o e=>by rw [eh2];apply aq _ ?_;rw [eh1];exact aq _ e
 have gI:h2.get? s.heap.objs.size=some { cls:= .type "list_iterator",data:= .fields #[.ref L,.int 0 0] }:=by rw [eh2];apply aq _ ?_;rw [eh1];exact aQ _ rfl
 have gS:h2.get? h1.objs.size=some (bJ "list" #[] 0):=by rw [eh2];exact aQ _ rfl
 have I2:=I.kept (t':=s.toks) keep;have lS:s.heap.objs.size≤h1.objs.size:=by lia
 have I3:Inv X ((s.heap.objs.size,{ cls:= .type "list_iterator",data:= .fields #[.ref L,.int 0 0] })::(h1.objs.size,bJ "list" #[] 0)::aR) σ H { s with heap:=h2 }:=I2.pins_of fun z hz=>by
  rcases aF.mp hz with rfl | hz
  ·exact ⟨gI,I.hok.fresh (az _),cE I.lt,I.nofs (az _),fun v z=>by cases z⟩
  ·rcases aF.mp hz with rfl | hz
   ·exact ⟨gS,I.hok.fresh lS,cE (aM I.lt lS),I.nofs lS,fun v z=>by cases z⟩
   ·exact I2.pin z (aA _ hz)
 have old:∀ b o,s.heap.get? b=some o→b≠s.heap.objs.size∧b≠h1.objs.size:=fun b o e=>⟨bB (aI e),bB (aM (aI e) lS)⟩
 have T:Two X aR s.heap.objs.size h1.objs.size:=⟨I.sz,aN I.sz lS,fun y d e=>by obtain ⟨v,o,ho,_⟩:=I.cell y d e;exact (old d o ho).1,fun y d e=>by obtain ⟨v,o,ho,_⟩:=I.cell y d e;exact (old d o ho).2,fun z hz=>(old _ _ (I.pin z hz).1).1,fun z hz=>(old _ _ (I.pin z hz).1).2,bB (by lia:s.heap.objs.size<h1.objs.size)⟩;apply aL ⟨iX ig _,?_⟩;rw [←eh2];exact min_first (R:=fun r s'=>match r with | .ok (.ret v)=>Q v s' | .ok _=>False | .error e=>E e s') T hh hkey hL hne (fun v u H' s' a1 a2 a3 a4=>fin v u H' s' a1 a2 a3 a4) I3 ⟨rfl,rfl⟩
end
def MinQ (P:ak)(lq:Str)(js:List Nat)(te:TE)(σ:St)(Q:VK)(v:V)(H1:Hp):Prop:=∃ (L:ak) (vs:List V) (key:Nat→Int),v= .ref L∧H1 L=some (.lst vs)∧vs≠[]∧LamG P lq H1 ∧
 (∀ i x,vs[i]? =some x→∀ H2,Tb P H1 H2→te (some x::cZ σ js) H2 fun u H3=>bG H2 H3∧u= .int (key i)) ∧
 ∀ H4 i x,Tb P H1 H4→LamG P lq H4→vs[i]? =some x→(∀ j,j<vs.length→key i≤key j)→Q x H4
def tMinL (P:ak)(lq:Str)(tr:TE)(js:List Nat)(te:TE):TE:=fun σ H Q=>tr σ H fun v H1=>MinQ P lq js te σ Q v H1
def MinQ1 (P:ak)(lq:Str)(js:List Nat)(te:TE)(σ:St)(Q:VK):List V→Hp→Prop
 | [v],H1=>MinQ P lq js te σ Q v H1
 | _,_=>False
theorem pe_minL {p kp:Pos}{c P:ak}(hc:X.calm=true)(hrm:X.A.depth<jn)(hg:Gl X "min")(hm:X.mg "min" =none)(hi:PE X re tr)
  (hd:defaultsOf params X.env=([],[])) (nE:X.env.code= .ref c) (C:codeHdIn X.K c P=true) (B:BM X.mg X.base)
  (hbind:∀ q cl pm cdv ct (u:ae),bindArgs (kla_fn "<lambda>" q params body scope cl pm cdv ct) ⟨[u],[]⟩=fQ [(x,u)])
  (hk:scope.kind= .function) (hco:scope.isCoroutine=false) (hgen:scope.isGenerator=false) (iD:∀ y∈scope.names,y.2≠ .cell) (hx:scope.names.lookup x=some .local) (hfx:x ∉ fr)
  (hfr:∀ y∈scope.names,y.2= .free→X.env.scope.names.lookup y.1=some .cell) (hjs:js.map (fun j=>X.N[j]?)=fr.map some) (hfv:∀ y∈fr,scope.names.lookup y=some .free)
  (hb:∀ cl L f cd s' H',PE (cxLam X (X.env.qual ++ "<lambda>") scope cl L f cd (x::fr) s' H') body te)
  (he:eR pos (br [re] X.env)=(false,eE re X.env)::eR pos (br [] X.env):=by rfl)
  (hs:br [re] X.env=(false,eE re X.env)::br [] X.env:=by rfl) (hpl:(eR pos (br [re] X.env)).any (·.1)=false:=by rfl) :
  PE X (.Call (.Name "min" p) [re] [⟨some "key",.Lambda params body scope lp,kp⟩] pos) (tMinL P (X.env.qual ++ "<lambda>") tr js te):=by
 intro aR s σ H Q I h;apply dZ (mE I hg hm (u:= .builtin "min") ⇑0 ?_);apply callWith_kw (kws:=[⟨some "key",.Lambda params body scope lp,kp⟩]) (thn ((ag hi aD hs) pos aR s σ H (MinQ1 P (X.env.qual ++ "<lambda>") js te σ Q) I h) fun us s1 ⟨vs,H1,I1,r1,q0⟩=>?_) he hpl;apply kws_cons ?_;obtain ⟨v,rfl⟩:∃ v,vs=[v]:=by
  cases vs with
  | nil=>exact q0.elim
  | cons v r=>cases r with
   | nil=>exact ⟨v,rfl⟩
   | cons _ _=>exact q0.elim
 have q1:MinQ P (X.env.qual ++ "<lambda>") js te σ Q v H1:=q0;obtain ⟨L,vs,key,rfl,hL,hne,T,hkey,hQ⟩:=q1;obtain rfl:us=[.ref L]:=by
  cases r1 with
  | cons ru rs =>
   cases rs;exact rV (fun z=>[z]) ru
 apply lam_makeG (body:=body) I1 hd nE C B hfr T fun f cl H2 s2 I2 tb T2 F2 c1 c2=>?_
 apply kws_nil ?_;show aU _ _ (jZ (.builtin "min") [.ref L] [(cq "key",.ref f)]) _ _ _;have LP:L≠P:=fun z=>by
  obtain ⟨ps,e⟩:=T.tbl;rw [←z,hL] at e;cases e
 have KI:KeyI X σ H2 (.ref f) vs key:=fun t H' pins' i v u hv ru I' S'=>by
  apply wpAny_of_in1 (cf (pq (v:=v) I' hc hrm (F2.same S') ru (fun pm cdv ct=>hbind _ _ _ _ _ _) hk hco hgen iD hx hfx c1 c2 hfr hjs hfv (fun L cd s' H'=>hb cl L f cd s' H') (hkey i v hv H' (tb.trans S'.tb))) (fun k t' ⟨v',H'',I'',rv,S'',ev⟩=>?_) fun _ _ z=>z);subst ev;obtain ⟨tk,rfl⟩:∃ tk,k= .int (key i) tk:=rv;exact ⟨H'',tk,I'',S'',rfl⟩
 apply call_minK I2 (I2.ok.hd hc) KI (tb _ _ LP hL) hne fun v u H' s' hv ru S' I'=>?_
 obtain ⟨b1,b2⟩:=best_ok key (vs.length - 1);exact ⟨v,H',I',ru,hQ H' _ v (tb.trans S'.tb) (T2.same S') hv fun j hj=>b2 j ⋯⟩
def neg_dec {a:Int}:decide (-a< -b)=decide (a > b):=by
 by_cases c:a > b
 ·rw [rR c,rR ⋯]
 ·rw [rS c,rS ⋯]
section
variable {σ:List (Option V)}
theorem max_loop {It S g:ak}{vs:List V}(T:Two X aR It S)(hh:X.A.handled=none)(hkey:KeyI X σ H (.ref g) vs key)(hL:H L=some (.lst vs))
  (fin:∀ v u H' s',vs[gp (fun i=> -key i) (vs.length - 1)]? =some v→gq v u→bG H H'→Inv X aR σ H' s'→R (.ok (.ret u)) s') :
  ∀ (k j:Nat) (s:av) (H':Hp) (v:V) (vb:ae) (tb:Tok) (c:Nat) (oI:Obj),vs.length - (j+1)=k→j+1≤vs.length→bG H H'→Inv X ((It,oI)::(S,bJ "list" #[vb,.int (key (gp (fun i=> -key i) j)) tb] c)::aR) σ H' s →
   oI.cls= .type "list_iterator" ∧oI.data= .fields #[.ref L,.int ((j+1:Nat):Int) 0]→vs[gp (fun i=> -key i) j]? =some v→gq v vb→i9 (bt X.prog X.w) X.A (.builtin "max.loop" ⟨[.ref It,.ref g,.ref S],[]⟩) R s:=by
 have hname:(jH "max" ++ jH ".loop" :String) = "max.loop" := by decide
 intro k
 induction k with
 | zero =>
  intro j s H' v vb tb c oI hk hj S' I hI hv rv;have hin:j+1=vs.length:=by lia
  have hS:=I.pin2;apply gQ F.entry_max_loop ?_;rw [gu ij _];show aU _ X.A.in1 (seqItems? (.ref S) >>= _) _ _ s;apply ai (dY hS rfl ?_);show aU _ X.A.in1 (jG (jB (.ref It)) _ >>= _) _ _ s;apply ai (eK (mO (A:=X.A.in1) (j:=j+1) hh T I (S' _ _ hL) hI (fun v2 u2 _ _ z=>rQ (ao.mp z).1 ⋯) (fun s' _ I'=>?_) ⋯));have hS':=I'.pin1;show aU _ X.A.in1 (updateSeq S (fun _=> #[]) >>= _) _ _ _;apply ai ?_;apply iS hS' rfl (ai (gh (aL ?_)));have I2:=(I'.repinE (t':=s'.toks) T.s0 T.sc T.sp (h':=s'.heap.update S (cK fun _=> #[])) (fun b o hb e=>(il _ _ (cH hb)).trans e) (fV hS' fun _=> #[]) (fun v z=>by cases z)).unpin;exact fin v vb H' _ (by rw [←hin];exact hv) rv S' I2
 | succ k ih =>
  intro j s H' v vb tb c oI hk hj S' I hI hv rv;have hlt:j+1<vs.length:=by lia
  have hS:=I.pin2;apply gQ F.entry_max_loop ?_;rw [gu ij _];show aU _ X.A.in1 (seqItems? (.ref S) >>= _) _ _ s;apply ai (dY hS rfl ?_);show aU _ X.A.in1 (jG (jB (.ref It)) _ >>= _) _ _ s;apply ai (eK (mO (A:=X.A.in1) (j:=j+1) hh T I (S' _ _ hL) hI (fun v2 u2 oI2 s2 hv2 ru2 I2 hI2=>?_) (fun s' z _=>rQ z ⋯) ⋯));show aU _ X.A.in1 (jG (holding [u2] (jZ (.ref g) [u2])) _ >>= _) _ _ _;apply ai (eK (cW (cf (hkey _ H' _ (j+1) v2 u2 hv2 ru2 I2 S') (fun kv s3 hk3=>?_) fun _ _ z=>z.elim)));obtain ⟨H3,tk,I3,S3,rfl⟩:=hk3;have hS3:=I3.pin2;show aU _ X.A.in1 (jG (holding [u2,.int (key (j+1)) tk] (richCompare .Gt (.int (key (j+1)) tk) (.int (key (gp (fun i=> -key i) j)) tb) >>= _)) _ >>= _) _ _ _;apply ai (eK (cW (ai (CmpOf.ints_gt (P:=fun i v=>∃ t,v= .int (key i) t) key (fun _ _ z=>z) (j+1) (gp (fun i=> -key i) j) _ _ _ _ _ ⟨tk,rfl⟩ ⟨tb,rfl⟩ ?_))));apply ai (cW (fm ?_));apply ai (gh (aL ?_));have eb:gp (fun i=> -key i) (j+1)=if decide (key (j+1) > key (gp (fun i=> -key i) j))=true then j+1 else gp (fun i=> -key i) j:=by rw [←neg_dec];rfl
  cases hb:decide (key (j+1) > key (gp (fun i=> -key i) j)) with
  | true =>
   rw [hb,rO rfl] at eb;rw [rO hb];apply ai ?_;apply iS hS3 rfl (ai (gh ?_));rw [hname];obtain ⟨c',I4⟩:=min_put T I3 #[u2,.int (key (j+1)) tk];apply aL ⟨iX ij _,ih (j+1) _ H3 v2 u2 tk c' oI2 ⋯ hlt (S'.trans S3) (by rw [eb];exact I4) hI2 (by rw [eb];exact hv2) ru2⟩
  | false =>
   rw [hb,rN aZ] at eb;rw [rN (fun z=>aZ (hb.symm.trans z))];apply ai (gh ?_);rw [hname];exact aL ⟨iX ij _,ih (j+1) _ H3 v vb tb c oI2 ⋯ hlt (S'.trans S3) (by rw [eb];exact I3) hI2 (by rw [eb];exact hv) rv⟩
theorem max_first {It S g:ak}{vs:List V}(T:Two X aR It S)(hh:X.A.handled=none)(hkey:KeyI X σ H (.ref g) vs key)(hL:H L=some (.lst vs))(hne:vs≠[])
  (fin:∀ v u H' s',vs[gp (fun i=> -key i) (vs.length - 1)]? =some v→gq v u→bG H H'→Inv X aR σ H' s'→R (.ok (.ret u)) s')
  {c:Nat} (I:Inv X ((It,oI)::(S,bJ "list" #[] c)::aR) σ H s) (hI:oI.cls= .type "list_iterator" ∧oI.data= .fields #[.ref L,.int ((0:Nat):Int) 0]):i9 (bt X.prog X.w) X.A (.builtin "max.loop" ⟨[.ref It,.ref g,.ref S],[]⟩) R s:=by
 have hname:(jH "max" ++ jH ".loop" :String) = "max.loop" := by decide
 have hlt:0<vs.length:=g9.mpr hne;have hS:=I.pin2;apply gQ F.entry_max_loop ?_;rw [gu ij _];show aU _ X.A.in1 (seqItems? (.ref S) >>= _) _ _ s;apply ai (dY hS rfl ?_);show aU _ X.A.in1 (jG (jB (.ref It)) _ >>= _) _ _ s;apply ai (eK (mO (A:=X.A.in1) (j:=0) hh T I hL hI (fun v2 u2 oI2 s2 hv2 ru2 I2 hI2=>?_) (fun s' z _=>rQ z ⋯) ⋯));show aU _ X.A.in1 (jG (holding [u2] (jZ (.ref g) [u2])) _ >>= _) _ _ _;apply ai (eK (cW (cf (hkey _ H _ 0 v2 u2 hv2 ru2 I2 (bG.refl H)) (fun kv s3 hk3=>?_) fun _ _ z=>z.elim)));obtain ⟨H3,tk,I3,S3,rfl⟩:=hk3;have hS3:=I3.pin2;show aU _ X.A.in1 (updateSeq S (fun _=> #[u2,.int (key 0) tk]) >>= _) _ _ _;apply ai ?_;apply iS hS3 rfl ?_;rw [hname];obtain ⟨c',I4⟩:=min_put T I3 #[u2,.int (key 0) tk];exact aL ⟨iX ij _,max_loop T hh hkey hL fin _ 0 _ H3 v2 u2 tk c' oI2 rfl hlt S3 I4 hI2 hv2 ru2⟩
def args_maxK (a g:ae):argsOk "max" ⟨[a],[(cq "key",g)]⟩:=by unfold argsOk;kernel_rfl
def call_maxK {g:ak}{vs:List V}(I:Inv X aR σ H s)(hh:X.A.handled=none)(hkey:KeyI X σ H (.ref g) vs key)(hL:H L=some (.lst vs))(hne:vs≠[])
  (fin:∀ v u H' s',vs[gp (fun i=> -key i) (vs.length - 1)]? =some v→gq v u→bG H H'→Inv X aR σ H' s'→Q u s'):aU (bt X.prog X.w) X.A (jZ (.builtin "max") [.ref L] [(cq "key",.ref g)]) Q E s:=by
 have hname:(jH "max" ++ jH ".loop" :String) = "max.loop" := by decide
 apply kH F.kind_max F.plain_max F.entry_max (args_maxK _ _) ?_;show aU _ X.A.in1 (gP "max" ["key","default"] 0 ⟨[],[(cq "key",.ref g)]⟩ >>= _) _ _ s;apply ai (wpAny_of_eq (show gP "max" ["key","default"] 0 ⟨[],[(cq "key",.ref g)]⟩=fQ [some (.ref g),none] from rfl) ?_);apply ai (aL ?_);obtain ⟨its,rv,⟨o,n,ho,hcl,_,hd⟩,_⟩:=I.list (SqL.of hL);apply ai (fq ⟨o,ho,hcl,n,hd⟩ ?_);apply ai (eG ?_);rw [hname];obtain ⟨h1,eh1⟩:∃ h1,h1=s.heap.push { cls:= .type "list_iterator",data:= .fields #[.ref L,.int 0 0] }:=⟨_,rfl⟩;have z1:h1.objs.size=s.heap.objs.size+1:=by rw [eh1];exact dh ..
 rw [←eh1];obtain ⟨h2,eh2⟩:∃ h2,h2=h1.push { cls:= .type "list",data:= .seq #[] }:=⟨_,rfl⟩;have keep:∀ b o,s.heap.get? b=some o→h2.get? b=some o:=fun b o e=>by rw [eh2];apply aq _ ?_;rw [eh1];exact aq _ e
 have gI:h2.get? s.heap.objs.size=some { cls:= .type "list_iterator",data:= .fields #[.ref L,.int 0 0] }:=by rw [eh2];apply aq _ ?_;rw [eh1];exact aQ _ rfl
 have gS:h2.get? h1.objs.size=some (bJ "list" #[] 0):=by rw [eh2];exact aQ _ rfl
 have I2:=I.kept (t':=s.toks) keep;have lS:s.heap.objs.size≤h1.objs.size:=by lia
 have I3:Inv X ((s.heap.objs.size,{ cls:= .type "list_iterator",data:= .fields #[.ref L,.int 0 0] })::(h1.objs.size,bJ "list" #[] 0)::aR) σ H { s with heap:=h2 }:=I2.pins_of fun z hz=>by
  rcases aF.mp hz with rfl | hz
  ·exact ⟨gI,I.hok.fresh (az _),cE I.lt,I.nofs (az _),fun v z=>by cases z⟩
  ·rcases aF.mp hz with rfl | hz
   ·exact ⟨gS,I.hok.fresh lS,cE (aM I.lt lS),I.nofs lS,fun v z=>by cases z⟩
   ·exact I2.pin z (aA _ hz)
 have old:∀ b o,s.heap.get? b=some o→b≠s.heap.objs.size∧b≠h1.objs.size:=fun b o e=>⟨bB (aI e),bB (aM (aI e) lS)⟩
 have T:Two X aR s.heap.objs.size h1.objs.size:=⟨I.sz,aN I.sz lS,fun y d e=>by obtain ⟨v,o,ho,_⟩:=I.cell y d e;exact (old d o ho).1,fun y d e=>by obtain ⟨v,o,ho,_⟩:=I.cell y d e;exact (old d o ho).2,fun z hz=>(old _ _ (I.pin z hz).1).1,fun z hz=>(old _ _ (I.pin z hz).1).2,bB (by lia:s.heap.objs.size<h1.objs.size)⟩;apply aL ⟨iX ij _,?_⟩;rw [←eh2];exact max_first (R:=fun r s'=>match r with | .ok (.ret v)=>Q v s' | .ok _=>False | .error e=>E e s') T hh hkey hL hne (fun v u H' s' a1 a2 a3 a4=>fin v u H' s' a1 a2 a3 a4) I3 ⟨rfl,rfl⟩
end
def MaxQ (P:ak)(lq:Str)(js:List Nat)(te:TE)(σ:St)(Q:VK)(v:V)(H1:Hp):Prop:=∃ (L:ak) (vs:List V) (key:Nat→Int),v= .ref L∧H1 L=some (.lst vs)∧vs≠[]∧LamG P lq H1 ∧
 (∀ i x,vs[i]? =some x→∀ H2,Tb P H1 H2→te (some x::cZ σ js) H2 fun u H3=>bG H2 H3∧u= .int (key i)) ∧
 ∀ H4 i x,Tb P H1 H4→LamG P lq H4→vs[i]? =some x→(∀ j,j<vs.length→key j≤key i)→Q x H4
def tMaxL (P:ak)(lq:Str)(tr:TE)(js:List Nat)(te:TE):TE:=fun σ H Q=>tr σ H fun v H1=>MaxQ P lq js te σ Q v H1
def MaxQ1 (P:ak)(lq:Str)(js:List Nat)(te:TE)(σ:St)(Q:VK):List V→Hp→Prop
 | [v],H1=>MaxQ P lq js te σ Q v H1
 | _,_=>False
theorem pe_maxL {p kp:Pos}{c P:ak}(hc:X.calm=true)(hrm:X.A.depth<jn)(hg:Gl X "max")(hm:X.mg "max" =none)(hi:PE X re tr)
  (hd:defaultsOf params X.env=([],[])) (nE:X.env.code= .ref c) (C:codeHdIn X.K c P=true) (B:BM X.mg X.base)
  (hbind:∀ q cl pm cdv ct (u:ae),bindArgs (kla_fn "<lambda>" q params body scope cl pm cdv ct) ⟨[u],[]⟩=fQ [(x,u)])
  (hk:scope.kind= .function) (hco:scope.isCoroutine=false) (hgen:scope.isGenerator=false) (iD:∀ y∈scope.names,y.2≠ .cell) (hx:scope.names.lookup x=some .local) (hfx:x ∉ fr)
  (hfr:∀ y∈scope.names,y.2= .free→X.env.scope.names.lookup y.1=some .cell) (hjs:js.map (fun j=>X.N[j]?)=fr.map some) (hfv:∀ y∈fr,scope.names.lookup y=some .free)
  (hb:∀ cl L f cd s' H',PE (cxLam X (X.env.qual ++ "<lambda>") scope cl L f cd (x::fr) s' H') body te)
  (he:eR pos (br [re] X.env)=(false,eE re X.env)::eR pos (br [] X.env):=by rfl)
  (hs:br [re] X.env=(false,eE re X.env)::br [] X.env:=by rfl) (hpl:(eR pos (br [re] X.env)).any (·.1)=false:=by rfl) :
  PE X (.Call (.Name "max" p) [re] [⟨some "key",.Lambda params body scope lp,kp⟩] pos) (tMaxL P (X.env.qual ++ "<lambda>") tr js te):=by
 intro aR s σ H Q I h;apply dZ (mE I hg hm (u:= .builtin "max") ⇑0 ?_);apply callWith_kw (kws:=[⟨some "key",.Lambda params body scope lp,kp⟩]) (thn ((ag hi aD hs) pos aR s σ H (MaxQ1 P (X.env.qual ++ "<lambda>") js te σ Q) I h) fun us s1 ⟨vs,H1,I1,r1,q0⟩=>?_) he hpl;apply kws_cons ?_;obtain ⟨v,rfl⟩:∃ v,vs=[v]:=by
  cases vs with
  | nil=>exact q0.elim
  | cons v r=>cases r with
   | nil=>exact ⟨v,rfl⟩
   | cons _ _=>exact q0.elim
 have q1:MaxQ P (X.env.qual ++ "<lambda>") js te σ Q v H1:=q0;obtain ⟨L,vs,key,rfl,hL,hne,T,hkey,hQ⟩:=q1;obtain rfl:us=[.ref L]:=by
  cases r1 with
  | cons ru rs =>
   cases rs;exact rV (fun z=>[z]) ru
 apply lam_makeG (body:=body) I1 hd nE C B hfr T fun f cl H2 s2 I2 tb T2 F2 c1 c2=>?_
 apply kws_nil ?_;show aU _ _ (jZ (.builtin "max") [.ref L] [(cq "key",.ref f)]) _ _ _;have LP:L≠P:=fun z=>by
  obtain ⟨ps,e⟩:=T.tbl;rw [←z,hL] at e;cases e
 have KI:KeyI X σ H2 (.ref f) vs key:=fun t H' pins' i v u hv ru I' S'=>by
  apply wpAny_of_in1 (cf (pq (v:=v) I' hc hrm (F2.same S') ru (fun pm cdv ct=>hbind _ _ _ _ _ _) hk hco hgen iD hx hfx c1 c2 hfr hjs hfv (fun L cd s' H'=>hb cl L f cd s' H') (hkey i v hv H' (tb.trans S'.tb))) (fun k t' ⟨v',H'',I'',rv,S'',ev⟩=>?_) fun _ _ z=>z);subst ev;obtain ⟨tk,rfl⟩:∃ tk,k= .int (key i) tk:=rv;exact ⟨H'',tk,I'',S'',rfl⟩
 apply call_maxK I2 (I2.ok.hd hc) KI (tb _ _ LP hL) hne fun v u H' s' hv ru S' I'=>?_
 obtain ⟨b1,b2⟩:=best_ok (fun i=> -key i) (vs.length - 1);exact ⟨v,H',I',ru,hQ H' _ v (tb.trans S'.tb) (T2.same S') hv fun j hj=>by have:=b2 j ⋯;lia⟩
end L2
namespace L2
open PySem PySem.Spec PyProof.Rows
inductive rCountI (x:V)(vs:List V)(H:Hp)(Q:VK):Prop
 | mk (l:ak)(zs:List Int)(y:Int)(_:x= .ref l)(_:vs=[.int y])(_:H l=some (.lst (zs.map V.int)))(_:Q (.int (zs.count y:Nat)) H)
def mt_countI:MtM X "list.count" rCountI:=by
 intro aR s σ H x vs v us Q I rx rv h;obtain ⟨l,zs,y,rfl,rfl,hH,q⟩:=h;cases (show v=ae.ref l from rx);obtain ⟨u,rfl,ru⟩:=rv.one;obtain ⟨t,rfl⟩:=ru;obtain ⟨z,its,n,r,hl,e⟩:=I.lstM hH;apply count_list_ints ⟨_,e,rfl,_,rfl⟩ (intsAre_of r) ?_;exact ⟨.int (zs.count y:Nat),H,I.tok _,⟨_,rfl⟩,q⟩
end L2
namespace HN
open PySem L2 PyProof.Rows
abbrev oB:cL:=top 59
abbrev sHeldM:cL:=top 60
abbrev sOthI:cL:=top 61
abbrev lqCm:Str:=(("commonest" :Str) ++ ".<locals>.") ++ "<lambda>"
def hfr_in {inner:fG}(hk:env.scope.kind= .function)(hx:env.kindOf x=some .cell)(hn:scope.names.lookup x=some .free)(hi:∀ y∈inner.names,y.2= .free→y.1=x):∀ y∈inner.names,y.2= .free→(relabel scope env).names.lookup y.1=some .cell:=fun y hy hf=>by
 rw [hi y hy hf];exact mj hk hx hn
def pi_listK {l:Expr}(e:X.K=K)(hl:PE X l tl):PI X tg l (iList K tl):=e ▸ gH hl
inductive spCommon (T:ak)(vs:List V)(H:Hp)(Q:VK)(_:XK):Prop
 | mk (L:ak)(zs:List Int)(_:vs=[.ref L])(_:H L=some (.lst (zs.map V.int)))(_:zs≠[])(_:L2.LamG T lqCm H)(_:∀ (z:Int) (H':Hp),L2.Tb T H H'→L2.LamG T lqCm H'→z∈zs→(∀ y∈zs,zs.count y≤zs.count z)→Q (.int z) H')
def fun_of:∀ (hs gs:List Int),hs.Nodup→gs.length=hs.length→∃ g:Int→Int,hs.map g=gs
 | [],[],_,_=>⟨fun _=>0,rfl⟩
 | [],_::_,_,h=>by cases h
 | _::_,[],_,h=>by cases h
 | h::hs,a::gs,nd,e=>by
  have nd:=bz.mp nd;obtain ⟨g,eg⟩:=fun_of hs gs nd.2 (by simpa using e);apply ⟨fun f=>if f=h then a else g f,?_⟩;rw [bM,rO rfl,←eg];congr 1;apply gZ fun f hf=>?_
  rw [rN (fun z=>nd.1 (by rw [←z];exact hf))]
def Cmn (sh:List Int)(l:List Int)(z:Int):Prop:=z∈l.map (tm sh)∧∀ y∈l.map (tm sh),(l.map (tm sh)).count y≤(l.map (tm sh)).count z
inductive spHeldM (T:ak)(vs:List V)(H:Hp)(Q:VK)(_:XK):Prop
 | mk (v:V)(p u1 u2:ak)(b m:Int)(sp:List Sn)(zs:List V)(fs ts us:List Int)(_:vs=[v,.ref p,.ref u1,.ref u2])(_:IsD H v (jX b m sp))(_:0<b)(_:H p=some (.lst zs))(_:PtsD H zs fs)(_:H u1=some (.tup (ts.map V.int)))(_:H u2=some (.tup (us.map V.int)))(_:us.length=ts.length)(_:fs.length=ts.length)(_:ts.length≤1000)(_:L2.LamG T lqCm H)(_:∀ (r:ak) (H':Hp) (X:List Int) (g:Int→Int),L2.Tb T H H'→L2.LamG T lqCm H'→H' r=some (.tup (X.map V.int))→X.length=ts.length→(∀ k:Int,0≤k→k<ts.length→tm X k=(tm us k+g (tm fs k)) % b)→(∀ f∈jw fs,Cmn (shM b ts us) (k7 fs f) (g f))→Q (.ref r) H')
def qN (ts us:List Int):List Int:=((aJ ts.length).filter fun k:Nat=> !decide (tm ts k=tm us k)).map fun k:Nat=>(k:Int)
inductive spOthI (vs:List V)(H:Hp)(Q:VK)(_:XK):Prop
 | mk (u1 u2:ak)(ts us:List Int)(_:vs=[.ref u1,.ref u2])(_:H u1=some (.tup (ts.map V.int)))(_:H u2=some (.tup (us.map V.int)))(_:us.length=ts.length)(_:ts.length≤1000)(_:∀ (r:ak) (H':Hp),bG H H'→H' r=some (.tup ((qN ts us).map V.int))→Q (.ref r) H')
def scCommon:bW pzo pzo (defScope oB):=by trivial
theorem ok_common {c T:ak}(F:Fun K "commonest" "commonest" oB f fd)(hcd:fd.code= .ref c)(CH:df K c T=true)(B:BM mg base)(T2:Nt mg):cO P w K mg base CX0 2 f fd pzo (spCommon T):=by
 apply okC F hcd scCommon (by contradiction) (fun A outer s H vs Q E hr h=>?_);obtain ⟨L,zs,rfl,hL,hne,hT,k⟩:=h;apply ⟨_,PSl.h (cS ⟨(b9 (pe_maxL (js:=[0]) (fr:=pzo) (x := "number") (c:=c) (P:=T) rfl hr.depth rfl T2.max (pv 0) rfl rfl CH B (fun _ _ _ _ _ _=>rfl) rfl rfl rfl ⇑0 rfl ↥0 (by exists oB) rfl ⇑0
   (fun cl L f' cd s' H'=>(show PE _ _ (tBM K "list" rCountI (tVar 1) (nR (tVar 0) tNil)) from l7 bf PySem.F.slot_list_count PySem.F.type_list_count mt_countI (pv 1) (ag (pv 0) aD)))))⟩),?_⟩
 obtain ⟨ps,et⟩:=hT.tbl;apply ⟨_,rfl,L,zs.map V.int,fun i=>((zs.count (zs.getD i 0):Nat):Int),rfl,hL,fun z=>hne (List.map_eq_nil_iff.mp z),hT,fun i x hx H3 tb=>?_,fun H4 i x tb4 hT4 hx maxi=>?_⟩
 ·rw [ax] at hx
  obtain ⟨z,ez,rfl⟩:=aO.mp hx;have e:zs.getD i 0=z:=by rw [af,ez];rfl
  have hL3:=tb _ _ (fR hL et nofun) hL;apply ⟨_,rfl,.inl ⟨rfl,_,SqL.of hL3⟩,_,rfl,L,zs,z,rfl,rfl,hL3,bG.refl _,?_⟩;show V.int _=V.int ((zs.count (zs.getD i 0):Nat):Int);rw [e]
 ·rw [ax] at hx
  obtain ⟨z,ez,rfl⟩:=aO.mp hx;apply k z H4 tb4 hT4 (aW ez) fun y hy=>?_
  obtain ⟨j,hj,rfl⟩:=cn hy;have:((zs.count (zs.getD j 0):Nat):Int)≤((zs.count (zs.getD i 0):Nat):Int):=maxi j (by rw [aa];exact hj);have e1:zs.getD j 0=zs[j]:=by rw [af,gE hj];rfl
  have e2:zs.getD i 0=z:=by rw [af,ez];rfl
  rw [e1,e2] at this;lia
def scHeldM:bW ["net","parts","table","other","shifts"] pzI (defScope sHeldM):=by trivial
theorem ok_heldM {T:ak}(F:Fun K "held_at_most" "held_at_most" sHeldM f fd)(G1:Fn K mg "shifts_between" sShifts pzs f1 fd1)(F1:cO P w K mg base CX0 2 f1 fd1 pzs spShifts)(G2:Fn K mg "moved_in_parts" sMvP pzw f2 fd2)(F2:cO P w K mg base CX0 2 f2 fd2 pzw spMvP)(G3:Fn K mg "commonest" oB pzo f3 fd3)(F3:cO P w K mg base CX0 2 f3 fd3 pzo (spCommon T)):cO P w K mg base CX0 3 f fd pzI (spHeldM T):=by
 specialize F.ok scHeldM;obtain ⟨v,p,u1,u2,b,m,sp,zs,fs,ts,us,rfl,hv,b0,hp,hz,h1,h2,lu,lf,few,hT,k⟩:=h;apply ⟨_,PSl.h (ba ⟨(psZ 4 scHeldM.nd (pc1 G1 F1 hr (ag (pv 0) (ag (pv 2) (ag (pv 3) aD)))))⟩
  (cS ⟨(b9 (pc1 G2 F2 hr (ag (pv 0) (ag (pv 1) (ag (pv 3) (ag (gW (fr:=["shifts"]) (js:=[4]) rfl (gH (pv 1)) ⇑0 rfl ⇑0 rfl (by exists sHeldM) ⇑0 rfl ⇑0 (fun _ _ _ _ _=>⟨(pc1 G3 F3 hr (ag (by exact gW (fr:=["shifts"]) (js:=[1]) rfl (pi_listK (K:=K) rfl (pv 0)) ⇑0 rfl ⇑0 rfl (hfr_in (x := "shifts") rfl rfl rfl ⇑0) ⇑0 rfl ⇑0 (fun _ _ _ _ _=>⟨(fA (r:=rIxL K) gY (pv 1) (pv 0) (fun _ _=>rfl)),gU⟩)) aD)),gU⟩)) aD))))))⟩)),?_⟩
 apply ⟨_,rfl,_,rfl,_,rfl,v,u1,u2,b,m,sp,ts,us,rfl,hv,b0,h1,h2,lu,few,fun L H1 S1 _ e1=>?_⟩;obtain ⟨As,rfl,lA,hA⟩:=hz;have fw:As.length≤ts.length:=by
  rw [lA,←lf];exact md (jJ fs) fun z hz=>(mQ _).mp hz
 have lsh:(shM b ts us).length=ts.length:=shM_len lu;generalize esh:shM b ts us=sh at e1 lsh;have hT1:=hT.same S1;have NE:∀ {Hx:Hp} {a:ak} {o:HO},L2.LamG T lqCm Hx→Hx a=some o→(∀ q,o≠ .tbl q)→a≠T:=fun g e n z=>by
  obtain ⟨ps,et⟩:=g.tbl;rw [z,et] at e;exact n _ (bE e).symm
 apply ⟨_,rfl,_,rfl,_,rfl,_,rfl,p,rfl,⟨_,SqL.of (S1 _ _ hp)⟩,?_⟩;have keepP:∀ {H2:Hp},L2.Tb T H1 H2→H2 p=some (.lst (As.map V.ref)):=fun tb=>tb _ _ (NE hT1 (S1 _ _ hp) (fun _ z=>by cases z)) (S1 _ _ hp)
 apply kG (K:=K) (a:=p) (xs:=As.map V.ref) (fun i zs H2=>L2.Tb T H1 H2∧L2.LamG T lqCm H2∧∃ gs:List Int,zs=gs.map V.int∧gs.length=i∧∀ (j:Nat) (f z:Int),(jw fs)[j]? =some f→gs[j]? =some z→Cmn sh (k7 fs f) z) ⟨fun _ _ _ e=>e,hT1,[],rfl,rfl,fun _ _ _ _ h=>(by cases h)⟩ (fun i zs H2 hi ⟨tb,_,gs,e3,e4,_⟩=>⟨SqL.of (keepP tb),by rw [e3,aa];lia⟩) (by rw [aa];exact d8 ⋯) (fun i x zs H2 hx ⟨tb,hT2,gs,e3,e4,hg⟩=>?_) (fun zs H2 ⟨tb,hT2,gs,e3,e4,hg⟩ D hD=>?_)
 ·rw [ax] at hx
  obtain ⟨A,eA,rfl⟩:=aO.mp hx;have hi:i<(jw fs).length:=by rw [←lA];exact (ao.mp eA).1
  have ef:=gE hi;obtain ⟨f0,ef0⟩:∃ f0,f0=(jw fs)[i]:=⟨_,rfl⟩;have mf:f0∈jw fs:=by rw [ef0];exact bb hi
  rw [←ef0] at ef;have hA1:=S1 _ _ (hA i _ A ef eA);have hA2:=tb _ _ (NE hT1 hA1 (fun _ z=>by cases z)) hA1;have hL2:=tb _ _ (NE hT1 e1 (fun _ z=>by cases z)) e1;have li:(k7 fs f0).length≤ts.length:=by
   unfold k7;rw [aa,←lf];exact aN (cX _ _) (by rw [aY];exact az _)
  apply fS ?_;apply ⟨_,rfl,A,rfl,⟨_,SqL.of hA2⟩,?_⟩;apply kG (K:=K) (a:=A) (xs:=(k7 fs f0).map V.int) (fun j ys H3=>H3=H2∧ys=(((k7 fs f0).take j).map (tm sh)).map V.int) ⟨rfl,rfl⟩ (fun j ys H3 hj ⟨q1,q2⟩=>⟨by rw [q1];exact SqL.of hA2,?_⟩) (by rw [aa];exact d8 ⋯) (fun j x ys H3 hx ⟨q1,q2⟩=>?_) (fun ys H3 ⟨q1,q2⟩ D hD=>?_)
  ·rw [q2,aa,aa,bK];lia
  ·subst q1
   rw [ax] at hx;obtain ⟨z,ez,rfl⟩:=aO.mp hx;obtain ⟨z0,z1,_⟩:=kN.mp (aW ez);apply fS ?_;apply ⟨_,rfl,_,rfl,L,_,_,_,rfl,rfl,SqL.of hL2,oy z0 ⋯,rfl,?_⟩;rw [q2,bj,ez,aE,aE];rfl
  ·subst q1
   rw [aa,bp] at q2;subst q2;obtain ⟨h0,_⟩:=idxF_hd mf;apply ⟨D,(k7 fs f0).map (tm sh),rfl,aV,fun z=>?_,hT2.same ((bG.refl H3).put hD),fun z H4 tb4 hT4 hz mx=>?_⟩
   ·rw [List.map_eq_nil_iff.mp z] at h0;cases h0
   apply ⟨fun a o n e=>tb4 _ _ n (by have e:=tb _ _ n e;rw [bq (bF e hD)];exact e),hT4,gs++[z],by rw [e3,aE];rfl,by rw [au,e4];rfl,fun j f z' ej ez=>?_⟩
   rcases Nat.lt_or_ge j i with c | c
   ·rw [cI ⋯] at ez
    exact hg j f z' ej ez
   ·have hj:j=i:=by have:=(ao.mp ez).1;rw [au,dH] at this;lia
    subst hj;rw [bw ⋯,e4,gJ] at ez;cases ez;rw [ef] at ej;cases ej;exact ⟨hz,mx⟩
 ·rw [aa,lA] at e4
  obtain ⟨g,eg⟩:=fun_of (jw fs) gs (jJ fs) e4;have hm:∀ f∈jw fs,Cmn sh (k7 fs f) (g f):=fun f hf=>by
   obtain ⟨j,hj,rfl⟩:=cn hf;apply hg j _ _ (gE hj) ?_;rw [←eg,ax,gE hj];rfl
  subst e3;rw [←eg];have SD:bG H2 (upd H2 D (.lst (((jw fs).map g).map V.int))):=(bG.refl H2).put hD;have eD:(upd H2 D (.lst (((jw fs).map g).map V.int))) D=some (.lst (((jw fs).map g).map V.int)):=aV;generalize upd H2 D (.lst (((jw fs).map g).map V.int))=H5 at SD eD ⊢;have tb5:L2.Tb T H H5:=fun a o n e=>SD _ _ (tb _ _ n (S1 _ _ e))
  have kt:∀ {a:ak} {o:HO},H a=some o→(∀ q,o≠ .tbl q)→H5 a=some o:=fun e n=>tb5 _ _ (NE hT e n) e
  apply ⟨v,p,u2,D,b,m,sp,_,fs,us,g,rfl,cN (fun a xs e=>kt e (fun _ z=>by cases z)) hv,b0,kt hp (fun _ z=>by cases z),⟨As,rfl,lA,fun i f A h1 h2=>kt (hA i f A h1 h2) (fun _ z=>by cases z)⟩,kt h2 (fun _ z=>by cases z),⋯,⋯,eD,fun r H' X S6 h6 lX eX=>?_⟩;rw [esh] at k;exact k r H' X g (fun a o n e=>S6 _ _ (tb5 a o n e)) ((hT2.same SD).same S6) h6 ⋯ (fun k k0 k1=>eX k k0 ⋯) hm
def scOthI:bW pzu pzu (defScope sOthI):=by trivial
def ok_othI (F:Fun K "others_in" "others_in" sOthI f fd)(T:Nm mg)(T2:Nt mg):cO P w K mg base CX0 1 f fd pzu spOthI:=by
 specialize F.ok scOthI;obtain ⟨u1,u2,ts,us,rfl,h1,h2,lu,few,k⟩:=h;apply ⟨_,PSl.h (cS ⟨(b9 (eP i6 rfl T.ttup iG (ag (gW (fr:=pzu) (js:=[0,1]) rfl (gG rfl T2.range (ag (cg bP rfl T.len bD (ag (pv 0) aD)) aD)) ⇑0 rfl ⇑0 rfl (by exists sOthI) ⇑0 rfl ⇑0 (fun _ _ _ _ _=>⟨(pv 0),(mq (cA op_ne (fA (r:=rIxT K) fk (pv 1) (pv 0) (fun _ _=>rfl)) (fA (r:=rIxT K) fk (pv 2) (pv 0) (fun _ _=>rfl)) (cP _)))⟩)) aD)))⟩),?_⟩;apply ⟨_,rfl,u1,_,rfl,.inr (SqT.of h1),_,rfl,⋯,by rw [aa];lia,?_⟩;rw [aa,cb];apply jM (n:=ts.length) (fun i zs H2=>H2=H∧zs=(((aJ i).filter fun k:Nat=> !decide (tm ts k=tm us k)).map fun k:Nat=>(k:Int)).map V.int) ⟨rfl,rfl⟩ (fun i zs H2 hi ⟨e1,e2⟩=>?_) (d8 few) (fun i zs H2 hi ⟨e1,e2⟩=>?_) (fun zs H2 ⟨e1,e2⟩ D hD=>?_)
 ·rw [e2,aa,aa]
  exact aN (cX _ _) (by rw [aY];exact az _)
 ·subst e1
  apply ⟨_,rfl,_,rfl,u1,_,_,_,rfl,rfl,SqT.of h1,oy ⋯ ⋯,_,rfl,_,rfl,u2,_,_,_,rfl,rfl,SqT.of h2,oy ⋯ ⋯,rfl,_,rfl,?_⟩;rw [iq];have ed:(!decide (V.int (tm ts i)=V.int (tm us i)))= !decide (tm ts i=tm us i):=by
   by_cases c:tm ts i=tm us i
   ·rw [c,rR rfl,rR rfl]
   ·rw [rS c,rS fun z=>c (by injection z)]
  rw [ed,e2,ir,fZ,aE,aE];apply rp (fun hc=>?_) (fun hc=>?_)
  ·apply ⟨_,rfl,rfl,?_⟩
   rw [eN,rO hc];rfl
  ·apply ⟨rfl,?_⟩
   rw [eN,rN hc];exact (dg _).symm
 ·subst e1
  apply ⟨D,_,rfl,SqL.of aV,fun p3 H3 S3 h3=>?_⟩;apply k p3 H3 ((bG.put (bG.refl H2) hD).trans S3) ?_;rw [h3,e2];rfl
abbrev sFew:cL:=top 62
abbrev lqFw:Str:=(("fewest_moved" :Str) ++ ".<locals>.") ++ "<lambda>"
def lenK (K:ar)(hK:X.K=K:=by rfl):jO X (.builtin "len") (fun xs H Q=>∃ p ys,xs=[.ref p]∧(SqL K H p ys∨SqT K H p ys)∧Q (.int ys.length) H):=by subst hK;exact bP
structure FewA (H:Hp)(q:ak)(b m:Int)(sp:List Sn)(ts:List Int)(fs:List Int)(l:List Nat)(rg:List (Nat×List Stp))(Ts:List (List Int))(Ys:List AT)(qs:ak)(y:AT):Prop where
 q:H q=some (.tup [.str "moved",.ref qs,.ref y.1])
 qs:H qs=some (.tup ((qN ts y.2).map V.int))
 mem:y∈Ys
 qy:H y.1=some (.tup (y.2.map V.int))
 least:∀ z∈Ys,(qN ts y.2).length≤(qN ts z.2).length
 ok:∀ t∈Ts,nI b m sp t
 len:Ys.length=Ts.length
 mv:∀ (i:Nat) (t:List Int) (z:AT),Ts[i]? =some t→Ys[i]? =some z→∃ g,Mvd b fs t z.2 g∧∀ f∈jw fs,Cmn (shM b ts t) (k7 fs f) (g f)
 lb:Lbl m.toNat sp fs
 fr:FR m sp l rg
 hold:∀ T,l9 b T sp=true→∃ t∈Ts,∀ k∈l,kF b t sp k=kF b T sp k
def FewA.tab {q:ak}{m:Int}{fs:List Int}{rg:List (Nat×List Stp)}{y:AT}(A:FewA H q b m sp ts fs l rg Ts Ys qs y)(N:kl b m sp):nI b m sp y.2:=by
 obtain ⟨i,hi,e⟩:=cn A.mem;have hj:i<Ts.length:=by have:=A.len;lia
 obtain ⟨g,M,_⟩:=A.mv i Ts[i] y (gE hj) (by rw [gE hi,e]);exact M.ok N A.lb (A.ok _ (bb hj))
inductive spFew (T0:ak)(p0:Pos)(q0:Str)(T1:ak)(p1:Pos)(q1:Str)(T2 T4 T5:ak)(vs:List V)(H:Hp)(Q:VK)(_:XK):Prop
 | mk (v:V)(u:ak)(b m:Int)(sp:List Sn)(ts:List Int)(_:vs=[v,.ref u])(_:IsD H v (jX b m sp))(_:kl b m sp)(_:(∀ l,jD m.toNat sp l→k5 sp l≤4096))(_:H u=some (.tup (ts.map V.int)))(_:ts.length=m.toNat)(_:L2.LamT T0 p0 q0 H)(_:L2.LamT T1 p1 q1 H)(_:L2.LamT T2 lpT lqT H)(_:L2.LamG T4 lqCm H)(_:L2.LamG T5 lqFw H)(_:∀ (q:ak) (H':Hp),Kp H H'→(∀ a o,a≠T0→a≠T1→a≠T2→a≠T4→a≠T5→H a=some o→H' a=some o)→L2.LamT T0 p0 q0 H'→L2.LamT T1 p1 q1 H'→L2.LamT T2 lpT lqT H'→L2.LamG T4 lqCm H'→L2.LamG T5 lqFw H'→((∃ u t,NoneC H' q b sp u t)∨∃ fs l rg Ts Ys qs y,FewA H' q b m sp ts fs l rg Ts Ys qs y)→Q (.ref q) H')
def scFew:bW ["net","table","found","parts","tables","nearest"] pzv (defScope sFew):=by trivial
theorem ok_few {f5 c T2 T4 T5:ak}(F:Fun K "fewest_moved" "fewest_moved" sFew f fd)(hcd:fd.code= .ref c)(CH:df K c T5=true)(B:BM mg base)(T:Nm mg)(MC:∃ t,mg "MOST_CASES" =some (.int 4096 t))(n1:T0≠T1)(n2:T2≠T0)(n3:T2≠T1)(a0:T4≠T0)(a1:T4≠T1)(a2:T4≠T2)(b0:T5≠T0)(b1:T5≠T1)(b2:T5≠T2)(b4:T5≠T4)
  (G1:Fn K mg "table_for" kA pza f1 fd1) (F1:cO P w K mg base CX0 12 f1 fd1 pza (pP T0 p0 q0 T1 p1 q1 T2))
  (G2:Fn K mg "parts_of" sParts pza f2 fd2) (F2:cO P w K mg base CX0 8 f2 fd2 pza (spParts T0 p0 q0))
  (G3:Fn K mg "held_at_most" sHeldM pzI f3 fd3) (F3:cO P w K mg base CX0 3 f3 fd3 pzI (spHeldM T4))
  (G4:Fn K mg "tables_that_fit" sTabF pzn f4 fd4) (F4:cO P w K mg base CX0 11 f4 fd4 pzn (spTabF T0 p0 q0 T1 p1 q1))
  (G5:Fn K mg "others_in" sOthI pzu f5 fd5) (F5:cO P w K mg base CX0 1 f5 fd5 pzu spOthI):cO P w K mg base CX0 13 f fd pzv (spFew T0 p0 q0 T1 p1 q1 T2 T4 T5):=by
 apply okC F hcd scFew (by contradiction) (fun A outer s H vs Q E hr h=>?_);obtain ⟨v,u,b,m,sp,ts,rfl,hv,N,hc,hu,lt,hT0,hT1,hT2,hT4,hT5,k⟩:=h;have hr1:ik 1 _:=hr.mono ↥0;have hr4:ik 3 _:=hr.mono ↥0;have hr9:ik 8 _:=hr.mono ↥0;have hr11:ik 11 _:=hr.mono ↥0;apply ⟨_,PSl.h (ba ⟨(psZ 2 scFew.nd (pc1 G1 F1 hr (ag (pv 0) aD)))⟩
  (ba ⟨(gF (cA kD (ixZ (pv 2)) kB (cP _)) (cw (b9 (pv 2))) dv)⟩
  (ba ⟨(psZ 3 scFew.nd (pc1 G2 F2 hr9 (ag (pv 0) aD)))⟩
  (ba ⟨(ps_setC (iy:=4) (fr:=["net","parts","table"]) (js:=[0,3,1]) scFew.nd rfl (.inl rfl) rfl (gH (pc1 G4 F4 hr11 (ag (pv 0) (ag (pe_gint MC) aD)))) ⇑0 rfl ⇑0 rfl (by exists sFew) ⇑0 rfl ⇑0 (fun _ _ _ _ _=>⟨(pc1 G3 F3 hr4 (ag (pv 1) (ag (pv 2) (ag (pv 3) (ag (pv 0) aD))))),gU⟩))⟩
  (ba ⟨(psZ 5 scFew.nd (pe_minL (js:=[1]) (fr:=["table"]) (x := "other") (c:=c) (P:=T5) rfl hr.depth rfl T.min (pv 4) rfl rfl CH B (fun _ _ _ _ _ _=>rfl) rfl rfl rfl ⇑0 rfl ↥0 (by exists sFew) rfl ⇑0
   (fun cl L f' cd s' H'=>cg (lenK K) rfl T.len bD (ag (pc1 G5 F5 (((hr.in1).in1).deeper _ |>.mono ↥0) (ag (pv 1) (ag (pv 0) aD))) aD))))⟩
  (cS ⟨(b9 (dB (ag kB (ag (pc1 G5 F5 hr1 (ag (pv 1) (ag (pv 5) aD))) (ag (pv 5) aD)))))⟩)))))),?_⟩
 obtain ⟨ps0,et0⟩:=LamT.tbl hT0;obtain ⟨ps1,et1⟩:=LamT.tbl hT1;obtain ⟨ps2,et2⟩:=LamT.tbl hT2;have nm1:=N.m1;have nm2:=N.m2;have em:((m.toNat:Nat):Int)=m:=fe ⋯;apply ⟨_,rfl,v,b,m,sp,rfl,hv,N,hc,hT0,hT1,hT2,fun q H1 st1 kp1 hT01 hT11 hT21 ans=>?_⟩;have hv1:=cN kp1.tup hv;have fz1:∀ a o u,H a=some (.frz o u)→H1 a=some (.frz o u):=fun a o u e=>st1 _ _ (fR e et0 nofun) (fR e et1 nofun) (fR e et2 nofun) e
 have hT41:L2.LamG T4 lqCm H1:=hT4.stay (fun ps e=>st1 _ _ a0 a1 a2 e) fz1;have hT51:L2.LamG T5 lqFw H1:=hT5.stay (fun ps e=>st1 _ _ b0 b1 b2 e) fz1
 rcases ans with ⟨qt0,t0,hq,hqt,tok0⟩ | ⟨u',t,hq,du,plu,nof,gd⟩
 rotate_left
 ·apply ⟨_,rfl,q,_,_,_,rfl,rfl,SqT.of hq,aS (j:=0) rfl,rfl,_,rfl,ow (rR rfl) ?_⟩
  exact ⟨_,rfl,k q H1 kp1 (fun a o e0 e1 e2 _ _ e=>st1 a o e0 e1 e2 e) hT01 hT11 hT21 hT41 hT51 (.inl ⟨u',t,hq,du,plu,nof,gd⟩)⟩
 apply ⟨_,rfl,q,_,_,_,rfl,rfl,SqT.of hq,aS (j:=0) rfl,rfl,_,rfl,kL (rS nofun) ?_⟩;apply ⟨_,rfl,v,b,m,sp,rfl,hv1,N,hT01,fun Lp zp fs H2 tb2 hT02 hLp hpt lb=>?_⟩;obtain ⟨qs1,eu1⟩:=LamT.tbl hT01;have fz2:∀ a o u,H1 a=some (.frz o u)→H2 a=some (.frz o u):=fun a o u e=>tb2 _ _ (fR e eu1 nofun) e
 have kp2:Kp H1 H2:=Tb.kp hT01 tb2;have hT12:L2.LamT T1 p1 q1 H2:=i5 hT11 (fun ps e=>tb2 _ _ (cH n1) e) fz2;have hT22:L2.LamT T2 lpT lqT H2:=i5 hT21 (fun ps e=>tb2 _ _ n2 e) fz2;have hT42:L2.LamG T4 lqCm H2:=hT41.stay (fun ps e=>tb2 _ _ a0 e) fz2;have hT52:L2.LamG T5 lqFw H2:=hT51.stay (fun ps e=>tb2 _ _ b0 e) fz2;have hv2:=cN kp2.tup hv1;obtain ⟨qs2,eu2⟩:=LamT.tbl hT02;obtain ⟨qs3,eu3⟩:=LamT.tbl hT12;apply ⟨_,rfl,v,b,m,sp,4096,rfl,hv2,N,↥0,hc,hT02,hT12,fun L tv l rg Ts H3 st3 kp3 hT03 hT13 hL dL R tabs few hold=>?_⟩;have fz3:∀ a o u,H2 a=some (.frz o u)→H3 a=some (.frz o u):=fun a o u e=>st3 _ _ (fR e eu2 nofun) (fR e eu3 nofun) e
 have hT23:L2.LamT T2 lpT lqT H3:=i5 hT22 (fun ps e=>st3 _ _ n2 n3 e) fz3;have hT43:L2.LamG T4 lqCm H3:=hT42.stay (fun ps e=>st3 _ _ a0 a1 e) fz3;have hT53:L2.LamG T5 lqFw H3:=hT52.stay (fun ps e=>st3 _ _ b0 b1 e) fz3;have hv3:=cN kp3.tup hv2;have holdA:=hold (.inr rfl);have ltv:tv.length=Ts.length:=by rw [dL.length];unfold de;rw [aa]
 have hu3:H3 u=some (.tup (ts.map V.int)):=kp3.tup _ _ (kp2.tup _ _ (kp1.tup _ _ hu));have kp03:Kp H H3:=kp1.trans (kp2.trans kp3);have st03:∀ a o,a≠T0→a≠T1→a≠T2→H a=some o→H3 a=some o:=fun a o e0 e1 e2 e=>st3 _ _ e0 e1 (tb2 _ _ e0 (st1 _ _ e0 e1 e2 e))
 have hLp3:=kp3.lst _ _ hLp;have hpt3:PtsD H3 zp fs:=by
  obtain ⟨As,e,lA,hA⟩:=hpt;exact ⟨As,e,lA,fun i f A h1 h2=>kp3.lst _ _ (hA i f A h1 h2)⟩
 have getT:∀ (i:Nat) x,tv[i]? =some x→∃ qx t,x= .ref qx∧H3 qx=some (.tup (t.map V.int))∧Ts[i]? =some t:=fun i x hx=>by
  have hi:i<Ts.length:=by rw [←ltv];exact (ao.mp hx).1
  obtain ⟨d,ed,dx⟩:=dL.get hx;unfold de at ed;rw [ax,gE hi] at ed;cases ed;obtain ⟨qx,xs,rfl,hqx,rx⟩:=dx.tup_of;have:=rx.ints_of;subst this;exact ⟨qx,Ts[i],rfl,hqx,gE hi⟩
 apply ⟨L,rfl,⟨_,SqL.of hL⟩,?_⟩;have lfs:fs.length=ts.length:=by rw [lb.len,lt]
 have lTs:∀ t∈Ts,t.length=ts.length:=fun t ht=>by rw [(tabs t ht).1,lt]
 have NE:∀ {Hx:Hp} {Tx a:ak} {lq:Str} {o:HO},L2.LamG Tx lq Hx→Hx a=some o→(∀ q,o≠ .tbl q)→a≠Tx:=fun g e n z=>by
  obtain ⟨ps,et⟩:=g.tbl;rw [z,et] at e;exact n _ (bE e).symm
 have kt:∀ {H4:Hp} {a:ak} {o:HO},L2.Tb T4 H3 H4→H3 a=some o→(∀ q,o≠ .tbl q)→H4 a=some o:=fun tb e n=>tb _ _ (NE hT43 e n) e
 apply kG (K:=K) (a:=L) (xs:=tv) (fun i zs H4=>L2.Tb T4 H3 H4∧L2.LamG T4 lqCm H4∧∃ Ys:List AT,zs=Ys.map (fun y=>V.ref y.1)∧Ys.length=i∧(∀ y∈Ys,H4 y.1=some (.tup (y.2.map V.int)))∧∀ (j:Nat) (t:List Int) (z:AT),Ts[j]? =some t→Ys[j]? =some z→∃ g,Mvd b fs t z.2 g∧∀ f∈jw fs,Cmn (shM b ts t) (k7 fs f) (g f)) ⟨fun _ _ _ e=>e,hT43,[],rfl,rfl,fun _ h=>(by cases h),fun _ _ _ _ h=>(by cases h)⟩ (fun i zs H4 hi ⟨tb4,_,Ys,e1,e2,_⟩=>⟨SqL.of (kt tb4 hL (fun _ z=>by cases z)),by rw [e1,aa];lia⟩) (by rw [ltv];exact aN few ↥0) (fun i x zs H4 hx ⟨tb4,hT44,Ys,e1,e2,hY,mY⟩=>?_) (fun zs H4 ⟨tb4,hT44,Ys,e1,e2,hY,mY⟩ Lt hLt=>?_)
 ·obtain ⟨qx,t,rfl,hqx,et⟩:=getT i x hx
  have lt':=lTs t (aW et);apply fS ?_;apply ⟨_,rfl,_,rfl,_,rfl,_,rfl,v,Lp,u,qx,b,m,sp,zp,fs,ts,t,rfl,cN (fun a xs e=>kt tb4 e (fun _ z=>by cases z)) hv3,by have:=N.b1;lia,kt tb4 hLp3 (fun _ z=>by cases z),?_,kt tb4 hu3 (fun _ z=>by cases z),kt tb4 hqx (fun _ z=>by cases z),lt',lfs,⋯,hT44,fun r H5 X g tb5 hT45 h5 lX eX cm=>?_⟩
  ·obtain ⟨As,e,lA,hA⟩:=hpt3
   exact ⟨As,e,lA,fun i f A h1 h2=>kt tb4 (hA i f A h1 h2) (fun _ z=>by cases z)⟩
  apply ⟨fun a o n e=>tb5 _ _ n (tb4 _ _ n e),hT45,Ys++[(r,X)],by rw [e1,aE];rfl,by rw [au,e2];rfl,fun y hy=>?_,fun j t' z ej ez=>?_⟩
  ·rcases aH.mp hy with hy | hy
   ·exact tb5 _ _ (NE hT44 (hY y hy) (fun _ z=>by cases z)) (hY y hy)
   ·rw [aw.mp hy];exact h5
  ·rcases Nat.lt_or_ge j i with c | c
   ·rw [cI ⋯] at ez
    exact mY j t' z ej ez
   ·have hj:j=i:=by have:=(ao.mp ez).1;rw [au,dH] at this;lia
    subst hj;rw [bw ⋯,e2,gJ] at ez;cases ez;rw [et] at ej;cases ej;exact ⟨g,⟨by rw [lX,lt'],fun k k0 k1=>eX k k0 ⋯⟩,cm⟩
 subst e1;have lY:Ys.length=Ts.length:=e2.trans ltv;have S5:bG H4 (upd H4 Lt (.lst (Ys.map fun y=>V.ref y.1))):=(bG.refl H4).put hLt;have h5:(upd H4 Lt (.lst (Ys.map fun y=>V.ref y.1))) Lt=some (.lst (Ys.map fun y=>V.ref y.1)):=aV;generalize upd H4 Lt (.lst (Ys.map fun y=>V.ref y.1))=H5 at S5 h5 ⊢;have tb35:L2.Tb T4 H3 H5:=fun a o n e=>S5 _ _ (tb4 _ _ n e)
 have fz5:∀ a o u,H3 a=some (.frz o u)→H5 a=some (.frz o u):=fun a o u e=>kt tb35 e (fun _ z=>by cases z)
 have hT05:L2.LamT T0 p0 q0 H5:=i5 hT03 (fun ps e=>tb35 _ _ (cH a0) e) fz5;have hT15:L2.LamT T1 p1 q1 H5:=i5 hT13 (fun ps e=>tb35 _ _ (cH a1) e) fz5;have hT25:L2.LamT T2 lpT lqT H5:=i5 hT23 (fun ps e=>tb35 _ _ (cH a2) e) fz5;have hT45:L2.LamG T4 lqCm H5:=hT44.same S5;have hT55:L2.LamG T5 lqFw H5:=hT53.stay (fun ps e=>tb35 _ _ b4 e) fz5;have nY:Ys≠[]:=fun z=>by
  obtain ⟨t,ht,_⟩:=holdA t0 tok0.2.2;rw [z] at lY;rw [dJ.mp lY.symm] at ht;cases ht
 have len:∀ y∈Ys,y.2.length=ts.length:=fun y hy=>by
  obtain ⟨i,hi,rfl⟩:=cn hy;have hj:i<Ts.length:=by lia
  obtain ⟨g,M,_⟩:=mY i Ts[i] Ys[i] (gE hj) (gE hi);rw [M.len];exact lTs _ (bb hj)
 have hu5:=kt tb35 hu3 (fun _ z=>by cases z);have hY5:∀ y∈Ys,H5 y.1=some (.tup (y.2.map V.int)):=fun y hy=>S5 _ _ (hY y hy)
 have kf:∀ {H6:Hp} {a:ak} {o:HO},L2.Tb T5 H5 H6→H5 a=some o→(∀ q,o≠ .tbl q)→H6 a=some o:=fun tb e n=>tb _ _ (NE hT55 e n) e
 apply ⟨_,rfl,Lt,_,fun i=>(((qN ts ((Ys.getD i (0,[])).2)).length:Nat):Int),rfl,h5,fun z=>nY (List.map_eq_nil_iff.mp z),hT55,fun i x hx H6 tb6=>?_,fun H6 i x tb6 hT56 hx mini=>?_⟩
 ·rw [ax] at hx
  obtain ⟨y,ey,rfl⟩:=aO.mp hx;have my:=aW ey;have e:Ys.getD i (0,[])=y:=by rw [af,ey];rfl
  apply ⟨_,rfl,_,rfl,u,y.1,ts,y.2,rfl,kf tb6 hu5 (fun _ z=>by cases z),kf tb6 (hY5 y my) (fun _ z=>by cases z),len y my,⋯,fun r H7 S7 h7=>⟨r,_,rfl,.inr (SqT.of h7),S7,?_⟩⟩;show V.int _=V.int (((qN ts ((Ys.getD i (0,[])).2)).length:Nat):Int);rw [e,aa]
 ·rw [ax] at hx
  obtain ⟨y,ey,rfl⟩:=aO.mp hx;have my:=aW ey;have e:Ys.getD i (0,[])=y:=by rw [af,ey];rfl
  have least:∀ z∈Ys,(qN ts y.2).length≤(qN ts z.2).length:=fun z hz=>by
   obtain ⟨j,hj,rfl⟩:=cn hz;have:=mini j (by rw [aa];exact hj);have this:(((qN ts ((Ys.getD i (0,[])).2)).length:Nat):Int)≤(((qN ts ((Ys.getD j (0,[])).2)).length:Nat):Int):=this;have e2:Ys.getD j (0,[])=Ys[j]:=by rw [af,gE hj];rfl
   rw [e,e2] at this;lia
  have hy6:=kf tb6 (hY5 y my) (fun _ z=>by cases z);apply ⟨_,rfl,_,rfl,u,y.1,ts,y.2,rfl,kf tb6 hu5 (fun _ z=>by cases z),hy6,len y my,⋯,fun qs H7 S7 h7=>?_⟩;apply ⟨_,rfl,(by show 3≤bg;decide),fun qr HA SA hA=>?_⟩;have S6A:bG H6 HA:=S7.trans SA;have fz6:∀ a o u,H5 a=some (.frz o u)→H6 a=some (.frz o u):=fun a o u e=>kf tb6 e (fun _ z=>by cases z)
  have kp35:Kp H3 H5:=⟨fun a xs e=>kt tb35 e (fun _ z=>by cases z),fun a xs e=>kt tb35 e (fun _ z=>by cases z),fun a _ xs e=>kt tb35 e (fun _ z=>by cases z)⟩;have kp56:Kp H5 H6:=⟨fun a xs e=>kf tb6 e (fun _ z=>by cases z),fun a xs e=>kf tb6 e (fun _ z=>by cases z),fun a _ xs e=>kf tb6 e (fun _ z=>by cases z)⟩;apply k qr HA (kp03.trans (kp35.trans (kp56.trans (bG.kp S6A)))) (fun a o e0 e1 e2 e4 e5 e=>S6A _ _ (tb6 _ _ e5 (tb35 _ _ e4 (st03 a o e0 e1 e2 e)))) (LamT.same S6A (i5 hT05 (fun ps e=>tb6 _ _ (cH b0) e) fz6)) (LamT.same S6A (i5 hT15 (fun ps e=>tb6 _ _ (cH b1) e) fz6)) (LamT.same S6A (i5 hT25 (fun ps e=>tb6 _ _ (cH b2) e) fz6)) ((hT45.stay (fun ps e=>tb6 _ _ (cH b4) e) fz6).same S6A) (hT56.same S6A) (.inr ⟨fs,l,rg,Ts,Ys,qs,y,?_⟩);exact ⟨hA,SA _ _ h7,my,S6A _ _ hy6,least,tabs,lY,mY,lb,R,holdA⟩
def cnt_not {p:Nat→Bool}:∀ l:List Nat,(l.filter fun k=> !p k).length+l.countP p=l.length
 | []=>rfl
 | k::l=>by
  have:=cnt_not (p:=p) l;rw [eN,ja,aP];cases p k <;> simp <;> lia
def oth_len {us:List Int}:(qN ts us).length+(aJ ts.length).countP (fun k:Nat=>decide (tm ts k=tm us k))=ts.length:=by
 unfold qN;rw [aa];have:=cnt_not (p:=fun k:Nat=>decide (tm ts k=tm us k)) (aJ ts.length);rw [aY] at this;exact this
def cnt_two {lab:Nat→Int}{p:Nat→Bool}{f:Int}{hs:List Int}(nf:f ∉ hs):∀ l:List Nat,l.countP (fun k=>p k && decide (lab k∈f::hs))=l.countP (fun k=>p k && decide (lab k=f))+l.countP (fun k=>p k && decide (lab k∈hs))
 | []=>rfl
 | k::l=>by
  rw [ja,ja,ja,cnt_two nf l];cases hp:p k
  ·rfl
  ·by_cases e:lab k=f
   ·rw [rR (by rw [e];simp:lab k∈f::hs),rR e,rS (by rw [e];exact nf)]
    simp;lia
   ·by_cases e2:lab k∈hs
    ·rw [rR (ay _ e2:lab k∈f::hs),rS e,rR e2]
     simp;lia
    ·rw [rS (fun z=>(aF.mp z).elim e e2:¬ lab k∈f::hs),rS e,rS e2]
     simp
def cnt_parts {lab:Nat→Int}{p q:Nat→Bool}{l:List Nat}:∀ (hs:List Int),hs.Nodup→(∀ f∈hs,l.countP (fun k=>p k && decide (lab k=f))≤l.countP (fun k=>q k && decide (lab k=f)))→l.countP (fun k=>p k && decide (lab k∈hs))≤l.countP (fun k=>q k && decide (lab k∈hs))
 | [],_,_=>by
  have:∀ p:Nat→Bool,l.countP (fun k=>p k && decide (lab k∈([]:List Int)))=0:=fun p=>List.countP_eq_zero.mpr fun k _=>by
   rw [rS cx,Bool.and_false];exact aZ
  rw [this p];exact bo _
 | f::hs,nd,h=>by
  have nd:=bz.mp nd;rw [cnt_two nd.1,cnt_two nd.1];exact Nat.add_le_add (h f ∅) (cnt_parts hs nd.2 fun g hg=>h g (ay _ hg))
def cnt_idx {fs sh:List Int}{f c:Int}:((k7 fs f).map (tm sh)).count c=(aJ fs.length).countP (fun k:Nat=>decide (tm sh k=c) && decide (tm fs k=f)):=by
 unfold k7;rw [cY,List.count,List.countP_map,List.countP_filter];apply List.countP_congr fun k _=>?_
 show ((tm sh (k:Nat) == c) && decide (fs.getD k 0=f))=true↔_;have e:tm fs (k:Nat)=fs.getD k 0:=by unfold tm;rw [cb]
 rw [e]
 by_cases z:tm sh (k:Nat)=c
 ·rw [z,beq_self_eq_true,rR rfl]
 ·rw [rS z,beq_false_of_ne z]
section
variable {q0:ak}{m:Int}{fs:List Int}{rg:List (Nat×List Stp)}{y0:AT}
theorem FewA.best (A:FewA H q0 b m sp ts fs l rg Ts Ys qs y0)(N:kl b m sp)(lt:ts.length=m.toNat)(hts:∀ x∈ts,0≤x∧x<b){T:List Int}(ok:nI b m sp T):(qN ts y0.2).length≤(qN ts T).length:=by
 have b1:=N.b1;have m1:=N.m1;have hlt:=(A.fr.ff N).acy.nodup.2;have lfs:fs.length=m.toNat:=A.lb.len;obtain ⟨t,ht,lay⟩:=A.hold T ok.2.2;obtain ⟨i,hi,rfl⟩:=cn ht;have hk:i<Ys.length:=by have:=A.len;lia
 obtain ⟨g,M,C⟩:=A.mv i Ts[i] Ys[i] (gE hi) (gE hk);have lT:=(A.ok _ (bb hi)).1;apply aN (A.least Ys[i] (bb hk)) ?_;have o1:=oth_len (ts:=ts) (us:=Ys[i].2);have o2:=oth_len (ts:=ts) (us:=T)
 suffices hh:(aJ ts.length).countP (fun k:Nat=>decide (tm ts k=tm T k))≤(aJ ts.length).countP (fun k:Nat=>decide (tm ts k=tm Ys[i].2 k)) by lia
 have mem:∀ k∈aJ ts.length,tm fs ((k:Nat):Int)∈jw fs:=fun k hk=>by
  have hk:=bT.mp hk;rw [mQ];unfold tm;rw [cb,af,gE ⋯];exact bb _
 have add:∀ p:Nat→Bool,(aJ ts.length).countP p=(aJ ts.length).countP (fun k=>p k && decide (tm fs ((k:Nat):Int)∈jw fs)):=fun p=>List.countP_congr fun k hk=>by rw [rR (mem k hk),Bool.and_true]
 rw [add (fun k:Nat=>decide (tm ts k=tm T k)),add (fun k:Nat=>decide (tm ts k=tm Ys[i].2 k))];apply cnt_parts (lab:=fun k=>tm fs ((k:Nat):Int)) (jw fs) (jJ fs) fun f hf=>?_
 obtain ⟨_,h0,h1,h2⟩:=idxF_hd hf;have cm:=C f hf;have sh:∀ k:Nat,k<ts.length→tm (shM b ts Ts[i]) (k:Nat)=(tm ts k - tm Ts[i] k) % b:=fun k hk=>shM_tm ⋯ ⋯ ⋯
 have gr:0≤g f∧g f<b:=by
  obtain ⟨z,hz,e⟩:=bc.mp cm.1;obtain ⟨z0,z1,_⟩:=kN.mp hz;rw [←e,shM_tm ⋯ z0 ⋯];exact ⟨eI _ ⋯,dO _ ⋯⟩
 have c1:(aJ ts.length).countP (fun k:Nat=>decide (tm ts k=tm Ys[i].2 k) && decide (tm fs k=f))=((k7 fs f).map (tm (shM b ts Ts[i]))).count (g f):=by
  rw [cnt_idx,lfs,←lt];apply List.countP_congr fun k hk=>?_
  have hk:=bT.mp hk;rw [cz,cz,decide_eq_true_eq,decide_eq_true_eq,decide_eq_true_eq,sh k hk];apply and_congr_left fun ef=>?_
  have e:=M.tm k ⋯ ⋯;rw [ef] at e;rw [e];have r:=tm_in hts (i:=(k:Int)) ⋯ ⋯
  constructor
  ·intro z
   have a1:=fE (tm Ts[i] k+g f) b;have:(tm ts k - tm Ts[i] k) % b=g f % b:=qf.mpr ⟨- ((tm Ts[i] k+g f) / b),by rw [Int.mul_neg];lia⟩;rw [this];exact fP gr.1 gr.2
  ·intro z
   have a1:=fE (tm ts k - tm Ts[i] k) b;have:(tm Ts[i] k+g f) % b=tm ts k % b:=qf.mpr ⟨- ((tm ts k - tm Ts[i] k) / b),by rw [Int.mul_neg];lia⟩;rw [this];exact (fP r.1 r.2).symm
 have c2:(aJ ts.length).countP (fun k:Nat=>decide (tm ts k=tm T k) && decide (tm fs k=f))=((k7 fs f).map (tm (shM b ts Ts[i]))).count ((tm T (hdF fs f) - tm Ts[i] (hdF fs f)) % b):=by
  rw [cnt_idx,lfs,←lt];apply List.countP_congr fun k hk=>?_
  have hk:=bT.mp hk;rw [cz,cz,decide_eq_true_eq,decide_eq_true_eq,decide_eq_true_eq,sh k hk];apply and_congr_left fun ef=>?_
  obtain ⟨c3,e3⟩:=part_same N A.fr.fr hlt lay A.lb (x:=(k:Int)) (y:=hdF fs f) ⋯ ⋯ h0 ⋯ (by rw [ef,h2]);have r:=tm_in hts (i:=(k:Int)) ⋯ ⋯;have r2:=tm_in ok.2.1 (i:=(k:Int)) ⋯ (by have:=ok.1;lia)
  constructor
  ·intro z
   exact qf.mpr ⟨- c3,by rw [Int.mul_neg];lia⟩
  ·intro z
   obtain ⟨c4,e4⟩:=qf.mp z;exact md_eq (k:=c4+c3) r.1 r.2 r2.1 r2.2 (by rw [kI];lia)
 show (aJ ts.length).countP (fun k:Nat=>decide (tm ts k=tm T k) && decide (tm fs k=f))≤(aJ ts.length).countP (fun k:Nat=>decide (tm ts k=tm Ys[i].2 k) && decide (tm fs k=f));rw [c1,c2]
 by_cases z:(tm T (hdF fs f) - tm Ts[i] (hdF fs f)) % b∈(k7 fs f).map (tm (shM b ts Ts[i]))
 ·exact cm.2 _ z
 ·rw [List.count_eq_zero.mpr z];exact bo _
theorem FewA.mvd {m n:Int}{fs o:List Int}(N:kl b m sp)(lb:Lbl m.toNat sp fs)(h:nI b m sp o):nI b m sp (jF b n o):=by
 apply Mvd.ok (fs:=fs) (g:=fun _=>n) ⟨by unfold jF;rw [aa],fun k k0 k1=>?_⟩ N lb h;have hk:k.toNat<o.length:=by lia
 unfold tm jF;rw [af,af,ax,gE hk];rfl
def zr_back {T:List Int}(hT:∀ x∈T,0≤x∧x<b):jF b (tm T 0) (zrT b T T.length)=T:=by
 apply List.ext_getElem (by unfold jF zrT;rw [aa,aa,aY]) fun i h1 h2=>?_
 have e:tm T ((i:Nat):Int)=T[i]:=by unfold tm;rw [cb,af,gE h2];rfl
 have r:=hT T[i] (bb h2);have:(jF b (tm T 0) (zrT b T T.length))[i]=((tm T ((i:Nat):Int) - tm T 0) % b+tm T 0) % b:=by
  apply bE ?_;rw [←gE h1];unfold jF zrT;rw [ax,ax,fb h2];rfl
 rw [this,e];have a1:=fE (T[i] - tm T 0) b;have:((T[i] - tm T 0) % b+tm T 0) % b=T[i] % b:=qf.mpr ⟨- ((T[i] - tm T 0) / b),by rw [Int.mul_neg];lia⟩;rw [this];exact fP r.1 r.2
end
abbrev sMov5:cL:=top 74
abbrev sLst5:cL:=top 75
inductive spMov5 (vs:List V)(H:Hp)(Q:VK)(_:XK):Prop
 | mk (v:V)(u o:ak)(b m:Int)(sp:List Sn)(ts us:List Int)(_:vs=[v,.ref u,.ref o])(_:IsD H v (jX b m sp))(_:0≤m)(_:m≤16)(_:H u=some (.tup (ts.map V.int)))(_:ts.length=m.toNat)(_:(H o=some (.tup (us.map V.int))∨H o=some (.lst (us.map V.int))))(_:us.length=m.toNat)(_:∀ (q:ak) (H':Hp),bG H H'→H' q=some (.tup ((qN ts us).map V.int))→Q (.ref q) H')
def cntO (b:Int)(ts o:List Int)(n:Int):Int:=((qN ts (jF b n o)).length:Nat)
inductive spLst5 (vs:List V)(H:Hp)(Q:VK)(_:XK):Prop
 | mk (v:V)(u L:ak)(b m:Int)(sp:List Sn)(ts:List Int)(zs:List V)(F:List (List Int))(_:vs=[v,.ref u,.ref L])(_:IsD H v (jX b m sp))(_:0<b)(_:b≤100)(_:0≤m)(_:m≤16)(_:H u=some (.tup (ts.map V.int)))(_:ts.length=m.toNat)(_:H L=some (.lst zs))(_:dW H zs (de id F))(_:(∀ t∈F,t.length=m.toNat))(_:F.length≤216)(_:∀ (c:Int) (H':Hp),bG H H'→(∀ o∈F,∀ n:Nat,(n:Int)<b→c≤cntO b ts o n)→(c=m∨∃ o∈F,∃ n:Int,c=cntO b ts o n)→Q (.int c) H')
def scMov5:bW pzp pzp (defScope sMov5):=by trivial
theorem ok_mov5 (F:Fun K "_law_moved" "_law_moved" sMov5 f fd)(T:Nm mg)(T2:Nt mg):cO P w K mg base CX0 1 f fd pzp spMov5:=by
 specialize F.ok scMov5;obtain ⟨v,u,o,b,m,sp,ts,us,rfl,hv,m0,m16,hu,lt,ho,lu,k⟩:=h;obtain ⟨t,p,ys,rfl,ht,hp,hl,hy⟩:=fJ hv;apply ⟨_,PSl.h (cS ⟨(b9 (eP i6 rfl T.ttup iG (ag (gW (fr:=["_law_other","_law_table_here"]) (js:=[2,1]) rfl (gG rfl T2.range (ag (ixZ (pv 0)) aD)) ⇑0 rfl ⇑0 rfl (by exists sMov5) ⇑0 rfl ⇑0 (fun _ _ _ _ _=>⟨(pv 0),(mq (cA op_ne (fA (r:=fun x y H Q=>rIxT K x y H Q∨rIxL K x y H Q) (IxR.or fk gY) (pv 1) (pv 0) (fun _ _=>rfl)) (fA (r:=rIxT K) fk (pv 2) (pv 0) (fun _ _=>rfl)) (cP _)))⟩)) aD)))⟩),?_⟩;apply ⟨_,rfl,t,_,_,_,rfl,rfl,SqT.of ht,aS (j:=1) rfl,m,rfl,⋯,⋯,?_⟩;have eo:qN ts us=((aJ ts.length).filter fun k:Nat=> !decide (tm ts k=tm us k)).map fun k:Nat=>(k:Int):=rfl
 apply jM (n:=m.toNat) (fun i zs H2=>H2=H∧zs=(((aJ i).filter fun k:Nat=> !decide (tm ts k=tm us k)).map fun k:Nat=>(k:Int)).map V.int) ⟨rfl,rfl⟩ (fun i zs H2 _ ⟨_,e⟩=>?_) (d8 ⋯) (fun i zs H2 hi ⟨e1,e2⟩=>?_) (fun zs H2 ⟨e1,e2⟩ D hD=>?_)
 ·rw [e,aa,aa];exact aN (cX _ _) (by rw [aY];exact az _)
 ·subst e1
  rw [iq];have ix:∀ Q':VK,Q' (.int (tm us i)) H2→(rIxT K (.ref o) (.int i) H2 Q'∨rIxL K (.ref o) (.int i) H2 Q'):=fun Q' h=>by
   rcases ho with ho | ho
   ·exact .inl ⟨o,_,_,_,rfl,rfl,SqT.of ho,oy ⋯ ⋯,h⟩
   ·exact .inr ⟨o,_,_,_,rfl,rfl,SqL.of ho,oy ⋯ ⋯,h⟩
  apply ⟨_,rfl,_,rfl,ix _ ⟨_,rfl,_,rfl,u,_,_,_,rfl,rfl,SqT.of hu,oy ⋯ ⋯,rfl,_,rfl,?_⟩⟩;have ed:decide (V.int (tm us i)=V.int (tm ts i))=decide (tm ts i=tm us i):=decide_eq_decide.mpr ⟨fun z=>by injection z with z;exact z.symm,fun z=>by rw [z]⟩;rw [ed,ir,fZ,aE,aE,e2];apply rp (fun hc=>?_) (fun hc=>?_)
  ·apply ⟨_,rfl,rfl,?_⟩
   rw [eN,rO hc];rfl
  ·apply ⟨rfl,?_⟩
   rw [eN,rN hc];exact (dg _).symm
 ·subst e1
  apply ⟨D,_,rfl,SqL.of aV,fun q H3 S3 h3=>k q H3 (((bG.refl H2).put hD).trans S3) ?_⟩;rw [h3,e2,eo,lt]
def qY:bW ["_law_net","_law_table_here","_law_tables_here","_law_least_here","_law_one","_law_number","_law_other"] pzJ (defScope sLst5):=by trivial
theorem ok_lst5 (F0:Fun K "_law_least" "_law_least" sLst5 f fd)(T:Nm mg)(T2:Nt mg)(G1:Fn K mg "_law_moved" sMov5 pzp f1 fd1):cO P w K mg base CX0 2 f fd pzJ spLst5:=by
 have F1:cO P w K mg base CX0 1 f1 fd1 pzp spMov5:=ok_mov5 G1.F T T2;specialize F0.ok qY;obtain ⟨v,u,L,b,m,sp,ts,zs,F,rfl,hv,b0,b100,m0,m16,hu,lt,hL,dF,lF,cF,k⟩:=h;obtain ⟨t,p,ys,rfl,ht,hp,hl,hy⟩:=fJ hv;apply ⟨_,PSl.h (ba ⟨(psZ 3 qY.nd (ixZ (pv 0)))⟩
  (ba ⟨(iL bH rfl (gH (pv 2)) (pgZ 4 qY.nd) (cw (iL bH rfl (gG rfl T2.range (ag (ixZ (pv 0)) aD)) (pgZ 5 qY.nd) (PSl.h (ba ⟨(ps_setC (iy:=6) (fr:=["_law_number","_law_net"]) (js:=[5,0]) qY.nd rfl (.inl rfl) rfl (mr (pv 4)) ⇑0 rfl ⇑0 rfl (by exists sLst5) ⇑0 rfl ⇑0 (fun _ _ _ _ _=>⟨(c9 l3 (c9 iC (pv 0) (pv 1)) (fA (r:=rIxT K) fk (pv 2) bI (fun _ _=>rfl))),gU⟩))⟩
  (cS ⟨(psZ 3 qY.nd (cg (qG rfl) rfl T.min boot_min (ag (pv 3) (ag (cg bP rfl T.len bD (ag (pc1 G1 F1 hr (ag (pv 0) (ag (pv 1) (ag (pv 6) aD)))) aD)) aD))))⟩))))))⟩
  (cS ⟨(b9 (pv 3))⟩))),?_⟩
 have lz:zs.length=F.length:=by rw [dF.length];unfold de;rw [aa]
 apply ⟨_,rfl,t,_,_,_,rfl,rfl,SqT.of ht,aS (j:=1) rfl,?_⟩;apply ⟨_,rfl,L,rfl,⟨_,SqL.of hL⟩,?_⟩;apply jx (K:=K) (a:=L) (xs:=zs) (fun i σ HD=>bG H HD∧∃ (c:Int) (v4 v5 v6:Option V),σ=[some (.ref t),some (.ref u),some (.ref L),some (.int c),v4,v5,v6]∧(∀ o∈F.take i,∀ n:Nat,(n:Int)<b→c≤cntO b ts o n)∧(c=m∨∃ o∈F,∃ n:Int,c=cntO b ts o n)) ⟨bG.refl H,m,none,none,none,rfl,fun o ho=>(by cases ho),.inl rfl⟩ (fun i σ HD _ ⟨S,_⟩=>SqL.of (S _ _ hL)) ?_ ?_
 ·rintro i x σ HD hx ⟨SD,c,v4,v5,v6,rfl,low,som⟩
  have hi:i<F.length:=by rw [←lz];exact (ao.mp hx).1
  obtain ⟨d,ed,dx⟩:=dF.get hx;unfold de at ed;rw [ax,gE hi] at ed;cases ed;obtain ⟨qo,xo,rfl,ho,ro⟩:=dx.tup_of;have eo:=ro.ints_of;subst eo;have lo:F[i].length=m.toNat:=lF _ (bb hi);have ho:H qo=some (.tup (F[i].map V.int)):=ho;have l16:F[i].length≤1000:=by clear som low;lia
  apply ⟨_,rfl,t,_,_,_,rfl,rfl,SqT.of (SD _ _ ht),aS (j:=0) rfl,b,rfl,by clear som low;lia,by clear som low;lia,?_⟩;apply lh (n:=b.toNat) (fun j σ HE=>bG H HE∧∃ (c:Int) (v5 v6:Option V),σ=[some (.ref t),some (.ref u),some (.ref L),some (.int c),some (.ref qo),v5,v6]∧(∀ o∈F.take i,∀ n:Nat,(n:Int)<b→c≤cntO b ts o n)∧(∀ n:Nat,n<j→c≤cntO b ts F[i] n)∧(c=m∨∃ o∈F,∃ n:Int,c=cntO b ts o n)) ⟨SD,c,v5,v6,rfl,low,fun n hn=>rQ hn (Nat.not_lt_zero n),som⟩ ?_ ?_
  ·rintro j σ HE hj ⟨SE,c,v5,v6,rfl,low,low2,som⟩
   rw [iq];have hoE:=SE _ _ ho;apply ⟨_,rfl,qo,rfl,⟨_,SqT.of hoE⟩,?_⟩;apply kQ (K:=K) (a:=qo) (xs:=F[i].map V.int) (fun n ws H6=>H6=HE∧ws=(jF b (j:Nat) (F[i].take n)).map V.int) ⟨rfl,rfl⟩ (fun n ws H6 hn ⟨e1,e2⟩=>?_) (by rw [aa];exact d8 l16) (fun n x ws H6 hx ⟨e1,e2⟩=>?_) (fun ws H6 ⟨e1,e2⟩ D hD=>?_)
   ·subst e1
    apply ⟨SqT.of hoE,?_⟩;rw [e2,aa];unfold jF;rw [aa,bK];exact Nat.min_le_left _ _
   ·subst e1
    rw [ax] at hx;obtain ⟨z,ez,rfl⟩:=aO.mp hx;apply fS ?_;apply ⟨_,rfl,_,rfl,_,_,rfl,rfl,_,rfl,t,_,_,_,rfl,rfl,SqT.of (SE _ _ ht),aS (j:=0) rfl,_,_,rfl,rfl,b0,rfl,?_⟩;unfold jF at e2 ⊢;rw [e2,bj,ez,aE,aE];rfl
   ·subst e1
    rw [aa,bp] at e2;subst e2;have S7:bG H6 (upd H6 D (.lst ((jF b (j:Nat) F[i]).map V.int))):=(bG.refl H6).put hD;have h7:(upd H6 D (.lst ((jF b (j:Nat) F[i]).map V.int))) D=some (.lst ((jF b (j:Nat) F[i]).map V.int)):=aV;generalize upd H6 D (.lst ((jF b (j:Nat) F[i]).map V.int))=H7 at S7 h7 ⊢;have S07:=SE.trans S7;apply ⟨_,rfl,_,rfl,_,rfl,_,rfl,.ref t,u,D,b,m,sp,ts,jF b (j:Nat) F[i],rfl,hv.same S07,m0,m16,S07 _ _ hu,lt,.inr h7,(by unfold jF;rw [aa];exact lo),fun q8 H8 S8 h8=>?_⟩;apply ⟨q8,_,rfl,.inr (SqT.of h8),_,_,rfl,?_⟩;rw [aa];have ec:((qN ts (jF b (j:Nat) F[i])).length:Int)=cntO b ts F[i] (j:Nat):=rfl;rw [ec];obtain ⟨c2,hc2⟩:∃ c2,c2=cntO b ts F[i] (j:Nat):=⟨_,rfl⟩;rw [←hc2];have le:(if c2<c then c2 else c)≤c:=by clear som low low2;split <;> lia
    have le2:(if c2<c then c2 else c)≤c2:=by clear som low low2;split <;> lia
    apply ⟨S07.trans S8,(if c2<c then c2 else c),_,_,rfl,fun o ho n hn=>Int.le_trans le (low o ho n hn),fun n hn=>?_,?_⟩
    ·by_cases z:n=j
     ·rw [z,←hc2];exact le2
     ·exact Int.le_trans le (low2 n (by clear som low;lia))
    ·by_cases z:c2<c
     ·rw [rO z];exact .inr ⟨F[i],bb hi,(j:Nat),hc2⟩
     ·rw [rN z];exact som
  ·rintro σ HE ⟨SE,c,v5,v6,rfl,low,low2,som⟩
   apply ⟨SE,c,_,_,_,rfl,fun o ho n hn=>?_,som⟩;rw [bj,gE hi] at ho
   rcases aH.mp ho with z | z
   ·exact low o z n hn
   ·rw [aw.mp (show o∈[F[i]] from z)];exact low2 n (by clear som low;lia)
 ·rintro σ HD ⟨SD,c,v4,v5,v6,rfl,low,som⟩
  rw [lz,bp] at low;exact ⟨_,rfl,k c HD SD low som⟩
abbrev sWhole:cL:=top 4
abbrev sWithin:cL:=top 5
abbrev sStep:cL:=top 9
abbrev sWay:cL:=top 12
abbrev sRing:cL:=top 13
abbrev sHeaded:cL:=top 33
abbrev sCut:cL:=top 34
abbrev sLeafT:cL:=top 36
def cut_one:cutV xs (some 1) none=xs.drop 1:=by
 unfold cutV;cases xs with
 | nil=>rfl
 | cons x xs =>
  have e1:HT.sIx (x::xs).length 0 (some 1)=1:=by
   have:=HT.sIx_nat (x::xs).length 0 1;rw [show ((1:Nat):Int)=1 from rfl] at this;rw [this,aP];lia
  rw [e1];show ((x::xs).drop 1).take ((x::xs).length - 1)=_;rw [jR ∅]
inductive spWhT (vs:List V)(H:Hp)(Q:VK)(_:XK):Prop
 | mk (i:Int)(_:vs=[.int i])(_:Q (.bl true) H)
inductive spWiT (vs:List V)(H:Hp)(Q:VK)(_:XK):Prop
 | mk (i lo hi:Int)(_:vs=[.int i,.int lo,.int hi])(_:lo≤i)(_:i≤hi)(_:Q (.bl true) H)
inductive spStT (vs:List V)(H:Hp)(Q:VK)(_:XK):Prop
 | mk (v:V)(q:ak)(b m:Int)(sp:List Sn)(s:Stp)(_:vs=[v,.ref q])(_:IsD H v (jX b m sp))(_:H q=some (.tup (s.row.map V.int)))(_:s.i<sp.length)(_:(s.d=1∨s.d= -1))(_:Q (.bl true) H)
inductive spRgT (vs:List V)(H:Hp)(Q:VK)(_:XK):Prop
 | mk (v u:V)(b m:Int)(sp:List Sn)(ws:List Stp)(_:vs=[v,u])(_:IsD H v (jX b m sp))(_:IsD H u (oW ws))(_:Rg sp ws)(_:∀ H',bG H H'→Q (.bl true) H')
inductive spHdT (vs:List V)(H:Hp)(Q:VK)(_:XK):Prop
 | mk (u:V)(z y:Str)(n:Int)(ds:List Dt)(_:vs=[u,.str z,.int n])(_:IsD H u (.tup (.str y::ds)))(_:Q (.bl (decide ((ds.length:Int)+1=n) && decide (y=z))) H)
def CtT (bs:List (Int×Int)):Tq→Prop
 | .leaf d=>∃ ws,d=leafP (.ring ws)
 | .cut k a _ _=>k<bs.length∧(bs.getD k (0,0)).1≤a∧a<(bs.getD k (0,0)).2
def isCt:Tq→Bool
 | .leaf _=>false
 | .cut _ _ _ _=>true
inductive spCtT (vs:List V)(H:Hp)(Q:VK)(_:XK):Prop
 | mk (vb u:V)(bs:List (Int×Int))(t:Tq)(_:vs=[vb,u])(_:IsD H vb (bndP bs))(_:IsD H u (kq t))(_:CtT bs t)(_:Q (.bl (isCt t)) H)
inductive spLfT (vs:List V)(H:Hp)(Q:VK)(_:XK):Prop
 | mk (v u:V)(b m:Int)(sp:List Sn)(ws:List Stp)(_:vs=[v,u])(_:IsD H v (jX b m sp))(_:IsD H u (leafP (.ring ws)))(_:Rg sp ws)(_:∀ H',bG H H'→Q (.bl true) H')
def ps_outT:PS X st (fun _ _ _=>False):=fun _ _ _ _ _ _ h=>h.elim
def scWhole:bW ["thing"] ["thing"] (defScope sWhole):=by trivial
def ok_whT (F:Fun K "is_whole" "is_whole" sWhole f fd)(T:Nm mg):cO P w K mg base CX0 1 f fd ["thing"] spWhT:=by
 specialize F.ok scWhole;obtain ⟨i,rfl,k⟩:=h;apply ⟨_,cw (b9 (oT (pe_isInt T (pv 0)) (pe_one (pe_not (pe_isBool T (pv 0)))))),?_⟩;exact ⟨_,rfl,_,_,rfl,(IsD.int i).tyn,_,rfl,ow rfl ⟨_,rfl,_,_,rfl,(IsD.int i).tyn,_,rfl,k⟩⟩
def scWithin:bW pzq pzq (defScope sWithin):=by trivial
def ok_wiT (F:Fun K "is_within" "is_within" sWithin f fd)(T:Nm mg)(G1:Fn K mg "is_whole" sWhole ["thing"] f1 fd1):cO P w K mg base CX0 2 f fd pzq spWiT:=by
 have F1:cO P w K mg base CX0 1 f1 fd1 ["thing"] spWhT:=ok_whT G1.F T;specialize F.ok scWithin;obtain ⟨i,lo,hi,rfl,h1,h2,k⟩:=h;apply ⟨_,cw (b9 (oT (pc1 G1 F1 hr (ag (pv 0) aD)) (pe_one (pe_chain op_le op_le (pv 1) (pv 0) (pv 2))))),?_⟩;apply ⟨_,rfl,i,rfl,_,rfl,ow rfl ?_⟩;apply ⟨_,rfl,_,rfl,_,_,rfl,rfl,_,rfl,ow (rR h1) ⟨_,rfl,_,_,rfl,rfl,?_⟩⟩;rw [←rR h2] at k;exact k
def scStep:bW pzb pzb (defScope sStep):=by trivial
theorem ok_stT (F:Fun K "is_step" "is_step" sStep f fd)(T:Nm mg)(G1:Fn K mg "is_within" sWithin pzq f1 fd1)(G2:Fn K mg "is_whole" sWhole ["thing"] f2 fd2):cO P w K mg base CX0 3 f fd pzb spStT:=by
 have F1:cO P w K mg base CX0 2 f1 fd1 pzq spWiT:=ok_wiT G1.F T G2;apply F.ok scStep (by contradiction) (fun cdv A outer s' H vs Q E hr h=>?_);obtain ⟨v,q,b,m,sp,s,rfl,hv,hq,hi,hd,k⟩:=h;obtain ⟨t,pn,ys,rfl,ht,hpn,hl,hy⟩:=fJ hv;apply ⟨_,PSl.h (ba ⟨(gF (PW.pt (oF (j7 (iK (mN T (pv 1)))) (mm (cA op_ne (cg bP rfl T.len bD (ag (pv 1) aD)) bI (cP _))))) (cw (b9 mV)) dv)⟩
  (ba ⟨(gF (j7 (iK (pc1 G1 F1 hr (ag (ixZ (pv 1)) (ag bI (ag (c9 j8 (cg bP rfl T.len bD (ag (ixZ (pv 0)) aD)) bI) aD)))))) (cw (b9 mV)) dv)⟩
  (cS ⟨(b9 (oT (pc1 G1 F1 hr (ag (ixZ (pv 1)) (ag (pe_un qS bI) (ag bI aD)))) (pe_one (jI op_ne (ixZ (pv 1)) bI (cP _)))))⟩))),?_⟩
 apply ⟨_,rfl,.ref q,"tuple",rfl,(by unfold tyn;dsimp only;rw [hq]),_,rfl,kL rfl ?_⟩;apply ⟨_,rfl,q,_,rfl,.inr (SqT.of hq),rfl,_,rfl,kL (by rfl) ?_⟩;apply ⟨_,rfl,q,_,_,_,rfl,rfl,SqT.of hq,aS (j:=0) rfl,_,rfl,t,_,_,_,rfl,rfl,SqT.of ht,aS (j:=2) rfl,pn,_,rfl,.inr (SqT.of hpn),_,_,rfl,rfl,_,_,_,rfl,⋯,⋯,_,rfl,kL rfl ?_⟩;apply ⟨_,rfl,q,_,_,_,rfl,rfl,SqT.of hq,aS (j:=1) rfl,_,rfl,_,_,_,rfl,⋯,⋯,_,rfl,ow rfl ?_⟩;apply ⟨_,rfl,q,_,_,_,rfl,rfl,SqT.of hq,aS (j:=1) rfl,rfl,?_⟩;have e:decide (V.int s.d=V.int 0)=false:=rS fun z=>by injection z;lia
 show Q (.bl (!decide (V.int s.d=V.int 0))) H;rw [e];exact k
def scWay:bW pzb pzb (defScope sWay):=by trivial
theorem ok_wyT (F:Fun K "is_way" "is_way" sWay f fd)(T:Nm mg)(T2:Nt mg)(G1:Fn K mg "is_step" sStep pzb f1 fd1)(F1:cO P w K mg base CX0 3 f1 fd1 pzb spStT)(G2:Fn K mg "leads_from" sFrom pzc f2 fd2)(G3:Fn K mg "leads_to" sTo pzc f3 fd3):cO P w K mg base CX0 4 f fd pzb spRgT:=by
 have F2:cO P w K mg base CX0 1 f2 fd2 pzc qV:=p9 G2.F;have F3:cO P w K mg base CX0 1 f3 fd3 pzc spTo:=ok_to G3.F;specialize F.ok scWay;obtain ⟨v,u,b,m,sp,ws,rfl,hv,hu,rg,k⟩:=h;have hr1:ik 1 _:=hr.mono ↥0;apply ⟨_,PSl.h (ba ⟨(gF (PW.pt (oF (j7 (iK (mN T (pv 1)))) (mm (cA kD (cg bP rfl T.len bD (ag (pv 1) aD)) bI (cP _))))) (cw (b9 mV)) dv)⟩
  (ba ⟨(gF (j7 (iK (cg (call_all rfl) rfl T.all boot_all (ag (gW (fr:=pza) (js:=[0]) rfl (mr (pv 1)) ⇑0 rfl ⇑0 rfl (by exists sWay) ⇑0 rfl ⇑0 (fun _ _ _ _ _=>⟨(pc1 G1 F1 hr (ag (pv 1) (ag (pv 0) aD))),gU⟩)) aD)))) (cw (b9 mV)) dv)⟩
  (cS ⟨(b9 (cg (call_all rfl) rfl T.all boot_all (ag (pe_compT (xs:=["one","other"]) (fr:=pza) (js:=[0]) rfl (pi_zip2 rfl T2.zip (ag (pv 1) (ag (pe_slice sl_tupN (pv 1) (po_some bI) po_none) aD))) ⇑0 rfl ⇑0 (by exists sWay) rfl ⇑0 (fun _ _ _ _ _=>pg_two rfl ⇑0 rfl rfl) (fun _ _ _ _ _=>⟨(jI kD (pc1 G3 F3 hr1 (ag (pv 2) (ag (pv 0) aD))) (pc1 G2 F2 hr1 (ag (pv 2) (ag (pv 1) aD))) (cP _)),gU⟩)) aD)))⟩))),?_⟩
 obtain ⟨p,xs,rfl,hp,lx,rx⟩:=gT hu;have two:=rg.two;have few:=rg.few;obtain ⟨x0,al⟩:=rg.rnd;obtain ⟨_,_,nxt⟩:=qI al;apply ⟨_,rfl,_,_,rfl,hu.tyn,_,rfl,kL rfl ?_⟩;apply ⟨_,rfl,p,_,rfl,.inr (SqT.of hp),rfl,_,rfl,kL (rS fun z=>by injection z;lia) ?_⟩;apply ⟨_,rfl,p,rfl,⟨_,SqT.of hp⟩,?_⟩;apply kQ (K:=K) (a:=p) (xs:=xs) (fun i zs H2=>H2=H∧zs=(bx i true).map V.bl) ⟨rfl,rfl⟩ (fun i zs H2 hi ⟨e1,e2⟩=>?_) (by rw [lx];exact d8 ⋯) (fun i x zs H2 hx ⟨e1,e2⟩=>?_) (fun zs H2 ⟨e1,e2⟩ D hD=>?_)
 ·subst e1
  exact ⟨SqT.of hp,by rw [e2,aa,dI];exact az _⟩
 ·subst e1
  have hi:i<ws.length:=by rw [←lx];exact (ao.mp hx).1
  obtain ⟨q1,f1,g1⟩:=jb rx (gE hi);rw [hx] at f1;cases f1;apply fS ?_;obtain ⟨s1,s2⟩:=rg.inn ws[i] (bb hi);apply ⟨_,rfl,_,rfl,v,q1,b,m,sp,ws[i],rfl,hv,g1,s1,s2,rfl,?_⟩;rw [e2,List.replicate_succ',aE];rfl
 subst e1;have S3:=bG.put (o:= .lst zs) (bG.refl H2) hD;have h3:(upd H2 D (.lst zs)) D=some (.lst zs):=aV;generalize upd H2 D (.lst zs)=H3 at S3 h3 ⊢;subst e2;apply ⟨D,bx xs.length true,rfl,SqL.of h3,_,rfl,kL ?_ ?_⟩
 ·rw [ia.mpr fun x hx=>(by rw [(kX.mp hx).2];rfl)];rfl
 apply ⟨_,rfl,_,rfl,_,rfl,p,_,rfl,S3 _ _ hp,fun p4 H4 S4 h4=>?_⟩;rw [cut_one] at h4;have S24:=S3.trans S4;apply ⟨⟨false,p⟩,⟨false,p4⟩,_,_,rfl,S24 _ _ hp,h4,?_⟩;apply rG (K:=K) (c1:=⟨false,p⟩) (c2:=⟨false,p4⟩) (xs:=xs) (ys:=xs.drop 1) (fun i zs H5=>bG H4 H5∧∃ n,n≤i∧zs=(bx n true).map V.bl) ⟨bG.refl _,0,az _,rfl⟩ (fun i zs H5 hi ⟨e1,n,hn,e2⟩=>?_) (by rw [dt];lia) (fun i x y zs p5 H5 hx hy ⟨e1,n,hn,e2⟩ hp5=>?_) (by rw [dt,lx];exact d8 ⋯) (fun zs H5 ⟨e1,n,hn,e2⟩ D5 hD5=>?_)
 ·apply ⟨e1 _ _ (S24 _ _ hp),e1 _ _ h4,?_⟩
  rw [e2,aa,dI];exact hn
 ·have hi:i<ws.length:=by rw [←lx];exact (ao.mp hx).1
  rw [List.getElem?_drop,Nat.add_comm] at hy;have hi1:i+1<ws.length:=by rw [←lx];exact (ao.mp hy).1
  obtain ⟨q1,f1,g1⟩:=jb rx (gE hi);obtain ⟨q2,f2,g2⟩:=jb rx (gE hi1);rw [hx] at f1;rw [hy] at f2;cases f1;cases f2;have S5:=e1.put (o:= .tup [.ref q1,.ref q2]) hp5;have S25:=S24.trans S5;obtain ⟨i1,_⟩:=rg.inn ws[i] (bb hi);obtain ⟨i2,_⟩:=rg.inn ws[i+1] (bb hi1);apply fS ?_;apply ⟨_,rfl,_,rfl,v,q1,b,m,sp,ws[i],sp[ws[i].i],rfl,hv.same S25,S25 _ _ g1,gE i1,?_⟩;apply ⟨_,rfl,_,rfl,v,q2,b,m,sp,ws[i+1],sp[ws[i+1].i],rfl,hv.same S25,S25 _ _ g2,gE i2,rfl,S5,n+1,⋯,?_⟩;have u1:fc sp ws[i]=too sp[ws[i].i] ws[i].d:=by unfold fc;rw [gE i1]
  have u2:kU sp ws[i+1]=frm sp[ws[i+1].i] ws[i+1].d:=by unfold kU;rw [gE i2]
  have e:=nxt i hi1;rw [u1,u2] at e;rw [e2,e,rR rfl,List.replicate_succ',aE];rfl
 ·apply ⟨D5,bx n true,rfl,SqL.of (by rw [aV,e2]),?_⟩
  rw [ia.mpr fun x hx=>(by rw [(kX.mp hx).2];rfl)];exact k _ (S24.trans (e1.put hD5))
def scRing:bW pzb pzb (defScope sRing):=by trivial
theorem ok_rgT (F:Fun K "is_ring" "is_ring" sRing f fd)(T:Nm mg)(T3:N3 mg)(G1:Fn K mg "is_way" sWay pzb f1 fd1)(F1:cO P w K mg base CX0 4 f1 fd1 pzb spRgT)(G2:Fn K mg "leads_from" sFrom pzc f2 fd2)(G3:Fn K mg "leads_to" sTo pzc f3 fd3):cO P w K mg base CX0 5 f fd pzb spRgT:=by
 have F2:cO P w K mg base CX0 1 f2 fd2 pzc qV:=p9 G2.F;have F3:cO P w K mg base CX0 1 f3 fd3 pzc spTo:=ok_to G3.F;specialize F.ok scRing;obtain ⟨v,u,b,m,sp,ws,rfl,hv,hu,rg,k⟩:=h;have hr1:ik 1 _:=hr.mono ↥0;apply ⟨_,PSl.h (ba ⟨(gF (PW.pt (oF (j7 (iK (pc1 G1 F1 hr (ag (pv 0) (ag (pv 1) aD))))) (mm (cA op_lt (cg bP rfl T.len bD (ag (pv 1) aD)) bI (cP _))))) (cw (b9 mV)) dv)⟩
  (ba ⟨(gF (cA op_ne (cg call_lenS rfl T.len bD (ag (eP (call_setL rfl) rfl T3.tset boot_set (ag (gW (fr:=[]) (js:=[]) rfl (mr (pv 1)) ⇑0 rfl ⇑0 rfl (by exists sRing) ⇑0 rfl ⇑0 (fun _ _ _ _ _=>⟨(fA (r:=rIxT K) fk (pv 0) bI (fun _ _=>rfl)),gU⟩)) aD)) aD)) (cg bP rfl T.len bD (ag (pv 1) aD)) (cP _)) (cw (b9 mV)) dv)⟩
  (cS ⟨(b9 (jI kD (pc1 G2 F2 hr1 (ag (pv 0) (ag (ixZ (pv 1)) aD))) (pc1 G3 F3 hr1 (ag (pv 0) (ag (fA fk (pv 1) (pe_un qS bI) (fun _ _=>rfl)) aD))) (cP _)))⟩))),?_⟩
 obtain ⟨p,xs,rfl,hp,lx,rx⟩:=gT hu;have two:=rg.two;have few:=rg.few;obtain ⟨x0,al⟩:=rg.rnd;obtain ⟨fst,lst,_⟩:=qI al;apply ⟨_,rfl,_,rfl,v,.ref p,b,m,sp,ws,rfl,hv,hu,rg,fun H1 S1=>⟨_,rfl,kL rfl ?_⟩⟩;apply ⟨_,rfl,p,_,rfl,.inr (SqT.of (S1 _ _ hp)),_,_,rfl,rfl,_,rfl,kL (rS ⋯) ?_⟩;apply ⟨_,rfl,p,rfl,⟨_,SqT.of (S1 _ _ hp)⟩,?_⟩;apply kQ (K:=K) (a:=p) (xs:=xs) (fun i zs H2=>H2=H1∧zs=(oX (ws.take i)).map V.int) ⟨rfl,rfl⟩ (fun i zs H2 hi ⟨e1,e2⟩=>?_) (by rw [lx];exact d8 ⋯) (fun i x zs H2 hx ⟨e1,e2⟩=>?_) (fun zs H2 ⟨e1,e2⟩ D hD=>?_)
 ·subst e1
  apply ⟨SqT.of (S1 _ _ hp),?_⟩;rw [e2,aa];unfold oX;rw [aa,bK];lia
 ·subst e1
  have hi:i<ws.length:=by rw [←lx];exact (ao.mp hx).1
  obtain ⟨q1,f1,g1⟩:=jb rx (gE hi);rw [hx] at f1;cases f1;apply fS ?_;apply ⟨_,rfl,q1,_,_,_,rfl,rfl,SqT.of (S1 _ _ g1),aS (j:=0) rfl,rfl,?_⟩;rw [e2,numsS_take hi,aE];rfl
 subst e1;have e3:zs=(oX ws).map V.int:=by rw [e2,lx,bp]
 subst e3;apply ⟨D,oX ws,rfl,SqL.of aV,by unfold oX;rw [aa];lia,fun p4 H4 S4 h4=>?_⟩;have SH4:=S1.trans ((bG.put (bG.refl H2) hD).trans S4);have hn:(oX ws).Nodup:=by
  unfold oX;have:ws.map (fun s=>(s.i:Int))=(ws.map Stp.i).map fun n:Nat=>(n:Int):=by rw [cY];rfl
  rw [this,bY,gB];exact (bY.mp rg.one).imp fun hh e=>hh ⋯
 have h3:(metL (oX ws)).length=xs.length:=by rw [met_nodup hn,lx];unfold oX;rw [aa]
 apply ⟨p4,_,_,rfl,h4,_,rfl,p,_,rfl,.inr (SqT.of (SH4 _ _ hp)),rfl,_,rfl,kL (by rw [h3,rR rfl];rfl) ?_⟩;obtain ⟨i1,_⟩:=rg.inn ws[0] (bb ⋯);obtain ⟨i2,_⟩:=rg.inn ws[ws.length - 1] (bb ⋯);obtain ⟨q1,f1,g1⟩:=jb rx (gE (show 0<ws.length by lia));obtain ⟨q2,f2,g2⟩:=jb rx (gE (show ws.length - 1<ws.length by lia));apply ⟨_,rfl,_,rfl,p,_,_,_,rfl,rfl,SqT.of (SH4 _ _ hp),aS (j:=0) f1,v,q1,b,m,sp,ws[0],sp[ws[0].i],rfl,hv.same SH4,SH4 _ _ g1,gE i1,?_⟩;apply ⟨_,rfl,_,rfl,_,rfl,p,_,_,_,rfl,rfl,SqT.of (SH4 _ _ hp),atI_last (by rw [lx];exact f2),v,q2,b,m,sp,ws[ws.length - 1],sp[ws[ws.length - 1].i],rfl,hv.same SH4,SH4 _ _ g2,gE i2,rfl,?_⟩;have u1:fc sp ws[ws.length - 1]=too sp[ws[ws.length - 1].i] ws[ws.length - 1].d:=by unfold fc;rw [gE i2]
 have u2:kU sp ws[0]=frm sp[ws[0].i] ws[0].d:=by unfold kU;rw [gE i1]
 have e:frm sp[ws[0].i] ws[0].d=too sp[ws[ws.length - 1].i] ws[ws.length - 1].d:=by rw [←u1,←u2,fst ⋯,lst ⋯]
 rw [e,rR rfl];exact k H4 SH4
def scHeaded:bW pzr pzr (defScope sHeaded):=by trivial
def ok_hdT (F:Fun K "is_headed" "is_headed" sHeaded f fd)(T:Nm mg)(TS:mg "str" =none):cO P w K mg base CX0 1 f fd pzr spHdT:=by
 specialize F.ok scHeaded;obtain ⟨u,z,y,n,ds,rfl,hd,k⟩:=h;apply ⟨_,PSl.h (cS ⟨(b9 (oT (mN T (pv 0)) (oT (jI kD (cg bP rfl T.len bD (ag (pv 0) aD)) (pv 2) (cP _)) (oT (pe_isStrT T TS (ixZ (pv 0))) (pe_one (jI kD (ixZ (pv 0)) (pv 1) (cP _)))))))⟩),?_⟩;apply ⟨_,rfl,_,_,rfl,hd.tyn,_,rfl,ow rfl ?_⟩;obtain ⟨p,xs,rfl,hp,rx⟩:=hd.tup_of;have lx:=rx.length;cases rx with
 | cons r0 rr =>
  rename_i x0 xr;cases r0;apply ⟨_,rfl,p,_,rfl,.inr (SqT.of hp),_,rfl,rfl,_,rfl,?_⟩;have e1:decide (V.int ((V.str y::xr).length:Int)=V.int n)=decide ((ds.length:Int)+1=n):=decide_eq_decide.mpr ⟨fun q=>by injection q with q;rw [lx,aP] at q;lia,fun q=>by rw [←q,lx,aP];rfl⟩;rw [e1]
  by_cases h1:(ds.length:Int)+1=n
  ·apply ow (rR h1) ?_
   apply ⟨_,rfl,p,_,_,_,rfl,rfl,SqT.of hp,aS (j:=0) rfl,.str y,"str",rfl,(IsD.str y).tyn,_,rfl,ow rfl ?_⟩;apply ⟨_,rfl,p,_,_,_,rfl,rfl,SqT.of hp,aS (j:=0) rfl,_,rfl,rfl,?_⟩;have e3:decide (V.str y=V.str z)=decide (y=z):=decide_eq_decide.mpr ⟨fun q=>by injection q,fun q=>by rw [q]⟩;rw [e3];rw [rR h1,Bool.true_and] at k;exact k
  ·apply kL (rS h1) ?_
   rw [rS h1,Bool.false_and] at k;exact k
def scCut:bW ["bounds","thing","bound"] pzK (defScope sCut):=by trivial
def ok_ctT (F:Fun K "is_cut" "is_cut" sCut f fd)(T:Nm mg)(TS:mg "str" =none)(G1:Fn K mg "is_headed" sHeaded pzr f1 fd1)(G2:Fn K mg "is_within" sWithin pzq f2 fd2)(G3:Fn K mg "is_whole" sWhole ["thing"] f3 fd3):cO P w K mg base CX0 3 f fd pzK spCtT:=by
 have F1:cO P w K mg base CX0 1 f1 fd1 pzr spHdT:=ok_hdT G1.F T TS;have F2:cO P w K mg base CX0 2 f2 fd2 pzq spWiT:=ok_wiT G2.F T G3;specialize F.ok scCut;obtain ⟨vb,u,bs,t,rfl,hb,hd,ct,k⟩:=h;obtain ⟨pb,yb,rfl,hpb,hlb,rb⟩:=gT hb;have hr1:ik 1 _:=hr.mono ↥0;apply ⟨_,PSl.h (ba ⟨(gF (PW.pt (oF (j7 (iK (pc1 G1 F1 hr1 (ag (pv 1) (ag kB (ag bI aD)))))) (mm (j7 (iK (pc1 G2 F2 hr (ag (ixZ (pv 1)) (ag bI (ag (c9 j8 (cg bP rfl T.len bD (ag (pv 0) aD)) bI) aD))))))))) (cw (b9 mV)) dv)⟩
  (ba ⟨(psZ 2 scCut.nd (fA fk (pv 0) (ixZ (pv 1)) (fun _ _=>rfl)))⟩
  (cS ⟨(b9 (pc1 G2 F2 hr (ag (ixZ (pv 1)) (ag (ixZ (pv 2)) (ag (c9 j8 (ixZ (pv 2)) bI) aD)))))⟩))),?_⟩
 cases t with
 | leaf d =>
  obtain ⟨ws,rfl⟩:=ct;exact ⟨_,rfl,u,"cut","ring",5,[oW ws],rfl,hd,_,rfl,ow rfl k⟩
 | cut n a x y =>
  obtain ⟨hn,h1,h2⟩:=ct;have hd':IsD H u (.tup [.str "cut",.int (n:Nat),.int a,kq x,kq y]):=hd;apply ⟨_,rfl,u,"cut","cut",5,_,rfl,hd',_,rfl,kL rfl ?_⟩;obtain ⟨p,xs,rfl,hp,rx⟩:=hd'.tup_of;cases rx with
  | cons r0 rr=>cases rr with
   | cons r1 rr=>cases rr with
    | cons r2 rr =>
     cases r1;cases r2;have e0:bs.getD n (0,0)=bs[n]:=by rw [af,gE hn];rfl
     rw [e0] at h1 h2;obtain ⟨qn,hqn,hqn2⟩:=jb rb (gE hn);apply ⟨_,rfl,p,_,_,_,rfl,rfl,SqT.of hp,aS (j:=1) rfl,_,rfl,pb,_,rfl,.inr (SqT.of hpb),_,_,rfl,rfl,_,_,_,rfl,⋯,⋯,_,rfl,kL rfl ?_⟩;apply ⟨_,rfl,_,rfl,p,_,_,_,rfl,rfl,SqT.of hp,aS (j:=1) rfl,pb,_,_,_,rfl,rfl,SqT.of hpb,aS (j:=n) hqn,?_⟩;exact ⟨_,rfl,p,_,_,_,rfl,rfl,SqT.of hp,aS (j:=2) rfl,_,rfl,qn,_,_,_,rfl,rfl,SqT.of hqn2,aS (j:=0) rfl,_,rfl,qn,_,_,_,rfl,rfl,SqT.of hqn2,aS (j:=1) rfl,_,_,rfl,rfl,_,_,_,rfl,h1,⋯,k⟩
def scLeafT:bW ["net","thing","rows"] pzb (defScope sLeafT):=by trivial
def ok_lfT (F:Fun K "is_leaf" "is_leaf" sLeafT f fd)(T:Nm mg)(TS:mg "str" =none)(G1:Fn K mg "is_headed" sHeaded pzr f1 fd1)(G2:Fn K mg "is_ring" sRing pzb f2 fd2)(F2:cO P w K mg base CX0 5 f2 fd2 pzb spRgT):cO P w K mg base CX0 7 f fd pzb spLfT:=by
 have F1:cO P w K mg base CX0 1 f1 fd1 pzr spHdT:=ok_hdT G1.F T TS;specialize F.ok scLeafT;obtain ⟨v,u,b,m,sp,ws,rfl,hv,hd,rg,k⟩:=h;have hr1:ik 1 _:=hr.mono ↥0;have hr5:ik 5 _:=hr.mono ↥0;apply ⟨_,PSl.h (ba ⟨(gF (iK (pc1 G1 F1 hr1 (ag (pv 1) (ag kB (ag bI aD))))) (cw (b9 (pc1 G2 F2 hr5 (ag (pv 0) (ag (ixZ (pv 1)) aD))))) dv)⟩
  (ba ⟨ps_outT⟩ (ba ⟨ps_outT⟩ (ba ⟨ps_outT⟩ (cS ⟨ps_outT⟩))))),?_⟩
 have hd':IsD H u (.tup [.str "ring",oW ws]):=hd;apply ⟨_,rfl,u,"ring","ring",2,[oW ws],rfl,hd',_,rfl,ow rfl ?_⟩;obtain ⟨p,xs,rfl,hp,rx⟩:=hd'.tup_of;cases rx with
 | cons r0 rr=>cases rr with
  | cons r1 rr =>
   cases rr;exact ⟨_,rfl,_,rfl,p,_,_,_,rfl,rfl,SqT.of hp,aS (j:=1) rfl,v,_,b,m,sp,ws,rfl,hv,r1,rg,k⟩
abbrev sSides:cL:=top 38
abbrev pV:cL:=top 39
def PlAt (H Hc:Hp)(y:V)(p:List (Int×Int)×Tq):Prop:=∃ (q:ak) (vb vd:V),y= .ref q∧Hc q=some (.tup [vb,vd])∧IsD Hc vb (bndP p.1)∧IsD H vd (kq p.2)
def PlAt.keep {Hd:Hp}{y:V}{p:List (Int×Int)×Tq}(h:PlAt H Hc y p)(e:kg Hc Hd):PlAt H Hd y p:=by
 obtain ⟨q,vb,vd,a,b,c,d⟩:=h;obtain ⟨pb,yb,rfl,hpb,_,rb⟩:=gT c;exact ⟨q,_,vd,a,e _ _ b,.tup (e _ _ hpb) (dk e rb),d⟩
inductive lU (H Hc:Hp):List V→List (List (Int×Int)×Tq)→Prop where
 | nil:lU H Hc [] []
 | cons {y:V} {p:List (Int×Int)×Tq} {ys:List V} {ps:List (List (Int×Int)×Tq)} (h:PlAt H Hc y p) (r:lU H Hc ys ps):lU H Hc (y::ys) (p::ps)
def lU.keep {H Hc Hd:Hp}(e:kg Hc Hd):∀ {ys:List V} {ps:List (List (Int×Int)×Tq)},lU H Hc ys ps→lU H Hd ys ps
 | _,_,.nil=> .nil
 | _,_,.cons h r=> .cons (h.keep e) (lU.keep e r)
def lU.length:∀ {ys:List V} {ps:List (List (Int×Int)×Tq)},lU H Hc ys ps→ys.length=ps.length
 | _,_,.nil=>rfl
 | _,_,.cons _ r=>by rw [aP,aP,r.length]
def lU.data {H Hc:Hp}(e:bG H Hc):∀ {ys:List V} {ds:List (List (Int×Int)×Dt)},lU H Hc ys (ds.map fun p=>(p.1,Tq.leaf p.2))→dW Hc ys (ds.map plcD)
 | _,[],h=>by cases h;exact .nil
 | _,d::ds,h=>by
  rw [bM] at h ⊢;cases h with
  | cons h r =>
   obtain ⟨q,vb,vd,rfl,h2,h3,h4⟩:=h;exact .cons (.tup h2 (.cons h3 (.cons (h4.same e) .nil))) (lU.data e r)
def lU.append {H Hc:Hp}:∀ {ys zs:List V} {ps qs:List (List (Int×Int)×Tq)},lU H Hc ys ps→lU H Hc zs qs→lU H Hc (ys++zs) (ps++qs)
 | _,_,_,_,.nil,s=>s
 | _,_,_,_,.cons h r,s=> .cons h (lU.append r s)
def lvsAll (ps:List (List (Int×Int)×Tq)):List (List (Int×Int)×Dt):=(ps.map fun p=>lvs p.2 p.1).flatten
def lZ (ps:List (List (Int×Int)×Tq)):Nat:=(ps.map fun p=>siz p.2).sum
def RgL (sp:List Sn):Tq→List (Int×Int)→Prop
 | .leaf d,_=>∃ ws,d=leafP (.ring ws)∧Rg sp ws
 | .cut k a x y,bs=>k<bs.length∧(bs.getD k (0,0)).1≤a∧a<(bs.getD k (0,0)).2∧RgL sp x (kW bs k a)∧RgL sp y (eC bs k a)
structure LvJ (H Hc:Hp)(Ls Ah:ak)(sp:List Sn)(st:List (List (Int×Int)×Tq))(fo:List (List (Int×Int)×Dt)):Prop where
 same:bG H Hc
 ls:∃ ys,Hc Ls=some (.lst ys)∧lU H Hc ys (fo.map fun p=>(p.1,Tq.leaf p.2))
 ah:∃ zs,Hc Ah=some (.lst zs.reverse)∧lU H Hc zs st
 ok:∀ p∈st,RgL sp p.2 p.1∧p.1.length=sp.length
def nh:bW ["bounds","cut","span","at","low","high","one","other"] pzL (defScope sSides):=by trivial
theorem ok_sides (F:Fun K "sides_of" "sides_of" sSides f fd)(G1:Fn K mg "with_bound" sWithB pzm f1 fd1):cO P w K mg base CX0 2 f fd pzL spSides:=by
 have F1:cO P w K mg base CX0 1 f1 fd1 pzm spWithB:=ok_withB G1.F;specialize F.ok nh;obtain ⟨vb,p,bs,n,a,x3,x4,rfl,hb,hp,hn,few,k⟩:=h;obtain ⟨pb,yb,rfl,hpb,hlb,rb⟩:=gT hb;obtain ⟨qn,hqn,hqn2⟩:=jb rb (gE hn);have e0:bs.getD n (0,0)=bs[n]:=by rw [af,gE hn];rfl
 have e1:kW bs n a=bs.set n (bs[n].1,a):=by unfold kW;rw [e0]
 have e2:eC bs n a=bs.set n (a+1,bs[n].2):=by unfold eC;rw [e0]
 apply ⟨_,PSl.h (ba ⟨(psZ 2 nh.nd (ixZ (pv 1)))⟩
  (ba ⟨(psZ 3 nh.nd (ixZ (pv 1)))⟩
  (ba ⟨(psZ 4 nh.nd (ixZ (fA fk (pv 0) (pv 2) (fun _ _=>rfl))))⟩
  (ba ⟨(psZ 5 nh.nd (ixZ (fA fk (pv 0) (pv 2) (fun _ _=>rfl))))⟩
  (ba ⟨(psZ 6 nh.nd (dB (ag (pc1 G1 F1 hr (ag (pv 0) (ag (pv 2) (ag (pv 4) (ag (pv 3) aD))))) (ag (ixZ (pv 1)) aD))))⟩
  (ba ⟨(psZ 7 nh.nd (dB (ag (pc1 G1 F1 hr (ag (pv 0) (ag (pv 2) (ag (c9 iC (pv 3) bI) (ag (pv 5) aD))))) (ag (ixZ (pv 1)) aD))))⟩
  (cS ⟨(b9 (dB (ag (pv 6) (ag (pv 7) aD))))⟩))))))),?_⟩
 apply ⟨_,rfl,p,_,_,_,rfl,rfl,SqT.of hp,aS (j:=1) rfl,?_⟩;apply ⟨_,rfl,p,_,_,_,rfl,rfl,SqT.of hp,aS (j:=2) rfl,?_⟩;apply ⟨_,rfl,_,rfl,pb,_,_,_,rfl,rfl,SqT.of hpb,aS (j:=n) hqn,qn,_,_,_,rfl,rfl,SqT.of hqn2,aS (j:=0) rfl,?_⟩;apply ⟨_,rfl,_,rfl,pb,_,_,_,rfl,rfl,SqT.of hpb,aS (j:=n) hqn,qn,_,_,_,rfl,rfl,SqT.of hqn2,aS (j:=1) rfl,?_⟩;apply ⟨_,rfl,_,rfl,_,rfl,_,rfl,.ref pb,n,bs[n].1,a,bs,rfl,hb,hn,few,fun u1 H1 S1 hu1=>?_⟩;apply ⟨_,rfl,p,_,_,_,rfl,rfl,SqT.of (S1 _ _ hp),aS (j:=3) rfl,pJ,fun q2 H2 S2 h2=>?_⟩;have S02:=S1.trans S2;apply ⟨_,rfl,_,rfl,_,rfl,_,_,rfl,rfl,_,rfl,.ref pb,n,a+1,bs[n].2,bs,rfl,hb.same S02,hn,few,fun u3 H3 S3 hu3=>?_⟩;apply ⟨_,rfl,p,_,_,_,rfl,rfl,SqT.of (S3 _ _ (S02 _ _ hp)),aS (j:=4) rfl,pJ,fun q4 H4 S4 h4=>?_⟩;apply ⟨_,rfl,_,rfl,pJ,fun q5 H5 S5 h5=>?_⟩;have S15:bG H2 H5:=S3.trans (S4.trans S5);apply k q5 q2 q4 u1 u3 H5 (S02.trans S15) h5 (S15 _ _ h2) ?_ (S5 _ _ h4) ?_
 ·rw [e1];exact (hu1.same S2).same S15
 ·rw [e2];exact (hu3.same S4).same S5
inductive pQ (vs:List V)(H:Hp)(Q:VK)(_:XK):Prop
 | mk (v u:V)(b m:Int)(sp:List Sn)(t:Tq)(_:vs=[v,u])(_:IsD H v (jX b m sp))(_:IsD H u (kq t))(_:sp.length≤40)(_:RgL sp t (sp.map fun x=>(x.l,x.o)))(_:siz t≤9000)(_:∀ L ys H',bG H H'→H' L=some (.lst ys)→dW H' ys ((lvs t (sp.map fun x=>(x.l,x.o))).map plcD)→Q (.ref L) H')
def LvJ.grow {Hd:Hp}{Ah:ak}{st:List (List (Int×Int)×Tq)}(j:LvJ H Hc Ls Ah sp st fo)(e:bG Hc Hd):LvJ H Hd Ls Ah sp st fo:=by
 obtain ⟨ys,h1,h2⟩:=j.ls;obtain ⟨zs,h3,h4⟩:=j.ah;exact ⟨j.same.trans e,⟨ys,e _ _ h1,h2.keep (bG.tupK e)⟩,⟨zs,e _ _ h3,h4.keep (bG.tupK e)⟩,j.ok⟩
def same_up (e:bG H Hc)(h:H a=none):bG H (upd Hc a o):=fun b u q=>by
 rw [bq (fun z=>by rw [z,h] at q;cases q)];exact e b u q
def siz_pos (t:Tq):1≤siz t:=by
 cases t with
 | leaf d=>exact az _
 | cut k a x y=>show 1≤siz x+siz y+1;lia
def sizAll_le:∀ (st:List (List (Int×Int)×Tq)),st.length≤lZ st
 | []=>az _
 | p::st=>by
  show st.length+1≤siz p.2+lZ st;have:=siz_pos p.2;have:=sizAll_le st;lia
def rowsPk {f:α→List Int}{xs:List α}(e:kg H H')(h:IsD H v (rowsP f xs)):IsD H' v (rowsP f xs):=by
 obtain ⟨p,ys,rfl,hp,_,r⟩:=gT h;exact .tup (e _ _ hp) (dk e r)
def k3:bW ["net","thing","leaves","ahead","place","sides"] pzb (defScope pV):=by trivial
def ok_leavesIn (F:Fun K "leaves_in" "leaves_in" pV f fd)(T:Nm mg)(CL:∃ t,mg "MOST_LEAVES_WALKED" =some (.int 20000 t))
  (G1:Fn K mg "first_bounds" sFirst pza f1 fd1) (F1:cO P w K mg base CX0 1 f1 fd1 pza spFirst)
  (G2:Fn K mg "is_cut" sCut pzK f2 fd2) (F2:cO P w K mg base CX0 3 f2 fd2 pzK spCtT)
  (G3:Fn K mg "sides_of" sSides pzL f3 fd3) (F3:cO P w K mg base CX0 2 f3 fd3 pzL spSides)
  (G4:Fn K mg "is_leaf" sLeafT pzb f4 fd4) (F4:cO P w K mg base CX0 7 f4 fd4 pzb spLfT):cO P w K mg base CX0 8 f fd pzb pQ:=by
 specialize F.ok k3;obtain ⟨v,u,b,m,sp,t,rfl,hv,hu,few,ok,hsz,k⟩:=h;have hr1:ik 1 _:=hr.mono ↥0;have hr2:ik 2 _:=hr.mono ↥0;have hr3:ik 3 _:=hr.mono ↥0;apply ⟨_,PSl.h (ba ⟨(psZ 2 k3.nd (jv aD))⟩
  (ba ⟨(psZ 3 k3.nd (jv (ag (dB (ag (pc1 G1 F1 hr1 (ag (pv 0) aD)) (ag (pv 1) aD))) aD)))⟩
  (ba ⟨(mM bH (cA op_gt (cg bP rfl T.len bD (ag (pv 3) aD)) bI (cP _)) (PSl.h (ba ⟨(psZ 4 k3.nd (p8 bf fh fg qe (pv 3)))⟩
  (cS ⟨(gF (iK (pc1 G2 F2 hr3 (ag (ixZ (pv 4)) (ag (ixZ (pv 4)) aD)))) (PSl.h (ba ⟨(psZ 5 k3.nd (pc1 G3 F3 hr2 (ag (ixZ (pv 4)) (ag (ixZ (pv 4)) aD))))⟩
  (ba ⟨(iB (l7 bf bR bQ gc (pv 3) (ag (ixZ (pv 5)) aD)))⟩
  (cS ⟨(iB (l7 bf bR bQ gc (pv 3) (ag (ixZ (pv 5)) aD)))⟩)))) (cw (gF (PW.pt (pw_and (iK (pc1 G4 F4 hr (ag (pv 0) (ag (ixZ (pv 4)) aD)))) (pw_and1 (cA op_lt (cg bP rfl T.len bD (ag (pv 2) aD)) (pe_gint CL) (cP _))))) (cw (iB (l7 bf bR bQ gc (pv 2) (ag (pv 4) aD)))) (cw (b9 oR)))))⟩))))⟩
  (cS ⟨(b9 (pv 2))⟩)))),?_⟩
 apply ⟨bo _,fun Ls hLs=>?_⟩;have S1:bG H (upd H Ls (.lst [])):=bG.put (bG.refl H) hLs;have h1:(upd H Ls (.lst [])) Ls=some (.lst []):=aV;generalize upd H Ls (.lst [])=H1 at S1 h1 ⊢;apply ⟨_,rfl,v,b,m,sp,rfl,hv.same S1,⋯,fun ub H2 S2 hub=>⟨_,rfl,pJ,fun q3 H3 S3 h3=>⟨szZ1,fun Ah hAh=>?_⟩⟩⟩;have S13:=S1.trans (S2.trans S3);have nLA:Ls≠Ah:=fun z=>by rw [←z,S3 _ _ (S2 _ _ h1)] at hAh;cases hAh
 have hAhH:H Ah=none:=by
  cases z:H Ah with
  | none=>rfl
  | some o=>rw [S13 _ _ z] at hAh;cases hAh
 have S4:bG H3 (upd H3 Ah (.lst [.ref q3])):=bG.put (bG.refl H3) hAh;have h4:(upd H3 Ah (.lst [.ref q3])) Ah=some (.lst [.ref q3]):=aV;generalize upd H3 Ah (.lst [.ref q3])=H4 at S4 h4 ⊢;obtain ⟨bs0,hbs0⟩:∃ bs0,bs0=sp.map fun x=>(x.l,x.o):=⟨_,rfl⟩
 rw [←hbs0] at ok k hub;have lb0:bs0.length=sp.length:=by rw [hbs0,aa]
 have J4:LvJ H H4 Ls Ah sp [(bs0,t)] []:=⟨S13.trans S4,⟨[],S4 _ _ (S3 _ _ (S2 _ _ h1)),.nil⟩,⟨[.ref q3],h4,.cons ⟨q3,ub,u,rfl,S4 _ _ h3,(hub.same S3).same S4,hu⟩ .nil⟩,fun p hp=>by rw [aw.mp hp];exact ⟨ok,lb0⟩⟩;apply ⟨fun n σ Hc=>∃ (st:List (List (Int×Int)×Tq)) (fo:List (List (Int×Int)×Dt)) (v4 v5:Option V),n=lZ st∧σ=[some v,some u,some (.ref Ls),some (.ref Ah),v4,v5]∧LvJ H Hc Ls Ah sp st fo∧fo++lvsAll st=lvs t bs0∧fo.length+lZ st≤9000,⟨_,_,_,none,none,rfl,rfl,J4,by show []++(lvs t bs0++[])=_;simp,by show 0+(siz t+0)≤9000;lia⟩,?_⟩;clear J4 h4 S4 h3 hub S13 S3 S2 h1 S1 hAh;rintro n σ Hc ⟨st,fo,v4,v5,rfl,rfl,J,hl,hmx⟩;obtain ⟨zs,hz,pz⟩:=J.ah;apply ⟨_,rfl,Ah,_,rfl,.inl (SqL.of hz),_,_,rfl,rfl,_,rfl,?_⟩;cases pz with
 | nil =>
  apply kL (by rfl) ?_;obtain ⟨ys,hy,py⟩:=J.ls;have e:fo=lvs t bs0:=by rw [←hl];show fo=fo++[];simp
  exact ⟨_,rfl,k Ls ys Hc J.same hy (by rw [←e];exact py.data J.same)⟩
 | cons h r =>
  rename_i y p zs st;apply ow (rR (by rw [d7,aP];show ((zs.length+1:Nat):Int) > 0;lia)) ?_;apply ⟨_,fun σ' H' z=>z,?_⟩;rw [eZ] at hz;apply ⟨_,rfl,.inl ⟨rfl,_,SqL.of hz⟩,Ah,_,y,rfl,rfl,hz,by rw [au,bw ∅];simp,?_⟩;rw [fO];obtain ⟨q,vb,vd,rfl,hq,hvb,hvd⟩:=h;have K5:kg Hc (upd Hc Ah (.lst zs.reverse)):=eO hz;have q5:=K5 _ _ hq;have vb5:IsD (upd Hc Ah (.lst zs.reverse)) vb (bndP p.1):=by
   obtain ⟨pb,yb,rfl,hpb,_,rb⟩:=gT hvb;exact .tup (K5 _ _ hpb) (dk K5 rb)
  have J5:LvJ H (upd Hc Ah (.lst zs.reverse)) Ls Ah sp st fo:=by
   obtain ⟨ys,hy,py⟩:=J.ls;exact ⟨same_up J.same hAhH,⟨ys,by rw [bq nLA];exact hy,py.keep K5⟩,⟨zs,aV,r.keep K5⟩,fun p hp=>J.ok p (ay _ hp)⟩
  obtain ⟨okp,lenp⟩:=J.ok p ∅;generalize upd Hc Ah (.lst zs.reverse)=H5 at K5 q5 vb5 J5 ⊢;have vd5:=hvd.same J5.same;obtain ⟨bs,tq⟩:=p;have lenp:bs.length=sp.length:=lenp;apply ⟨_,rfl,q,_,_,_,rfl,rfl,SqT.of q5,aS (j:=0) rfl,_,rfl,q,_,_,_,rfl,rfl,SqT.of q5,aS (j:=1) rfl,vb,vd,bs,tq,rfl,vb5,vd5,(by cases tq with | leaf d=>exact ⟨okp.choose,okp.choose_spec.1⟩ | cut kk a x y=>exact ⟨okp.1,okp.2.1,okp.2.2.1⟩),_,rfl,?_⟩;cases tq with
  | cut kk a x y =>
   apply ow rfl ?_;obtain ⟨o1,o2,o3,o4,o5⟩:=okp;obtain ⟨c,cs,rfl,hc,rc⟩:=hvd.tup_of;cases rc with
   | cons g0 gr=>cases gr with
    | cons g1 gr=>cases gr with
     | cons g2 gr=>cases gr with
      | cons g3 gr=>cases gr with
       | cons g4 gr =>
        cases gr;cases g0;cases g1;cases g2;rename_i x3 x4;apply ⟨_,rfl,q,_,_,_,rfl,rfl,SqT.of q5,aS (j:=0) rfl,_,rfl,q,_,_,_,rfl,rfl,SqT.of q5,aS (j:=1) rfl,vb,c,bs,kk,a,x3,x4,rfl,vb5,J5.same _ _ hc,o1,⋯,fun p6 q6 r6 u1 u3 H6 S6 h6 hq6 hu1 hr6 hu3=>?_⟩;have J6:=J5.grow S6;obtain ⟨zs6,hz6,pz6⟩:=J6.ah;have lz:=pz6.length;have mx:st.length≤lZ st:=sizAll_le st;have hmx:fo.length+((siz x+siz y+1)+lZ st)≤9000:=hmx;apply ⟨_,rfl,.inl ⟨rfl,_,SqL.of hz6⟩,_,rfl,p6,_,_,_,rfl,rfl,SqT.of h6,aS (j:=1) rfl,Ah,_,_,rfl,rfl,hz6,(aM (by rw [d7,lz];lia:zs6.reverse.length<9500) (by decide:9500≤bg)),?_⟩;have K7:kg H6 (upd H6 Ah (.lst (zs6.reverse++[.ref r6]))):=eO hz6;have hz7:(upd H6 Ah (.lst (zs6.reverse++[.ref r6]))) Ah=some (.lst (zs6.reverse++[.ref r6])):=aV;have E7:∀ b o,b≠Ah→H6 b=some o→(upd H6 Ah (.lst (zs6.reverse++[.ref r6]))) b=some o:=fun b o hb e=>by rw [bq hb];exact e
        have S7:bG H (upd H6 Ah (.lst (zs6.reverse++[.ref r6]))):=same_up J6.same hAhH;generalize upd H6 Ah (.lst (zs6.reverse++[.ref r6]))=H7 at K7 hz7 E7 S7 ⊢;apply ⟨_,rfl,.inl ⟨rfl,_,SqL.of hz7⟩,_,rfl,p6,_,_,_,rfl,rfl,SqT.of (K7 _ _ h6),aS (j:=0) rfl,Ah,_,_,rfl,rfl,hz7,(aM (by rw [au,d7,lz];show st.length+1<9500;lia:(zs6.reverse++[V.ref r6]).length<9500) (by decide:9500≤bg)),?_⟩;have K8:kg H7 (upd H7 Ah (.lst (zs6.reverse++[.ref r6]++[.ref q6]))):=eO hz7;have K68:=K7.trans K8;obtain ⟨ys6,hy6,py6⟩:=J6.ls;apply ⟨siz x+(siz y+lZ st),by show _<siz x+siz y+1+lZ st;lia,(kW bs kk a,x)::(eC bs kk a,y)::st,fo,_,_,rfl,rfl,⟨same_up S7 hAhH,⟨ys6,by rw [bq nLA];exact E7 _ _ nLA hy6,py6.keep K68⟩,⟨.ref q6:: .ref r6::zs6,by rw [aV,eZ,eZ],.cons ⟨q6,u1,x3,rfl,K68 _ _ hq6,rowsPk K68 hu1,g3⟩ (.cons ⟨r6,u3,x4,rfl,K68 _ _ hr6,rowsPk K68 hu3,g4⟩ (pz6.keep K68))⟩,fun p hp=>?_⟩,?_,by show fo.length+(siz x+(siz y+lZ st))≤9000;lia⟩
        ·rcases aF.mp hp with rfl | hp
         ·exact ⟨o4,by rw [one_len];exact lenp⟩
         ·rcases aF.mp hp with rfl | hp
          ·exact ⟨o5,by rw [nX];exact lenp⟩
          ·exact J6.ok p hp
        ·rw [←hl]
         show fo++(lvs x _++(lvs y _++lvsAll st))=fo++((lvs x _++lvs y _)++lvsAll st);rw [jU (lvs x _)]
  | leaf d =>
   apply kL rfl ?_;obtain ⟨ws,ed,rg⟩:=okp;apply ⟨_,rfl,_,rfl,q,_,_,_,rfl,rfl,SqT.of q5,aS (j:=1) rfl,v,vd,b,m,sp,ws,rfl,hv.same J5.same,(by rw [←ed];exact vd5),rg,fun H6 S6=>⟨_,rfl,ow rfl ?_⟩⟩;have J6:=J5.grow S6;obtain ⟨ys6,hy6,py6⟩:=J6.ls;have ly:=py6.length;rw [aa] at ly;apply ⟨_,rfl,Ls,_,rfl,.inl (SqL.of hy6),_,_,rfl,rfl,_,rfl,ow (rR (by show (ys6.length:Int)<20000;lia)) ?_⟩;apply ⟨_,rfl,.inl ⟨rfl,_,SqL.of hy6⟩,_,rfl,Ls,_,_,rfl,rfl,hy6,(aM (by lia:ys6.length<9500) (by decide:9500≤bg)),?_⟩;have K7:kg H6 (upd H6 Ls (.lst (ys6++[.ref q]))):=eO hy6;obtain ⟨zs6,hz6,pz6⟩:=J6.ah;have hmx:fo.length+(1+lZ st)≤9000:=hmx;apply ⟨lZ st,by show _<1+lZ st;lia,st,fo++[(bs,d)],_,_,rfl,rfl,⟨same_up J6.same hLs,⟨_,aV,?_⟩,⟨zs6,by rw [bq nLA.symm];exact hz6,pz6.keep K7⟩,J6.ok⟩,?_,by rw [au];show fo.length+1+_≤9000;lia⟩
   ·rw [aE]
    apply (py6.keep K7).append (.cons ⟨q,vb,vd,rfl,K7 _ _ (S6 _ _ q5),?_,hvd⟩ .nil);obtain ⟨pb,yb,rfl,hpb,_,rb⟩:=gT (vb5.same S6);exact .tup (K7 _ _ hpb) (dk K7 rb)
   ·rw [←hl,jU];rfl
abbrev sIsRight:cL:=top 40
abbrev sShown:cL:=top 43
def qp {b:Int}{sp:List Sn}:∀ (t:Tq) (bs:List (Int×Int)) (n:Nat),GoodT (RDead b sp) t bs n→bs.length=sp.length→RgL sp t bs∧∀ p∈lvs t bs,p.1.length=sp.length∧RDead b sp p.1 p.2
 | .leaf d,bs,n,h,hl=>by
  have h:RDead b sp bs d:=by cases n <;> exact h
  exact ⟨⟨h.choose,h.choose_spec.1,h.choose_spec.2.1⟩,fun p hp=>by rw [aw.mp hp];exact ⟨hl,h⟩⟩
 | .cut k a x y,bs,0,h,_=>h.elim
 | .cut k a x y,bs,n+1,h,hl=>by
  obtain ⟨h1,h2,h3,h4,h5⟩:=h;obtain ⟨a1,a2⟩:=qp x _ n h4 (by rw [one_len];exact hl);obtain ⟨c1,c2⟩:=qp y _ n h5 (by rw [nX];exact hl);apply ⟨⟨h1,h2,h3,a1,c1⟩,fun p hp=>?_⟩
  rcases aH.mp (show p∈lvs x _++lvs y _ from hp) with z | z
  ·exact a2 p z
  ·exact c2 p z
inductive qU (vs:List V)(H:Hp)(Q:VK)(_:XK):Prop
 | mk (vn vb vl:V)(b m:Int)(sp:List Sn)(bs:List (Int×Int))(ws:List Stp)(_:vs=[vn,vb,vl])(_:IsD H vn (jX b m sp))(_:0<b)(_:b<10 ^ 61)(_:IsD H vb (bndP bs))(_:IsD H vl (leafP (.ring ws)))(_:qP bs.length ws)(_:∀ H',bG H H'→Q (.bl (jL b bs ws)) H')
inductive spShownD (vs:List V)(H:Hp)(Q:VK)(_:XK):Prop
 | mk (v u:V)(b m:Int)(sp:List Sn)(t:Tq)(_:vs=[v,u])(_:IsD H v (jX b m sp))(_:kl b m sp)(_:IsD H u (kq t))(_:GoodT (RDead b sp) t (sp.map fun z=>(z.l,z.o)) 21)(_:siz t≤8191)(_:∀ r H',bG H H'→IsD H' r (.tup [.str "none"])→Q r H')
def pe_outL:PE X e (fun _ _ _=>False):=fun _ _ _ _ _ _ h=>h.elim
def scIsRight:bW pzA pzA (defScope sIsRight):=by trivial
def ok_isRightD (F:Fun K "is_right" "is_right" sIsRight f fd)(G1:Fn K mg "is_dead" sDead pze f1 fd1)(F1:cO P w K mg base CX0 3 f1 fd1 pze spDead):cO P w K mg base CX0 4 f fd pzA qU:=by
 specialize F.ok scIsRight;obtain ⟨vn,vb,vl,b,m,sp,bs,ws,rfl,hv,hb0,hb1,hb,hl,hin,k⟩:=h;apply ⟨_,PSl.h (ba ⟨(gF (cA kD (ixZ (pv 2)) kB (cP _)) (cw (b9 (pc1 G1 F1 hr (ag (pv 0) (ag (pv 1) (ag (ixZ (pv 2)) aD)))))) dv)⟩
  (cS ⟨ps_outL⟩)),?_⟩
 obtain ⟨p,xs,rfl,hp,rx⟩:=IsD.tup_of (show IsD H vl (.tup [.str "ring",oW ws]) from hl);cases rx with
 | cons h1 r1 =>
  cases r1 with
  | cons h2 r2 =>
   cases r2;cases h1;apply ⟨_,rfl,p,_,_,_,rfl,rfl,SqT.of hp,aS (j:=0) rfl,rfl,_,rfl,ow ↥0 ?_⟩;exact ⟨_,rfl,_,rfl,_,rfl,p,_,_,_,rfl,rfl,SqT.of hp,aS (j:=1) rfl,vn,vb,_,b,m,sp,bs,ws,rfl,hv,hb0,hb1,hb,h2,hin,fun H' S'=>k H' S'⟩
def scShown:bW ["net","thing","leaves","worths"] pzb (defScope sShown):=by trivial
theorem ok_shownD (F:Fun K "shown_by" "shown_by" sShown f fd)(T:Nm mg)
  (G1:Fn K mg "leaves_in" pV pzb f1 fd1) (F1:cO P w K mg base CX0 8 f1 fd1 pzb pQ)
  (G2:Fn K mg "is_right" sIsRight pzA f2 fd2) (F2:cO P w K mg base CX0 4 f2 fd2 pzA qU):cO P w K mg base CX0 9 f fd pzb spShownD:=by
 specialize F.ok scShown;obtain ⟨v,u,b,m,sp,t,rfl,hv,N,hu,good,hsz,k⟩:=h;have hr8:ik 8 _:=hr;have hr4:ik 4 _:=hr.mono ↥0;have b0:0<b:=by have:=N.b1;lia
 have b61:b<10 ^ 61:=by have:=N.b2;lia
 have few:=N.few;obtain ⟨hcut,lok⟩:=qp t _ 21 good (by rw [aa]);apply ⟨_,PSl.h (ba ⟨(psZ 2 scShown.nd (pc1 G1 F1 hr8 (ag (pv 0) (ag (pv 1) aD))))⟩
  (ba ⟨(gF (PW.pt (oF (cA op_isN (pv 2) oR (cP _)) (mm (j7 (iK (cg (call_all rfl) rfl T.all boot_all (ag (pe_compT (xs:=["bounds","leaf"]) (fr:=pza) (js:=[0]) rfl (gH (pv 2)) ⇑0 rfl ⇑0 (by exists sShown) rfl ⇑0 (fun _ _ _ _ _=>pg_two rfl ⇑0 rfl rfl) (fun _ _ _ _ _=>⟨(pc1 G2 F2 hr4 (ag (pv 2) (ag (pv 0) (ag (pv 1) aD)))),gU⟩)) aD))))))) (cw (b9 oR)) dv)⟩
  (ba ⟨(ps_setCT (iy:=3) (xs:=["bounds","leaf"]) (fr:=pza) (js:=[0]) scShown.nd rfl (.inl rfl) rfl (gH (pv 2)) ⇑0 rfl ⇑0 (by exists sShown) rfl ⇑0 (fun _ _ _ _ _=>pg_two rfl ⇑0 rfl rfl) (fun _ _ _ _ _=>⟨pe_outL,(mq (cA kD (fA (r:=rIxT K) fk (pv 1) bI (fun _ _=>rfl)) kB (cP _)))⟩))⟩
  (ba ⟨(gF (cA kD (cg bP rfl T.len bD (ag (pv 3) aD)) bI (cP _)) (cw (b9 (dB (ag kB aD)))) dv)⟩
  (cS ⟨ps_outL⟩))))),?_⟩
 apply ⟨_,rfl,_,rfl,v,u,b,m,sp,t,rfl,hv,hu,few,hcut,⋯,fun L ys H1 S1 hL hys=>?_⟩;generalize eps:lvs t (sp.map fun x=>(x.l,x.o))=ps at hys lok;have ly:ys.length=ps.length:=by rw [hys.length,aa]
 have lps:ps.length≤9000:=by
  have:=lvs_siz t (sp.map fun x=>(x.l,x.o));rw [eps] at this;lia
 have sml:ys.length≤bg:=aN (by lia:_≤9000) ↥0;have plc:∀ {i:Nat} {y:V},ys[i]? =some y→∃ (q:ak) (vb vl:V) (bs:List (Int×Int)) (ws:List Stp),y= .ref q∧H1 q=some (.tup [vb,vl])∧IsD H1 vb (bndP bs)∧IsD H1 vl (leafP (.ring ws))∧bs.length=sp.length∧Rg sp ws∧jL b bs ws=true:=fun {i y} hy=>by
  have hi:i<ps.length:=by rw [←ly];exact (ao.mp hy).1
  obtain ⟨d,hd,dy⟩:=hys.get hy;rw [ax,gE hi] at hd;cases hd;obtain ⟨l1,ws,e,rg,dd⟩:=lok _ (bb hi);obtain ⟨q,xs,rfl,hq,r⟩:=IsD.tup_of (show IsD H1 y (.tup [bndP ps[i].1,ps[i].2]) from dy);cases r with
  | cons g0 gr=>cases gr with
   | cons g1 gr =>
    cases gr;rw [e] at g1;exact ⟨q,_,_,ps[i].1,ws,rfl,hq,g0,g1,l1,rg,dd⟩
 apply ⟨_,rfl,rfl,_,rfl,kL (rS fun z=>by cases z) ?_⟩;apply ⟨_,rfl,L,rfl,⟨_,SqL.of hL⟩,?_⟩;apply compT_lst (K:=K) (a:=L) (xs:=ys) (fun i zs H2=>bG H1 H2∧zs=(bx i true).map V.bl) ⟨bG.refl H1,rfl⟩ (fun i zs H2 hi z=>?_) sml (fun i y zs H2 hy z=>?_) (fun zs H2 z D hD=>?_)
 ·obtain ⟨e1,e2⟩:=z
  apply ⟨SqL.of (e1 _ _ hL),?_⟩;rw [e2,aa,dI];exact az _
 ·obtain ⟨e1,e2⟩:=z
  obtain ⟨q,vb,vl,bs,ws,rfl,hq,hb,hl,l1,rg,dd⟩:=plc hy;apply ⟨q,vb,vl,rfl,e1 _ _ hq,fS ?_⟩;apply ⟨_,rfl,_,rfl,_,rfl,v,vb,vl,b,m,sp,bs,ws,rfl,(hv.same S1).same e1,b0,b61,hb.same e1,hl.same e1,by rw [l1];exact rg.inn,fun H3 S3=>⟨e1.trans S3,?_⟩⟩;rw [e2,dd,List.replicate_succ',aE];rfl
 obtain ⟨e1,e2⟩:=z;subst e2;have S2:bG H1 (upd H2 D (.lst ((bx ys.length true).map V.bl))):=bG.put e1 hD;have hD2:(upd H2 D (.lst ((bx ys.length true).map V.bl))) D=some (.lst ((bx ys.length true).map V.bl)):=aV;generalize upd H2 D (.lst ((bx ys.length true).map V.bl))=H3 at S2 hD2 ⊢;apply ⟨D,bx ys.length true,rfl,SqL.of hD2,_,rfl,kL ?_ ?_⟩
 ·rw [ia.mpr fun x hx=>(by rw [(kX.mp hx).2];rfl)];rfl
 apply ⟨_,rfl,L,rfl,⟨_,SqL.of (S2 _ _ hL)⟩,?_⟩;apply compT_lst (K:=K) (a:=L) (xs:=ys) (fun i zs H4=>H4=H3∧zs=[]) ⟨rfl,rfl⟩ (fun i zs H4 hi z=>?_) sml (fun i y zs H4 hy z=>?_) (fun zs H4 z D2 hF2=>?_)
 ·obtain ⟨e1,e2⟩:=z
  subst e1 e2;exact ⟨SqL.of (S2 _ _ hL),bo _⟩
 ·obtain ⟨e1,e2⟩:=z
  subst e1;obtain ⟨q,vb,vl,bs,ws,rfl,hq,hb,hl,l1,rg,dd⟩:=plc hy;obtain ⟨ql,xs,rfl,hql,rx⟩:=IsD.tup_of (show IsD H1 vl (.tup [.str "ring",oW ws]) from hl);cases rx with
  | cons g0 gr =>
   cases gr with
   | cons g1 gr =>
    cases gr;cases g0;apply ⟨q,vb,.ref ql,rfl,S2 _ _ hq,?_⟩;apply ⟨_,rfl,ql,_,_,_,rfl,rfl,SqT.of (S2 _ _ hql),aS (j:=0) rfl,rfl,_,rfl,?_⟩;exact kL (rS (by show ¬ V.str "ring" =V.str "price";decide)) ⟨rfl,e2⟩
 obtain ⟨e1,e2⟩:=z;subst e1 e2;have S4:bG H4 (upd H4 D2 (.lst [])):=(bG.refl H4).put hF2;have h4:(upd H4 D2 (.lst [])) D2=some (.lst []):=aV;generalize upd H4 D2 (.lst [])=H5 at S4 h4 ⊢;apply ⟨_,rfl,D2,_,rfl,.inl (SqL.of h4),rfl,_,rfl,ow (by rfl) ?_⟩;apply ⟨szZ1,fun q6 H6 S6 h6=>k (.ref q6) H6 (S1.trans (S2.trans (S4.trans S6))) ?_⟩;exact .tup h6 (.cons (.str _) .nil)
abbrev sCell:cL:=top 64
abbrev sBox:cL:=top 65
abbrev sDraw:cL:=top 66
def scCell:bW pzg pzg (defScope sCell):=by trivial
def ok_cell (F:Fun K "_law_cell_at" "_law_cell_at" sCell f fd)(T:Nm mg):cO P w K mg base CX0 1 f fd pzg (spCell K):=by
 specialize F.ok scCell;obtain ⟨a,ns,j,rfl,ha,hj,k⟩:=h;apply ⟨_,pss_cons (gF (cA op_lt (pv 1) (cg bP rfl T.len bD (ag (pv 0) aD)) (cP _)) (cw (b9 (fA gY (pv 0) (pv 1) (fun _ _=>rfl)))) dv) (cw (b9 bI)),?_⟩;apply ⟨_,rfl,_,rfl,a,_,rfl,.inl ha,_,_,rfl,rfl,_,rfl,?_⟩;apply rp (fun h1=>?_) (fun h1=>?_)
 ·have h1:j<((ns.map V.int).length:Int):=rT h1
  obtain ⟨v,e1,e2⟩:=atI_in hj h1;obtain ⟨c,_,rfl⟩:=bc.mp e2;exact ⟨_,rfl,_,rfl,a,_,_,_,rfl,rfl,ha,e1,k c⟩
 ·exact k 0
def scBox:bW ["_law_script","_law_k","_law_cell","_law_number","_law_j","_law_mixed"] pzg (defScope sBox):=by trivial
def ok_box (F:Fun K "_law_box" "_law_box" sBox f fd)(T:Nm mg)(T2:Nt mg)(G1:Fn K mg "_law_cell_at" sCell pzg f1 fd1):cO P w K mg base CX0 2 f fd pzg (spBox K):=by
 have F1:cO P w K mg base CX0 1 f1 fd1 pzg (spCell K):=ok_cell G1.F T;specialize F.ok scBox;obtain ⟨a,ns,j,rfl,ha,hj,k⟩:=h;apply ⟨_,PSl.h (ba ⟨(psZ 2 scBox.nd (pc1 G1 F1 hr (ag (pv 0) (ag (pv 1) aD))))⟩
  (ba ⟨(psZ 3 scBox.nd bI)⟩
  (ba ⟨(iL bH rfl (gG rfl T2.range (ag bI aD)) (pgZ 4 scBox.nd) (PSl.h (ba ⟨(psZ 5 scBox.nd (c9 l3 (c9 nZ (c9 iC (c9 iC (c9 l3 (c9 op_fdiv (pv 2) bI) bI) (c9 nZ bI (pv 4))) bI) bI) bI))⟩
  (ba ⟨(psZ 5 scBox.nd (c9 l3 (c9 iC (c9 iC (c9 nZ (pv 5) (pv 5)) (c9 nZ bI (pv 4))) (pv 1)) bI))⟩
  (cS ⟨(psZ 3 scBox.nd (c9 iC (c9 nZ (pv 3) bI) (c9 l3 (c9 nZ (pv 5) bI) bI)))⟩)))))⟩
  (ba ⟨(gF (cA kD (c9 l3 (pv 2) bI) bI (cP _)) (cw (b9 (jv (ag (c9 op_fdiv (pv 2) bI) (ag (pv 3) aD))))) dv)⟩
  (cS ⟨(b9 (jv (ag (pv 3) (ag bI aD))))⟩))))),?_⟩
 apply ⟨_,rfl,_,rfl,a,ns,j,rfl,ha,hj,fun c=>?_⟩;apply ⟨60,rfl,↥0,↥0,lh (n:=60) (fun i σ H2=>H2=H∧∃ n vj vm,σ=[some (.ref a),some (.int j),some (.int c),some (.int n),vj,vm]) ⟨rfl,0,none,none,rfl⟩ ?_ ?_⟩
 ·rintro i σ H2 hi ⟨rfl,n,vj,vm,rfl⟩
  apply ⟨_,rfl,_,_,rfl,rfl,⟨↥0,↥0⟩,_,_,rfl,rfl,(by show (0:Int)<2147483647;decide),_,rfl,_,_,rfl,rfl,.inl ⟨↥0,↥0⟩,_,_,rfl,rfl,_,_,rfl,rfl,_,_,rfl,rfl,.inr ⟨↥0,↥0⟩,_,_,rfl,rfl,(by show (0:Int)<2147483647;decide),?_⟩;apply ⟨_,rfl,_,rfl,_,_,rfl,rfl,.inl ?_,_,rfl,_,_,rfl,rfl,.inl ⟨↥0,↥0⟩,_,_,rfl,rfl,_,rfl,_,_,rfl,rfl,_,_,rfl,rfl,(by show (0:Int)<2147483629;decide),?_⟩
  ·have h1:=eI ((c / 2 % 2147483647+7919 * (0+(i:Int))+1) * 48271) (by decide:(2147483647:Int)≠0)
   have h2:=dO ((c / 2 % 2147483647+7919 * (0+(i:Int))+1) * 48271) (by decide:(0:Int)<2147483647);exact ⟨⋯,⋯⟩
  ·apply ⟨_,rfl,_,_,rfl,rfl,.inr ⟨↥0,↥0⟩,_,rfl,_,_,rfl,rfl,.inr ⟨↥0,↥0⟩,_,_,rfl,rfl,(by show (0:Int)<2147483629;decide),_,_,rfl,rfl,?_⟩
   exact ⟨rfl,_,_,_,rfl⟩
 ·rintro σ H2 ⟨rfl,n,vj,vm,rfl⟩
  apply ⟨_,rfl,_,_,rfl,rfl,(by show (0:Int)<2;decide),rfl,_,rfl,?_⟩;apply rp (fun _=>?_) (fun _=>?_)
  ·exact ⟨_,rfl,_,_,rfl,rfl,⟨↥0,↥0⟩,_,rfl,pJ,fun p hp=>k _ _ p hp⟩
  ·exact ⟨_,rfl,pJ,fun p hp=>k _ _ p hp⟩
def scDraw:bW ["_law_box_here","_law_most","_law_number"] pzh (defScope sDraw):=by trivial
def ok_draw (F:Fun K "_law_draw" "_law_draw" sDraw f fd):cO P w K mg base CX0 1 f fd pzh spDraw:=by
 specialize F.ok scDraw;obtain ⟨p,x,y,m,rfl,hp,h0,h1,k⟩:=h;apply ⟨_,PSl.h (ba ⟨(nk (gF (cA kD (fA gY (pv 0) bI (fun _ _=>rfl)) bI (cP _)) (PSl.h (ba ⟨(oQ (fA gY (pv 0) bI (fun _ _=>rfl)) (rf (pv 0) bI mL))⟩
  (cS ⟨(oQ bI (rf (pv 0) bI mL))⟩))) dv))⟩
  (ba ⟨(psZ 2 scDraw.nd (fA gY (pv 0) bI (fun _ _=>rfl)))⟩
  (ba ⟨(oQ (c9 op_fdivB (pv 2) (pv 1)) (rf (pv 0) bI mL))⟩
  (cS ⟨(b9 (c9 l3 (pv 2) (pv 1)))⟩)))),?_⟩
 apply ⟨fun σ' H'=>σ'=[some (.ref p),some (.int m),none]∧Mb p H H',?_,?_⟩
 rotate_left
 ·apply ⟨_,rfl,p,_,_,_,rfl,rfl,SqL.of hp,aS (j:=0) rfl,rfl,_,rfl,?_⟩
  apply rp (fun _=>?_) (fun _=>?_)
  ·apply ⟨_,rfl,p,_,_,_,rfl,rfl,SqL.of hp,aS (j:=1) rfl,_,rfl,p,_,_,0,rfl,rfl,hp,rfl,?_⟩
   apply ⟨_,rfl,p,_,_,1,rfl,rfl,aV,rfl,rfl,fun b o hb e=>by rw [bq hb,bq hb];exact e,y,0,?_⟩;rw [aV];rfl
  ·exact ⟨rfl,Mb.refl hp⟩
 rintro σ' H1 ⟨rfl,M1⟩;obtain ⟨x1,y1,hp1⟩:=M1.2;apply ⟨_,rfl,p,_,_,_,rfl,rfl,SqL.of hp1,aS (j:=0) rfl,?_⟩;apply ⟨_,rfl,_,rfl,_,_,rfl,rfl,log_ok h0 h1,_,rfl,p,_,_,0,rfl,rfl,hp1,rfl,?_⟩;apply ⟨_,rfl,_,rfl,_,_,rfl,rfl,h0,k _ _ (eI _ ⋯) (dO _ h0) ⟨fun b o hb e=>by rw [bq hb];exact M1.1 b o hb e,x1 / m,y1,?_⟩⟩;rw [aV];rfl
abbrev sCrow:cL:=top 77
inductive spCrow (vs:List V)(H:Hp)(Q:VK)(_:XK):Prop
 | mk (p:ak)(x y:Int)(v:V)(b m:Int)(sp:List Sn)(_:vs=[.ref p,v])(_:H p=some (.lst [.int x,.int y]))(_:IsD H v (jX b m sp))(_:kl b m sp)(_:b≤100)(_:2≤m)(_:∀ v' sp' H',Mb p H H'→IsD H' v' (jX b m sp')→kl b m sp'→Q v' H')
def oP:bW ["_law_box_here","_law_net","_law_spans","_law_goal","_law_start","_law_there","_law_least_here","_law_one"] pzf (defScope sCrow):=by trivial
theorem ok_crow (F:Fun K "_law_crowded" "_law_crowded" sCrow f fd)(T:Nm mg)(T2:Nt mg)(G1:Fn K mg "_law_draw" sDraw pzh f1 fd1):cO P w K mg base CX0 2 f fd pzf spCrow:=by
 have F1:cO P w K mg base CX0 1 f1 fd1 pzh spDraw:=ok_draw G1.F;specialize F.ok oP;obtain ⟨p,x,y,v,b,m,sp,rfl,hp,hv,NT,b100,m2,k⟩:=h;obtain ⟨t,pn,ys,rfl,ht,hpn,dy⟩:=netP_rows hv;have b1:=NT.b1;have m16:=NT.m2;have few:=NT.few;apply ⟨_,PSl.h (ba ⟨(psZ 2 oP.nd (eP oU rfl T2.tlist boot_list (ag (ixZ (pv 1)) aD)))⟩
  (ba ⟨(nk (psZ 3 oP.nd (PEs.h (k_ix gY (k_lst (oV k_int (oV k_int (oV k_int (oV k_int a_nil))))) ⟨pc1 G1 F1 hr (ag (pv 0) (ag bI aD))⟩ (fun _ _=>rfl)))))⟩
  (ba ⟨(mM bH (cA op_lt (cg bP rfl T.len bD (ag (pv 2) aD)) (pv 3) (cP _)) (PSl.h (ba ⟨(psZ 4 oP.nd (pc1 G1 F1 hr (ag (pv 0) (ag (ixZ (pv 1)) aD))))⟩
  (ba ⟨(psZ 5 oP.nd (c9 l3 (c9 iC (c9 iC (pv 4) bI) (pc1 G1 F1 hr (ag (pv 0) (ag (c9 j8 (ixZ (pv 1)) bI) aD)))) (ixZ (pv 1))))⟩
  (ba ⟨(psZ 6 oP.nd (pc1 G1 F1 hr (ag (pv 0) (ag (c9 nZ bI (ixZ (pv 1))) aD))))⟩
  (ba ⟨(psZ 7 oP.nd (dB (ag (pv 4) (ag (pv 5) (ag (pv 6) (ag (c9 j8 (c9 iC (pv 6) (ixZ (pv 1))) bI) (ag (pc1 G1 F1 hr (ag (pv 0) (ag bI aD))) aD)))))))⟩
  (ba ⟨(nk (gF (PW.pt (pw_and (cA (op_neD hr.units) (ixZ (pv 1)) (dB aD) (cP _)) (pw_and1 (cA kD (pc1 G1 F1 hr (ag (pv 0) (ag bI aD))) bI (cP _))))) (cw (psZ 7 oP.nd (fA fk (ixZ (pv 1)) (pc1 G1 F1 hr (ag (pv 0) (ag (cg bP rfl T.len bD (ag (ixZ (pv 1)) aD)) aD))) (fun _ _=>rfl)))) dv))⟩
  (cS ⟨(iB (l7 bf PySem.F.slot_list_insert PySem.F.type_list_insert mt_insert (pv 2) (ag (pc1 G1 F1 hr (ag (pv 0) (ag (c9 iC (cg bP rfl T.len bD (ag (pv 2) aD)) bI) aD))) (ag (pv 7) aD))))⟩))))))))⟩
  (cS ⟨(b9 (dB (ag (ixZ (pv 1)) (ag (ixZ (pv 1)) (ag (eP i6 rfl T.ttup iG (ag (pv 2) aD)) aD)))))⟩)))),?_⟩
 apply ⟨_,rfl,t,_,_,_,rfl,rfl,SqT.of ht,aS (j:=2) rfl,pn,_,rfl,.inr (SqT.of hpn),fun L nL=>?_⟩;have S0:bG H (upd H L (.lst ys)):=bG.put (bG.refl H) nL;have hLp:L≠p:=fun z=>by rw [z,hp] at nL;cases nL
 have hp0:=S0 _ _ hp;have hL0:(upd H L (.lst ys)) L=some (.lst ys):=aV;generalize upd H L (.lst ys)=H0 at S0 hp0 hL0 ⊢;apply ⟨fun σ' H'=>Mb p H0 H'∧∃ g:Int,g≤40∧σ'=[some (.ref p),some (.ref t),some (.ref L),some (.int g),none,none,none,none],?_,?_⟩
 rotate_left
 ·apply ⟨szZ4,fun q1 H1 S1 h1=>⟨_,rfl,p,x,y,4,rfl,S1 _ _ hp0,↥0,↥0,fun r H2 r0 r1 M1=>?_⟩⟩
  obtain ⟨vB,eB,mB⟩:=atI_in (xs:=[V.int 40,V.int 40,V.int 39,V.int 38]) r0 r1;obtain ⟨gg,rfl,w1⟩:∃ i,vB=V.int i∧i≤40:=by
   simp only [aF,cx,or_false] at mB
   rcases mB with rfl | rfl | rfl | rfl
   ·exact ⟨_,rfl,↥0⟩
   ·exact ⟨_,rfl,↥0⟩
   ·exact ⟨_,rfl,↥0⟩
   ·exact ⟨_,rfl,↥0⟩
  apply ⟨q1,_,_,_,rfl,rfl,SqL.of (M1.at h1 (fR h1 (S1 _ _ hp0) nofun)),eB,?_⟩;exact ⟨((Mb.refl hp0).then S1).trans M1,gg,w1,rfl⟩
 rintro σ' H1 ⟨M1,g,g40,rfl⟩;have hL1:=M1.at hL0 hLp;have MH1:Mb p H H1:=((Mb.refl hp).then S0).trans M1;have K1:=Mb.tupK hp MH1;apply ⟨fun n σ H'=>∃ (zs:List V) (sp':List Sn) (v4 v5 v6 v7:Option V),n=g.toNat - sp'.length∧σ=[some (.ref p),some (.ref t),some (.ref L),some (.int g),v4,v5,v6,v7]∧H' L=some (.lst zs)∧dW H' zs (de Sn.row sp')∧kl b m sp'∧Mb p H H',⟨_,ys,sp,none,none,none,none,rfl,rfl,hL1,dk K1 dy,NT,MH1⟩,?_⟩;rintro n σ H5 ⟨zs,sp',v4,v5,v6,v7,rfl,rfl,hL,dz,NT',M5⟩;obtain ⟨x5,y5,hp5⟩:=M5.2;have lz:zs.length=sp'.length:=by rw [dz.length];unfold de;rw [aa]
 have K5:=Mb.tupK hp M5;have ht5:=K5 _ _ ht;apply ⟨_,rfl,L,_,rfl,.inl (SqL.of hL),_,rfl,_,_,rfl,rfl,_,rfl,?_⟩;apply rp (fun hc=>?_) (fun hc=>?_)
 ·have hc:(zs.length:Int)<g:=rT hc
  apply ⟨_,fun σ' H' z=>z,?_⟩;apply ⟨_,rfl,_,rfl,t,_,_,_,rfl,rfl,SqT.of ht5,aS (j:=1) rfl,p,x5,y5,m,rfl,hp5,⋯,⋯,fun r1 H6 a1 c1 M6=>?_⟩;obtain ⟨x6,y6,hp6⟩:=M6.2;have ht6:=Mb.tupK hp5 M6 _ _ ht5;apply ⟨_,rfl,_,_,rfl,rfl,_,rfl,_,rfl,t,_,_,_,rfl,rfl,SqT.of ht6,aS (j:=1) rfl,_,_,rfl,rfl,p,x6,y6,m - 1,rfl,hp6,⋯,⋯,fun r2 H7 a2 c2 M7'=>?_⟩;have M7:=M6.trans M7';obtain ⟨x7,y7,hp7⟩:=M7.2;have ht7:=Mb.tupK hp5 M7 _ _ ht5;apply ⟨_,_,rfl,rfl,_,rfl,t,_,_,_,rfl,rfl,SqT.of ht7,aS (j:=1) rfl,_,_,rfl,rfl,(by show (0:Int)<m;lia),?_⟩;obtain ⟨g0,g1,g2⟩:=goal_ok a1 c1 a2 c2;apply ⟨_,rfl,_,rfl,t,_,_,_,rfl,rfl,SqT.of ht7,aS (j:=0) rfl,_,_,rfl,rfl,.inl ⟨↥0,↥0⟩,p,x7,y7,2 * b,rfl,hp7,⋯,⋯,fun r3 H8 a3 c3 M8'=>?_⟩;have M8:=M7.trans M8';obtain ⟨x8,y8,hp8⟩:=M8.2;have ht8:=Mb.tupK hp5 M8 _ _ ht5;apply ⟨_,rfl,_,rfl,_,rfl,_,rfl,_,rfl,t,_,_,_,rfl,rfl,SqT.of ht8,aS (j:=0) rfl,_,_,rfl,rfl,_,_,rfl,rfl,_,rfl,p,x8,y8,5,rfl,hp8,↥0,↥0,fun r4 H9 a4 c4 M9'=>⟨szZ5,fun tq HA SA hA=>?_⟩⟩;have MA:Mb p H5 HA:=(M8.trans M9').then SA;obtain ⟨xA,yA,hpA⟩:=MA.2;have KA:=Mb.tupK hp5 MA;have htA:=KA _ _ ht5;have hpnA:=KA _ _ (K5 _ _ hpn);have hA:HA tq=some (.tup ((Sn.row ⟨r1,(r1+1+r2) % m,r3,r3+b - 1,r4⟩).map V.int)):=hA;have ok1:SnOk b m ⟨r1,(r1+1+r2) % m,r3,r3+b - 1,r4⟩:=⟨a1,c1,g0,g1,g2,a3,by show r3≤r3+b - 1;lia,by show r3+b - 1<r3+b;lia,by show r3+b - 1<10 ^ 60;lia,a4,by show r4≤1000000000000;lia⟩;apply ⟨fun σ' H'=>Mb p H5 H'∧∃ (q:ak) (z:Sn),H' q=some (.tup (z.row.map V.int))∧SnOk b m z∧σ'=[some (.ref p),some (.ref t),some (.ref L),some (.int g),some (.int r1),some (.int ((r1+1+r2) % m)),some (.int r3),some (.ref q)],?_,?_⟩
  rotate_left
  ·apply ⟨_,rfl,t,_,_,_,rfl,rfl,SqT.of htA,aS (j:=2) rfl,bo _,fun q0 HB SB hB=>?_⟩
   have dyB:dW HB ys (de Sn.row sp):=(dk (K5.trans KA) dy).same SB;apply ⟨de Sn.row sp,[],.tup (SB _ _ hpnA) dyB,.tup hB .nil,pls_rows _ _,rfl,bX (deps_rows _ _) ↥0,_,rfl,?_⟩;have MB:=MA.then SB;obtain ⟨xB,yB,hpB⟩:=MB.2;rw [eqDs_none];apply rp (fun hc=>?_) (fun hc=>⟨MB,tq,_,SB _ _ hA,ok1,rfl⟩);have hne:sp≠[]:=fun z=>by rw [z] at hc;cases hc
   have lsp:0<sp.length:=g9.mpr hne;have lys:ys.length=sp.length:=by rw [dy.length];unfold de;rw [aa]
   apply ⟨_,rfl,p,xB,yB,3,rfl,hpB,↥0,↥0,fun r5 HC a5 c5 MC'=>⟨rfl,_,rfl,?_⟩⟩;have MC:=MB.trans MC';obtain ⟨xC,yC,hpC⟩:=MC.2;have KC:=Mb.tupK hp5 MC;apply rp (fun _=>?_) (fun _=>⟨MC,tq,_,MC'.at (SB _ _ hA) (fR (SB _ _ hA) hpB nofun),ok1,rfl⟩);apply ⟨_,rfl,t,_,_,_,rfl,rfl,SqT.of (KC _ _ ht5),aS (j:=2) rfl,_,rfl,_,rfl,t,_,_,_,rfl,rfl,SqT.of (KC _ _ ht5),aS (j:=2) rfl,pn,_,rfl,.inr (SqT.of (KC _ _ (K5 _ _ hpn))),p,xC,yC,_,rfl,hpC,(by rw [lys];lia),(by rw [lys];lia),fun r6 HD a6 c6 MD'=>?_⟩;have MD:=MC.trans MD';have KD:=Mb.tupK hp5 MD;obtain ⟨j,rfl⟩:=cG a6;have hj:j<ys.length:=by lia
   have hj2:j<sp.length:=by lia
   have dyD:=dk (K5.trans KD) dy;obtain ⟨d,ed,dx⟩:=dyD.get (gE hj);unfold de at ed;rw [ax,gE hj2] at ed;cases ed;obtain ⟨qo,xo,eo1,ho,ro⟩:=dx.tup_of;have eo:=ro.ints_of;subst eo;apply ⟨pn,_,_,_,rfl,rfl,SqT.of (KD _ _ (K5 _ _ hpn)),aS (j:=j) (by rw [gE hj,eo1]),?_⟩;exact ⟨MD,qo,sp[j],ho,NT.all _ (bb hj2),rfl⟩
  rintro σ' HB ⟨MB,q,z,hq,okz,rfl⟩;obtain ⟨xB,yB,hpB⟩:=MB.2;have hLB:=MB.at hL hLp;apply ⟨_,rfl,.inl ⟨rfl,_,SqL.of hLB⟩,_,rfl,_,rfl,L,_,rfl,.inl (SqL.of hLB),_,_,rfl,rfl,p,xB,yB,_,rfl,hpB,⋯,⋯,fun r6 HC a6 c6 MC'=>⟨_,rfl,?_⟩⟩;have MC:=MB.trans MC';have hLC:=MC.at hL hLp;apply ⟨L,zs,r6,.ref q,rfl,rfl,hLC,⋯,a6,⋯,?_⟩;have hqC:=MC'.at hq (fR hq hpB nofun);have KC:=Mb.tupK hp5 MC;have KU:kg HC (upd HC L (.lst (zs.take r6.toNat++ .ref q::zs.drop r6.toNat))):=eO hLC;obtain ⟨xC,yC,hpC⟩:=MC.2;apply ⟨_,?_,_,sp'.take r6.toNat++z::sp'.drop r6.toNat,_,_,_,_,rfl,rfl,aV,?_,⟨NT'.b1,NT'.b2,NT'.m1,NT'.m2,?_,?_⟩,?_⟩
  ·rw [au,aP,bK,dt];show g.toNat - (min r6.toNat sp'.length+(sp'.length - r6.toNat+1))<g.toNat - sp'.length;lia
  ·have dz':=dk (KC.trans KU) dz
   unfold de;rw [aE,bM,List.map_take,List.map_drop];exact (dW.takeN _ dz').append (.cons (.tup (KU _ _ hqC) (dW.ints z.row)) (dW.dropN _ dz'))
  ·rw [au,aP,bK,dt];lia
  ·intro z' hz'
   rcases aH.mp hz' with hz' | hz'
   ·exact NT'.all z' (km hz')
   ·rcases aF.mp hz' with rfl | hz'
    ·exact okz
    ·exact NT'.all z' (List.mem_of_mem_drop hz')
  ·apply ⟨fun c o hc' e=>?_,xC,yC,?_⟩
   ·rw [bq (bF e nL)]
    exact MC.1 c o hc' (M5.1 c o hc' e)
   ·rw [bq (fun z=>hLp z.symm)];exact hpC
 ·apply ⟨_,rfl,t,_,_,_,rfl,rfl,SqT.of ht5,aS (j:=0) rfl,_,rfl,t,_,_,_,rfl,rfl,SqT.of ht5,aS (j:=1) rfl,_,rfl,L,_,rfl,SqL.of hL,fun q6 H6 S6 h6=>?_⟩
  apply ⟨(by show 3≤bg;decide),fun t' H7 S7 h7=>?_⟩;exact k (.ref t') sp' H7 ((M5.then S6).then S7) (.tup h7 (.cons (.int b) (.cons (.int m) (.cons (.tup (S7 _ _ h6) (dz.same (S6.trans S7))) .nil)))) NT'
abbrev sSmall:cL:=top 67
inductive spSmallF (vs:List V)(H:Hp)(Q:VK)(_:XK):Prop
 | mk (p:ak)(x y mo ma:Int)(_:vs=[.ref p,.int mo,.int ma])(_:H p=some (.lst [.int x,.int y]))(_:1≤mo)(_:mo≤100)(_:2≤ma)(_:ma≤16)(_:∀ (t:ak) (v:V) (h:ak) (b m:Int) (sp:List Sn) (hs:List Int) (H':Hp),Mb p H H'→H' t=some (.tup [v,.ref h])→IsD H' v (jX b m sp)→1≤b→b≤mo→2≤m→m≤ma→sp.length≤8→(∀ x∈sp,SnOk b m x)→H' h=some (.tup (hs.map V.int))→(hs.length:Int)=m→(∀ z∈hs,0≤z∧z<b)→Q (.ref t) H')
def kz:bW ["_law_box_here","_law_most","_law_many","_law_beat","_law_hidden","_law_spans","_law_k","_law_start","_law_goal","_law_wide","_law_least_here"] pzM (defScope sSmall):=by trivial
theorem ok_small (F:Fun K "_law_small" "_law_small" sSmall f fd)(T:Nm mg)(T2:Nt mg)(G1:Fn K mg "_law_draw" sDraw pzh f1 fd1):cO P w K mg base CX0 2 f fd pzM spSmallF:=by
 have F1:cO P w K mg base CX0 1 f1 fd1 pzh spDraw:=ok_draw G1.F;specialize F.ok kz;obtain ⟨p,x,y,mo,ma,rfl,hp,mo1,mo2,ma1,ma2,k⟩:=h;apply ⟨_,PSl.h (ba ⟨(psZ 3 kz.nd (c9 iC bI (pc1 G1 F1 hr (ag (pv 0) (ag (pv 1) aD)))))⟩
  (ba ⟨(psZ 2 kz.nd (c9 iC bI (pc1 G1 F1 hr (ag (pv 0) (ag (c9 j8 (pv 2) bI) aD)))))⟩
  (ba ⟨(ps_setC (iy:=4) (fr:=["_law_box_here","_law_beat"]) (js:=[0,3]) kz.nd rfl (.inl rfl) rfl (gG rfl T2.range (ag (pv 2) aD)) ⇑0 rfl ⇑0 rfl (by exists sSmall) ⇑0 rfl ⇑0 (fun _ _ _ _ _=>⟨(pc1 G1 F1 hr (ag (pv 1) (ag (pv 2) aD))),gU⟩))⟩
  (ba ⟨(psZ 5 kz.nd (jv aD))⟩
  (ba ⟨(iL bH rfl (gG rfl T2.range (ag (pc1 G1 F1 hr (ag (pv 0) (ag bI aD))) aD)) (pgZ 6 kz.nd) (PSl.h (ba ⟨(psZ 7 kz.nd (pc1 G1 F1 hr (ag (pv 0) (ag (pv 2) aD))))⟩
  (ba ⟨(psZ 8 kz.nd (c9 l3 (c9 iC (c9 iC (pv 7) bI) (pc1 G1 F1 hr (ag (pv 0) (ag (c9 j8 (pv 2) bI) aD)))) (pv 2)))⟩
  (ba ⟨(psZ 9 kz.nd (PEs.h (k_ix gY (k_lst (oV k_int (oV ⟨pc1 G1 F1 hr (ag (pv 0) (ag (cg (qG rfl) rfl T.min boot_min (ag bI (ag (pv 3) aD))) aD))⟩ (oV ⟨pc1 G1 F1 hr (ag (pv 0) (ag (pv 3) aD))⟩ (oV (k_op j8 ⟨pv 3⟩ k_int) a_nil))))) ⟨pc1 G1 F1 hr (ag (pv 0) (ag bI aD))⟩ (fun _ _=>rfl))))⟩
  (ba ⟨(psZ 10 kz.nd (pc1 G1 F1 hr (ag (pv 0) (ag (c9 nZ bI (pv 3)) aD))))⟩
  (ba ⟨(nk (gF (cA op_gt (pc1 G1 F1 hr (ag (pv 0) (ag bI aD))) bI (cP _)) (cw (psZ 10 kz.nd (c9 l3 (c9 j8 (c9 j8 (fA gY (pv 4) (pv 8) (fun _ _=>rfl)) (fA gY (pv 4) (pv 7) (fun _ _=>rfl))) (pc1 G1 F1 hr (ag (pv 0) (ag (c9 iC (pv 9) bI) aD)))) (pv 3)))) dv))⟩
  (cS ⟨(iB (l7 bf bR bQ gc (pv 5) (ag (dB (ag (pv 7) (ag (pv 8) (ag (pv 10) (ag (c9 iC (pv 10) (pv 9)) (ag (pc1 G1 F1 hr (ag (pv 0) (ag bI aD))) aD)))))) aD)))⟩))))))))⟩
  (cS ⟨(b9 (dB (ag (dB (ag (pv 3) (ag (pv 2) (ag (eP i6 rfl T.ttup iG (ag (pv 5) aD)) aD)))) (ag (eP i6 rfl T.ttup iG (ag (pv 4) aD)) aD))))⟩)))))),?_⟩
 apply ⟨_,rfl,_,rfl,p,x,y,mo,rfl,hp,⋯,⋯,fun rb H1 rb0 rb1 M1=>⟨_,_,rfl,rfl,?_⟩⟩;obtain ⟨x1,y1,hp1⟩:=M1.2;apply ⟨_,rfl,_,rfl,_,_,rfl,rfl,p,x1,y1,_,rfl,hp1,⋯,⋯,fun rm H2 rm0 rm1 M2=>⟨_,_,rfl,rfl,?_⟩⟩;have M2:=M1.trans M2;have b1:1≤1+rb:=by lia
 have b2:1+rb≤mo:=by lia
 have m1:2≤2+rm:=by lia
 have m2:2+rm≤ma:=by lia
 apply ⟨_,rfl,(2+rm),rfl,⋯,⋯,?_⟩;apply jM (n:=(2+rm).toNat) (fun i zs H4=>Mb p H H4∧∃ hs:List Int,zs=hs.map V.int∧hs.length=i∧∀ z∈hs,0≤z∧z<1+rb) ⟨M2,[],rfl,rfl,fun _ h=>by cases h⟩ (fun i zs H4 _ ⟨_,hs,e,hl,_⟩=>by rw [e,aa,hl];exact az _) (d8 ⋯) (fun i zs H4 hi ⟨M4,hs,e4,hl4,hin4⟩=>?_) (fun zs H4 ⟨M4,hs,e4,hl4,hin4⟩ D hD=>?_)
 ·apply fS ?_
  obtain ⟨x4,y4,hp4⟩:=M4.2;exact ⟨_,rfl,_,rfl,p,x4,y4,(1+rb),rfl,hp4,⋯,⋯,fun r5 H5 q5 q6 M5=>⟨M4.trans M5,hs++[r5],by rw [e4,aE];rfl,by rw [au,hl4];rfl,fun z hz=>(aH.mp hz).elim (hin4 z) fun h=>by rw [aw.mp h];exact ⟨q5,q6⟩⟩⟩
 subst e4;have hlh:(hs.length:Int)=(2+rm):=by lia
 have nDp:D≠p:=fun z=>by obtain ⟨x4,y4,hp4⟩:=M4.2;rw [z,hp4] at hD;cases hD
 have hDH:H D=none:=by
  cases z:H D with
  | none=>rfl
  | some o=>rw [M4.1 D o nDp z] at hD;cases hD
 have S5:bG H4 (upd H4 D (.lst (hs.map V.int))):=bG.put (bG.refl H4) hD;have hD5:(upd H4 D (.lst (hs.map V.int))) D=some (.lst (hs.map V.int)):=aV;generalize upd H4 D (.lst (hs.map V.int))=H5 at S5 hD5 ⊢;have M5:=M4.then S5;clear M4 S5 hD M2 M1;apply ⟨bo _,fun Ls hLs=>?_⟩;have nLp:Ls≠p:=fun z=>by obtain ⟨x4,y4,hp4⟩:=M5.2;rw [z,hp4] at hLs;cases hLs
 have nLD:Ls≠D:=fun z=>by rw [z,hD5] at hLs;cases hLs
 have hLH:H Ls=none:=by
  cases z:H Ls with
  | none=>rfl
  | some o=>rw [M5.1 Ls o nLp z] at hLs;cases hLs
 have S6:bG H5 (upd H5 Ls (.lst [])):=bG.put (bG.refl H5) hLs;have hL6:(upd H5 Ls (.lst [])) Ls=some (.lst []):=aV;generalize upd H5 Ls (.lst [])=H6 at S6 hL6 ⊢;have M6:=M5.then S6;have hD6:=S6 _ _ hD5;clear M5 S6 hLs hD5;obtain ⟨x6,y6,hp6⟩:=M6.2;apply ⟨_,rfl,p,x6,y6,9,rfl,hp6,↥0,↥0,fun r7 H7 r70 r71 M7=>⟨r7,rfl,⋯,⋯,?_⟩⟩;have hD7:=M7.at hD6 nDp;have hL7:=M7.at hL6 nLp;have M7:=M6.trans M7;apply lh (n:=r7.toNat) (fun i σ H'=>Mb p H H'∧H' D=some (.lst (hs.map V.int))∧∃ (v6 v7 v8 v9 v10:Option V) (zs:List V) (sp:List Sn),σ=[some (.ref p),some (.int mo),some (.int (2+rm)),some (.int (1+rb)),some (.ref D),some (.ref Ls),v6,v7,v8,v9,v10]∧H' Ls=some (.lst zs)∧dW H' zs (de Sn.row sp)∧sp.length=i∧∀ x∈sp,SnOk (1+rb) (2+rm) x) ⟨M7,hD7,none,none,none,none,none,[],[],rfl,hL7,.nil,rfl,fun _ h=>rQ h ∅⟩ ?_ ?_
 ·rintro i σ HA hi ⟨MA,hDA,v6,v7,v8,v9,v10,zs,sp,rfl,hLA,dA,lA,allA⟩
  obtain ⟨xA,yA,hpA⟩:=MA.2;apply ⟨_,rfl,_,rfl,p,xA,yA,(2+rm),rfl,hpA,⋯,⋯,fun r1 H1 a1 c1 M1=>?_⟩;have N1:=M1;obtain ⟨x1,y1,hp1⟩:=N1.2;apply ⟨_,rfl,_,_,rfl,rfl,_,rfl,_,rfl,_,_,rfl,rfl,p,x1,y1,_,rfl,hp1,⋯,⋯,fun r2 H2 a2 c2 M2=>?_⟩;have N2:=N1.trans M2;obtain ⟨x2,y2,hp2⟩:=N2.2;apply ⟨_,_,rfl,rfl,_,rfl,_,_,rfl,rfl,(by show (0:Int)<(2+rm);lia),?_⟩;obtain ⟨g0,g1,g2⟩:=goal_ok a1 c1 a2 c2;apply ⟨_,rfl,_,rfl,_,_,rfl,p,x2,y2,_,rfl,hp2,by split <;> lia,by split <;> lia,fun r7 H7 a7 c7 M7=>?_⟩;have N7:=N2.trans M7;obtain ⟨x7,y7,hp7⟩:=N7.2;have c7:r7<(1+rb):=by
   apply Int.lt_of_lt_of_le c7 ?_;split <;> lia
  apply ⟨_,rfl,_,rfl,p,x7,y7,(1+rb),rfl,hp7,⋯,⋯,fun r8 H8 a8 c8 M8=>?_⟩;have N8:=N7.trans M8;obtain ⟨x8,y8,hp8⟩:=N8.2;apply ⟨_,rfl,_,_,rfl,rfl,szZ4,fun q9 H9 S9 h9=>?_⟩;have N9:=N8.then S9;obtain ⟨x9,y9,hp9⟩:=N9.2;apply ⟨_,rfl,p,x9,y9,4,rfl,hp9,↥0,↥0,fun rB HB aB cB MB=>?_⟩;have hB:=MB.at h9 (fR h9 hp9 nofun);have NB:=N9.trans MB;obtain ⟨xB,yB,hpB⟩:=NB.2;obtain ⟨vB,eB,mB⟩:=atI_in (xs:=[V.int 0,V.int r7,V.int r8,V.int ((1+rb) - 1)]) aB cB;obtain ⟨wd,rfl,w0,w1⟩:∃ i,vB=V.int i∧0≤i∧i<(1+rb):=by
   simp only [aF,cx,or_false] at mB
   rcases mB with rfl | rfl | rfl | rfl
   ·exact ⟨_,rfl,↥0,⋯⟩
   ·exact ⟨_,rfl,a7,c7⟩
   ·exact ⟨_,rfl,a8,c8⟩
   ·exact ⟨_,rfl,⋯,⋯⟩
  apply ⟨q9,_,_,_,rfl,rfl,SqL.of hB,eB,?_⟩;apply ⟨_,rfl,_,rfl,_,_,rfl,rfl,.inl ⟨↥0,↥0⟩,p,xB,yB,_,rfl,hpB,⋯,⋯,fun rC HC aC cC MC=>?_⟩;have NC:=NB.trans MC;obtain ⟨xC,yC,hpC⟩:=NC.2;apply ⟨fun σ' H'=>Mb p HA H'∧∃ l:Int,0≤l∧l<2 * (1+rb)∧σ'=[some (.ref p),some (.int mo),some (.int (2+rm)),some (.int (1+rb)),some (.ref D),some (.ref Ls),some (.int ((0:Int)+(i:Nat))),some (.int r1),some (.int ((r1+1+r2) % (2+rm))),some (.int wd),some (.int l)],?_,?_⟩
  rotate_left
  ·apply ⟨_,rfl,p,xC,yC,4,rfl,hpC,↥0,↥0,fun rD HD _ _ MD=>⟨_,_,rfl,rfl,_,rfl,?_⟩⟩
   have ND:=NC.trans MD;obtain ⟨xD,yD,hpD⟩:=ND.2;apply rp (fun _=>?_) (fun _=>⟨ND,_,aC,cC,rfl⟩);have hDD:=ND.at hDA nDp;apply ⟨_,rfl,_,rfl,D,_,_,_,rfl,rfl,SqL.of hDD,oy g0 ⋯,_,rfl,_,rfl,D,_,_,_,rfl,rfl,SqL.of hDD,oy a1 ⋯,_,_,rfl,rfl,_,rfl,_,rfl,_,_,rfl,rfl,p,xD,yD,_,rfl,hpD,⋯,⋯,fun rE HE _ _ ME=>⟨_,_,rfl,rfl,_,rfl,_,_,rfl,rfl,(by show (0:Int)<(1+rb);lia),?_⟩⟩;exact ⟨ND.trans ME,_,eI _ ⋯,Int.lt_of_lt_of_le (dO _ ⋯) ⋯,rfl⟩
  rintro σ' HD ⟨ND,l,l0,l1,rfl⟩;obtain ⟨xD,yD,hpD⟩:=ND.2;have hLD:=ND.at hLA nLp;apply ⟨_,rfl,.inl ⟨rfl,_,SqL.of hLD⟩,_,rfl,_,rfl,_,rfl,_,rfl,_,rfl,_,_,rfl,rfl,_,rfl,p,xD,yD,5,rfl,hpD,↥0,↥0,fun rE HE f0 f1 ME=>⟨szZ5,fun tq HF SF hF=>?_⟩⟩;have KF:kg HA HF:=(Mb.tupK hpA (ND.trans ME)).trans (bG.tupK SF);have NF:=(ND.trans ME).then SF;have hLF:=NF.at hLA nLp;have hDF:=NF.at hDA nDp;have lz:zs.length=sp.length:=by rw [dA.length,aa]
  apply ⟨Ls,zs,_,rfl,rfl,hLF,(aM (by lia:zs.length<1000) (by decide:1000≤bg)),?_⟩;have KG:kg HF (upd HF Ls (.lst (zs++[.ref tq]))):=eO hLF;have MF:=MA.trans NF;apply ⟨⟨fun q o hq e=>?_,?_⟩,by rw [bq nLD.symm];exact hDF,_,_,_,_,_,zs++[.ref tq],sp++[⟨r1,(r1+1+r2) % (2+rm),l,l+wd,rE⟩],rfl,aV,?_,by rw [au,lA];rfl,fun z hz=>?_⟩
  ·rw [bq (fun z=>by rw [z,hLH] at e;cases e)]
   exact MF.1 q o hq e
  ·obtain ⟨x1,y1,e1⟩:=MF.2
   exact ⟨x1,y1,by rw [bq nLp.symm];exact e1⟩
  ·unfold de
   rw [aE];exact (dk (KF.trans KG) dA).append (.cons (.tup (KG _ _ hF) (dW.ints (Sn.row ⟨r1,(r1+1+r2) % (2+rm),l,l+wd,rE⟩))) .nil)
  ·rcases aH.mp hz with hz | hz
   ·exact allA z hz
   ·rw [aw.mp hz];exact ⟨a1,c1,g0,g1,g2,l0,by show l≤l+wd;lia,by show l+wd<l+(1+rb);lia,by show l+wd<10 ^ 60;lia,f0,by show rE≤1000000000000;lia⟩
 rintro σ HA ⟨MA,hDA,v6,v7,v8,v9,v10,zs,sp,rfl,hLA,dA,lA,allA⟩;apply ⟨_,rfl,_,rfl,_,rfl,Ls,_,rfl,SqL.of hLA,fun qB HB SB hB=>⟨(by show 3≤bg;decide),fun tC HC SC hC=>⟨_,rfl,D,_,rfl,SqL.of (SC _ _ (SB _ _ hDA)),fun qh HD SD hDh=>⟨pJ,fun tE HE SE hE=>?_⟩⟩⟩⟩;have SCE:=SC.trans (SD.trans SE);have SBE:=SB.trans SCE;exact k tE (.ref tC) qh (1+rb) (2+rm) sp hs HE (MA.then SBE) hE (.tup ((SD.trans SE) _ _ hC) (.cons (.int (1+rb)) (.cons (.int (2+rm)) (.cons (.tup (SCE _ _ hB) (dA.same SBE)) .nil)))) b1 b2 m1 m2 ⋯ allA (SE _ _ hDh) hlh hin4
abbrev sTableB:cL:=top 71
inductive spTablF (vs:List V)(H:Hp)(Q:VK)(_:XK):Prop
 | mk (p:ak)(x y:Int)(v:V)(b m:Int)(sp:List Sn)(_:vs=[.ref p,v])(_:H p=some (.lst [.int x,.int y]))(_:IsD H v (jX b m sp))(_:1≤b)(_:b≤100)(_:0≤m)(_:m≤16)(_:∀ (q:ak) (ts:List Int) (H':Hp),Mb p H H'→H' q=some (.tup (ts.map V.int))→(ts.length:Int)=m→(∀ z∈ts,0≤z∧z<b)→Q (.ref q) H')
def scTableB:bW pzf pzf (defScope sTableB):=by trivial
theorem ok_tableB (F:Fun K "_law_table" "_law_table" sTableB f fd)(T:Nm mg)(T2:Nt mg)(G1:Fn K mg "_law_draw" sDraw pzh f1 fd1):cO P w K mg base CX0 2 f fd pzf spTablF:=by
 have F1:cO P w K mg base CX0 1 f1 fd1 pzh spDraw:=ok_draw G1.F;specialize F.ok scTableB;obtain ⟨p,x,y,v,b,m,sp,rfl,hp,hv,b0,b1,m0,m1,k⟩:=h;obtain ⟨t,pn,ys,rfl,ht,_⟩:=fJ hv;apply ⟨_,PSl.h (cS ⟨(b9 (eP i6 rfl T.ttup iG (ag (gW (fr:=pzf) (js:=[0,1]) rfl (gG rfl T2.range (ag (ixZ (pv 1)) aD)) ⇑0 rfl ⇑0 rfl (by exists sTableB) ⇑0 rfl ⇑0 (fun _ _ _ _ _=>⟨(pc1 G1 F1 hr (ag (pv 1) (ag (fA (r:=rIxT K) fk (pv 2) bI (fun _ _=>rfl)) aD))),gU⟩)) aD)))⟩),?_⟩;apply ⟨_,rfl,t,_,_,_,rfl,rfl,SqT.of ht,aS (j:=1) rfl,m,rfl,⋯,⋯,?_⟩;apply jM (n:=m.toNat) (fun i zs H4=>Mb p H H4∧∃ hs:List Int,zs=hs.map V.int∧hs.length=i∧∀ z∈hs,0≤z∧z<b) ⟨Mb.refl hp,[],rfl,rfl,fun _ h=>by cases h⟩ (fun i zs H4 _ ⟨_,hs,e,hl,_⟩=>by rw [e,aa,hl];exact az _) (d8 ⋯) (fun i zs H4 hi ⟨M4,hs,e4,hl4,hin4⟩=>?_) (fun zs H4 ⟨M4,hs,e4,hl4,hin4⟩ D hD=>?_)
 ·apply fS ?_
  obtain ⟨x4,y4,hp4⟩:=M4.2;exact ⟨_,rfl,_,rfl,t,_,_,_,rfl,rfl,SqT.of (Mb.tupK hp M4 _ _ ht),aS (j:=0) rfl,p,x4,y4,b,rfl,hp4,⋯,⋯,fun r5 H5 q5 q6 M5=>⟨M4.trans M5,hs++[r5],by rw [e4,aE];rfl,by rw [au,hl4];rfl,fun z hz=>(aH.mp hz).elim (hin4 z) fun h=>by rw [aw.mp h];exact ⟨q5,q6⟩⟩⟩
 ·subst e4
  exact ⟨D,_,rfl,SqL.of aV,fun q H5 S5 h5=>k q hs H5 (M4.then ((bG.put (bG.refl H4) hD).trans S5)) h5 ⋯ hin4⟩
end HN
namespace L2
open PySem PySem.Spec PyProof.Rows
section
variable {l:ak}{xs:Array (Int×Tok)}
def iterT_low (hlt:l<s.heap.objs.size):∀ c∈[s.heap.objs.size,l],c<(s.heap.push ob).objs.size:=fun c hc=>by
 rw [dh]
 rcases aF.mp hc with rfl | hc
 ·exact jf _
 ·rw [aw.mp hc];exact gL hlt
def iterT_old (hk:∀ b o,b ∉ [s.heap.objs.size]→(s.heap.push ob).get? b=some o→h'.get? b=some o):∀ b o,s.heap.get? b=some o→h'.get? b=some o:=fun b o e =>
 hk b o (fun hm=>rQ ((aw.mp hm) ▸ aI e) (fM _)) (aq _ e)
def max_tupI (hh:A.handled=none)(hl:s.heap.IsTuple l (jK xs))(hne:0<xs.size)
  (h:∀ v h' tk,(jK xs)[argBest (fun i j=>decide (numAt xs i > numAt xs j)) (xs.size - 1)]? =some v→(∀ b o,s.heap.get? b=some o→h'.get? b=some o)→Q v { s with heap:=h',toks:=tk }) :
  aU (bt prog w) A (jZ (.builtin "max") [.ref l]) Q E s:=by
 have hlt:l<s.heap.objs.size:=by obtain ⟨_,e,_⟩:=hl;exact aI e
 apply call_max_walk (l5 hl ⟨_,[_,l],[_],_,_,_,_,rfl,Walks.tuple (A:=A.in1) hh _ l (bB hlt) (jK xs),⟨⟨_,aQ _ rfl,rfl,rfl⟩,hl.push _⟩,iterT_low hlt,by simpa [jK] using hne,CmpOf.ints_gt (numAt xs) (fun _ _=>intItems_at),fun v h' tk hP hk=>?_⟩);exact h v h' tk (by simpa [jK] using hP) (iterT_old hk)
def min_tupI (hh:A.handled=none)(hl:s.heap.IsTuple l (jK xs))(hne:0<xs.size)
  (h:∀ v h' tk,(jK xs)[argBest (fun i j=>decide (numAt xs i<numAt xs j)) (xs.size - 1)]? =some v→(∀ b o,s.heap.get? b=some o→h'.get? b=some o)→Q v { s with heap:=h',toks:=tk }) :
  aU (bt prog w) A (jZ (.builtin "min") [.ref l]) Q E s:=by
 have hlt:l<s.heap.objs.size:=by obtain ⟨_,e,_⟩:=hl;exact aI e
 apply call_min_walk (l5 hl ⟨_,[_,l],[_],_,_,_,_,rfl,Walks.tuple (A:=A.in1) hh _ l (bB hlt) (jK xs),⟨⟨_,aQ _ rfl,rfl,rfl⟩,hl.push _⟩,iterT_low hlt,by simpa [jK] using hne,CmpOf.ints_lt (numAt xs) (fun _ _=>intItems_at),fun v h' tk hP hk=>?_⟩);exact h v h' tk (by simpa [jK] using hP) (iterT_old hk)
end
theorem call_max1T (hc:X.calm=true):jO X (.builtin "max") (fun xs H Q=>∃ (p:ak) (ns:List Int),xs=[.ref p]∧SqT X.K H p (ns.map V.int)∧ns≠[]∧∀ a∈ns,Q (.int a) H):=by
 intro aR s σ H xs us Q I r h;obtain ⟨p,ns,rfl,hq,hne,q⟩:=h;obtain ⟨u,rfl,ru⟩:=nN r;cases (show u=ae.ref p from ru);obtain ⟨its,rv,pl,hz⟩:=I.tuple hq;have hi:=n9 rv;obtain ⟨ys,hx⟩:=hi.allInts.items;have hl':s.heap.IsTuple p (jK ys):=hx ▸ pl;have e1:ns=ys.toList.map (·.1):=by
  rw [←nums_intItems,←hx];exact (show numsOf its.toArray.toList=ns from hi.numsOf).symm
 have hsz:0<ys.size:=by
  have:0<ns.length:=g9.mpr hne;rw [e1,aa,cj] at this;exact this
 apply max_tupI (I.ok.hd hc) hl' hsz fun v h' tk hv hk=>?_
 obtain ⟨t,rfl⟩:=intItems_at hv;obtain ⟨b1,b2⟩:=argBest_gt (numAt ys) (ys.size - 1);have m1:numAt ys (argBest (fun i j=>decide (numAt ys i > numAt ys j)) (ys.size - 1))∈ns:=by
  rw [e1,numAt_eq];exact getD_mem (by rw [aa,cj];lia)
 exact ⟨.int _,H,I.kept (t':=tk) hk,⟨t,rfl⟩,q _ m1⟩
theorem call_min1T (hc:X.calm=true):jO X (.builtin "min") (fun xs H Q=>∃ (p:ak) (ns:List Int),xs=[.ref p]∧SqT X.K H p (ns.map V.int)∧ns≠[]∧∀ a∈ns,Q (.int a) H):=by
 intro aR s σ H xs us Q I r h;obtain ⟨p,ns,rfl,hq,hne,q⟩:=h;obtain ⟨u,rfl,ru⟩:=nN r;cases (show u=ae.ref p from ru);obtain ⟨its,rv,pl,hz⟩:=I.tuple hq;have hi:=n9 rv;obtain ⟨ys,hx⟩:=hi.allInts.items;have hl':s.heap.IsTuple p (jK ys):=hx ▸ pl;have e1:ns=ys.toList.map (·.1):=by
  rw [←nums_intItems,←hx];exact (show numsOf its.toArray.toList=ns from hi.numsOf).symm
 have hsz:0<ys.size:=by
  have:0<ns.length:=g9.mpr hne;rw [e1,aa,cj] at this;exact this
 apply min_tupI (I.ok.hd hc) hl' hsz fun v h' tk hv hk=>?_
 obtain ⟨t,rfl⟩:=intItems_at hv;obtain ⟨b1,b2⟩:=argBest_lt (numAt ys) (ys.size - 1);have m1:numAt ys (argBest (fun i j=>decide (numAt ys i<numAt ys j)) (ys.size - 1))∈ns:=by
  rw [e1,numAt_eq];exact getD_mem (by rw [aa,cj];lia)
 exact ⟨.int _,H,I.kept (t':=tk) hk,⟨t,rfl⟩,q _ m1⟩
end L2
namespace HN
open PySem L2 PyProof.Rows
abbrev sRgt5:cL:=top 76
abbrev sLaw:cL:=top 78
inductive spLawTs (Ts:List ak)(K:ar)(vs:List V)(H:Hp)(Q:VK)(_:XK):Prop
 | mk (a:ak)(ns:List Int)(_:vs=[.ref a])(_:SqL K H a (ns.map V.int))(_:(∀ T∈Ts,H T=some (.tbl #[])))(_:∀ H',Q (.bl true) H')
inductive spRgt5 (vs:List V)(H:Hp)(Q:VK)(_:XK):Prop
 | mk (v:V)(u q:ak)(b m:Int)(sp:List Sn)(ts:List Int)(_:vs=[v,.ref u,.ref q])(_:IsD H v (jX b m sp))(_:kl b m sp)(_:b≤6)(_:m≤4)(_:H u=some (.tup (ts.map V.int)))(_:ts.length=m.toNat)(_:(∀ x∈ts,0≤x∧x<b))(_:((∃ u' t,NoneC H q b sp u' t)∨∃ fs l rg Ts Ys qs y,FewA H q b m sp ts fs l rg Ts Ys qs y))(_:∀ H',bG H H'→Q (.bl true) H')
def NoneC.same {q:ak}{u:V}{t:Tq}(h:NoneC H q b sp u t)(S:bG H H'):NoneC H' q b sp u t:=⟨S _ _ h.q,h.tree.same S,h.pl,h.no,h.good⟩
def FewA.same {q:ak}{m:Int}{fs:List Int}{rg:List (Nat×List Stp)}{y:AT}(h:FewA H q b m sp ts fs l rg Ts Ys qs y)(S:bG H H'):FewA H' q b m sp ts fs l rg Ts Ys qs y:=⟨S _ _ h.q,S _ _ h.qs,h.mem,S _ _ h.qy,h.least,h.ok,h.len,h.mv,h.lb,h.fr,h.hold⟩
theorem FR.hlt {m:Int}(N:kl b m sp)(F:jD m.toNat sp l):∀ i∈l,i<sp.length:=(F.pots N.ends).nodup.2
theorem cases6 {m:Int}(N:kl b m sp)(b6:b≤6)(m4:m≤4):∀ l,jD m.toNat sp l→k5 sp l≤4096:=fun l F=>by
 have m1:=N.m1;have b1:=N.b1;have few:=F.few N.ends ⋯;have hl:=(FR.hlt N F);have:=(prodW_lim (sp:=sp) (L:=5) l fun i hi=>by
  have ok:=N.all _ (fu (hl i hi));have o1:=ok.lo;have o2:=ok.ob
  constructor
  ·show 0≤(sAt sp i).o - (sAt sp i).l;lia
  ·show (sAt sp i).o - (sAt sp i).l≤5;lia).2
 have hk:l.length≤3:=by lia
 have hl:l.length=0∨l.length=1∨l.length=2∨l.length=3:=by lia
 rcases hl with e | e | e | e <;> rw [e] at this <;> exact Int.le_trans this ↥0
def scRgt5:bW ["_law_net","_law_table_here","_law_found","_law_tables_here","_law_word","_law_some","_law_other"] pzB (defScope sRgt5):=by trivial
theorem ok_rgt5 {f5 f6:ak}{fd6:bh}(F0:Fun K "_law_right" "_law_right" sRgt5 f fd)(T:Nm mg)(T2:Nt mg)
  (G1:Fn K mg "_law_fitting" sFitg ["_law_net"] f1 fd1) (F1:cO P w K mg base CX0 3 f1 fd1 ["_law_net"] spFitg)
  (G2:Fn K mg "shown_by" sShown pzb f2 fd2) (F2:cO P w K mg base CX0 9 f2 fd2 pzb spShownD)
  (G3:Fn K mg "_law_moved" sMov5 pzp f3 fd3)
  (G4:Fn K mg "_law_is_table" sIsT6 pzz f4 fd4) (F4:cO P w K mg base CX0 1 f4 fd4 pzz spIsT6)
  (G5:Fn K mg "_law_all_kept" sAllK pzi f5 fd5) (F5:cO P w K mg base CX0 2 f5 fd5 pzi spAllK)
  (G6:Fn K mg "_law_least" sLst5 pzJ f6 fd6):cO P w K mg base CX0 10 f fd pzB spRgt5:=by
 have F3:cO P w K mg base CX0 1 f3 fd3 pzp spMov5:=ok_mov5 G3.F T T2;have F6:cO P w K mg base CX0 2 f6 fd6 pzJ spLst5:=ok_lst5 G6.F T T2 G3;specialize F0.ok scRgt5;obtain ⟨v,u,q,b,m,sp,ts,rfl,hv,N,b6,m4,hu,lt,hts,ans,k⟩:=h;have hr1:ik 1 _:=hr.mono ↥0;have hr2:ik 2 _:=hr.mono ↥0;have hr3:ik 3 _:=hr.mono ↥0;have hr9:ik 9 _:=hr;have b1:=N.b1;have m1:=N.m1;apply ⟨_,PSl.h (ba ⟨(psZ 3 scRgt5.nd (pc1 G1 F1 hr3 (ag (pv 0) aD)))⟩
  (ba ⟨(gF (PW.pt (oF (j7 (iK (mN T (pv 2)))) (mm (cA op_lt (cg bP rfl T.len bD (ag (pv 2) aD)) bI (cP _))))) (cw (b9 mV)) dv)⟩
  (ba ⟨(gF (cA (op_eqL0 hr.units0) (pv 3) (ny aD) (cP _)) (cw (b9 (oT (jI kD (ixZ (pv 2)) kB (cP _)) (oT (jI kD (cg bP rfl T.len bD (ag (pv 2) aD)) bI (cP _)) (pe_one (jI (op_eqD hr.units) (pc1 G2 F2 hr9 (ag (pv 0) (ag (ixZ (pv 2)) aD))) (dB (ag kB aD)) (cP _))))))) dv)⟩
  (ba ⟨(gF (PW.pt (oF (cA op_ne (ixZ (pv 2)) kB (cP _)) (mm (cA op_ne (cg bP rfl T.len bD (ag (pv 2) aD)) bI (cP _))))) (cw (b9 mV)) dv)⟩
  (ba ⟨(oQ (pv 2) (pg_tup rfl (ju (pgZ 4 scRgt5.nd) (ju (pgZ 5 scRgt5.nd) (ju (pgZ 6 scRgt5.nd) p7)))))⟩
  (ba ⟨(gF (PW.pt (oF (j7 (iK (pc1 G4 F4 hr1 (ag (pv 0) (ag (pv 6) aD))))) (oF (cA op_lt (cg (call_min1T rfl) rfl T.min boot_min (ag (pv 6) aD)) bI (cP _)) (oF (cA op_ge (cg (call_max1T rfl) rfl T2.max boot_max (ag (pv 6) aD)) (ixZ (pv 0)) (cP _)) (mm (j7 (iK (pc1 G5 F5 hr2 (ag (pv 0) (ag (pv 6) aD)))))))))) (cw (b9 mV)) dv)⟩
  (ba ⟨(gF (PW.pt (oF (j7 (iK (mN T (pv 5)))) (mm (cA (op_neD hr.units) (pv 5) (pc1 G3 F3 hr1 (ag (pv 0) (ag (pv 1) (ag (pv 6) aD)))) (cP _))))) (cw (b9 mV)) dv)⟩
  (cS ⟨(b9 (jI kD (cg bP rfl T.len bD (ag (pv 5) aD)) (pc1 G6 F6 hr2 (ag (pv 0) (ag (pv 1) (ag (pv 3) aD)))) (cP _)))⟩)))))))),?_⟩
 apply ⟨_,rfl,v,b,m,sp,rfl,hv,N,b6,m4,fun L us F H1 S1 hL dF FL cF=>?_⟩;have lus:us.length=F.length:=by rw [dF.length];unfold de;rw [aa]
 rcases ans with ⟨u',t,C⟩ | ⟨fs,l,rg,Ts,Ys,qs,y,A⟩
 ·have hq:=S1 _ _ C.q
  apply ⟨_,rfl,.ref q,"tuple",rfl,(by unfold tyn;dsimp only;rw [hq]),_,rfl,kL rfl ?_⟩;apply ⟨_,rfl,q,_,rfl,.inr (SqT.of hq),_,_,rfl,rfl,_,rfl,kL (by rfl) ?_⟩;have e:us=[]:=dJ.mp (by
   rw [lus];apply dJ.mpr (qL.mpr fun t ht=>?_);exact C.no t (FL.all t ht).1.2.2)
  subst e;apply ⟨_,rfl,bo _,fun l2 H2 S2 h2=>⟨L,l2,_,rfl,rfl,SqL.of (S2 _ _ hL),SqL.of h2,_,rfl,ow (by rfl) ?_⟩⟩;have C2:=C.same (S1.trans S2);apply ⟨_,rfl,q,_,_,_,rfl,rfl,SqT.of C2.q,aS (j:=0) rfl,rfl,_,rfl,ow (rR rfl) ?_⟩;apply ⟨_,rfl,q,_,rfl,.inr (SqT.of C2.q),rfl,_,rfl,ow (by rfl) ?_⟩;apply ⟨_,rfl,_,rfl,q,_,_,_,rfl,rfl,SqT.of C2.q,aS (j:=1) rfl,v,u',b,m,sp,t,rfl,hv.same (S1.trans S2),N,C2.tree,C.good.1,C.good.2,fun r H5 S5 dr=>⟨szZ1,fun q6 H6 S6 h6=>⟨[.str "none"],[.str "none"],dr.same S6,.tup h6 (.cons (.str _) .nil),↥0,↥0,↥0,?_⟩⟩⟩;exact k H6 (S1.trans (S2.trans (S5.trans S6)))
 ·have hq:=S1 _ _ A.q
  have tok:=A.tab N;have hz:=zr_ok N A.lb tok;have mz:=FL.hold _ hz.1 hz.2;have hF:F≠[]:=List.ne_nil_of_mem mz;apply ⟨_,rfl,.ref q,"tuple",rfl,(by unfold tyn;dsimp only;rw [hq]),_,rfl,kL rfl ?_⟩;apply ⟨_,rfl,q,_,rfl,.inr (SqT.of hq),_,_,rfl,rfl,_,rfl,kL (by rfl) ?_⟩;have e:us.isEmpty=false:=by
   cases us with
   | nil=>exact rQ (dJ.mp lus.symm) hF
   | cons a r=>rfl
  apply ⟨_,rfl,bo _,fun l2 H2 S2 h2=>⟨L,l2,_,rfl,rfl,SqL.of (S2 _ _ hL),SqL.of h2,_,rfl,kL e ?_⟩⟩;have S02:=S1.trans S2;have A2:=A.same S02;apply ⟨_,rfl,q,_,_,_,rfl,rfl,SqT.of A2.q,aS (j:=0) rfl,rfl,_,rfl,kL (by rw [rR rfl];rfl) ?_⟩;apply ⟨_,rfl,q,_,rfl,.inr (SqT.of A2.q),rfl,_,rfl,kL (by rfl) ?_⟩;apply ⟨_,rfl,q,_,rfl,SqT.of A2.q,rfl,_,_,rfl,_,_,rfl,_,_,rfl,rfl,?_⟩;apply ⟨_,rfl,_,rfl,v,y.1,b,m,sp,y.2,rfl,hv.same S02,A2.qy,by have:=tok.1;lia,⋯,fun H4 S4=>⟨_,rfl,kL rfl ?_⟩⟩;have A4:=A2.same S4;have S04:=S02.trans S4;have ne:y.2≠[]:=fun z=>by have:=tok.1;rw [z,kJ] at this;lia
  apply ⟨_,rfl,y.1,y.2,rfl,SqT.of A4.qy,ne,fun a ha=>⟨_,_,rfl,rfl,_,rfl,kL (rS (by have:=(tok.2.1 a ha).1;lia)) ?_⟩⟩;obtain ⟨t,pn,ys,ev,ht,_⟩:=fJ (hv.same S04);subst ev;apply ⟨_,rfl,y.1,y.2,rfl,SqT.of A4.qy,ne,fun c hc=>⟨_,rfl,t,_,_,_,rfl,rfl,SqT.of ht,aS (j:=0) rfl,_,_,rfl,rfl,_,rfl,kL (rS (by have:=(tok.2.1 c hc).2;lia)) ?_⟩⟩;apply ⟨_,rfl,_,rfl,.ref t,y.1,b,m,sp,y.2,rfl,hv.same S04,A4.qy,N.rdy (by have:=tok.1;lia),fun H5 S5=>?_⟩;have A5:=A4.same S5;have S05:=S04.trans S5;rw [tok.2.2];apply ⟨_,rfl,kL rfl ?_⟩;apply ⟨_,rfl,.ref qs,"tuple",rfl,(by unfold tyn;dsimp only;rw [A5.qs]),_,rfl,kL rfl ?_⟩;apply ⟨_,rfl,_,rfl,_,rfl,_,rfl,.ref t,u,y.1,b,m,sp,ts,y.2,rfl,hv.same S05,⋯,⋯,S05 _ _ hu,lt,.inl A5.qy,tok.1,fun qd H6 S6 h6=>?_⟩;have A6:=A5.same S6;have S06:=S05.trans S6;apply ⟨_,_,.tup A6.qs (dW.ints _),.tup h6 (dW.ints _),pf _,pf _,by rw [qz];decide,_,rfl,kL (by rw [eqDs_ints,rR rfl];rfl) ?_⟩;apply ⟨_,rfl,qs,_,rfl,.inr (SqT.of A6.qs),?_⟩;have S16:bG H1 H6:=S2.trans (S4.trans (S5.trans S6));apply ⟨_,rfl,_,rfl,_,rfl,.ref t,u,L,b,m,sp,ts,us,F,rfl,hv.same S06,⋯,⋯,⋯,⋯,S06 _ _ hu,lt,S16 _ _ hL,dF.same S16,(fun t ht=>(FL.all t ht).1.1),cF,fun c H7 S7 low som=>⟨rfl,?_⟩⟩;have up:c≤((qN ts y.2).length:Nat):=by
   have r0:=tm_in tok.2.1 (i:=0) ↥0 (by have:=tok.1;lia);have:=low _ mz (tm y.2 0).toNat ⋯;unfold cntO at this;rw [fe r0.1,←tok.1,zr_back tok.2.1] at this;exact this
  have dn:((qN ts y.2).length:Int)≤c:=by
   rcases som with rfl | ⟨o,ho,n,rfl⟩
   ·have:=oth_len (ts:=ts) (us:=y.2)
    lia
   ·have:=A.best N lt hts (FewA.mvd (n:=n) N A.lb (FL.all o ho).1)
    unfold cntO;lia
  have ec:c=((qN ts y.2).length:Nat):=by lia
  rw [aa,ec,rR rfl];exact k H7 (S06.trans S7)
def scLaw:bW ["_law_script","_law_k","_law_box_here","_law_net","_law_table_here"] ["_law_script"] (defScope sLaw):=by trivial
theorem ok_law {f5 f6 f7 TT T4 T5:ak}{fd6 fd7:bh}(F:Fun K "law" "law" sLaw f fd)(T:Nm mg)(T2:Nt mg)
  (G1:Fn K mg "_law_box" sBox pzg f1 fd1) (F1:cO P w K mg base CX0 2 f1 fd1 pzg (spBox K))
  (G2:Fn K mg "_law_small" sSmall pzM f2 fd2) (F2:cO P w K mg base CX0 2 f2 fd2 pzM spSmallF)
  (G3:Fn K mg "_law_draw" sDraw pzh f3 fd3)
  (G4:Fn K mg "_law_crowded" sCrow pzf f4 fd4) (F4:cO P w K mg base CX0 2 f4 fd4 pzf spCrow)
  (G5:Fn K mg "_law_table" sTableB pzf f5 fd5) (F5:cO P w K mg base CX0 2 f5 fd5 pzf spTablF)
  (G6:Fn K mg "_law_right" sRgt5 pzB f6 fd6) (F6:cO P w K mg base CX0 10 f6 fd6 pzB spRgt5)
  (G7:Fn K mg "fewest_moved" sFew pzv f7 fd7) (F7:cO P w K mg base CX0 13 f7 fd7 pzv (spFew T0 p0 q0 T1 p1 q1 TT T4 T5)):cO P w K mg base CX0 14 f fd ["_law_script"] (spLawTs [T0,T1,TT,T4,T5] K):=by
 have F3:cO P w K mg base CX0 1 f3 fd3 pzh spDraw:=ok_draw G3.F;specialize F.ok scLaw;obtain ⟨a,ns,rfl,ha,hT,k⟩:=h;have hr1:ik 1 _:=hr.mono ↥0;have hr2:ik 2 _:=hr.mono ↥0;have hr10:ik 10 _:=hr.mono ↥0;apply ⟨_,PSl.h (ba ⟨(iL bH rfl (gG rfl T2.range (ag (cg (call_max2 rfl) rfl T2.max boot_max (ag bI (ag (cg (qG rfl) rfl T.min boot_min (ag (cg bP rfl T.len bD (ag (pv 0) aD)) (ag bI aD))) aD))) aD)) (pgZ 1 scLaw.nd) (PSl.h (ba ⟨(psZ 2 scLaw.nd (pc1 G1 F1 hr2 (ag (pv 0) (ag (pv 1) aD))))⟩
  (ba ⟨(oQ (pc1 G2 F2 hr2 (ag (pv 2) (ag bI (ag bI aD)))) (pg_tup rfl (ju (pgZ 3 scLaw.nd) (ju (pgZ 4 scLaw.nd) p7))))⟩
  (ba ⟨(nk (gF (PW.pt (pw_and (cA kD (pv 1) bI (cP _)) (pw_and1 (cA kD (pc1 G3 F3 hr1 (ag (pv 2) (ag bI aD))) bI (cP _))))) (cw (psZ 3 scLaw.nd (pc1 G4 F4 hr2 (ag (pv 2) (ag (pv 3) aD))))) dv))⟩
  (ba ⟨(nk (gF (cA op_gt (pc1 G3 F3 hr1 (ag (pv 2) (ag bI aD))) bI (cP _)) (cw (psZ 4 scLaw.nd (pc1 G5 F5 hr2 (ag (pv 2) (ag (pv 3) aD))))) dv))⟩
  (cS ⟨(gF (j7 (iK (pc1 G6 F6 hr10 (ag (pv 3) (ag (pv 4) (ag (pc1 G7 F7 hr (ag (pv 3) (ag (pv 4) aD))) aD)))))) (cw (b9 mV)) dv)⟩)))))))⟩
  (cS ⟨(b9 mV)⟩)),?_⟩
 apply ⟨_,rfl,a,_,rfl,.inl ha,_,_,rfl,_,_,rfl,_,rfl,?_,?_,?_⟩
 ·rw [aa];split <;> split <;> lia
 ·rw [aa];split <;> split <;> lia
 have T00:L2.LamT T0 p0 q0 H:= .inl (hT T0 ∅);have T10:L2.LamT T1 p1 q1 H:= .inl (hT T1 ∅);have T20:L2.LamT TT lpT lqT H:= .inl (hT TT ∅);have T40:L2.LamG T4 lqCm H:=LamG.nil (hT T4 ∅);have T50:L2.LamG T5 lqFw H:=LamG.nil (hT T5 ∅);apply lh (fun i σ H5=>SqL K H5 a (ns.map V.int)∧L2.LamT T0 p0 q0 H5∧L2.LamT T1 p1 q1 H5∧L2.LamT TT lpT lqT H5∧L2.LamG T4 lqCm H5∧L2.LamG T5 lqFw H5∧∃ v1 v2 v3 v4,σ=[some (.ref a),v1,v2,v3,v4]) ⟨ha,T00,T10,T20,T40,T50,none,none,none,none,rfl⟩ ?_ ?_
 ·rintro i σ H5 hi ⟨ha5,t50,t51,t52,t54,t55,v1,v2,v3,v4,rfl⟩
  clear hi;apply ⟨_,rfl,_,rfl,a,ns,_,rfl,ha5,⋯,fun x6 y6 p hp6=>?_⟩;have P6:bG H5 (upd H5 p (.lst [.int x6,.int y6])):=bG.put (bG.refl H5) hp6;have P6':(upd H5 p (.lst [.int x6,.int y6])) p=some (.lst [.int x6,.int y6]):=aV;generalize upd H5 p (.lst [.int x6,.int y6])=H6 at P6 P6' ⊢;apply ⟨_,rfl,p,x6,y6,6,4,rfl,P6',↥0,↥0,↥0,↥0,fun t v h b m sp hs H7 M7 h7 hv b1 b6 m2 m4 few ok hh hlh hin=>?_⟩;obtain ⟨x7,y7,hp7⟩:=M7.2;apply ⟨t,_,rfl,SqT.of h7,rfl,_,_,rfl,_,_,rfl,rfl,?_⟩;have N7:kl b m sp:=⟨b1,Int.le_trans b6 ↥0,⋯,⋯,⋯,ok⟩;apply ⟨fun σ' H'=>Mb p H6 H'∧H' h=some (.tup (hs.map V.int))∧∃ (v':V) (sp':List Sn),IsD H' v' (jX b m sp')∧kl b m sp'∧σ'=[some (.ref a),some (.int ((0:Int)+(i:Nat))),some (.ref p),some v',some (.ref h)],?_,?_⟩
  rotate_left
  ·apply ⟨_,rfl,rfl,_,rfl,?_⟩
   apply rp (fun _=>?_) (fun _=>⟨M7,hh,v,sp,hv,N7,rfl⟩);apply ⟨_,rfl,p,x7,y7,8,rfl,hp7,↥0,↥0,fun r8 H8 _ _ M8=>⟨rfl,_,rfl,?_⟩⟩;obtain ⟨x8,y8,hp8⟩:=M8.2;have hh8:=Mb.tupK hp7 M8 _ _ hh;have hv8:=netP_mb hv hp7 M8;apply rp (fun _=>?_) (fun _=>⟨M7.trans M8,hh8,v,sp,hv8,N7,rfl⟩);apply ⟨_,rfl,_,rfl,p,x8,y8,v,b,m,sp,rfl,hp8,hv8,N7,⋯,m2,fun v' sp' H9 M9 hv9 N9=>?_⟩;exact ⟨(M7.trans M8).trans M9,Mb.tupK hp8 M9 _ _ hh8,v',sp',hv9,N9,rfl⟩
  rintro σ' H8 ⟨M8,hh8,v',sp',hv8,N8,rfl⟩;obtain ⟨x8,y8,hp8⟩:=M8.2;apply ⟨fun σ' H'=>Mb p H6 H'∧IsD H' v' (jX b m sp')∧∃ (u:ak) (ts:List Int),H' u=some (.tup (ts.map V.int))∧(ts.length:Int)=m∧(∀ z∈ts,0≤z∧z<b)∧σ'=[some (.ref a),some (.int ((0:Int)+(i:Nat))),some (.ref p),some v',some (.ref u)],?_,?_⟩
  rotate_left
  ·apply ⟨_,rfl,p,x8,y8,3,rfl,hp8,↥0,↥0,fun r9 H9 _ _ M9=>⟨_,_,rfl,rfl,_,rfl,?_⟩⟩
   obtain ⟨x9,y9,hp9⟩:=M9.2;have hv9:=netP_mb hv8 hp8 M9;apply rp (fun _=>?_) (fun _=>⟨M8.trans M9,hv9,h,hs,Mb.tupK hp8 M9 _ _ hh8,hlh,hin,rfl⟩);exact ⟨_,rfl,_,rfl,p,x9,y9,v',b,m,sp',rfl,hp9,hv9,b1,⋯,⋯,⋯,fun q ts HA MA hA lA rA=>⟨(M8.trans M9).trans MA,netP_mb hv9 hp9 MA,q,ts,hA,lA,rA,rfl⟩⟩
  rintro σ' H9 ⟨M9,hv9,u,ts,hu9,lu,ru,rfl⟩;have S9:bG H5 H9:=bG.mb P6 hp6 M9;apply ⟨_,rfl,_,rfl,_,rfl,_,rfl,v',u,b,m,sp',ts,rfl,hv9,N8,cases6 N8 b6 m4,hu9,⋯,LamT.same S9 t50,LamT.same S9 t51,LamT.same S9 t52,t54.same S9,t55.same S9,fun q HA kpA stA ta0 ta1 ta2 ta4 ta5 ans=>?_⟩;have hvA:=cN kpA.tup hv9;have huA:=kpA.tup _ _ hu9;apply ⟨v',u,q,b,m,sp',ts,rfl,hvA,N8,b6,m4,huA,⋯,ru,ans,fun HB SB=>⟨_,rfl,kL rfl ?_⟩⟩;have haA:SqL K HA a (ns.map V.int):=kpA.seq (S9.seq ha5);exact ⟨SB.seq haA,LamT.same SB ta0,LamT.same SB ta1,LamT.same SB ta2,ta4.same SB,ta5.same SB,_,_,_,_,rfl⟩
 ·rintro σ H5 ⟨_,_,_,_,_,_,v1,v2,v3,v4,rfl⟩
  exact k H5
def args1 {P:List ae→Prop}(h:∀ x0,P [x0]):∀ us:List ae,us.length=1→P us:=by
 intro us hl;obtain _ | ⟨x0,us⟩:=us <;> try (cases hl;done)
 obtain _ | ⟨y,us⟩:=us
 ·exact h x0
 ·exact rQ hl (by simp only [aP];lia)
def args2 {P:List ae→Prop}(h:∀ x0 x1,P [x0,x1]):∀ us:List ae,us.length=2→P us:=by
 intro us hl;obtain _ | ⟨x0,us⟩:=us <;> try (cases hl;done)
 obtain _ | ⟨x1,us⟩:=us <;> try (cases hl;done)
 obtain _ | ⟨y,us⟩:=us
 ·exact h x0 x1
 ·exact rQ hl (by simp only [aP];lia)
def args3 {P:List ae→Prop}(h:∀ x0 x1 x2,P [x0,x1,x2]):∀ us:List ae,us.length=3→P us:=by
 intro us hl;obtain _ | ⟨x0,us⟩:=us <;> try (cases hl;done)
 obtain _ | ⟨x1,us⟩:=us <;> try (cases hl;done)
 obtain _ | ⟨x2,us⟩:=us <;> try (cases hl;done)
 obtain _ | ⟨y,us⟩:=us
 ·exact h x0 x1 x2
 ·exact rQ hl (by simp only [aP];lia)
def args4 {P:List ae→Prop}(h:∀ x0 x1 x2 x3,P [x0,x1,x2,x3]):∀ us:List ae,us.length=4→P us:=by
 intro us hl;obtain _ | ⟨x0,us⟩:=us <;> try (cases hl;done)
 obtain _ | ⟨x1,us⟩:=us <;> try (cases hl;done)
 obtain _ | ⟨x2,us⟩:=us <;> try (cases hl;done)
 obtain _ | ⟨x3,us⟩:=us <;> try (cases hl;done)
 obtain _ | ⟨y,us⟩:=us
 ·exact h x0 x1 x2 x3
 ·exact rQ hl (by simp only [aP];lia)
def Df.fn (a:Df K x st f)(X:K.In h)(G:h.Ns bO mg)
  (hb:∀ (kV dc pm:ae) (an:Option ak) (cd ct:ae) (us:List ae),us.length=ps.length→bindArgs (dE x x (jy st) (fX st) (defScope st) .none kV dc pm an cd ct) ⟨us,[]⟩=fQ (ps.zip us):=by intro _ _ _ _ _ _;first  | exact args1 fun _=>rfl | exact args2 fun _ _=>rfl | exact args3 fun _ _ _=>rfl | exact args4 fun _ _ _ _=>rfl):∃ fd,Fn K mg x st ps f fd:=by
 obtain ⟨n,oc,od,an,sl,kV,dc,pm,cd,ct,l,c,k⟩:=a;have F:=oh (st:=st) l c k;exact ⟨_,F,gz X G n,F.binds hb⟩
theorem all_mk {l:PySem.W.OpenLaw}{fa:ak}(X:K.In h)(G:h.Ns bO mg)(hfa:mg "law" =some (.ref fa))(Fc:Facts K)
  : ∃ fd:bh,(∀ (s:av) (v:ae),BindsTo s fd ⟨[v],[]⟩ [("_law_script",v)])∧∀ base:bL,K.In base→base.Ns bO mg→BM mg base→cO l.prog w K mg base CX0 14 fa fd ["_law_script"] (spLawTs [133,271,337,363,380] K):=by
 apply Fc _ ?_;intro f1 f2 f3 f4 f5 f6 f7 f8 f9 f10 f11 f12 f13 f14 f15 f16 f17 f18 f19 f20 f21 f22 f23 f24 f25 f26 f27 f28 f29 f30 f31 f32 f33 f34 f35 f36 f37 f38 f39 f40 f41 f42 f43 f44 f45 f46 f47 f48 f49 f50 f51 f52 f53 f54 f55 f56 f57 f58 f59 t1 t2 xC xi xs xt odI anI odS anS odT anT slI slS slT ocI kVI dcI pmI ctI ocS kVS dcS pmS cdS ctS ocT kVT dcT pmT cdT ctT a1 a2 a3 a4 a5 a6 a7 a8 a9 a10 a11 a12 a13 a14 a15 a16 a17 a18 a19 a20 a21 a22 a23 a24 a25 a26 a27 a28 a29 a30 a31 a32 a33 a34 a35 a36 a37 a38 a39 a40 a41 a42 a43 a44 a45 a46 a47 a48 a49 a50 a51 a52 a53 a54 a55 a56 a57 a58 a59 y1 y2 z1 z2 z3 z4 z5 z6 z7 z8 z9 z10 z11 z12 z13 z14 z15 z16 z17 w1 w2 w3 w4 w5 w6 w7 w8 w9 w10 w11 w12 w13 w14 w15 w16 w17 w18 w19 w20 w21 w22 w23 w24 w25 wc0 wh0 wh1 wc2 wh2 wc3 wh3 wc4 wh4;have e:=hfa.symm.trans (gz X G a59.n);cases e;obtain ⟨fd1,G1⟩:=a1.fn X G (ps:=pzd);obtain ⟨fd2,G2⟩:=a2.fn X G (ps:=pzc);obtain ⟨fd3,G3⟩:=a3.fn X G (ps:=pzc);obtain ⟨fd4,G4⟩:=a4.fn X G (ps:=pza);obtain ⟨fd5,G5⟩:=a5.fn X G (ps:=pzG);obtain ⟨fd6,G6⟩:=a6.fn X G (ps:=pze);obtain ⟨fd7,G7⟩:=a7.fn X G (ps:=pze);obtain ⟨_,oc,od,an,sl,kV,dc,pm,cd,ct,l8,c8,k8⟩:=id a8;obtain ⟨_,_,_,_,_,_,_,_,z⟩:=wc0;have z:=l8.symm.trans z;have wc0:cd=ae.ref 137:=by injection z with z;injection z with _ _ z _;injection z with z;injection z
 have F8:=oh (st:=sSpW) l8 c8 k8;have b8:=F8.binds (ps:=pza) fun _ _ _ _ _ _=>args1 fun _=>rfl
 have G8:Fn K mg "spans_by_width" sSpW pza f8 _:=⟨F8,gz X G a8.n,b8⟩;obtain ⟨fd9,G9⟩:=a9.fn X G (ps:=pza);obtain ⟨fd10,G10⟩:=a10.fn X G (ps:=pzk);obtain ⟨fd11,G11⟩:=a11.fn X G (ps:=pzE);obtain ⟨fd12,G12⟩:=a12.fn X G (ps:=pzd);obtain ⟨fd13,G13⟩:=a13.fn X G (ps:=pza);obtain ⟨fd14,G14⟩:=a14.fn X G (ps:=pza);obtain ⟨fd15,G15⟩:=a15.fn X G (ps:=pza);obtain ⟨fd16,G16⟩:=a16.fn X G (ps:=pzj);obtain ⟨fd17,G17⟩:=a17.fn X G (ps:=pzm);obtain ⟨fd18,G18⟩:=a18.fn X G (ps:=pzx);obtain ⟨fd19,G19⟩:=a19.fn X G (ps:=pzt);obtain ⟨fd20,G20⟩:=a20.fn X G (ps:=pzl);obtain ⟨fd21,G21⟩:=a21.fn X G (ps:=pzF);obtain ⟨fd22,G22⟩:=a22.fn X G (ps:=pzn);obtain ⟨fd23,G23⟩:=a23.fn X G (ps:=["marks"]);obtain ⟨fd24,G24⟩:=a24.fn X G (ps:=pzy);obtain ⟨_,oc,od,an,sl,kV,dc,pm,cd,ct,l25,c25,k25⟩:=id a25;obtain ⟨_,_,_,_,_,_,_,_,z⟩:=wc2;have z:=l25.symm.trans z;have wc2:cd=ae.ref 341:=by injection z with z;injection z with _ _ z _;injection z with z;injection z
 have F25:=oh (st:=kA) l25 c25 k25;have b25:=F25.binds (ps:=pza) fun _ _ _ _ _ _=>args1 fun _=>rfl
 have G25:Fn K mg "table_for" kA pza f25 _:=⟨F25,gz X G a25.n,b25⟩;obtain ⟨fd26,G26⟩:=a26.fn X G (ps:=["thing"]);obtain ⟨fd27,G27⟩:=a27.fn X G (ps:=pzq);obtain ⟨fd28,G28⟩:=a28.fn X G (ps:=pzb);obtain ⟨fd29,G29⟩:=a29.fn X G (ps:=pzb);obtain ⟨fd30,G30⟩:=a30.fn X G (ps:=pzb);obtain ⟨fd31,G31⟩:=a31.fn X G (ps:=pzr);obtain ⟨fd32,G32⟩:=a32.fn X G (ps:=pzK);obtain ⟨fd33,G33⟩:=a33.fn X G (ps:=pzb);obtain ⟨fd34,G34⟩:=a34.fn X G (ps:=pzL);obtain ⟨fd35,G35⟩:=a35.fn X G (ps:=pzb);obtain ⟨fd36,G36⟩:=a36.fn X G (ps:=pzA);obtain ⟨fd37,G37⟩:=a37.fn X G (ps:=pzb);obtain ⟨fd38,G38⟩:=a38.fn X G (ps:=pza);obtain ⟨fd39,G39⟩:=a39.fn X G (ps:=pzs);obtain ⟨fd40,G40⟩:=a40.fn X G (ps:=pzw);obtain ⟨_,oc,od,an,sl,kV,dc,pm,cd,ct,l41,c41,k41⟩:=id a41;obtain ⟨_,_,_,_,_,_,_,_,z⟩:=wc3;have z:=l41.symm.trans z;have wc3:cd=ae.ref 367:=by injection z with z;injection z with _ _ z _;injection z with z;injection z
 have F41:=oh (st:=oB) l41 c41 k41;have b41:=F41.binds (ps:=pzo) fun _ _ _ _ _ _=>args1 fun _=>rfl
 have G41:Fn K mg "commonest" oB pzo f41 _:=⟨F41,gz X G a41.n,b41⟩;obtain ⟨fd42,G42⟩:=a42.fn X G (ps:=pzI);obtain ⟨fd43,G43⟩:=a43.fn X G (ps:=pzu);obtain ⟨_,oc,od,an,sl,kV,dc,pm,cd,ct,l44,c44,k44⟩:=id a44;obtain ⟨_,_,_,_,_,_,_,_,z⟩:=wc4;have z:=l44.symm.trans z;have wc4:cd=ae.ref 382:=by injection z with z;injection z with _ _ z _;injection z with z;injection z
 have F44:=oh (st:=sFew) l44 c44 k44;have b44:=F44.binds (ps:=pzv) fun _ _ _ _ _ _=>args2 fun _ _=>rfl
 have G44:Fn K mg "fewest_moved" sFew pzv f44 _:=⟨F44,gz X G a44.n,b44⟩;obtain ⟨fd45,G45⟩:=a45.fn X G (ps:=pzg);obtain ⟨fd46,G46⟩:=a46.fn X G (ps:=pzg);obtain ⟨fd47,G47⟩:=a47.fn X G (ps:=pzh);obtain ⟨fd48,G48⟩:=a48.fn X G (ps:=pzM);obtain ⟨fd49,G49⟩:=a49.fn X G (ps:=pzD);obtain ⟨fd50,G50⟩:=a50.fn X G (ps:=pzi);obtain ⟨fd51,G51⟩:=a51.fn X G (ps:=pzC);obtain ⟨fd52,G52⟩:=a52.fn X G (ps:=pzf);obtain ⟨fd53,G53⟩:=a53.fn X G (ps:=["_law_net"]);obtain ⟨fd54,G54⟩:=a54.fn X G (ps:=pzz);obtain ⟨fd55,G55⟩:=a55.fn X G (ps:=pzp);obtain ⟨fd56,G56⟩:=a56.fn X G (ps:=pzJ);obtain ⟨fd57,G57⟩:=a57.fn X G (ps:=pzB);obtain ⟨fd58,G58⟩:=a58.fn X G (ps:=pzf);obtain ⟨_,oc,od,an,sl,kV,dc,pm,cd,ct,l59,c59,k59⟩:=a59;have F59:=oh (st:=sLaw) l59 c59 k59;have m1:=bZ X G z1;have m2:=bZ X G z2;have m3:=bZ X G z3;have m4:=bZ X G z4;have m5:=bZ X G z5;have m6:=bZ X G z6;have m7:=bZ X G z7;have m8:=bZ X G z8;have m9:=bZ X G z9;have m10:=bZ X G z10;have m11:=bZ X G z11;have m12:=bZ X G z12;have m13:=bZ X G z13;have m14:=bZ X G z14;have m15:=bZ X G z15;have m16:=bZ X G z16;have m17:=bZ X G z17;have i1:=gz X G y1;have i2:=gz X G y2;apply ⟨dE "law" "law" (jy sLaw) (fX sLaw) (defScope sLaw) .none kV dc pm an cd ct,fun s v=> .of_eq rfl,fun base _ _ hB=>?_⟩;have T:Nm mg:=⟨m1,m2,m3,m4,m5,m6,m7⟩;have T2:Nt mg:=⟨m8,m9,m10,m11,m12,m13⟩;have T3:N3 mg:=⟨m14⟩;have SW:cO l.prog w K mg base CX0 5 f8 _ pza (spSpW 133 lpW lqW):=ok_spW F8 wc0 wh0 hB T T2 m15 G1;have FO:cO l.prog w K mg base CX0 6 f9 _ pza (lJ 133 lpW lqW):=ok_forest G9.F T T2 m15 G8 SW;have ST:cO l.prog w K mg base CX0 2 f10 _ pzk spSteps:=ok_steps G10.F G2;have RB:cO l.prog w K mg base CX0 7 f12 _ pzd (spRingBy 133 lpW lqW):=ok_ringBy G12.F G11 (ok_wayBt G11.F G10 ST G3) G9 FO;have RO:cO l.prog w K mg base CX0 8 f14 _ pza (spRingsO 133 lpW lqW):=ok_ringsO G14.F T T2 G9 FO G12 RB;have CC:CutC K xC:=⟨⟨w2,w3,w4,w5⟩,w6,w7,w8⟩;have CI:=oh (st:=qZ) w13 w14 w15;have CS:=oh (st:=sSpanC) w19 w20 w18;have CT:=oh (st:=sSidesC) w24 w25 w23;have CK:CutK l.prog w K mg base 133 lpW lqW 271 lpC lqC xC xi xs xt _ _ _:=⟨CC,⟨w9,w10,w11,w12⟩,gz X G w1,ok_initC CI rfl wh1 hB ↥0 T T2 m15 CC G14 RO G18 G4 G9 FO,CI.binds (ps:=["self","net"]) fun _ _ _ _ _ _=>args2 fun _ _=>rfl,⟨w16,w17,w18⟩,ok_spanC CS CC,CS.binds (ps:=["self","case"]) fun _ _ _ _ _ _=>args2 fun _ _=>rfl,⟨w21,w22,w23⟩,ok_sidesC CT CC G17,CT.binds (ps:=pzH) fun _ _ _ _ _ _=>args4 fun _ _ _ _=>rfl⟩;have BO:cO l.prog w K mg base CX0 2 f6 _ pze spBeats:=ok_beats G6.F G5;have DL:cO l.prog w K mg base CX0 4 f20 _ pzl spDeadL:=ok_deadL G20.F G7 (ok_dead G7.F G6 BO);have TF:cO l.prog w K mg base CX0 11 f22 _ pzn (spTabF 133 lpW lqW 271 lpC lqC):=ok_tabF G22.F T ↥0 CK G15 (ok_spread G15.F T T2 G9 FO G10 ST G3) G20 DL G21 (ok_tabBy G21.F T G3 G2 G16) G19;have TY:cO l.prog w K mg base CX0 11 f24 _ pzy (spTreeBy l.prog w K mg base 133 lpW lqW 271 lpC lqC):=ok_treeBy G24.F T CK G19 G23 (ok_treeF G23.F m16);have TN:cO l.prog w K mg base CX0 12 f25 _ pza (pP 133 lpW lqW 271 lpC lqC 337):=ok_tabForN F25 wc2 wh2 hB T ⟨_,i1⟩ ↥0 ↥0 ↥0 G13 (ok_cases G13.F G9 FO G1) G22 TF G24 TY G20 DL;have W:cO l.prog w K mg base CX0 4 f29 _ pzb spRgT:=ok_wyT G29.F T T2 G28 (ok_stT G28.F T G27 G26) G2 G3;have R:cO l.prog w K mg base CX0 5 f30 _ pzb spRgT:=ok_rgT G30.F T T3 G29 W G2 G3;have LI:cO l.prog w K mg base CX0 8 f35 _ pzb pQ:=ok_leavesIn G35.F T ⟨_,i2⟩ G4 (ok_first G4.F T) G32 (ok_ctT G32.F T m17 G31 G27 G26) G34 (ok_sides G34.F G17) G33 (ok_lfT G33.F T m17 G31 G30 R);have SH:cO l.prog w K mg base CX0 9 f37 _ pzb spShownD:=ok_shownD G37.F T G35 LI G36 (ok_isRightD G36.F G7 (ok_dead G7.F G6 BO));have SB:cO l.prog w K mg base CX0 2 f39 _ pzs spShifts:=ok_shifts G39.F T2 G16;have MP:cO l.prog w K mg base CX0 2 f40 _ pzw spMvP:=ok_mvP G40.F T T2 G16;have PA:cO l.prog w K mg base CX0 8 f38 _ pza (spParts 133 lpW lqW):=ok_parts G38.F T T2 G15 (ok_spread G15.F T T2 G9 FO G10 ST G3) G3 G2;have FW:cO l.prog w K mg base CX0 13 f44 _ pzv (spFew 133 lpW lqW 271 lpC lqC 337 363 380):=ok_few F44 wc4 wh4 hB T ⟨_,i1⟩ ↥0 ↥0 ↥0 ↥0 ↥0 ↥0 ↥0 ↥0 ↥0 ↥0 G25 TN G38 PA G42 (ok_heldM G42.F G39 SB G40 MP G41 (ok_common F41 wc3 wh3 hB T2)) G22 TF G43 (ok_othI G43.F T T2);have AK:cO l.prog w K mg base CX0 2 f50 _ pzi spAllK:=ok_allK G50.F G49;have RG:cO l.prog w K mg base CX0 10 f57 _ pzB spRgt5:=ok_rgt5 G57.F T T2 G53 (ok_fitg G53.F G51 (ok_tables G51.F T2) G50 AK) G37 SH G55 G54 (ok_isT6 G54.F T) G50 AK G56;exact ok_law F59 T T2 G46 (ok_box G46.F T T2 G45) G48 (ok_small G48.F T T2 G47) G47 G58 (ok_crow G58.F T T2 G47) G52 (ok_tableB G52.F T T2 G47) G57 RG G44 FW
def walk {l:PySem.W.OpenLaw}{q:aX}{d:DefRec}{K:Params→ar}(hn:l.most=some 63)(hdf:d.params.defaults=[])
  (hY:∀ (w:bC) (h:bL),YP w h→(K w.params).In h∧∀ T∈([133,271,337,363,380]:List ak),h.get? T=some (PySem.W.tabObj #[])) (hC:∀ w:bC,∀ T∈([133,271,337,363,380]:List ak),∃ c,df (K w.params) c T=true) (hN:∀ w:bC,PySem.W.noTabs (K w.params)=true)
  (F:∀ (w:bC) (mg:Str→Option ae) (fa:ak) (h:bL),(K w.params).In h→h.Ns bO mg→mg d.name=some (.ref fa) →
   ∃ fd:bh,(∀ (s:av) (u:ae),BindsTo s fd ⟨[u],[]⟩ [("_law_script",u)])∧∀ base:bL,(K w.params).In base→base.Ns bO mg→BM mg base→cO l.prog w (K w.params) mg base CX0 14 fa fd ["_law_script"] (spLawTs [133,271,337,363,380] (K w.params))) :
  PySem.W.WalkO q loose XP YP l.row.toRowW d [] (fun f vs=>PySem.call f vs) :=
 L2.walk_ofTs (n:=63) (k:=14) (x := "_law_script") (Ts:=[133,271,337,363,380]) (CX:=fun _=>CX0) (sp:=fun w=>spLawTs [133,271,337,363,380] (K w.params)) hn ↥0 hdf ⟨rfl,↥0,↥0⟩ hY hC hN F (fun _ _ a ns hl hT hS=>⟨a,ns,rfl,hS,hT,fun _=>rfl⟩) fun _ _ _ _ _ z=>z
end HN
set_option maxHeartbeats 0 in
theorem PySem.Challenge.cw_hourtable_k65_fewest_moved_holds : PySem.Challenge.rw_hourtable_k65_fewest_moved.Holds := by
 apply HN.head0 ?_ HN.leftA;intro q loose XP YP d K hdf hd h0 h1 h2 Fc;exact HN.walk (l:=fY) rfl hdf h0 h1 h2 fun w mg fa h KX G hmg=>HN.all_mk KX G (by rw [hd] at hmg;exact hmg) (Fc w)
