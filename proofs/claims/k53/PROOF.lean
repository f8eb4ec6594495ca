import PyProof.Rows.All
import KE.KIsAll
import OpenK.KMore
import KE.LcSums
import KE.KBools
import KE.KxBytes
import Lean
import PyProof.EqAt
import PyProof.EqKinds
import PyProof.TupleCall
import KE.KEqSeq
import PyProof.NeKinds
import PyProof.FitsBits
import PyProof.Rows.SumAny
import PyProof.Rows.SetFrom
import PyProof.SetRoads
import PyProof.ListRange
import KE.KSortTup
import KE.KSortKey
import KE.KLam
import KE.KNestM
import PyProof.Rows.MinMaxN
import KE.KRevIter
import PyProof.MaxThree
import PyProof.AutoSeq1
import PyProof.FactsAll.list_3
import PyProof.MinMaxWalk
import PyProof.WalkInts
import PyProof.Rows.CallKwBuiltin
import PyProof.Defs
import Wide.FinOn
import Wide.All
import PySem.Challenge.RW_hourtable_k53_other_weights
set_option Elab.async false
set_option linter.all false
set_option maxRecDepth 100000
local macro_rules
 | `(tactic|omega) => `(tactic|lia)
set_option bootstrap.genMatcherCode false
open List renaming length_map → aa, getD_eq_getElem?_getD → ag, getElem?_eq_some_iff → ao, mem_cons_of_mem → au, length_append → av, mem_append_right → aw, mem_singleton → ax, getElem?_map → ay, mem_cons → az, map_append → aA, mem_append_left → aE, size_toArray → aG, mem_append → aM, range → aR, length_cons → aS, mem_map → aV, take_length → bf, take_add_one → bg, mem_of_getElem? → bh, mem_cons_self → bp, length_range → bt, nodup_cons → bF, length_take → bG, getElem_mem → bH, foldl_cons → bM, replicate → bP, mem_range → bQ, nodup_iff_pairwise_ne → bU, getElem?_append_right → bV, map_cons → bX, mem_filter → cg, not_mem_nil → cq, lookup_cons → cW, getElem?_set_ne → dk, map_map → dt, getElem?_set_self → dv, foldl_append → dJ, append_nil → dU, lookup → d8, toList_toArray → eO, length_filter_le → eV, length_drop → e8, map_congr_left → fu, length_singleton → fR, getElem?_append_left → fX, pairwise_map → fY, dropLast_concat → fZ, length_reverse → gn, getElem?_range → gp, filter_cons → gu, length_set → gG, find?_cons → gH, length_replicate → gO, replicate_succ → iu, any_cons → iB, sum_append → iL, filter_append → iM, length_eq_zero_iff → iN, toArray → iU, take_of_length_le → iV, reverse_cons → iW, nodup_append → iX, any_eq_false → iY, mem_of_mem_take → jx
open PySem renaming Value → ae, wpAny_bind → ah, Addr → ai, Shared → aq, wpAny_pure → aO, Program → aW, wpAny → aX, sizeLine → bj, FuncData → bq, model → br, World → bx, starEach → bE, Heap → bL, mainGlobals → bO, Around → bS, wpAny_mono → b9, mem_of_lookup → cf, Str → cj, NameKind → cx, Stmt → cP, boot_len → cQ, wpAny_holding → d7, eval → eu, wpAny_Call_Name_kw → eC, wpAny_field → eI, lookup_relabel_local → eJ, Builtin → eN, wpAny_newObj_type → eS, Arguments → eX, Scope → eZ, wpAny_seqItems → ft, wpAny_callSpecial?_slot → fE, compareOp → fG, sizeLine_eq → fS, Spec → gc, foldedSetIterable → gk, binaryOp → gm, backTo → gw, wpAny_passesOwn → gX, wpAny_truthy_bool → hV, wpAny_call_entry → iC, codeAny → iT, wpAny_setField_rec → i4, sysModules → i5, wpAny_tryCatch → jo, recursionLimit → jr, Paired → ju, wpAny_letGo → jH, codeAny_builtin → jS
open PySem.W renaming Frag → ak, mg_none_of → bW, findIn → cy, nsIn → cE, fnOf → dm, kia_one → dO, codeHdIn → dY, keepIn → eE, emptyDict → eG, instObj → fT, codeIn → gQ, mg_of → ik, plainGet → jb, callWith_K → jF
open PySem.Heap renaming get?_push_of_some → ar, lt_size → aL, get?_push_size → aZ, SameBut → dA, size_push → fQ, get?_update_ne → gq, get?_update_other → iZ
open Nat renaming le_refl → aB, lt_of_lt_of_le → aQ, le_trans → aY, ne_of_lt → bI, zero_le → bK, lt_of_le_of_lt → bR, ne_of_gt → cR, lt_irrefl → fN, mul_assoc → gg, lt_of_le_of_ne → gF, lt_succ_of_lt → gU, le_of_lt → il, lt_succ_iff_lt_or_eq → iK, mul_comm → jd, lt_trans → jf, lt_succ_self → jv
open Bool renaming false_ne_true → aP, and_eq_true → dB, not_eq_true' → gT, eq_false_iff → i3
open Option renaming map_eq_some_iff → bB, map_some → fV
open PySem.F renaming plainAttrs_list → bC, type_list_append → cJ, slot_list_append → cL, type_list_pop → fJ, slot_list_pop → fM, plain_min_loop → gz, slot_tuple_iterator_next → ir, args_tuple_add_2 → jT, entry_tuple_add → kd
open PyProof.Rows renaming seqObj → bJ, slot_tuple_getitem → cY, callWith_type1 → dQ, get?_update_seq → gh, boot_tuple → iA
open PySem.PassesOwn renaming never → bT
open Option.some renaming inj → bZ
open Int renaming eq_ofNat_of_zero_le → cu, emod_lt_of_pos → cB, emod_nonneg → cG, toNat_natCast → cM, zero_mul → eP, toNat_of_nonneg → fB, le_refl → fO, mul_ediv_add_emod → fU, mul_zero → gf, mul_le_mul_of_nonneg_left → gC, zero_add → iq
open Ne renaming symm → cw
open PySem.Obj renaming mapSeq → cA
open False renaming elim → cN
open PySem.Builtin.SmallTypes renaming nextOf → cO, ownedTupleIsFree → jU
open PySem.Str renaming ofString → cT
open Array renaming length_toList → cX, getElem?_eq_getElem → eR
open PySem.Builtin.Range renaming rangeSize → dM, small → gN
open Classical renaming byContradiction → eM
open Pure renaming pure → fH
open PySem.Challenge renaming rw_hourtable_k53_other_weights → fI
open PySem.Heap.SameBut renaming update → fW
open PySem.Builtin.Slice renaming slicePlaces → gJ, sliceAdjust → jw
open PySem.Builtin.Tuple renaming tupleExact → gR
open PySem.Builtin.List renaming listTooLong → gW
open PySem.Builtin.Int renaming intBits → jg
noncomputable section
abbrev oZ:=@if_neg
abbrev o4:=@if_pos
abbrev o6:=@absurd
abbrev o8:=@decide_eq_true
abbrev o9:=@decide_eq_false
abbrev pe:=@of_decide_eq_true
abbrev pf:=@congrArg
set_option maxHeartbeats 4000000
theorem gE {α:Type}{l:List α}{i:Nat}(h:i<l.length):l[i]? =some l[i]:=List.getElem?_eq_getElem h
variable {A:bS}{C T a f f1 f2:ai}{E Q:ae→aq→Prop}{K:ak}{P prog:aW}{R:PySem.Result→aq→Prop}{XP:(PySem.Str→Option ae)→bL→Prop}{aN:List (ai×PySem.Obj)}{b:Int}{base h h':bL}{body e iter tg:PySem.Expr}{cl:List (PySem.Str×ai)}{es ifs:List PySem.Expr}{fd fd1 fd2:bq}{fr ps:List PySem.Str}{fz:ai→Option PySem.Obj}{gs ns ts:List Int}{i j m n t':Nat}{js l tk π:List Nat}{ks:List (Int×Int)}{kw:List (PySem.Str×ae)}{lp pos:PySem.Pos}{lq q x:PySem.Str}{mg:PySem.Str→Option ae}{p:Array Nat}{params:eX}{s:aq}{scope:eZ}{st:cP}{u:ae}{us vs:List ae}{w:bx}{α:Type}
namespace L2
open PySem PySem.Spec PyProof.Rows
def iS (s:cP):eX:=match s with
 | .FunctionDef _ a _ _ _ _ _ _ _ _=>a
 | _=>{ posonlyargs:=[],args:=[],vararg:=none,kwonlyargs:=[],kw_defaults:=[],kwarg:=none,defaults:=[] }
def fk (s:cP):List cP:=match s with
 | .FunctionDef _ _ b _ _ _ _ _ _ _=>b
 | _=>[]
def defScope (s:cP):eZ:=match s with
 | .FunctionDef _ _ _ _ _ _ sc _ _ _=>sc
 | _=>{ kind:= .function,names:=[],isGenerator:=false,isCoroutine:=false }
end L2
namespace HN
open PySem L2 PyProof.Rows
def top (i:Nat):cP:=PySem.Challenge.pw_hourtable_k53_other_weights.main.body.getD i (.Pass ⟨0,0,0,0⟩)
def clsOf (s:cP)(i:Nat):cP:=match s with
 | .ClassDef _ _ _ body _ _ _ _ _ _ _=>body.getD i (.Pass ⟨0,0,0,0⟩)
 | s=>s
structure Df (K:ak)(x:Str)(st:cP)(f:ai):Prop where
 n:cE K bO x=some (some (.ref f))
 l:∃ (oc:ae) (od an:Option ai) (sl:Array (Option ae)) (kV dc pm cd ct:ae),K.lookup f=some ⟨oc,od,.func (dm x x (iS st) (fk st) (defScope st) .none kV dc pm an cd ct),sl⟩∧gQ K cd x=true∧eE K (.ref f)=true
def Facts (K:ak):Prop:=∀ C:Prop,(∀ {f1 f2 f3 f4 f5 f6 f7 f8 f9 f10 f11 f12 f13 f14 f15 f16 f17 f18 f19 f20 f21 f22 f23 f24 f25 f26 f27 f28 f29 f30 f31 f32 f33 f34 f35 f36 f37 f38 f39 f40 f41 f42 f43 f44 f45 f46 f47:ai} {t1:Tok} {xC xi xs xt:ai} {odI anI odS anS odT anT:Option ai} {slI slS slT:Array (Option ae)} {ocI kVI dcI pmI ctI ocS kVS dcS pmS cdS ctS ocT kVT dcT pmT cdT ctT:ae},(Df K "width_of" (top 4) f1) →
 (Df K "leads_from" (top 6) f2) →
 (Df K "leads_to" (top 7) f3) →
 (Df K "first_bounds" (top 8) f4) →
 (Df K "sum_of" (top 9) f5) →
 (Df K "beats_of" (top 10) f6) →
 (Df K "is_dead" (top 11) f7) →
 (Df K "spans_by_width" (top 14) f8) →
 (Df K "forest_of" (top 15) f9) →
 (Df K "steps_from" (top 16) f10) →
 (Df K "way_between" (top 17) f11) →
 (Df K "ring_by" (top 18) f12) →
 (Df K "cases_of" (top 19) f13) →
 (Df K "rings_of" (top 20) f14) →
 (Df K "spread_of" (top 21) f15) →
 (Df K "rest_by" (top 23) f16) →
 (Df K "with_bound" (top 28) f17) →
 (Df K "rings_over" (top 33) f18) →
 (Df K "middle_of" (top 35) f19) →
 (Df K "dead_leaf" (top 36) f20) →
 (Df K "table_by" (top 37) f21) →
 (Df K "tables_that_fit" (top 38) f22) →
 (Df K "tree_from" (top 39) f23) →
 (Df K "tree_by" (top 40) f24) →
 (Df K "table_for" (top 41) f25) →
 (Df K "is_sure" (top 12) f26) →
 (Df K "wait_in" (top 24) f27) →
 (Df K "waits_of" (top 25) f28) →
 (Df K "wait_of" (top 26) f29) →
 (Df K "own_prices" (top 29) f30) →
 (Df K "worth_of" (top 30) f31) →
 (Df K "price_leaf" (top 43) f32) →
 (Df K "leaf_by" (top 44) f33) →
 (Df K "best_for" (top 45) f34) →
 (Df K "_law_cell_at" (top 47) f35) →
 (Df K "_law_mixed" (top 48) f36) →
 (Df K "_law_pot" (top 49) f37) →
 (Df K "_law_take" (top 50) f38) →
 (Df K "_law_span" (top 51) f39) →
 (Df K "_law_tied" (top 52) f40) →
 (Df K "_law_more" (top 53) f41) →
 (Df K "_law_net" (top 54) f42) →
 (Df K "_law_waits" (top 55) f43) →
 (Df K "_law_wait" (top 57) f44) →
 (Df K "_law_weighed" (top 59) f45) →
 (Df K "_law_asked" (top 60) f46) →
 (Df K "law" (top 61) f47) →
 (cE K bO "MOST_CASES" =some (some (.int 4096 t1))) →
 (cE K bO "isinstance" =some none) →
 (cE K bO "int" =some none) →
 (cE K bO "bool" =some none) →
 (cE K bO "tuple" =some none) →
 (cE K bO "len" =some none) →
 (cE K bO "min" =some none) →
 (cE K bO "all" =some none) →
 (cE K bO "range" =some none) →
 (cE K bO "enumerate" =some none) →
 (cE K bO "zip" =some none) →
 (cE K bO "sum" =some none) →
 (cE K bO "list" =some none) →
 (cE K bO "max" =some none) →
 (cE K bO "set" =some none) →
 (cE K bO "sorted" =some none) →
 (cE K bO "reversed" =some none) →
 (cE K bO "Cuts" =some (some (.ref xC))) →
 (jb K xC Str.empty=true) →
 (PySem.W.hasDictIn K xC=true) →
 (PySem.W.plainOver K xC=true) →
 (cy K (.ref xC) "__setattr__" =some (some (.builtin "object.__setattr__"))) →
 (cy K (.ref xC) "first_case" =some none) →
 (cy K (.ref xC) "touched" =some none) →
 (cy K (.ref xC) "order" =some none) →
 (PySem.W.makesIn K xC=true) →
 (cy K (.ref xC) "__init__" =some (some (.ref xi))) →
 (PySem.W.isFn K (.ref xi)=true) →
 (eE K (.ref xC)=true) →
 (K.lookup xi=some ⟨ocI,odI,.func (dm "__init__" "Cuts.__init__" (iS (clsOf (top 34) 0)) (fk (clsOf (top 34) 0)) (defScope (clsOf (top 34) 0)) .none kVI dcI pmI anI (.ref 209) ctI),slI⟩) →
 (gQ K (.ref 209) "Cuts.__init__" =true) →
 (eE K (.ref xi)=true) →
 (cy K (.ref xC) "span_to_cut" =some (some (.ref xs))) →
 (PySem.W.isFn K (.ref xs)=true) →
 (eE K (.ref xs)=true) →
 (K.lookup xs=some ⟨ocS,odS,.func (dm "span_to_cut" "Cuts.span_to_cut" (iS (clsOf (top 34) 1)) (fk (clsOf (top 34) 1)) (defScope (clsOf (top 34) 1)) .none kVS dcS pmS anS cdS ctS),slS⟩) →
 (gQ K cdS "Cuts.span_to_cut" =true) →
 (cy K (.ref xC) "sides" =some (some (.ref xt))) →
 (PySem.W.isFn K (.ref xt)=true) →
 (eE K (.ref xt)=true) →
 (K.lookup xt=some ⟨ocT,odT,.func (dm "sides" "Cuts.sides" (iS (clsOf (top 34) 2)) (fk (clsOf (top 34) 2)) (defScope (clsOf (top 34) 2)) .none kVT dcT pmT anT cdT ctT),slT⟩) →
 (gQ K cdT "Cuts.sides" =true) →
 (∃ (oc:ae) (od an:Option ai) (sl:Array (Option ae)) (kV dc pm ct:ae),K.lookup f8=some ⟨oc,od,.func (dm "spans_by_width" "spans_by_width" (iS (top 14)) (fk (top 14)) (defScope (top 14)) .none kV dc pm an (.ref 106) ct),sl⟩) →
 (dY K 106 102=true) →
 (dY K 209 207=true) →
 (∃ (oc:ae) (od an:Option ai) (sl:Array (Option ae)) (kV dc pm ct:ae),K.lookup f25=some ⟨oc,od,.func (dm "table_for" "table_for" (iS (top 41)) (fk (top 41)) (defScope (top 41)) .none kV dc pm an (.ref 277) ct),sl⟩) →
 (dY K 277 273=true) →
 (∃ (oc:ae) (od an:Option ai) (sl:Array (Option ae)) (kV dc pm ct:ae),K.lookup f34=some ⟨oc,od,.func (dm "best_for" "best_for" (iS (top 45)) (fk (top 45)) (defScope (top 45)) .none kV dc pm an (.ref 296) ct),sl⟩) →
 (dY K 296 292=true)→C)→C
def Wp:Prop:=∀ {q:aW} {loose:List Str} {XP:(Str→Option ae)→bL→Prop} {YP:bx→bL→Prop} {d:DefRec} {K:Params→ak},d.params.defaults=[]→d.name = "law" →(∀ (w:bx) (h:bL),YP w h→(K w.params).In h∧∀ T∈([102,207,273,292]:List ai),h.get? T=some (PySem.W.tabObj #[]))→(∀ w:bx,∀ T∈([102,207,273,292]:List ai),∃ c,dY (K w.params) c T=true)→(∀ w:bx,PySem.W.noTabs (K w.params)=true)→(∀ w:bx,Facts (K w.params))→PySem.W.WalkO q loose XP YP (fI).row.toRowW d [] (fun f vs=>PySem.call f vs)
end HN
section
open PySem PySem.W PyProof.Rows
def HN.seenOf:aW:={ PySem.Challenge.pw_hourtable_k53_other_weights with main:={ PySem.Challenge.pw_hourtable_k53_other_weights.main with body:=[1,2,4,6,7,8,9,10,11,12,14,15,16,17,18,19,20,21,23,24,25,26,28,29,30,32,33,34,35,36,37,38,39,40,41,43,44,45,47,48,49,50,51,52,53,54,55,56,57,58,59,60,61].map HN.top } }
def HN.isSeen (s:aq):Bool:=xlAt HN.seenOf [] s && recOk (RowW.records (OpenRow.toRowW (OpenLaw.row fI))) s
local macro_rules
 | `(tactic| o_head $H:term) => `(tactic| (refine holds_open (q := HN.seenOf) (loose := []) (XP := XL HN.seenOf []) (Xt := HN.isSeen) (Yf := Hook.obs $H) (Ya := Hook.val $H) (YP := Hook.says $H) (N := 4778) ?_ (Hook.of $H) (Hook.keeps $H) (fun s e => xl_of s (Bool.and_eq_true_iff.mp e).1) XL.keeps (by rfl) (by rfl) (by rfl) (fun s e => recFacts_of (Bool.and_eq_true_iff.mp e).2) ?_ ?_ ?_ ?_ ?_ ?_))
theorem HN.left_two {σ β:Type}{e:Option σ}{f:σ→α}{g:σ→β}{a:α}{b:β}(h1:e.map f=some a)(h2:e.map g=some b):e.map (fun s=>(f s,g s))=some (a,b):=by
 cases e with
 | none=>cases h1
 | some s=>injection h1 with h1;injection h2 with h2;show some (f s,g s)=_;rw [h1,h2]
theorem HN.left_pr {σ β:Type}{e:Option σ}{f:σ→α×β}{a:α×β}(h1:e.map (fun s=>(f s).1)=some a.1)(h2:e.map (fun s=>(f s).2)=some a.2):e.map f=some a:=by
 cases e with
 | none=>cases h1
 | some s=>injection h1 with h1;injection h2 with h2;exact pf some (Prod.ext h1 h2)
set_option maxHeartbeats 0 in
theorem HN.left1 (w:bx):(openEnds treeTable PySem.Challenge.rw_hourtable_k53_other_weights.row.prog w 4778).map (fun s=>(openSeen HN.seenOf [] (importedModules PySem.Challenge.rw_hourtable_k53_other_weights.row.prog.main.body) HN.isSeen true s).1)=some (openGood HN.seenOf []).1:=by
 kernel_rfl
set_option maxHeartbeats 0 in
theorem HN.left2 (w:bx):(openEnds treeTable PySem.Challenge.rw_hourtable_k53_other_weights.row.prog w 4778).map (fun s=>(openSeen HN.seenOf [] (importedModules PySem.Challenge.rw_hourtable_k53_other_weights.row.prog.main.body) HN.isSeen true s).2)=some (openGood HN.seenOf []).2:=by
 kernel_rfl
set_option maxRecDepth 100000 in
set_option maxHeartbeats 0 in
theorem HN.head0 (W:HN.Wp):PySem.Challenge.rw_hourtable_k53_other_weights.Holds:=by
 w_on;refine holds_law (by decide +kernel) fun said=>?_;k_head
 ·exact fun w=>HN.left_two (HN.left_pr (HN.left1 w) (HN.left2 w)) (by kernel_rfl)
 ·rfl
 ·assumption
 ·decide +kernel
 ·exact ⟨rfl,rfl,rfl,rfl,rfl,by decide +kernel⟩
 ·w_witness2
 k_fill
 refine W rfl rfl (fun w h Y=>⟨PySem.W.km_in_of Y,fun T hT=>PySem.W.km_tabs_of Y T (by revert hT;revert T;decide)⟩) (fun w T hT=>by
  simp only [az,cq,or_false] at hT
  rcases hT with rfl | rfl | rfl | rfl
  ·exact ⟨106,by kernel_rfl⟩
  ·exact ⟨209,by kernel_rfl⟩
  ·exact ⟨277,by kernel_rfl⟩
  ·exact ⟨296,by kernel_rfl⟩
  ) (fun w=>by kernel_rfl) ?F
 case F =>
  intro w C k;refine' k ?_ ?_ ?_ ?_ ?_ ?_ ?_ ?_ ?_ ?_ ?_ ?_ ?_ ?_ ?_ ?_ ?_ ?_ ?_ ?_ ?_ ?_ ?_ ?_ ?_ ?_ ?_ ?_ ?_ ?_ ?_ ?_ ?_ ?_ ?_ ?_ ?_ ?_ ?_ ?_ ?_ ?_ ?_ ?_ ?_ ?_ ?_ ?y1 ?z1 ?z2 ?z3 ?z4 ?z5 ?z6 ?z7 ?z8 ?z9 ?z10 ?z11 ?z12 ?z13 ?z14 ?z15 ?z16 ?w1 ?w2 ?w3 ?w4 ?w5 ?w6 ?w7 ?w8 ?w9 ?w10 ?w11 ?w12 ?w13 ?w14 ?w15 ?w16 ?w17 ?w18 ?w19 ?w20 ?w21 ?w22 ?w23 ?w24 ?w25 ?wc0 ?wh0 ?wh1 ?wc2 ?wh2 ?wc3 ?wh3
  all_goals first | exact ⟨by k_is,_,_,_,_,_,_,_,_,_,by k_is,by k_is,by k_is⟩ | skip
  (case y1=>k_is);(case z1=>k_is);(case z2=>k_is);(case z3=>k_is);(case z4=>k_is);(case z5=>k_is);(case z6=>k_is);(case z7=>k_is);(case z8=>k_is);(case z9=>k_is);(case z10=>k_is);(case z11=>k_is);(case z12=>k_is);(case z13=>k_is);(case z14=>k_is);(case z15=>k_is);(case z16=>k_is)
  (case w1=>k_is)
  (case w2=>k_is)
  (case w3=>k_is)
  (case w4=>k_is)
  (case w5=>k_is)
  (case w6=>k_is)
  (case w7=>k_is)
  (case w8=>k_is)
  (case w9=>k_is)
  (case w10=>k_is)
  (case w11=>k_is)
  (case w12=>k_is)
  (case w13=>k_is)
  (case w14=>k_is)
  (case w15=>k_is)
  (case w16=>k_is)
  (case w17=>k_is)
  (case w18=>k_is)
  (case w19=>k_is)
  (case w20=>k_is)
  (case w21=>k_is)
  (case w22=>k_is)
  (case w23=>k_is)
  (case w24=>k_is)
  (case w25=>k_is)
  (case wc0=>exact ⟨_,_,_,_,_,_,_,_,by k_is⟩)
  (case wh0=>kernel_rfl)
  (case wh1=>kernel_rfl)
  (case wc2=>exact ⟨_,_,_,_,_,_,_,_,by k_is⟩)
  (case wh2=>kernel_rfl)
  (case wc3=>exact ⟨_,_,_,_,_,_,_,_,by k_is⟩)
  (case wh3=>kernel_rfl)
end
namespace L2
open PySem PySem.Spec PyProof.Rows
abbrev Key:=Sum Int Str
def keyIs:Key→ae→Bool
 | .inl k,v=>ae.isInt k v
 | .inr x,v=>ae.isStrOf x v
def keyH (w:bx):Key→Int
 | .inl k=>hashInt k
 | .inr x=>hashStr w x
theorem gj:∀ {k:Key} {v:ae},keyIs k v=true→(∃ i t,k=Sum.inl i∧v=ae.int i t)∨(∃ x t,k=Sum.inr x∧v=ae.str x t)
 | .inl i,v,h=>by
  obtain ⟨t,e⟩:=ae.isInt_shape (k:=i) (v:=v) h;exact .inl ⟨i,t,rfl,e⟩
 | .inr x,v,h=>by
  obtain ⟨t,e⟩:=ae.isStrOf_shape (x:=x) (v:=v) h;exact .inr ⟨x,t,rfl,e⟩
theorem keyIs_int (i:Int)(t:Tok):keyIs (.inl i) (.int i t)=true:=by simp [keyIs,ae.isInt]
theorem keyIs_str (x:Str)(t:Tok):keyIs (.inr x) (.str x t)=true:=by simp [keyIs,ae.isStrOf]
theorem key_ll (a b:Int):decide ((Sum.inl a:Key)=Sum.inl b)=(a == b):=by
 by_cases e:a=b
 ·subst e;simp
 ·have h:¬ (Sum.inl a:Key)=Sum.inl b:=fun q=>e (Sum.inl.inj q)
  rw [o9 h];exact (beq_eq_false_iff_ne.mpr e).symm
theorem key_rr (a b:Str):decide ((Sum.inr a:Key)=Sum.inr b)=decide (a=b):=by
 by_cases e:a=b
 ·subst e;simp
 ·have h:¬ (Sum.inr a:Key)=Sum.inr b:=fun q=>e (Sum.inr.inj q)
  rw [o9 h,o9 e]
theorem key_lr (a:Int)(b:Str):decide ((Sum.inl a:Key)=Sum.inr b)=false:=o9 (fun q=>nomatch q)
theorem key_rl (a:Str)(b:Int):decide ((Sum.inr a:Key)=Sum.inl b)=false:=o9 (fun q=>nomatch q)
def ib (prog:aW)(w:bx):PySem.KeyKind prog w Key where
 is:=keyIs
 hash:=keyH w
 inj:=fun v a b ha hb=>by
  rcases gj ha with ⟨i,t,rfl,rfl⟩ | ⟨x,t,rfl,rfl⟩
  ·rcases gj hb with ⟨j,u,rfl,e⟩ | ⟨y,u,rfl,e⟩
   ·injection e with e1 _;rw [e1]
   ·exact nomatch e
  ·rcases gj hb with ⟨j,u,rfl,e⟩ | ⟨y,u,rfl,e⟩
   ·exact nomatch e
   ·injection e with e1 _;rw [e1]
 byValue:=fun k v h=>by
  rcases gj h with ⟨i,t,rfl,rfl⟩ | ⟨x,t,rfl,rfl⟩ <;> rfl
 pyHash:=fun hv h=>by
  rcases gj hv with ⟨i,t,rfl,rfl⟩ | ⟨x,t,rfl,rfl⟩
  ·exact wpAny_pyHash_int h
  ·exact wpAny_pyHash_str h
 eqBool:=fun hu hv h=>by
  rcases gj hu with ⟨i,t,rfl,rfl⟩ | ⟨x,t,rfl,rfl⟩
  ·rcases gj hv with ⟨j,u,rfl,rfl⟩ | ⟨y,u,rfl,rfl⟩
   ·rw [key_ll] at h;exact wpAny_eqBool_int h
   ·rw [key_lr] at h;exact SeqAt.EqAt.int_str i t y u _ _ _ _ h
  ·rcases gj hv with ⟨j,u,rfl,rfl⟩ | ⟨y,u,rfl,rfl⟩
   ·rw [key_rl] at h;exact SeqAt.EqAt.str_int x t j u _ _ _ _ h
   ·rw [key_rr] at h;exact wpAny_eqBool_str h
 «strs» := fun k x t v h=>by
  rcases gj h with ⟨i,u,rfl,e⟩ | ⟨y,u,rfl,e⟩
  ·exact nomatch e
  ·injection e with e1 _
   subst e1;cases v <;> rfl
theorem mixKind_int (prog:aW)(w:bx)(i:Int)(t:Tok):(ib prog w).is (.inl i) (.int i t)=true:=keyIs_int i t
theorem mixKind_str (prog:aW)(w:bx)(x:Str)(t:Tok):(ib prog w).is (.inr x) (.str x t)=true:=keyIs_str x t
inductive V where
 | non | bl (b:Bool) | int (i:Int) | str (x:Str) | byt (b:Array UInt8) | flt (b:UInt64) | ref (a:ai) | ty (n:String)
 deriving DecidableEq
def RelV:V→ae→Prop
 | .non,u=>u=ae.none
 | .bl b,u=>u=ae.bool b
 | .int i,u=>∃ t,u=ae.int i t
 | .str x,u=>∃ t,u=ae.str x t
 | .byt b,u=>∃ t,u=ae.bytes b t
 | .flt b,u=>∃ t,u=ae.float b t
 | .ref a,u=>u=ae.ref a
 | .ty n,u=>u=ae.type n
abbrev Vals:List V→List ae→Prop:=ju RelV
theorem Vals.length {xs:List V}(r:Vals xs us):xs.length=us.length:=Paired.length r
theorem Vals.get:∀ {xs:List V} {us:List ae} {i:Nat} {x:V},Vals xs us→xs[i]? =some x→∃ u,us[i]? =some u∧RelV x u
 | _,_,_,_,.nil,e=>by simp at e
 | _,_,0,_,.cons r _,e=>by simp at e;subst e;exact ⟨_,rfl,r⟩
 | _,_,i+1,x,.cons _ t,e=>by
  obtain ⟨u,h1,h2⟩:=Vals.get (i:=i) (x:=x) t (by simpa using e);exact ⟨u,by simpa using h1,h2⟩
theorem Vals.set {x:V}{u:ae}(r:RelV x u):∀ {xs:List V} {us:List ae} (i:Nat),Vals xs us→Vals (xs.set i x) (us.set i u)
 | _,_,_,.nil=> .nil
 | _,_,0,.cons _ t=> .cons r t
 | _,_,i+1,.cons q t=> .cons q (Vals.set r i t)
theorem Vals.append:∀ {xs ys:List V} {us ws:List ae},Vals xs us→Vals ys ws→Vals (xs++ys) (us++ws)
 | _,_,_,_,.nil,s=>s
 | _,_,_,_,.cons r t,s=> .cons r (Vals.append t s)
theorem Vals.take:∀ {xs:List V} {us:List ae} (n:Nat),Vals xs us→Vals (xs.take n) (us.take n)
 | _,_,0,_=> .nil
 | _,_,_+1,.nil=> .nil
 | _,_,n+1,.cons r t=> .cons r (Vals.take n t)
theorem Vals.drop:∀ {xs:List V} {us:List ae} (n:Nat),Vals xs us→Vals (xs.drop n) (us.drop n)
 | _,_,0,r=>r
 | _,_,_+1,.nil=> .nil
 | _,_,n+1,.cons _ t=>Vals.drop n t
def RelO:Option V→Option ae→Prop
 | some v,some u=>RelV v u
 | none,none=>True
 | _,_=>False
def KV {κ:Type}:List (κ×V)→List (κ×ae)→Prop:=ju fun (p:κ×V) (q:κ×ae)=>p.1=q.1∧RelV p.2 q.2
def kV:Key→V
 | .inl i=> .int i
 | .inr x=> .str x
inductive HO where
 | lst (xs:List V)
 | tup (xs:List V)
 | dK (kvs:List (Key×V)) | dT (kvs:List (List Key×V))
 | set (S:Int→Bool) (n:Nat)
 | ins (C dx:ai) (fs:List (Str×V))
 | own (x:ai)
 | xd (fs:List (Str×V))
 | met (f x:ai)
 | rng (lo hi:Int)
 | frz (o:Obj) (u:HO)
 | tbl (ps:Array ae)
 | ext (φ:bL→Prop)
abbrev Hp:=ai→Option HO
def upd (H:Hp)(a:ai)(o:HO):Hp:=fun b=>if b=a then some o else H b
theorem aU {H:Hp}{o:HO}:upd H a o a=some o:=by unfold upd;rw [o4 rfl]
theorem bw {H:Hp}{b:ai}{o:HO}(h:b≠a):upd H a o b=H b:=by unfold upd;rw [oZ h]
theorem eD {H:Hp}{b:ai}{o u:HO}(h:H a=some o)(h':H b=some u)(d:o≠u):a≠b:=by
 intro e;subst e;rw [h] at h';exact d (bZ h')
theorem bz {H:Hp}{b:ai}{o:HO}(h:H a=some o)(h':H b=none):a≠b:=by
 intro e;subst e;rw [h] at h';cases h'
def IsTupN (h:bL)(a:ai)(items:Array ae):Prop:=∃ o,h.get? a=some o∧o.cls= .type "tuple" ∧o.dict=none∧∃ n,o.data= .seq items n
theorem IsTupN.tup {h:bL}{a:ai}{items:Array ae}(p:IsTupN h a items):IsTup h a items:=let ⟨o,e,c,_,n,d⟩:=p;⟨o,e,c,n,d⟩
theorem IsTupN.lt {items:Array ae}(p:IsTupN h a items):a<h.objs.size:=p.tup.lt
theorem IsTupN.new (h:bL)(items:Array ae):IsTupN (h.push { cls:= .type "tuple",data:= .seq items }) h.objs.size items:=⟨_,aZ _ rfl,rfl,rfl,_,rfl⟩
section
variable (P:aW) (w:bx)
def ObjOk (H:Hp)(h:bL)(a:ai):HO→Prop
 | .lst xs=>xs.length≤bj∧∃ (its:List ae) (n:Nat),Vals xs its∧h.get? a=some { cls:= .type "list",data:= .seq its.toArray n }
 | .tup xs=>xs.length≤bj∧∃ its:List ae,Vals xs its∧IsTupN h a its.toArray
 | .dK kvs=>kvs.length≤bj∧(a == i5)=false∧∃ vs,KV kvs vs∧h.DictOf (ib P w) a vs
 | .dT kvs=>kvs.length≤bj∧(a == i5)=false∧∃ xs:List (List Key×ai×ae),
   ju (fun (p:List Key×V) (q:List Key×ai×ae)=>p.1=q.1∧H q.2.1=some (.tup (p.1.map kV))∧RelV p.2 q.2.2) kvs xs ∧
   ∃ o es ep,h.get? a=some o∧o.ExactDict∧o.data= .dict es ep∧es.toList=xs.map (entryOfKey (tupleKind (ib P w)))∧(xs.map (·.1)).Nodup
 | .set S n=>h.SetOf (intKind P w) a S n
 | .ins C dx fs=>H dx=some (.own a)∧fs.length≤1000∧dx≠a∧h.get? a=some (fT C dx) ∧
   ∃ mA,h.Ns1 dx mA∧(∀ f,RelO (fs.lookup f) (mA f))∧PySem.Within mA (fs.map (·.1))
 | .own _=>∃ o,h.get? a=some o
 | .xd fs=>∃ mA,h.Ns1 a mA∧∀ f,RelO (fs.lookup f) (mA f)
 | .rng lo hi=>∃ t u v,h.get? a=some { cls:= .type "range",data:= .fields #[.int lo t,.int hi u,.int 1 v] }
 | .frz o u=>h.get? a=some o∧ObjOk H h a u
 | .tbl ps=>h.get? a=some { cls:= .none,data:= .fields ps }
 | .met f x=>h.get? a=some (PySem.W.methodObj (.ref f) (.ref x))
 | .ext φ=>φ h∧(∃ o,h.get? a=some o)∧∀ h1 h2:bL,φ h1→(∀ o,h1.get? a=some o→h2.get? a=some o)→φ h2
def HOk (H:Hp)(h:bL):Prop:=∀ a o,H a=some o→ObjOk P w H h a o
end
section
variable {H H':Hp}{o:HO}
theorem ObjOk.lt (x:ObjOk P w H h a o):a<h.objs.size:=by
 cases o with
 | lst xs=>obtain ⟨_,_,_,_,e⟩:=x;exact aL e
 | tup xs=>obtain ⟨_,_,_,p⟩:=x;exact p.lt
 | dK kvs=>obtain ⟨_,_,_,_,o,_,_,e,_⟩:=x;exact aL e
 | dT kvs=>obtain ⟨_,_,_,_,o,_,_,e,_⟩:=x;exact aL e
 | set S n=>obtain ⟨o,_,_,_,e,_⟩:=x;exact aL e
 | ins C dx fs=>obtain ⟨_,_,_,e,_⟩:=x;exact aL e
 | own y=>obtain ⟨_,e⟩:=x;exact aL e
 | xd fs=>obtain ⟨_,⟨_,_,_,e,_⟩,_⟩:=x;exact aL e
 | rng lo hi=>obtain ⟨_,_,_,e⟩:=x;exact aL e
 | frz ob u=>obtain ⟨e,_⟩:=x;exact aL e
 | tbl ps=>exact aL (show h.get? a=some _ from x)
 | met f y=>exact aL (show h.get? a=some _ from x)
 | ext φ=>obtain ⟨_,⟨_,e⟩,_⟩:=x;exact aL e
theorem Paired.mapP {α β:Type}{F G:α→β→Prop}:∀ {l₁:List α} {l₂:List β},ju F l₁ l₂→(∀ a b,F a b→G a b)→ju G l₁ l₂
 | _,_,.nil,_=> .nil
 | _,_,.cons r t,f=> .cons (f _ _ r) (Paired.mapP t f)
theorem ObjOk.stay (x:ObjOk P w H h a o)(k:∀ b u,(b=a∨H b=some (.own a))→h.get? b=some u→h'.get? b=some u)
  (ho:∀ b,H b=some (.own a)→H' b=some (.own a)) (ht:∀ b xs,H b=some (.tup xs)→H' b=some (.tup xs)):ObjOk P w H' h' a o:=by
 induction o with
 | lst xs=>obtain ⟨z,its,n,r,e⟩:=x;exact ⟨z,its,n,r,k _ _ (.inl rfl) e⟩
 | tup xs=>obtain ⟨z,its,r,ob,e,c⟩:=x;exact ⟨z,its,r,ob,k _ _ (.inl rfl) e,c⟩
 | dK kvs=>obtain ⟨z,y,vs,r,ob,es,ep,e,c⟩:=x;exact ⟨z,y,vs,r,ob,es,ep,k _ _ (.inl rfl) e,c⟩
 | dT kvs =>
  obtain ⟨z,y,xs,r,ob,es,ep,e,c⟩:=x;exact ⟨z,y,xs,Paired.mapP r fun p q z=>⟨z.1,ht _ _ z.2.1,z.2.2⟩,ob,es,ep,k _ _ (.inl rfl) e,c⟩
 | set S n=>obtain ⟨ob,es,ep,t,e,c⟩:=x;exact ⟨ob,es,ep,t,k _ _ (.inl rfl) e,c⟩
 | ins C dx fs =>
  obtain ⟨d,z,ne,e,mA,⟨od,es,ep,e2,c⟩,r⟩:=x;exact ⟨ho _ d,z,ne,k _ _ (.inl rfl) e,mA,⟨od,es,ep,k _ _ (.inr d) e2,c⟩,r⟩
 | own y=>obtain ⟨ob,e⟩:=x;exact ⟨ob,k _ _ (.inl rfl) e⟩
 | xd fs=>obtain ⟨mA,⟨od,es,ep,e,c⟩,r⟩:=x;exact ⟨mA,⟨od,es,ep,k _ _ (.inl rfl) e,c⟩,r⟩
 | rng lo hi=>obtain ⟨t,u,v,e⟩:=x;exact ⟨t,u,v,k _ _ (.inl rfl) e⟩
 | frz ob u ih=>obtain ⟨e,q⟩:=x;exact ⟨k _ _ (.inl rfl) e,ih q⟩
 | tbl ps =>
  have e:h.get? a=some { cls:= .none,data:= .fields ps }:=x;show h'.get? a=some { cls:= .none,data:= .fields ps };exact k a _ (.inl rfl) e
 | met f y =>
  have e:h.get? a=some (PySem.W.methodObj (.ref f) (.ref y)):=x;show h'.get? a=some (PySem.W.methodObj (.ref f) (.ref y));exact k a _ (.inl rfl) e
 | ext φ=>obtain ⟨p,⟨o,e⟩,st⟩:=x;exact ⟨st _ _ p fun o q=>k _ _ (.inl rfl) q,⟨o,k _ _ (.inl rfl) e⟩,st⟩
theorem HOk.lt (x:HOk P w H h)(e:H a=some o):a<h.objs.size:=(x a o e).lt
theorem HOk.fresh (x:HOk P w H h)(e:h.objs.size≤a):H a=none:=by
 cases q:H a with
 | none=>rfl
 | some u=>exact o6 (aQ (x.lt q) e) (fN _)
theorem HOk.kept (x:HOk P w H h)(k:∀ b u,h.get? b=some u→h'.get? b=some u):HOk P w H h':=fun a o e =>
 (x a o e).stay (fun b u _ q=>k b u q) (fun _ q=>q) fun _ _ q=>q
theorem HOk.laid (x:HOk P w H h)(k:∀ b u,h.get? b=some u→h'.get? b=some u)(hp:h.objs.size≤a)(new:ObjOk P w (upd H a o) h' a o):HOk P w (upd H a o) h':=fun b u e=>by
 have hn:=x.fresh hp
 by_cases hb:b=a
 ·subst hb;rw [aU] at e;cases e;exact new
 ·rw [bw hb] at e
  exact (x b u e).stay (fun c v _ q=>k c v q) (fun c q=>by rw [bw (bz q hn)];exact q) fun c xs q=>by rw [bw (bz q hn)];exact q
end
def Rd (H:Hp)(a:ai)(u:HO):Prop:=H a=some u∨∃ o,H a=some (.frz o u)
theorem Rd.of {H:Hp}{u:HO}(h:H a=some u):Rd H a u:= .inl h
theorem Rd.ok {H:Hp}{u:HO}(r:Rd H a u)(x:HOk P w H h):ObjOk P w H h a u:=by
 rcases r with r | ⟨o,r⟩
 ·exact x a u r
 ·obtain ⟨_,q⟩:=x a _ r
  exact q
def Mut:Option HO→Prop
 | some (.lst _)=>True
 | some (.dK _)=>True
 | some (.dT _)=>True
 | some (.set _ _)=>True
 | some (.ins _ _ _)=>True
 | some (.ext _)=>True
 | _=>False
section
variable {H:Hp}{x e:ai}{o':HO}
theorem HOk.write (ok:HOk P w H h)(mu:Mut (H x))(he:e=x∨H e=some (.own x))(k:∀ b u,b≠e→h.get? b=some u→h'.get? b=some u)(heo:∃ u,h'.get? e=some u)
  (new:ObjOk P w (upd H x o') h' x o'):HOk P w (upd H x o') h':=fun b u q=>by
 have nown:∀ c y,H c=some (.own y)→c≠x:=fun c y r z=>by subst z;rw [r] at mu;exact mu
 have ntup:∀ c xs,H c=some (.tup xs)→c≠x:=fun c xs r z=>by subst z;rw [r] at mu;exact mu
 by_cases hb:b=x
 ·subst hb;rw [aU] at q;cases q;exact new
 ·rw [bw hb] at q
  by_cases hbe:b=e
  ·have q':H b=some (.own x):=by
    rcases he with z | z
    ·exact o6 (hbe.trans z) hb
    ·rw [hbe];exact z
   rw [q] at q';cases q';obtain ⟨v,hv⟩:=heo;exact ⟨v,by rw [hbe];exact hv⟩
  ·refine (ok b u q).stay (fun c v hc r=>k c v ?_ r) (fun c r=>by rw [bw (nown c b r)];exact r) fun c xs r=>by rw [bw (ntup c xs r)];exact r
   rcases hc with rfl | hc
   ·exact hbe
   ·rintro rfl
    rcases he with z | z
    ·exact nown c b hc z
    ·rw [hc] at z;cases z;exact hb rfl
end
structure Un (fs ex:List ai)(H H':Hp)(h h':bL):Prop where
 keep:∀ b o,h.get? b=some o→H b=none→b ∉ fs→b ∉ ex→h'.get? b=some o
 slot:∀ b o,h.get? b=some o→H b=none→b∈fs→b ∉ ex→∃ sl,h'.get? b=some { o with slots:=sl }
 free:∀ b o,h.get? b=some o→H b=none→b ∉ ex→H' b=none
 there:∀ b o,h.get? b=some o→b ∉ ex→∃ o',h'.get? b=some o'
 tups:∀ b xs,H b=some (.tup xs)→H' b=some (.tup xs)
 frzs:∀ b o u,H b=some (.frz o u)→H' b=some (.frz o u)
 tbls:∀ b ps,H b=some (.tbl ps)→∃ more,H' b=some (.tbl (ps++more))
section
variable {fs fs' ex ex':List ai}{H H1 H2:Hp}{h1 h2:bL}{x e:ai}{o:HO}
theorem Un.any (u:Un fs ex H H1 h h1){b:ai}{ob:Obj}(q:h.get? b=some ob)(n:H b=none)(hx:b ∉ ex):∃ sl,h1.get? b=some { ob with slots:=sl }:=by
 by_cases hb:b∈fs
 ·exact u.slot b ob q n hb hx
 ·exact ⟨ob.slots,u.keep b ob q n hb hx⟩
theorem Un.kept (k:∀ b u,h.get? b=some u→h'.get? b=some u):Un fs ex H H h h' :=
 ⟨fun b ob q _ _ _=>k b ob q,fun b ob q _ _ _=>⟨ob.slots,k b ob q⟩,fun _ _ _ n _=>n,fun b ob q _=>⟨ob,k b ob q⟩,fun _ _ q=>q,fun _ _ _ q=>q,fun _ ps q=>⟨#[],by rw [q];simp⟩⟩
theorem Un.refl:Un fs ex H H h h:=Un.kept fun _ _ q=>q
theorem Un.laid (k:∀ b u,h.get? b=some u→h'.get? b=some u)(hp:h.objs.size≤a)(hn:H a=none):Un fs ex H (upd H a o) h h' where
 keep:=fun b u q _ _ _=>k b u q
 slot:=fun b u q _ _ _=>⟨u.slots,k b u q⟩
 free:=fun b u q n _=>by rw [bw (bI (aQ (aL q) hp))];exact n
 there:=fun b u q _=>⟨u,k b u q⟩
 tups:=fun b xs q=>by rw [bw (bz q hn)];exact q
 frzs:=fun b u xs q=>by rw [bw (bz q hn)];exact q
 tbls:=fun b ps q=>⟨#[],by rw [bw (bz q hn),q];simp⟩
theorem Un.write (mu:Mut (H x))(he:e=x∨H e=some (.own x))(k:∀ b u,b≠e→h.get? b=some u→h'.get? b=some u)(heo:∃ u,h'.get? e=some u):Un fs ex H (upd H x o) h h':=by
 have hx:∀ b,H b=none→b≠x:=fun b n z=>by subst z;rw [n] at mu;exact mu
 have hb:∀ b,H b=none→b≠e:=fun b n z=>by
  subst z
  rcases he with r | r
  ·exact hx b n r
  ·rw [n] at r;cases r
 have hm:∀ b u,H b=some u→¬ Mut (some u)→b≠x:=fun b u q nm z=>by subst z;rw [q] at mu;exact nm mu
 refine ⟨fun b u q n _ _=>k b u (hb b n) q,fun b u q n _ _=>⟨u.slots,k b u (hb b n) q⟩,fun b u q n _=>by rw [bw (hx b n)];exact n,fun b u q _=>?_,
  fun b xs q=>by rw [bw (hm b _ q fun z=>z)];exact q,fun b u xs q=>by rw [bw (hm b _ q fun z=>z)];exact q,fun b ps q=>⟨#[],by rw [bw (hm b _ q fun z=>z),q];simp⟩⟩
 by_cases hbe:b=e
 ·subst hbe;exact heo
 ·exact ⟨u,k b u hbe q⟩
end
def trk (h:bL)(H:Hp):List ai:=(aR h.objs.size).filter fun a=>(H a).isSome
def hidT (h:bL)(H:Hp):bL:=PySem.W.hideAll h (trk h H)
theorem hidT_size (h:bL)(H:Hp):(hidT h H).objs.size=h.objs.size:=PySem.W.hideAll_size _ _
theorem hidT_get {H:Hp}{b:ai}{o:Obj}(e:h.get? b=some o)(n:H b=none):(hidT h H).get? b=some o :=
 PySem.W.hideAll_get _ e fun hm=>by
  have q:(H b).isSome=true:=(cg.mp hm).2;rw [n] at q;simp at q
theorem of_hidT {H:Hp}{b:ai}{o:Obj}(e:(hidT h H).get? b=some o):h.get? b=some o∧H b=none:=by
 have e':h.get? b=some o:=PySem.W.of_hideAll (trk h H) e;refine ⟨e',?_⟩;cases q:H b with
 | none=>rfl
 | some x =>
  have hm:b∈trk h H:=cg.mpr ⟨bQ.mpr (aL e'),by simp [q]⟩;have z:(hidT h H).get? b=none:=PySem.W.hideAll_none (trk h H) hm;rw [z] at e;cases e
structure Mod (K:ak)(mg:Str→Option ae)(base:bL):Prop where
 kin:K.In base
 glob:base.Ns bO mg
 blt:∃ mb,base.Ns builtinsNs mb∧∀ x:Str,x ≠ "__name__" →mb x=bootBuiltins x
 nolimit:base.NoLimit
structure Cx where
 prog:aW
 w:bx
 K:ak
 mg:Str→Option ae
 base:bL
 A:bS
 N:List Str
 s₀:aq
 H₀:Hp
 env:Env
 outer:List Env
 stack:List Env
 ex:List ai
 fn:Str→Bool
 calm:Bool
 pn:List (ai×Obj)
 xe:ae→aq→Prop
def frs (l:List Env):List ai:=l.filterMap (·.frame)
abbrev Cx.fs (X:Cx):List ai:=frs X.outer
def Vis (sc:eZ)(x:Str):Prop:=sc.names.lookup x=some .local∨sc.names.lookup x=some .cell∨sc.names.lookup x=some .free
def Loc (sc:eZ)(x:Str):Prop:=sc.names.lookup x=some .local∨sc.names.lookup x=some .cell
def Look (env:Env)(h:bL)(m:Str→Option ae)(x:Str)(u:ae):Prop :=
 (env.kindOf x=some .local∧m x=some u)∨((env.kindOf x=some .cell∨env.kindOf x=some .free)∧∃ c,env.cells.lookup x=some c∧h.IsCell c (some u))
structure Cx.Ok (X:Cx):Prop where
 mod:Mod X.K X.mg X.base
 kind:X.env.scope.kind= .function
 glob:X.env.globals=bO
 blt:X.env.builtins=builtinsNs
 above:X.s₀.heap.objs.size≤X.env.locals
 inj:∀ x y c,X.env.cells.lookup x=some c→X.env.cells.lookup y=some c→x=y
 has:∀ x,(X.env.kindOf x=some .cell∨X.env.kindOf x=some .free)→∃ c,X.env.cells.lookup x=some c
 cab:∀ x c,X.fn x=true→X.env.cells.lookup x=some c→X.s₀.heap.objs.size≤c
 hd:X.calm=true→X.A.handled=none
 frames:X.A.frames=some X.stack
 stk:X.stack=X.outer∨(X.stack=X.env::X.outer∧X.env.frame=some X.env.locals)
 exf:∀ b∈X.ex,b≠X.env.locals∧∀ x c,X.env.cells.lookup x=some c→c≠b
 bs:∀ b o,X.base.get? b=some o→X.s₀.heap.get? b=some o∧X.H₀ b=none
 bsz:X.base.objs.size≤X.s₀.heap.objs.size
 noex:∀ b o,X.base.get? b=some o→b ∉ X.ex
 exfs:∀ b∈X.ex,b ∉ X.fs
 funs:X.s₀.heap.FunFrames X.base X.outer
 frf:∀ b∈X.fs,X.H₀ b=none
structure Inv (X:Cx)(aN:List (ai×Obj))(σ:List (Option V))(H:Hp)(s:aq):Prop where
 ok:X.Ok
 os:s.os=X.s₀.os
 bare:AllBare s.gens
 base:Un X.fs X.ex X.H₀ H X.s₀.heap s.heap
 loc:∃ m,s.heap.Ns X.env.locals m∧∀ (i:Nat) (x:Str) (v:V),X.N[i]? =some x→σ[i]? =some (some v)→Vis X.env.scope x→∃ u,RelV v u∧Look X.env s.heap m x u
 cell:∀ x c,X.env.cells.lookup x=some c→∃ v,s.heap.IsCell c v
 free:H X.env.locals=none
 freeC:∀ x c,X.env.cells.lookup x=some c→H c=none
 pin:∀ p∈X.pn++aN,s.heap.get? p.1=some p.2∧H p.1=none∧p.1≠X.env.locals∧p.1 ∉ X.fs∧∀ v,p.2.data≠ .cell v
 hok:HOk X.prog X.w H s.heap
 len:σ.length=X.N.length
section
variable {X:Cx}{σ:List (Option V)}{H H':Hp}
theorem Cx.Ok.nofr (ok:X.Ok){b:ai}{o:Obj}(e:X.base.get? b=some o):b ∉ X.fs:=fun hb=>by
 have:=(ok.funs.mem hb).1;rw [e] at this;cases this
theorem Inv.bs (I:Inv X aN σ H s):∀ b o,X.base.get? b=some o→s.heap.get? b=some o∧H b=none:=fun b o e =>
 ⟨I.base.keep b o (I.ok.bs b o e).1 (I.ok.bs b o e).2 (I.ok.nofr e) (I.ok.noex b o e),I.base.free b o (I.ok.bs b o e).1 (I.ok.bs b o e).2 (I.ok.noex b o e)⟩
theorem Inv.bk (I:Inv X aN σ H s):∀ b o,X.base.get? b=some o→s.heap.get? b=some o:=fun b o e=>(I.bs b o e).1
theorem Inv.mod (I:Inv X aN σ H s):Mod X.K X.mg X.base:=I.ok.mod
theorem Inv.kIn (I:Inv X aN σ H s):X.K.In s.heap:=I.ok.mod.kin.keeps I.bk
theorem Inv.nolimit (I:Inv X aN σ H s):s.heap.NoLimit:=I.ok.mod.nolimit.keeps I.bk
theorem Inv.lt (I:Inv X aN σ H s):X.env.locals<s.heap.objs.size:=let ⟨_,hn,_⟩:=I.loc;hn.lt
theorem Inv.sz (I:Inv X aN σ H s):X.s₀.heap.objs.size≤s.heap.objs.size:=aY I.ok.above (il I.lt)
theorem Inv.nofs (I:Inv X aN σ H s)(h:s.heap.objs.size≤a):a ∉ X.fs:=fun hb=>by
 obtain ⟨_,o,ho,_⟩:=I.ok.funs.mem hb;exact o6 (aQ (aL ho) (aY I.sz h)) (fN _)
theorem Inv.cne (I:Inv X aN σ H s):∀ x c,X.env.cells.lookup x=some c→c≠X.env.locals:=fun x c e z=>by
 obtain ⟨v,o,ho,hd⟩:=I.cell x c e;obtain ⟨m,⟨o',es,ep,ho',hd',_⟩,_⟩:=I.loc;rw [z,ho'] at ho;cases ho;rw [hd'] at hd;cases hd
theorem Inv.funs (I:Inv X aN σ H s):s.heap.FunFrames X.base X.outer:=by
 have all:∀ (l:List Env),(∀ b∈frs l,b∈X.fs)→X.s₀.heap.FunFrames X.base l→s.heap.FunFrames X.base l:=by
  intro l
  induction l with
  | nil=>intro _ _;trivial
  | cons env r ih =>
   intro hs hl;obtain ⟨hk,⟨L,o,hf,hn,ho,hd⟩,hr⟩:=hl;have hL:L∈X.fs:=hs L (by unfold frs;rw [List.filterMap_cons,hf];exact bp);obtain ⟨sl,e⟩:=I.base.slot L o ho (I.ok.frf L hL) hL fun z=>I.ok.exfs L z hL
   exact ⟨hk,⟨L,_,hf,hn,e,hd⟩,ih (fun b hb=>hs b (by unfold frs;rw [List.filterMap_cons,hf];exact au _ hb)) hr⟩
 exact all X.outer (fun _ hb=>hb) I.ok.funs
theorem Inv.stack (I:Inv X aN σ H s):s.heap.FunFrames X.base X.stack:=by
 rcases I.ok.stk with e | ⟨e,hf⟩
 ·rw [e];exact I.funs
 ·rw [e]
  obtain ⟨m,hn,_⟩:=I.loc;refine .cons (by rw [I.ok.kind];decide) hf hn ?_ I.funs;exact bL.get?_none_of_le (aY I.ok.bsz I.ok.above)
theorem Inv.stkSub (I:Inv X aN σ H s):∀ b∈frs X.stack,b∈X.env.locals::X.fs:=fun b hb=>by
 rcases I.ok.stk with e | ⟨e,hf⟩
 ·rw [e] at hb;exact au _ hb
 ·rw [e] at hb
  unfold frs at hb;rw [List.filterMap_cons,hf] at hb;exact hb
theorem Inv.stkFree (I:Inv X aN σ H s):∀ b∈frs X.stack,H b=none:=fun b hb=>by
 rcases az.mp (I.stkSub b hb) with e | hb
 ·rw [e];exact I.free
 ·obtain ⟨_,o,ho,_⟩:=I.ok.funs.mem hb
  exact I.base.free b o ho (I.ok.frf b hb) fun z=>I.ok.exfs b z hb
theorem Inv.step {g':Array GenState}{d':Drawn}{ch:List ai}(I:Inv X aN σ H s)
  (hch:∀ b∈ch,(b∈X.ex∨X.s₀.heap.objs.size≤b)∧b≠X.env.locals∧(∀ x c,X.env.cells.lookup x=some c→c≠b)∧∀ p∈X.pn++aN,p.1≠b)
  (keep:∀ b o,b≠X.env.locals→b ∉ X.fs→b ∉ ch→s.heap.get? b=some o→H b=none→h'.get? b=some o)
  (slot:∀ b o,b≠X.env.locals→b∈X.fs→b ∉ ch→s.heap.get? b=some o→H b=none→∃ sl,h'.get? b=some { o with slots:=sl }) (free:∀ b o,b ∉ ch→s.heap.get? b=some o→H b=none→H' b=none)
  (there:∀ b o,b ∉ ch→s.heap.get? b=some o→∃ o',h'.get? b=some o')
  (tups:∀ b xs,H b=some (.tup xs)→H' b=some (.tup xs)) (frzs:∀ b o u,H b=some (.frz o u)→H' b=some (.frz o u)) (tbls:∀ b ps,H b=some (.tbl ps)→∃ more,H' b=some (.tbl (ps++more)))
  (ns:∀ m,s.heap.Ns X.env.locals m→h'.Ns X.env.locals m) (hok:HOk X.prog X.w H' h') (hg:AllBare g') :
  Inv X aN σ H' { s with heap:=h',gens:=g',drawn:=d',toks:=t' }:=by
 have neL:∀ b o,X.s₀.heap.get? b=some o→b≠X.env.locals:=fun b o e=>bI (aQ (aL e) I.ok.above)
 have neC:∀ b o,X.s₀.heap.get? b=some o→b ∉ X.ex→b ∉ ch:=fun b o e hx hb=>by
  rcases (hch b hb).1 with z | z
  ·exact hx z
  ·exact o6 (aQ (aL e) z) (fN _)
 have cellK:∀ x c,X.env.cells.lookup x=some c→∀ v,s.heap.IsCell c v→h'.IsCell c v:=fun x c e v ⟨o,ho,hd⟩=>by
  have nch:c ∉ ch:=fun z=>(hch c z).2.2.1 x c e rfl
  by_cases hc:c∈X.fs
  ·obtain ⟨sl,q⟩:=slot c o (I.cne x c e) hc nch ho (I.freeC x c e)
   exact ⟨_,q,hd⟩
  ·exact ⟨o,keep c o (I.cne x c e) hc nch ho (I.freeC x c e),hd⟩
 refine ⟨I.ok,I.os,hg,⟨fun b o e n hb hx=>?_,fun b o e n hb hx=>?_,fun b o e n hx=>?_,fun b o e hx=>?_,fun b xs e=>tups b xs (I.base.tups b xs e),fun b o xs e=>frzs b o xs (I.base.frzs b o xs e),fun b ps e=>?_⟩,?_,fun x c e=>?_,?_,fun x c e=>?_,fun p hp=>?_,hok,I.len⟩
 ·exact keep b o (neL b o e) hb (neC b o e hx) (I.base.keep b o e n hb hx) (I.base.free b o e n hx)
 ·obtain ⟨sl,e1⟩:=I.base.slot b o e n hb hx
  obtain ⟨sl',e2⟩:=slot b _ (neL b o e) hb (neC b o e hx) e1 (I.base.free b o e n hx);exact ⟨sl',e2⟩
 ·obtain ⟨o',e1⟩:=I.base.there b o e hx
  exact free b o' (neC b o e hx) e1 (I.base.free b o e n hx)
 ·obtain ⟨o',e1⟩:=I.base.there b o e hx
  exact there b o' (neC b o e hx) e1
 ·obtain ⟨m1,e1⟩:=I.base.tbls b ps e
  obtain ⟨m2,e2⟩:=tbls b _ e1;exact ⟨m1++m2,by rw [e2,Array.append_assoc]⟩
 ·obtain ⟨m,hn,hl⟩:=I.loc
  refine ⟨m,ns m hn,fun i x v e1 e2 e3=>?_⟩;obtain ⟨u,r,l⟩:=hl i x v e1 e2 e3;refine ⟨u,r,?_⟩
  rcases l with l | ⟨k,c,e,z⟩
  ·exact .inl l
  ·exact .inr ⟨k,c,e,cellK x c e _ z⟩
 ·obtain ⟨v,z⟩:=I.cell x c e
  exact ⟨v,cellK x c e v z⟩
 ·obtain ⟨m,⟨o,_,_,ho,_⟩,_⟩:=I.loc
  exact free _ o (fun z=>(hch _ z).2.1 rfl) ho I.free
 ·obtain ⟨v,o,ho,hd⟩:=I.cell x c e
  exact free c o (fun z=>(hch c z).2.2.1 x c e rfl) ho (I.freeC x c e)
 ·obtain ⟨e,n,ne,nf,d⟩:=I.pin p hp
  have nch:p.1 ∉ ch:=fun z=>(hch p.1 z).2.2.2 p hp rfl
  exact ⟨keep p.1 p.2 ne nf nch e n,free p.1 p.2 nch e n,ne,nf,d⟩
theorem Inv.un (I:Inv X aN σ H s)(u:Un X.fs [] H H' s.heap h')(hok:HOk X.prog X.w H' h'):Inv X aN σ H' { s with heap:=h',toks:=t' }:=by
 obtain ⟨m,⟨o,es,ep,ho,r⟩,_⟩:=id I.loc;obtain ⟨sl,hL⟩:=u.any ho I.free (by simp);exact I.step (g':=s.gens) (d':=s.drawn) (ch:=[]) (fun _ z=>nomatch z) (fun b o _ hb _ e n=>u.keep b o e n hb (by simp)) (fun b o _ hb _ e n=>u.slot b o e n hb (by simp)) (fun b o _ e n=>u.free b o e n (by simp)) (fun b o _ e=>u.there b o e (by simp)) u.tups u.frzs u.tbls (fun m' hm=>by
  obtain ⟨o',es',ep',ho',r'⟩:=hm;rw [ho] at ho';cases ho';exact ⟨_,es',ep',hL,r'⟩) hok I.bare
theorem Inv.call {g':Array GenState}{d':Drawn}{ch:List ai}(I:Inv X aN σ H s)(u:Un (frs X.stack) ch H H' s.heap h')(hok:HOk X.prog X.w H' h')(hg:AllBare g')
  (hch:∀ b∈ch,(b∈X.ex∨X.s₀.heap.objs.size≤b)∧b≠X.env.locals∧(∀ x c,X.env.cells.lookup x=some c→c≠b)∧∀ p∈X.pn++aN,p.1≠b) :
  Inv X aN σ H' { s with heap:=h',gens:=g',drawn:=d',toks:=t' }:=by
 obtain ⟨m,⟨o,es,ep,ho,r⟩,_⟩:=id I.loc;obtain ⟨sl,hL⟩:=u.any ho I.free fun z=>(hch _ z).2.1 rfl
 exact I.step (ch:=ch) hch (fun b o hL hb hc e n=>u.keep b o e n (fun z=>(az.mp (I.stkSub b z)).elim hL hb) hc) (fun b o _ _ hc e n=>u.any e n hc) (fun b o hc e n=>u.free b o e n hc) (fun b o hc e=>u.there b o e hc) u.tups u.frzs u.tbls (fun m' hm=>by
  obtain ⟨o',es',ep',ho',r'⟩:=hm;rw [ho] at ho';cases ho';exact ⟨_,es',ep',hL,r'⟩) hok hg
theorem Inv.turned {it:ai}(I:Inv X aN σ H s)(k:∀ b o,b≠it→s.heap.get? b=some o→h'.get? b=some o)(hn:H it=none)(hL:it≠X.env.locals)
  (h1:it∈X.ex∨X.s₀.heap.objs.size≤it) (h2:∀ x c,X.env.cells.lookup x=some c→c≠it) (h3:∀ p∈X.pn++aN,p.1≠it):Inv X aN σ H { s with heap:=h',toks:=t' }:=by
 have nit:∀ b u,H b=some u→b≠it:=fun b u e z=>by rw [z,hn] at e;cases e
 refine I.step (g':=s.gens) (d':=s.drawn) (ch:=[it]) (fun b hb=>?_) (fun b o _ _ hc e _=>k b o (fun z=>hc (by simp [z])) e) (fun b o _ _ hc e _=>⟨o.slots,k b o (fun z=>hc (by simp [z])) e⟩) (fun _ _ _ _ n=>n)
  (fun b o hc e=>⟨o,k b o (fun z=>hc (by simp [z])) e⟩) (fun _ _ e=>e) (fun _ _ _ e=>e) (fun b ps e=>⟨#[],by rw [e];simp⟩) (fun m hm=>?_) (fun b u e=>?_) I.bare
 ·have e:b=it:=by simpa using hb
  subst e;exact ⟨h1,hL,h2,h3⟩
 ·obtain ⟨o,es,ep,ho,r⟩:=hm
  exact ⟨o,es,ep,k _ o (cw hL) ho,r⟩
 ·refine (I.hok b u e).stay (fun c v hc q=>k c v ?_ q) (fun _ q=>q) fun _ _ q=>q
  rcases hc with z | z
  ·rw [z];exact nit b u e
  ·exact nit c _ z
theorem Inv.tok (I:Inv X aN σ H s)(t:Nat):Inv X aN σ H { s with toks:=t }:=I.un (h':=s.heap) (t':=t) Un.refl I.hok
theorem Inv.kept (I:Inv X aN σ H s)(k:∀ b u,s.heap.get? b=some u→h'.get? b=some u):Inv X aN σ H { s with heap:=h',toks:=t' }:=I.un (Un.kept k) (I.hok.kept k)
theorem Inv.laid {o:HO}(I:Inv X aN σ H s)(k:∀ b u,s.heap.get? b=some u→h'.get? b=some u)(hp:s.heap.objs.size≤a)(new:ObjOk X.prog X.w (upd H a o) h' a o) :
  Inv X aN σ (upd H a o) { s with heap:=h',toks:=t' }:=I.un (Un.laid k hp (I.hok.fresh hp)) (I.hok.laid k hp new)
theorem Inv.write {x e:ai}{o:HO}(I:Inv X aN σ H s)(mu:Mut (H x))(he:e=x∨H e=some (.own x))(k:∀ b u,b≠e→s.heap.get? b=some u→h'.get? b=some u)(heo:∃ u,h'.get? e=some u)
  (new:ObjOk X.prog X.w (upd H x o) h' x o):Inv X aN σ (upd H x o) { s with heap:=h',toks:=t' }:=I.un (Un.write mu he k heo) (I.hok.write mu he k heo new)
theorem Inv.pins_of {pins':List (ai×Obj)}(I:Inv X aN σ H s)(h:∀ p∈pins',s.heap.get? p.1=some p.2∧H p.1=none∧p.1≠X.env.locals∧p.1 ∉ X.fs∧∀ v,p.2.data≠ .cell v):Inv X pins' σ H s :=
 ⟨I.ok,I.os,I.bare,I.base,I.loc,I.cell,I.free,I.freeC,fun p hp=>(aM.mp hp).elim (fun z=>I.pin p (aE _ z)) (h p),I.hok,I.len⟩
theorem nodup_ix {N:List Str}(hN:N.Nodup)(a:N[i]? =some x)(b:N[j]? =some x):i=j:=by
 obtain ⟨h1,e1⟩:=ao.mp a;obtain ⟨h2,e2⟩:=ao.mp b;exact (List.getElem_inj hN).mp (e1.trans e2.symm)
theorem store_ok2 {M:Model}{v:V}{Q:Unit→aq→Prop}(I:Inv X aN σ H s)(hN:X.N.Nodup)(hi:X.N[i]? =some x)(hx:Loc X.env.scope x)(r:RelV v u)
  (h:∀ s',Inv X aN (σ.set i (some v)) H s'→(∃ a,dA a s.heap s'.heap∧(a=X.env.locals∨X.env.cells.lookup x=some a))→Q () s') (hf:X.fn x=true∨X.env.scope.names.lookup x=some .local:=by first | exact .inl rfl | exact .inr rfl | assumption):aX M A (storeName X.env x u) Q E s:=by
 obtain ⟨m,hn,hl⟩:=id I.loc;have hcls:(X.env.scope.kind == .class || (X.env.scope.kind == .module && X.env.locals != X.env.globals))=false:=by rw [I.ok.kind];rfl
 have hiσ:i<σ.length:=by rw [I.len];exact (ao.mp hi).1
 have cne:=I.cne;have tracked:∀ {a:ai} {h':bL},(∃ o,s.heap.get? a=some o∧H a=none)→dA a s.heap h'→HOk X.prog X.w H h':=fun {a h'} ha hs b ob e=>by
  obtain ⟨_,_,hfree⟩:=ha;refine (I.hok b ob e).stay (fun c w' hc q=>(hs.2 c ?_).trans q) (fun _ q=>q) fun _ _ q=>q
  rintro rfl
  rcases hc with rfl | hc
  ·rw [hfree] at e;cases e
  ·rw [hfree] at hc;cases hc
 rcases hx with hk | hk
 ·refine wpAny_storeName_local hk hn (fun h' hn' hs=>?_) hcls
  obtain ⟨oL,_,_,hoL,_⟩:=id hn;refine h _ ⟨I.ok,I.os,I.bare,⟨fun b o e n hb hx=>?_,fun b o e n hb hx=>?_,I.base.free,fun b o e hx=>?_,I.base.tups,I.base.frzs,I.base.tbls⟩,⟨_,hn',fun j y v' e1 e2 e3=>?_⟩,fun y c e=>?_,I.free,I.freeC,fun p hp=>?_,tracked ⟨oL,hoL,I.free⟩ hs,by simpa using I.len⟩ ⟨_,hs,.inl rfl⟩
  ·exact (hs.2 b (bI (aQ (aL e) I.ok.above))).trans (I.base.keep b o e n hb hx)
  ·obtain ⟨sl,e1⟩:=I.base.slot b o e n hb hx
   exact ⟨sl,(hs.2 b (bI (aQ (aL e) I.ok.above))).trans e1⟩
  ·obtain ⟨o',e1⟩:=I.base.there b o e hx
   exact ⟨o',(hs.2 b (bI (aQ (aL e) I.ok.above))).trans e1⟩
  ·by_cases hj:j=i
   ·subst hj
    rw [hi] at e1;cases e1;rw [dv hiσ] at e2;cases e2;exact ⟨u,r,.inl ⟨hk,by simp⟩⟩
   ·rw [dk (cw hj)] at e2
    obtain ⟨u',r',q⟩:=hl j y v' e1 e2 e3;refine ⟨u',r',?_⟩
    rcases q with ⟨k,e⟩ | ⟨k,c,e,z⟩
    ·refine .inl ⟨k,?_⟩
     have:y≠x:=fun e=>hj (nodup_ix hN e1 (e ▸ hi))
     simp [this,e]
    ·exact .inr ⟨k,c,e,z.sameBut hs (cne y c e)⟩
  ·obtain ⟨w',z⟩:=I.cell y c e
   exact ⟨w',z.sameBut hs (cne y c e)⟩
  ·obtain ⟨e,n,ne,nf,d⟩:=I.pin p hp
   exact ⟨(hs.2 p.1 ne).trans e,n,ne,nf,d⟩
 ·have hfn:X.fn x=true:=by
   rcases hf with z | z
   ·exact z
   ·rw [z] at hk;cases hk
  obtain ⟨c,hc⟩:=I.ok.has x (.inl hk);obtain ⟨w',z⟩:=I.cell x c hc;refine wpAny_storeName_cell I.ok.kind hk hc z (fun h' hc' hs=>?_);obtain ⟨oc,hoc,hocd⟩:=id z;refine h { s with heap:=h' } ⟨I.ok,I.os,I.bare,⟨fun b o e n hb hx=>?_,fun b o e n hb hx=>?_,I.base.free,fun b o e hx=>?_,I.base.tups,I.base.frzs,I.base.tbls⟩,⟨m,hn.sameBut hs (cw (cne x c hc)),fun j y v' e1 e2 e3=>?_⟩,fun y c' e=>?_,I.free,I.freeC,fun p hp=>?_,tracked ⟨oc,hoc,I.freeC x c hc⟩ hs,by simpa using I.len⟩ ⟨c,hs,.inr hc⟩
  ·exact (hs.2 b (bI (aQ (aL e) (I.ok.cab x c hfn hc)))).trans (I.base.keep b o e n hb hx)
  ·obtain ⟨sl,e1⟩:=I.base.slot b o e n hb hx
   exact ⟨sl,(hs.2 b (bI (aQ (aL e) (I.ok.cab x c hfn hc)))).trans e1⟩
  ·obtain ⟨o',e1⟩:=I.base.there b o e hx
   exact ⟨o',(hs.2 b (bI (aQ (aL e) (I.ok.cab x c hfn hc)))).trans e1⟩
  ·by_cases hj:j=i
   ·subst hj
    rw [hi] at e1;cases e1;rw [dv hiσ] at e2;cases e2;exact ⟨u,r,.inr ⟨.inl hk,c,hc,hc'⟩⟩
   ·rw [dk (cw hj)] at e2
    obtain ⟨u',r',q⟩:=hl j y v' e1 e2 e3;refine ⟨u',r',?_⟩
    rcases q with q | ⟨k,c',e,z'⟩
    ·exact .inl q
    ·refine .inr ⟨k,c',e,z'.sameBut hs ?_⟩
     rintro rfl;exact hj (nodup_ix hN e1 (I.ok.inj _ _ _ e hc ▸ hi))
  ·by_cases hcc:c'=c
   ·subst hcc;exact ⟨_,hc'⟩
   ·obtain ⟨w2,z2⟩:=I.cell y c' e
    exact ⟨w2,z2.sameBut hs hcc⟩
  ·obtain ⟨e,n,ne,nf,d⟩:=I.pin p hp
   refine ⟨(hs.2 p.1 ?_).trans e,n,ne,nf,d⟩;intro q;rw [q,hoc] at e;have q':oc=p.2:=bZ e;exact d w' (by rw [←q'];exact hocd)
theorem store_ok {M:Model}{v:V}{Q:Unit→aq→Prop}(I:Inv X aN σ H s)(hN:X.N.Nodup)(hi:X.N[i]? =some x)(hx:Loc X.env.scope x)(r:RelV v u)
  (h:∀ s',Inv X aN (σ.set i (some v)) H s'→Q () s') (hf:X.fn x=true∨X.env.scope.names.lookup x=some .local:=by first | exact .inl rfl | exact .inr rfl | assumption):aX M A (storeName X.env x u) Q E s :=
 store_ok2 I hN hi hx r (fun s' I' _=>h s' I') hf
theorem Inv.call' {s':aq}{ch:List ai}(I:Inv X aN σ H s)(ho:s'.os=s.os)(u:Un (frs X.stack) ch H H' s.heap s'.heap)(hok:HOk X.prog X.w H' s'.heap)(hg:AllBare s'.gens)
  (hch:∀ b∈ch,(b∈X.ex∨X.s₀.heap.objs.size≤b)∧b≠X.env.locals∧(∀ x c,X.env.cells.lookup x=some c→c≠b)∧∀ p∈X.pn++aN,p.1≠b):Inv X aN σ H' s':=by
 obtain ⟨h',g',d',t',o'⟩:=s';have e:o'=s.os:=ho;subst e;exact I.call (g':=g') (t':=t') (d':=d') u hok hg hch
end
abbrev XK:=ae→Option ai→Hp→Prop
abbrev St:=List (Option V)
abbrev VK:=V→Hp→Prop
abbrev TE:=St→Hp→VK→Prop
abbrev TT:=St→Hp→(Bool→Hp→Prop)→Prop
abbrev TA:=St→Hp→(List V→Hp→Prop)→Prop
end L2
variable {H H' H1:L2.Hp}{X:L2.Cx}{kvs:List (List L2.Key×L2.V)}{o:L2.HO}{t:L2.TA}{te:L2.TE}{tt:L2.TT}{v y:L2.V}{xs ys:List L2.V}{σ:L2.St}
namespace L2
open PySem PySem.Spec PyProof.Rows
structure Ends where
 nx:St→Hp→Prop
 rt:VK
 bk:St→Hp→Prop:=fun _ _=>False
 ct:St→Hp→Prop:=fun _ _=>False
abbrev TS:=Ends→St→Hp→Prop
def EP (X:Cx)(aN:List (ai×Obj))(σ:St)(Q:VK)(u:ae)(s':aq):Prop:=∃ v H',Inv X aN σ H' s'∧RelV v u∧Q v H'
def TP (X:Cx)(aN:List (ai×Obj))(σ:St)(Q:Bool→Hp→Prop)(b:Bool)(s':aq):Prop:=∃ H',Inv X aN σ H' s'∧Q b H'
def AP (X:Cx)(aN:List (ai×Obj))(σ:St)(Q:List V→Hp→Prop)(us:List ae)(s':aq):Prop:=∃ vs H',Inv X aN σ H' s'∧Vals vs us∧Q vs H'
def SP (X:Cx)(aN:List (ai×Obj))(D:Ends)(f:Flow)(s':aq):Prop :=
 match f with
 | .next=>∃ σ' H',Inv X aN σ' H' s'∧D.nx σ' H'
 | .brk=>∃ σ' H',Inv X aN σ' H' s'∧D.bk σ' H'
 | .cont=>∃ σ' H',Inv X aN σ' H' s'∧D.ct σ' H'
 | .ret u=>∃ v σ' H',Inv X aN σ' H' s'∧RelV v u∧D.rt v H'
def PE (X:Cx)(e:Expr)(t:TE):Prop :=
 ∀ (aN:List (ai×Obj)) (s:aq) (σ:St) (H:Hp) (Q:VK),Inv X aN σ H s→t σ H Q→aX (br X.prog X.w) X.A (eu e X.env) (EP X aN σ Q) X.xe s
def PT (X:Cx)(e:Expr)(t:TT):Prop :=
 ∀ (aN:List (ai×Obj)) (s:aq) (σ:St) (H:Hp) (Q:Bool→Hp→Prop),Inv X aN σ H s→t σ H Q→aX (br X.prog X.w) X.A (isTrue e X.env (eu e X.env)) (TP X aN σ Q) X.xe s
def PW (X:Cx)(e:Expr)(t:TT):Prop :=
 ∀ (whole:Sem ae) (aN:List (ai×Obj)) (s:aq) (σ:St) (H:Hp) (Q:Bool→Hp→Prop),Inv X aN σ H s→t σ H Q→aX (br X.prog X.w) X.A (isTrue e X.env whole) (TP X aN σ Q) X.xe s
theorem PW.pt {t:TT}(h:PW X e t):PT X e t:=h _
def PA (X:Cx)(es:List Expr)(t:TA):Prop :=
 ∀ (pos:Pos) (aN:List (ai×Obj)) (s:aq) (σ:St) (H:Hp) (Q:List V→Hp→Prop),Inv X aN σ H s→t σ H Q→aX (br X.prog X.w) X.A (spliced (gw pos (bE es X.env))) (AP X aN σ Q) X.xe s
def PS (X:Cx)(st:cP)(t:TS):Prop :=
 ∀ (aN:List (ai×Obj)) (s:aq) (σ:St) (H:Hp) (D:Ends),Inv X aN σ H s→t D σ H→aX (br X.prog X.w) X.A (exec st X.env) (SP X aN D) X.xe s
def PSs (X:Cx)(st:List cP)(t:TS):Prop :=
 ∀ (aN:List (ai×Obj)) (s:aq) (σ:St) (H:Hp) (D:Ends),Inv X aN σ H s→t D σ H→aX (br X.prog X.w) X.A (execs st X.env) (SP X aN D) X.xe s
theorem thn {t:Sem α}{Q Q':α→aq→Prop}{M:Model}(h:aX M A t Q E s)(hQ:∀ a s,Q a s→Q' a s):aX M A t Q' E s:=b9 h hQ fun _ _ x=>x
section
inductive HasV (o:Option (Option V))(k:V→Prop):Prop
 | mk (v:V)(h:o=some (some v))(q:k v):HasV o k
inductive IsBl (x:V)(k:Bool→Prop):Prop
 | mk (c:Bool)(h:x= .bl c)(q:k c):IsBl x k
def tVar (i:Nat):TE:=fun σ H Q=>HasV σ[i]? fun v=>Q v H
def tC (v:V):TE:=fun _ H Q=>Q v H
theorem pe_var (hN:X.N[i]? =some x)(hv:Vis X.env.scope x)(hd:(x == ("__debug__" :Str))=false:=by decide)(hcd:(x == ("__classdict__" :Str))=false:=by decide):PE X (.Name x pos) (tVar i):=by
 intro aN s σ H Q I h;obtain ⟨v,e,h⟩:=h;obtain ⟨m,hn,hl⟩:=I.loc;obtain ⟨u,r,l⟩:=hl i x v hN e hv;have fin:EP X aN σ Q u s:=⟨v,H,I,r,h⟩
 rcases l with ⟨hk,hm⟩ | ⟨hk,c,hc,ij⟩
 ·exact wpAny_Name (wpAny_loadName_local I.ok.kind hk hn hm fin) hd
 ·rcases hk with hk | hk
  ·exact wpAny_Name (wpAny_loadName_cell I.ok.kind hk hc ij fin) hd
  ·exact wpAny_Name (wpAny_loadName_free I.ok.kind hk hc ij fin hcd) hd
theorem bo {i j pos}:PE X (.Constant (.int i) j pos) (tC (.int i)):=fun _ _ _ H _ I h=>wpAny_Constant_int ⟨.int i,H,I.tok _,⟨_,rfl⟩,h⟩
theorem pe_bl {b j pos}:PE X (.Constant (.bool b) j pos) (tC (.bl b)):=fun _ _ _ H _ I h=>Constant_bool ⟨.bl b,H,I,rfl,h⟩
theorem kL {j pos}:PE X (.Constant .none j pos) (tC .non):=fun _ _ _ H _ I h=>Constant_none ⟨.non,H,I,rfl,h⟩
theorem lI {x j pos}:PE X (.Constant (.str x) j pos) (tC (.str x)):=fun _ _ _ H _ I h=>Calls.Constant_str ⟨.str x,H,I.tok _,⟨_,rfl⟩,h⟩
def Gl (X:Cx)(x:Str):Prop:=X.env.kindOf x=some .globalImplicit
theorem ld_glob (I:Inv X aN σ H s)(hg:Gl X x)(hm:X.mg x=some u)(h:Q u s)
  (hd:(x == ("__debug__" :Str))=false:=by decide):aX (br X.prog X.w) X.A (eu (.Name x pos) X.env) Q E s :=
 Calls.Name_function_global I.ok.kind hg (Calls.loadGlobal_global (by rw [I.ok.glob];exact I.mod.glob.keeps I.bk) hm h) hd
theorem kq (I:Inv X aN σ H s)(hg:Gl X x)(hm:X.mg x=none)(hv:bootBuiltins x=some u)(h:Q u s)
  (hn:x ≠ "__name__" := by decide) (hd:(x == ("__debug__" :Str))=false:=by decide):aX (br X.prog X.w) X.A (eu (.Name x pos) X.env) Q E s:=by
 obtain ⟨mb,h1,h2⟩:=I.mod.blt;exact Calls.Name_function_global I.ok.kind hg (Calls.loadGlobal_builtin (by rw [I.ok.glob];exact I.mod.glob.keeps I.bk) hm (by rw [I.ok.blt];exact h1.keeps I.bk) ((h2 x hn).trans hv) h) hd
theorem pe_glob (hg:Gl X x)(hm:X.mg x=some u)(r:RelV v u)(hd:(x == ("__debug__" :Str))=false:=by decide):PE X (.Name x pos) (tC v) :=
 fun _ _ _ H _ I h=>ld_glob I hg hm ⟨v,H,I,r,h⟩ hd
theorem pe_bltn (hg:Gl X x)(hm:X.mg x=none)(hv:bootBuiltins x=some u)(r:RelV v u)(hn:x ≠ "__name__" := by decide)(hd:(x == ("__debug__" :Str))=false:=by decide):PE X (.Name x pos) (tC v) :=
 fun _ _ _ H _ I h=>kq I hg hm hv ⟨v,H,I,r,h⟩ hn hd
variable {a b:Expr}{ta tb:TE}
def PC (X:Cx)(op:CmpOp)(a b:Expr)(t:TE):Prop :=
 ∀ (aN:List (ai×Obj)) (s:aq) (σ:St) (H:Hp) (Q:VK),Inv X aN σ H s→t σ H Q →
  aX (br X.prog X.w) X.A (eu a X.env) (fun v s₁=>aX (br X.prog X.w) X.A (eu b X.env) (fun u s₂=>aX (br X.prog X.w) X.A (fG op v u) (EP X aN σ Q) X.xe s₂) X.xe s₁) X.xe s
def tB (t:TE):TT:=fun σ H Q=>t σ H fun x H1=>IsBl x fun c=>Q c H1
theorem pt_cmp {op:CmpOp}{t:TE}(h:PC X op a b t)(h1:behindInMarks op b=false:=by first | exact nobehind _ (by decide) (by decide) | rfl):PT X (.Compare a [op] [b] pos) (tB t):=by
 intro aN s σ H Q I hw;refine wpAny_isTrue_Compare1 (thn (h aN s σ H _ I hw) fun v s1 h1=>thn h1 fun u s2 h2=>thn h2 fun c s3 ⟨x,H1,I1,r1,q1⟩=>?_) h1;obtain ⟨d,rfl,q⟩:=q1;cases r1;exact hV ⟨H1,I1,q⟩
theorem pt_val {t:TE}(h:PE X e t)(he:∀ whole,isTrue e X.env whole=(do let v ← whole;standAt e.pos;holding [v] (truthy v)):=by intro _;rfl):PT X e (tB t):=by
 intro aN s σ H Q I hw;refine isTrue_plain (thn (h aN s σ H _ I hw) fun v s1 ⟨x,H1,I1,r1,q1⟩=>?_) (he _);obtain ⟨d,rfl,q⟩:=q1;cases r1;exact hV ⟨H1,I1,q⟩
variable {tA tB':TT} {rest:List Expr}
def tAnd (t u:TT):TT:=fun σ H Q=>t σ H fun c H1=>if c=true then u σ H1 Q else Q false H1
def tOr (t u:TT):TT:=fun σ H Q=>t σ H fun c H1=>if c=true then Q true H1 else u σ H1 Q
def tNot (t:TT):TT:=fun σ H Q=>t σ H fun c H1=>Q (!c) H1
theorem pw_and1 (ha:PT X a tA):PW X (.BoolOp .And [a] pos) tA:=by
 intro wh aN s σ H Q I h;refine isTrue_and (thn (ha aN s σ H Q I h) fun c s1 e=>?_);cases c with
 | true=>exact isTrue_and_nil e
 | false=>exact e
theorem pw_or1 (ha:PT X a tA):PW X (.BoolOp .Or [a] pos) tA:=by
 intro wh aN s σ H Q I h;refine isTrue_or (thn (ha aN s σ H Q I h) fun c s1 e=>?_);cases c with
 | false=>exact isTrue_or_nil e
 | true=>exact e
theorem pw_and (ha:PT X a tA)(hb:PW X (.BoolOp .And (b::rest) pos) tB'):PW X (.BoolOp .And (a::b::rest) pos) (tAnd tA tB'):=by
 intro wh aN s σ H Q I h;refine isTrue_and (thn (ha aN s σ H _ I h) fun c s1 ⟨H1,I1,q1⟩=>?_);cases c with
 | true=>exact hb wh aN s1 σ H1 Q I1 q1
 | false=>exact ⟨H1,I1,q1⟩
theorem pw_or (ha:PT X a tA)(hb:PW X (.BoolOp .Or (b::rest) pos) tB'):PW X (.BoolOp .Or (a::b::rest) pos) (tOr tA tB'):=by
 intro wh aN s σ H Q I h;refine isTrue_or (thn (ha aN s σ H _ I h) fun c s1 ⟨H1,I1,q1⟩=>?_);cases c with
 | true=>exact ⟨H1,I1,q1⟩
 | false=>exact hb wh aN s1 σ H1 Q I1 q1
theorem pt_not (ha:PT X a tA):PT X (.UnaryOp .Not a pos) (tNot tA):=by
 intro aN s σ H Q I h;exact isTrue_not (ha aN s σ H (fun c H1=>Q (!c) H1) I h)
def tAndV (ta tb:TE):TE:=fun σ H Q=>ta σ H fun x H1=>IsBl x fun c=>if c=true then tb σ H1 Q else Q (.bl false) H1
theorem pe_one {op}{t:TE}(h:PE X a t):PE X (.BoolOp op [a] pos) t:=fun aN s σ H Q I hw=>BoolOp_one (h aN s σ H Q I hw)
theorem pe_and (ha:PE X a ta)(hb:PE X (.BoolOp .And (b::rest) pos) tb):PE X (.BoolOp .And (a::b::rest) pos) (tAndV ta tb):=by
 intro aN s σ H Q I h;refine BoolOp_and (thn (ha aN s σ H _ I h) fun v s1 ⟨x,H1,I1,r1,q1⟩=>?_);obtain ⟨c,rfl,q1⟩:=q1;cases r1;refine hV ?_;cases c with
 | true=>exact hb aN s1 σ H1 Q I1 q1
 | false=>exact ⟨.bl false,H1,I1,rfl,q1⟩
def tIf (t:TT)(ta tb:TE):TE:=fun σ H Q=>t σ H fun c H1=>if c=true then ta σ H1 Q else tb σ H1 Q
theorem kE {c:Expr}(hc:PT X c tA)(ha:PE X a ta)(hb:PE X b tb):PE X (.IfExp c a b pos) (tIf tA ta tb):=by
 intro aN s σ H Q I h;refine wpAny_IfExp (thn (hc aN s σ H _ I h) fun d s1 ⟨H1,I1,q1⟩=>?_);cases d with
 | true=>exact ha aN s1 σ H1 Q I1 q1
 | false=>exact hb aN s1 σ H1 Q I1 q1
end
def SqL (K:ak)(H:Hp)(a:ai)(xs:List V):Prop :=
 Rd H a (.lst xs) ∨
  ∃ (o:Obj) (its:Array ae) (n:Nat),K.lookup a=some o∧o.cls= .type "list" ∧o.dict=none∧o.data= .seq its n∧its.size≤bj∧Vals xs its.toList
def SqT (K:ak)(H:Hp)(a:ai)(xs:List V):Prop :=
 Rd H a (.tup xs) ∨
  ∃ (o:Obj) (its:Array ae) (n:Nat),K.lookup a=some o∧o.cls= .type "tuple" ∧o.data= .seq its n∧its.size≤bj∧Vals xs its.toList
def absV:ae→Option V
 | .none=>some .non
 | .bool b=>some (.bl b)
 | .int i _=>some (.int i)
 | .str x _=>some (.str x)
 | .bytes b _=>some (.byt b)
 | .float b _=>some (.flt b)
 | .ref a=>some (.ref a)
 | .type n=>some (.ty n)
 | _=>none
theorem RelV.abs {x:V}(r:RelV x u):absV u=some x:=by
 cases x with
 | non=>cases r;rfl
 | bl _=>cases r;rfl
 | int _=>obtain ⟨t,rfl⟩:=r;rfl
 | str _=>obtain ⟨t,rfl⟩:=r;rfl
 | byt _=>obtain ⟨t,rfl⟩:=r;rfl
 | flt _=>obtain ⟨t,rfl⟩:=r;rfl
 | ref _=>cases r;rfl
 | ty _=>cases r;rfl
theorem RelV.inj {x:V}(r:RelV x u)(q:RelV y u):x=y:=bZ (r.abs.symm.trans q.abs)
theorem Vals.inj:∀ {xs ys:List V} {us:List ae},Vals xs us→Vals ys us→xs=ys
 | _,_,_,.nil,.nil=>rfl
 | _,_,_,.cons r t,.cons r' t'=>by rw [r.inj r',Vals.inj t t']
theorem SqL.of (h:H a=some (.lst xs)):SqL K H a xs:= .inl (.inl h)
theorem SqT.of (h:H a=some (.tup xs)):SqT K H a xs:= .inl (.inl h)
theorem Inv.list (I:Inv X aN σ H s)(h:SqL X.K H a xs):∃ its:List ae,Vals xs its∧PlainL s.heap a its.toArray∧xs.length≤bj:=by
 rcases h with h | ⟨o,its,n,hk,hc,hd,hs,hz,r⟩
 ·obtain ⟨z,its,n,r,e⟩:=h.ok I.hok
  exact ⟨its,r,⟨_,n,e,rfl,rfl,rfl⟩,z⟩
 ·refine ⟨its.toList,r,⟨o,n,I.kIn a o hk,hc,hd,by simpa using hs⟩,?_⟩
  have e:=r.length;simp only [cX] at e;omega
theorem Inv.tuple (I:Inv X aN σ H s)(h:SqT X.K H a xs):∃ its:List ae,Vals xs its∧IsTup s.heap a its.toArray∧xs.length≤bj:=by
 rcases h with h | ⟨o,its,n,hk,hc,hs,hz,r⟩
 ·obtain ⟨z,its,r,p⟩:=h.ok I.hok
  exact ⟨its,r,p.tup,z⟩
 ·refine ⟨its.toList,r,⟨o,I.kIn a o hk,hc,n,by simpa using hs⟩,?_⟩
  have e:=r.length;simp only [cX] at e;omega
theorem Inv.list_inj (I:Inv X aN σ H s)(h:SqL X.K H a xs)(h':SqL X.K H a ys):xs=ys:=by
 obtain ⟨its,r,⟨o,n,e,_,_,d⟩,_⟩:=I.list h;obtain ⟨its',r',⟨o',n',e',_,_,d'⟩,_⟩:=I.list h';rw [e] at e';cases e';rw [d] at d';injection d' with d1 _
 have:its=its':=by simpa using pf Array.toList d1
 subst this;exact r.inj r'
theorem Inv.tuple_inj (I:Inv X aN σ H s)(h:SqT X.K H a xs)(h':SqT X.K H a ys):xs=ys:=by
 obtain ⟨its,r,⟨o,e,_,n,d⟩,_⟩:=I.tuple h;obtain ⟨its',r',⟨o',e',_,n',d'⟩,_⟩:=I.tuple h';rw [e] at e';cases e';rw [d] at d';injection d' with d1 _
 have:its=its':=by simpa using pf Array.toList d1
 subst this;exact r.inj r'
abbrev Cx.wish (X:Cx)(E:ae→aq→Prop):Cx:={ X with xe:=E }
abbrev Cx.nox (X:Cx):Cx:=X.wish fun _ _=>False
theorem Cx.Ok.wish (ok:X.Ok)(E:ae→aq→Prop):(X.wish E).Ok :=
 ⟨ok.mod,ok.kind,ok.glob,ok.blt,ok.above,ok.inj,ok.has,ok.cab,ok.hd,ok.frames,ok.stk,ok.exf,ok.bs,ok.bsz,ok.noex,ok.exfs,ok.funs,ok.frf⟩
theorem Cx.Ok.unwish (ok:(X.wish E).Ok):X.Ok :=
 ⟨ok.mod,ok.kind,ok.glob,ok.blt,ok.above,ok.inj,ok.has,ok.cab,ok.hd,ok.frames,ok.stk,ok.exf,ok.bs,ok.bsz,ok.noex,ok.exfs,ok.funs,ok.frf⟩
theorem Inv.wish (I:Inv X aN σ H s)(E:ae→aq→Prop):Inv (X.wish E) aN σ H s:=⟨I.ok.wish E,I.os,I.bare,I.base,I.loc,I.cell,I.free,I.freeC,I.pin,I.hok,I.len⟩
theorem Inv.unwish (I:Inv (X.wish E) aN σ H s):Inv X aN σ H s:=⟨I.ok.unwish,I.os,I.bare,I.base,I.loc,I.cell,I.free,I.freeC,I.pin,I.hok,I.len⟩
theorem SP.unwish {D:Ends}{f:Flow}{s':aq}(h:SP (X.wish E) aN D f s'):SP X aN D f s':=by
 cases f with
 | next=>obtain ⟨σ',H',I,q⟩:=h;exact ⟨σ',H',I.unwish,q⟩
 | brk=>obtain ⟨σ',H',I,q⟩:=h;exact ⟨σ',H',I.unwish,q⟩
 | cont=>obtain ⟨σ',H',I,q⟩:=h;exact ⟨σ',H',I.unwish,q⟩
 | ret u=>obtain ⟨v,σ',H',I,r,q⟩:=h;exact ⟨v,σ',H',I.unwish,r,q⟩
theorem PSs.nox {st:List cP}{t:TS}(h:PSs X.nox st t):PSs X st t:=fun aN s σ H D I hw =>
 b9 (h aN s σ H D (I.wish _) hw) (fun _ _ q=>q.unwish) fun _ _ z=>cN z
section
variable {rest:List cP}{t u:TS}
def tNext:TS:=fun D σ H=>D.nx σ H
def tSeq (t u:TS):TS:=fun D σ H=>t { D with nx:=u D } σ H
theorem fv:PSs X [] tNext:=fun _ _ σ H _ I h=>wpAny_execs_nil ⟨σ,H,I,h⟩
theorem mP (h1:PS X st t)(h2:PSs X rest u):PSs X (st::rest) (tSeq t u):=by
 intro aN s σ H D I h;refine wpAny_execs_cons (thn (h1 aN s σ H { D with nx:=u D } I h) fun f s1 q=>?_);cases f with
 | next =>
  obtain ⟨σ',H',I',q⟩:=q;exact h2 aN s1 σ' H' D I' q
 | ret v=>exact q
 | brk=>exact q
 | cont=>exact q
theorem df (h1:PS X st t):PSs X [st] t:=by
 intro aN s σ H D I h;refine wpAny_execs_cons (thn (h1 aN s σ H D I h) fun f s1 q=>?_);cases f with
 | next=>exact wpAny_execs_nil q
 | ret v=>exact q
 | brk=>exact q
 | cont=>exact q
theorem Inv.quiet (I:Inv X aN σ H s):interactive X.env=false:=by simp [interactive,I.ok.kind]
def tDrop (te:TE):TS:=fun D σ H=>te σ H fun _ H1=>D.nx σ H1
theorem jh (he:PE X e te)(hs:swapsWith e none pos.line X.env=fH false:=by rfl):PS X (.Expr e pos) (tDrop te):=by
 intro aN s σ H D I h;exact wpAny_Expr_any (thn (he aN s σ H _ I h) fun v s1 ⟨x,H1,I1,r1,q1⟩=>⟨σ,H1,I1,q1⟩) I.quiet hs
def tRet (te:TE):TS:=fun D σ H=>te σ H D.rt
theorem cz (he:PE X e te):PS X (.Return (some e) pos) (tRet te):=by
 intro aN s σ H D I h;exact wpAny_Return_some (thn (he aN s σ H _ I h) fun v s1 ⟨x,H1,I1,r1,q1⟩=>⟨x,σ,H1,I1,r1,q1⟩)
def tIfS (c:TT)(t u:TS):TS:=fun D σ H=>c σ H fun b H1=>if b=true then t D σ H1 else u D σ H1
theorem i7 {c:Expr}{a b:List cP}{tc:TT}(hc:PT X c tc)(ha:PSs X a t)(hb:PSs X b u):PS X (.If c a b pos) (tIfS tc t u):=by
 intro aN s σ H D I h;refine wpAny_If (thn (hc aN s σ H _ I h) fun d s1 ⟨H1,I1,q1⟩=>?_);cases d with
 | true=>exact ha aN s1 σ H1 D I1 q1
 | false=>exact hb aN s1 σ H1 D I1 q1
end
abbrev TG:=V→St→Hp→(St→Hp→Prop)→Prop
abbrev TGs:=List V→St→Hp→(St→Hp→Prop)→Prop
def PG (X:Cx)(target:Expr)(t:TG):Prop :=
 ∀ (aN:List (ai×Obj)) (s:aq) (σ:St) (H:Hp) (v:V) (u:ae) (Q:St→Hp→Prop),Inv X aN σ H s→RelV v u→t v σ H Q →
  aX (br X.prog X.w) X.A (assign target X.env u) (fun _ s'=>∃ σ' H',Inv X aN σ' H' s'∧Q σ' H') X.xe s
def PGs (X:Cx)(ts:List Expr)(t:TGs):Prop :=
 ∀ (aN:List (ai×Obj)) (s:aq) (σ:St) (H:Hp) (vs:List V) (us:List ae) (Q:St→Hp→Prop),Inv X aN σ H s→Vals vs us→t vs σ H Q →
  aX (br X.prog X.w) X.A (assignInOrder ((assignEach ts X.env).map (·.2)) us) (fun _ s'=>∃ σ' H',Inv X aN σ' H' s'∧Q σ' H') X.xe s
abbrev TSet:=V→V→V→Hp→(Hp→Prop)→Prop
def PSet (X:Cx)(t:TSet):Prop :=
 ∀ (aN:List (ai×Obj)) (s:aq) (σ:St) (H:Hp) (o i v:V) (ov iv u:ae) (Q:Hp→Prop),Inv X aN σ H s→RelV o ov→RelV i iv→RelV v u→t o i v H Q →
  aX (br X.prog X.w) X.A (setItem ov iv u) (fun _ s'=>∃ H',Inv X aN σ H' s'∧Q H') X.xe s
abbrev TIp:=V→V→Hp→VK→Prop
def PIp (X:Cx)(op:Operator)(t:TIp):Prop :=
 ∀ (aN:List (ai×Obj)) (s:aq) (σ:St) (H:Hp) (x y:V) (v u:ae) (Q:VK),Inv X aN σ H s→RelV x v→RelV y u→t x y H Q →
  aX (br X.prog X.w) X.A (inplaceOp op v u) (EP X aN σ Q) X.xe s
def ox (i:Nat):TG:=fun v σ H Q=>Q (σ.set i (some v)) H
theorem dX (hN:X.N.Nodup)(hi:X.N[i]? =some x)(hx:Loc X.env.scope x)(hf:X.fn x=true∨X.env.scope.names.lookup x=some .local:=by first | exact .inl rfl | exact .inr rfl | assumption):PG X (.Name x pos) (ox i):=by
 intro aN s σ H v u Q I r h;exact wpAny_assign_Name (store_ok I hN hi hx r (fun s' I'=>⟨_,H,I',h⟩) hf)
def gNil:TGs:=fun vs σ H Q=>vs=[]∧Q σ H
def gCons (t:TG)(u:TGs):TGs:=fun vs σ H Q=>∃ v r,vs=v::r∧t v σ H fun σ' H'=>u r σ' H' Q
theorem nU:PGs X [] gNil:=by
 intro aN s σ H vs us Q I r h;obtain ⟨e,h⟩:=h;subst e;cases r;exact assignInOrder_nil ⟨σ,H,I,h⟩
theorem iG {t:TG}{u:TGs}(h1:PG X e t)(h2:PGs X es u)
  (hs:(assignEach (e::es) X.env).map (·.2)=assign e X.env::(assignEach es X.env).map (·.2):=by rfl):PGs X (e::es) (gCons t u):=by
 intro aN s σ H vs us Q I r h;obtain ⟨v,vr,e1,h⟩:=h;subst e1;cases r with
 | cons r rr =>
  rw [hs];refine assignInOrder_cons (thn (h1 aN s σ H _ _ _ I r h) fun _ s1 ⟨σ1,H1,I1,q1⟩=>?_);exact h2 aN s1 σ1 H1 _ _ Q I1 rr q1
def gTup (K:ak)(n:Nat)(t:TGs):TG:=fun v σ H Q=>∃ a xs,v= .ref a∧SqT K H a xs∧xs.length=n∧t xs σ H Q
theorem pg_tup {k:Nat}{t:TGs}(hc:X.calm=true)(h:PGs X es t)
  (hn:(assignEach es X.env).length=n:=by rfl) (hst:(assignEach es X.env).findIdx? (·.1)=none:=by rfl):PG X (.Tuple es k pos) (gTup X.K n t):=by
 intro aN s σ H v u Q I r hw;obtain ⟨a,xs,e1,hq,hl,hw⟩:=hw;subst e1;cases r;obtain ⟨its,rv,ht,hz⟩:=I.tuple hq;refine assign_Tuple_tuple (I.ok.hd hc) ht (by simp [hn,←hl,rv.length]) hst fun h' hx=>?_
 have I1:Inv X aN σ H { s with heap:=h' }:=I.kept (t':=s.toks) fun b o e=>hx b o (bI (aL e)) e
 exact h aN _ σ H xs _ Q I1 (by simpa using rv) hw
def gSub (to ti:TE)(t:TSet):TG:=fun v σ H Q=>to σ H fun o H1=>ti σ H1 fun i H2=>t o i v H2 fun H3=>Q σ H3
theorem pg_sub {o i:Expr}{to ti:TE}{t:TSet}(ho:PE X o to)(hi:PE X i ti)(hs:PSet X t)
  (ha:∀ v,assign (.Subscript o i pos) X.env v=(do
   let ov ← holding [v] (eu o X.env)
   let iv ← holding [v,ov] (eu i X.env)
   standAt pos
   holding [v,ov,iv] (setItem ov iv v)
   release [v,ov,iv] []):=by intro _;rfl):PG X (.Subscript o i pos) (gSub to ti t):=by
 intro aN s σ H v u Q I r h;rw [ha];refine ah (d7 (thn (ho aN s σ H _ I h) fun ov s1 ⟨x,H1,I1,r1,q1⟩=>?_));refine ah (d7 (thn (hi aN s1 σ H1 _ I1 q1) fun iv s2 ⟨y,H2,I2,r2,q2⟩=>?_));refine ah (wpAny_standAt (ah (d7 (thn (hs aN s2 σ H2 x y v ov iv u _ I2 r1 r2 r q2) fun _ s3 ⟨H3,I3,q3⟩=>?_))));exact wpAny_release ⟨σ,H3,I3,q3⟩
def tAsg (te:TE)(g:TG):TS:=fun D σ H=>te σ H fun x H1=>g x σ H1 D.nx
theorem ps_asg {g:TG}(he:PE X e te)(hg:PG X tg g)(hs:swapsWithSole [tg] e pos.line X.env=fH false:=by rfl)(hw:swappedStores [tg] e X.env=fH none:=by rfl)
  (h1:(assignEach [tg] X.env).map (·.2)=[assign tg X.env]:=by rfl):PS X (.Assign [tg] e pos) (tAsg te g):=by
 intro aN s σ H D I h;refine wpAny_Assign_stores (thn (he aN s σ H _ I h) fun v s1 ⟨x,H1,I1,r1,q1⟩=>?_) hs hw;rw [h1];exact thn (hg aN s1 σ H1 x v _ I1 r1 q1) fun _ s2 q=>q
theorem bD {pos':Pos}(hN:X.N.Nodup)(hi:X.N[i]? =some x)(hx:Loc X.env.scope x)(he:PE X e te)(hs:swapsWith e (some (.Name x pos')) pos.line X.env=fH false:=by rfl)(hf:X.fn x=true∨X.env.scope.names.lookup x=some .local:=by first | exact .inl rfl | exact .inr rfl | assumption) :
  PS X (.Assign [.Name x pos'] e pos) (tAsg te (ox i)):=by
 intro aN s σ H D I h;refine wpAny_Assign_Name (thn (he aN s σ H _ I h) fun v s1 ⟨y,H1,I1,r1,q1⟩=>?_) hs;exact store_ok I1 hN hi hx r1 (fun s2 I2=>⟨_,H1,I2,q1⟩) hf
def tAug (i:Nat)(te:TE)(ti:TIp):TS:=fun D σ H=>∃ x,σ[i]? =some (some x)∧te σ H fun y H1=>ti x y H1 fun z H2=>D.nx (σ.set i (some z)) H2
theorem nQ {op:Operator}{ti:TIp}{pos':Pos}(hN:X.N.Nodup)(hi:X.N[i]? =some x)(hx:Loc X.env.scope x)(he:PE X e te)(ho:PIp X op ti)(hf:X.fn x=true∨X.env.scope.names.lookup x=some .local:=by first | exact .inl rfl | exact .inr rfl | assumption) :
  PS X (.AugAssign (.Name x pos') op e pos) (tAug i te ti):=by
 intro aN s σ H D I h;obtain ⟨v,e1,h⟩:=h;obtain ⟨m,hn,hl⟩:=I.loc;have vis:Vis X.env.scope x:=by rcases hx with k | k;exact .inl k;exact .inr (.inl k)
 obtain ⟨u,r,l⟩:=hl i x v hi e1 vis;refine wpAny_AugAssign_Name ?_;have go:aX (br X.prog X.w) X.A (eu e X.env) (fun w s₂=>aX (br X.prog X.w) X.A (inplaceOp op u w) (fun r s₃=>aX (br X.prog X.w) X.A (storeName X.env x r) (fun _=>SP X aN D .next) X.xe s₃) X.xe s₂) X.xe s:=by
  refine thn (he aN s σ H _ I h) fun w s1 ⟨y,H1,I1,r1,q1⟩=>?_
  refine thn (ho aN s1 σ H1 v y u w _ I1 r r1 q1) fun z s2 ⟨zv,H2,I2,r2,q2⟩=>?_
  exact store_ok I2 hN hi hx r2 (fun s3 I3=>⟨_,H2,I3,q2⟩) hf
 rcases l with ⟨hk,hm⟩ | ⟨hk,c,hc,ij⟩
 ·exact wpAny_loadName_local I.ok.kind hk hn hm go
 ·rcases hk with hk | hk
  ·exact wpAny_loadName_cell I.ok.kind hk hc ij go
  ·rcases hx with k | k
   ·have:X.env.scope.names.lookup x=some .free:=hk
    rw [k] at this;cases this
   ·have:X.env.scope.names.lookup x=some .free:=hk
    rw [k] at this;cases this
def tAugS (to ti te:TE)(tget:V→V→Hp→VK→Prop)(tip:TIp)(tset:TSet):TS:=fun D σ H=>to σ H fun o H1=>ti σ H1 fun i H2=>tget o i H2 fun x H3=>te σ H3 fun y H4=>tip x y H4 fun z H5=>tset o i z H5 fun H6=>D.nx σ H6
def PGet (X:Cx)(t:V→V→Hp→VK→Prop):Prop :=
 ∀ (aN:List (ai×Obj)) (s:aq) (σ:St) (H:Hp) (o i:V) (ov iv:ae) (Q:VK),Inv X aN σ H s→RelV o ov→RelV i iv→t o i H Q →
  aX (br X.prog X.w) X.A (getItem ov iv) (EP X aN σ Q) X.xe s
theorem ps_augS {o i:Expr}{to ti:TE}{tget:V→V→Hp→VK→Prop}{tip:TIp}{tset:TSet}{op:Operator}{tpos:Pos}(ho:PE X o to)(hi:PE X i ti)(hg:PGet X tget)(he:PE X e te)(hp:PIp X op tip)(hs:PSet X tset)
  (ha:∀ ov iv new,augStore i ov iv new=(do holding [new,ov,iv] (setItem ov iv new);release [new,ov,iv] [];fH .next):=by intros;rfl):PS X (.AugAssign (.Subscript o i tpos) op e pos) (tAugS to ti te tget tip tset):=by
 intro aN s σ H D I h;refine wpAny_AugAssign_SubscriptAny (thn (ho aN s σ H _ I h) fun ov s1 ⟨x1,H1,I1,r1,q1⟩=>?_) ha;refine thn (hi aN s1 σ H1 _ I1 q1) fun iv s2 ⟨x2,H2,I2,r2,q2⟩=>?_
 refine thn (hg aN s2 σ H2 x1 x2 ov iv _ I2 r1 r2 q2) fun old s3 ⟨x3,H3,I3,r3,q3⟩=>?_
 refine thn (he aN s3 σ H3 _ I3 q3) fun v s4 ⟨x4,H4,I4,r4,q4⟩=>?_
 refine thn (hp aN s4 σ H4 x3 x4 old v _ I4 r3 r4 q4) fun new s5 ⟨x5,H5,I5,r5,q5⟩=>?_
 exact thn (hs aN s5 σ H5 x1 x2 x5 ov iv new _ I5 r1 r2 r5 q5) fun _ s6 ⟨H6,I6,q6⟩=>⟨σ,H6,I6,q6⟩
def ipI (f:Int→Int→Int):TIp:=fun x y H Q=>∃ i j,x= .int i∧y= .int j∧Q (.int (f i j)) H
theorem ip_add:PIp X .Add (ipI fun i j=>i+j):=by
 intro aN s σ H x y v u Q I r1 r2 h;obtain ⟨i,j,e1,e2,q⟩:=h;subst e1;subst e2;obtain ⟨t,rfl⟩:=r1;obtain ⟨t',rfl⟩:=r2;exact iadd_int ⟨.int _,H,I.tok _,⟨_,rfl⟩,q⟩
theorem ip_sub:PIp X .Sub (ipI fun i j=>i - j):=by
 intro aN s σ H x y v u Q I r1 r2 h;obtain ⟨i,j,e1,e2,q⟩:=h;subst e1;subst e2;obtain ⟨t,rfl⟩:=r1;obtain ⟨t',rfl⟩:=r2;exact isub_int ⟨.int _,H,I.tok _,⟨_,rfl⟩,q⟩
def tWhile (c:TT)(tb:TS):TS:=fun D σ H=>∃ W:Nat→St→Hp→Prop,(∃ m,W m σ H)∧∀ m σ H,W m σ H →
 c σ H fun b H1=>if b=true then ∃ N:St→Hp→Prop,(∀ σ' H',N σ' H'→∃ m',m'<m∧W m' σ' H')∧tb { D with nx:=N,ct:=N,bk:=D.nx } σ H1 else D.nx σ H1
theorem mQ {c:Expr}{body:List cP}{tc:TT}{tb:TS}(hp:PassesOwn (br X.prog X.w) X.A X.env X.xe)(hc:PT X c tc)(hb:PSs X body tb):PS X (.While c body [] pos) (tWhile tc tb):=by
 intro aN s σ H D I h;obtain ⟨W,⟨m0,w0⟩,turn⟩:=h;refine wpAny_While (codeAny_whileLoop (fun n s'=>∃ σ' H',Inv X aN σ' H' s'∧W n σ' H') ?_ m0 ⟨σ,H,I,w0⟩);rintro n s1 ⟨σ1,H1,I1,w1⟩;refine gX hp (thn (hc aN s1 σ1 H1 _ I1 (turn n σ1 H1 w1)) fun b s2 ⟨H2,I2,q2⟩=>?_);cases b with
 | true =>
  obtain ⟨N,hN,q2⟩:=q2;rw [o4 rfl];refine gX hp (thn (hb aN s2 σ1 H2 _ I2 q2) fun f s3 q3=>?_);cases f with
  | next =>
   obtain ⟨σ3,H3,I3,n3⟩:=q3;obtain ⟨m',hm,w3⟩:=hN σ3 H3 n3;exact ⟨m',hm,σ3,H3,I3,w3⟩
  | cont =>
   obtain ⟨σ3,H3,I3,n3⟩:=q3;obtain ⟨m',hm,w3⟩:=hN σ3 H3 n3;exact ⟨m',hm,σ3,H3,I3,w3⟩
  | brk=>exact q3
  | ret v=>exact q3
 | false =>
  rw [oZ aP];exact wpAny_execs_nil ⟨σ1,H2,I2,q2⟩
structure It where
 go:Nat→Hp→Prop
 yld:Nat→Hp→V→Hp→Prop
 stop:Nat→Hp→Prop
def FpOk (X:Cx)(aN:List (ai×Obj))(H:Hp)(b:ai):Prop :=
 H b=none∧b≠X.env.locals∧b ∉ X.fs∧(b∈X.ex∨X.s₀.heap.objs.size≤b)∧(∀ x c,X.env.cells.lookup x=some c→c≠b)∧∀ p∈X.pn++aN,p.1≠b
theorem Inv.fpOk {b:ai}(I:Inv X aN σ H s)(hb:s.heap.objs.size≤b)(hn:H' b=none):FpOk X aN H' b:=by
 refine ⟨hn,cR (aQ I.lt hb),I.nofs hb,.inr (aY I.sz hb),fun x c e z=>?_,fun p hp z=>?_⟩
 ·obtain ⟨v,q⟩:=I.cell x c e
  exact o6 (aQ q.lt (by rw [z];exact hb)) (fN _)
 ·exact o6 (aQ (aL (I.pin p hp).1) (by rw [z];exact hb)) (fN _)
structure Turn (P:aW)(w:bx)(K:ak)(tg:Expr)(J:It)(fp:List ai)(it:ai)(tn:Nat→bL→Prop):Prop where
 mem:it∈fp
 obj:∀ i h,tn i h→∀ b∈fp,∃ o,h.get? b=some o∧∀ v,o.data≠ .cell v
 keep:∀ i h h',tn i h→(∀ b∈fp,∀ o,h.get? b=some o→h'.get? b=some o)→tn i h'
 item:∀ (X:Cx),X.prog=P→X.w=w→X.K=K→X.calm=true→∀ (i:Nat) (aN:List (ai×Obj)) (s:aq) (σ:St) (H:Hp) (E:ae→aq→Prop),Inv X aN σ H s→(∀ b∈fp,FpOk X aN H b)→tn i s.heap→J.go i H →
  aX (br P w) X.A (pyNext (.ref it)) (fun r s1=>∃ u,r=some u ∧
   aX (br P w) X.A (letOwnedTupleGo tg (.ref it) u) (fun _ s2=>∃ x H',Inv X aN σ H' s2∧RelV x u∧J.yld i H x H'∧tn (i+1) s2.heap∧∀ b∈fp,H' b=none) E s1) E s
 done:∀ (X:Cx),X.prog=P→X.w=w→X.K=K→X.calm=true→∀ (i:Nat) (aN:List (ai×Obj)) (s:aq) (σ:St) (H:Hp) (E:ae→aq→Prop),Inv X aN σ H s→(∀ b∈fp,FpOk X aN H b)→tn i s.heap→J.stop i H →
  aX (br P w) X.A (pyNext (.ref it)) (fun r s1=>r=none∧Inv X aN σ H s1) E s
 self:∀ (A:bS) (i:Nat) (s:aq) (Q:ae→aq→Prop) (E:ae→aq→Prop),tn i s.heap→Q (.ref it) s→aX (br P w) A (pyIter (.ref it)) Q E s
abbrev TI:=St→Hp→(It→Hp→Prop)→Prop
def PIE (X:Cx)(aN:List (ai×Obj))(σ:St)(tg:Expr)(R:It→Hp→Prop)(itv:ae)(s2:aq):Prop :=
 ∃ (it:ai) (fp:List ai) (tn:Nat→bL→Prop) (J:It) (H':Hp),itv= .ref it∧Inv X aN σ H' s2∧Turn X.prog X.w X.K tg J fp it tn∧tn 0 s2.heap∧(∀ b∈fp,FpOk X aN H' b)∧R J H'
def PI (X:Cx)(tg iter:Expr)(wi:TI):Prop :=
 ∀ (aN:List (ai×Obj)) (s:aq) (σ:St) (H:Hp) (R:It→Hp→Prop),Inv X aN σ H s→wi σ H R →
  aX (br X.prog X.w) X.A (eu iter X.env) (fun v s1=>aX (br X.prog X.w) X.A (pyIter v) (PIE X aN σ tg R) X.xe s1) X.xe s
theorem go_of {M:Model}{it:ai}{o:Obj}{n:String}{vs:Array ae}{Q:Unit→aq→Prop}(ho:s.heap.get? it=some o)(hc:o.cls= .type n)(hd:o.data= .fields vs)
  (hn:["enumerate","zip","dict_itemiterator","dict_reverseitemiterator","odict_iterator","itertools.zip_longest","itertools.pairwise"].contains n=false) (hQ:Q () s):aX M A (letOwnedTupleGo tg (.ref it) u) Q E s:=by
 unfold letOwnedTupleGo;cases tg <;> first
  | exact aO hQ
  | (cases u <;> first
    | exact aO hQ
    | (refine ah (wpAny_load ho ?_)
       rw [hc,hd];show aX M A (if (["enumerate","zip","dict_itemiterator","dict_reverseitemiterator","odict_iterator","itertools.zip_longest","itertools.pairwise"].contains n && vs[0]? == some (rawInt _))=true then _ else _) Q E s;rw [oZ (by intro h;rw [hn,Bool.false_and] at h;cases h)];exact aO hQ))
def Itl (K:ak)(a:ai):It :=
 ⟨fun i H=>∃ xs x,SqL K H a xs∧xs[i]? =some x,fun i H x H'=>H'=H∧∀ xs,SqL K H a xs→xs[i]? =some x,fun i H=>∃ xs,SqL K H a xs∧xs.length≤i⟩
def Itt (K:ak)(a:ai):It :=
 ⟨fun i H=>∃ xs x,SqT K H a xs∧xs[i]? =some x,fun i H x H'=>H'=H∧∀ xs,SqT K H a xs→xs[i]? =some x,fun i H=>∃ xs,SqT K H a xs∧xs.length≤i⟩
def Itr (lo:Int)(n:Nat):It:=⟨fun i _=>i<n,fun i H x H'=>H'=H∧x= .int (lo+i),fun i _=>n≤i⟩
theorem turn_list (a it:ai):Turn P w K tg (Itl K a) [it] it (fun i h=>h.IsListIter it a i) where
 mem:=by simp
 obj:=fun i h st b hb=>by
  have e:b=it:=by simpa using hb
  subst e;obtain ⟨o,e,c,d⟩:=st;exact ⟨o,e,fun v z=>by rw [d] at z;cases z⟩
 keep:=fun i h h' st k=>st.at fun o e=>k it (by simp) o e
 item:=by
  intro X hP hw hK hc i aN s σ H E I hf st hg;subst hP hw hK;obtain ⟨xs,x,hq,hx⟩:=hg;obtain ⟨its,rv,p,hz⟩:=I.list hq;obtain ⟨u,hu,ru⟩:=rv.get hx;obtain ⟨f0,f1,f2,f3,f4,f5⟩:=hf it (by simp);refine wpAny_pyNext_list_item st p.isList (x:=u) (by simpa using hu) fun h' st' sb=>?_
  have I1:Inv X aN σ H { s with heap:=h' }:=I.turned (t':=s.toks) (fun b o hb e=>(sb.2 b hb).trans e) f0 f1 f3 f4 f5;obtain ⟨o,e,c,d⟩:=id st';exact ⟨u,rfl,go_of (s:={ s with heap:=h' }) e c d (by decide) ⟨x,H,I1,ru,⟨rfl,fun ys hy=>by rw [I.list_inj hy hq];exact hx⟩,st',fun b hb=>(hf b hb).1⟩⟩
 done:=by
  intro X hP hw hK hc i aN s σ H E I hf st hg;subst hP hw hK;obtain ⟨xs,hq,hx⟩:=hg;obtain ⟨its,rv,p,hz⟩:=I.list hq;obtain ⟨f0,f1,f2,f3,f4,f5⟩:=hf it (by simp);have hl:=rv.length;exact wpAny_pyNext_list_end (I.ok.hd hc) st p.isList (by simp;omega) fun h' eb=>⟨rfl,I.turned (t':=s.toks) (fun b o hb e=>eb b o hb e) f0 f1 f3 f4 f5⟩
 self:=fun _ _ _ _ _ st h=>wpAny_pyIter_listiter st h
theorem turn_tuple (a it:ai):Turn P w K tg (Itt K a) [it] it (fun i h=>h.IsTupleIter it a i) where
 mem:=by simp
 obj:=fun i h st b hb=>by
  have e:b=it:=by simpa using hb
  subst e;obtain ⟨o,e,c,d⟩:=st;exact ⟨o,e,fun v z=>by rw [d] at z;cases z⟩
 keep:=fun i h h' st k=>st.at fun o e=>k it (by simp) o e
 item:=by
  intro X hP hw hK hc i aN s σ H E I hf st hg;subst hP hw hK;obtain ⟨xs,x,hq,hx⟩:=hg;obtain ⟨its,rv,p,hz⟩:=I.tuple hq;obtain ⟨u,hu,ru⟩:=rv.get hx;obtain ⟨f0,f1,f2,f3,f4,f5⟩:=hf it (by simp);refine wpAny_pyNext_tuple_item st (show s.heap.IsTuple a its.toArray from p) (x:=u) (by simpa using hu) fun h' st' sb=>?_
  have I1:Inv X aN σ H { s with heap:=h' }:=I.turned (t':=s.toks) (fun b o hb e=>(sb.2 b hb).trans e) f0 f1 f3 f4 f5;obtain ⟨o,e,c,d⟩:=id st';exact ⟨u,rfl,go_of (s:={ s with heap:=h' }) e c d (by decide) ⟨x,H,I1,ru,⟨rfl,fun ys hy=>by rw [I.tuple_inj hy hq];exact hx⟩,st',fun b hb=>(hf b hb).1⟩⟩
 done:=by
  intro X hP hw hK hc i aN s σ H E I hf st hg;subst hP hw hK;obtain ⟨xs,hq,hx⟩:=hg;obtain ⟨its,rv,p,hz⟩:=I.tuple hq;obtain ⟨f0,f1,f2,f3,f4,f5⟩:=hf it (by simp);have hl:=rv.length;exact wpAny_pyNext_tuple_end (I.ok.hd hc) st (show s.heap.IsTuple a its.toArray from p) (by simp;omega) fun h' eb=>⟨rfl,I.turned (t':=s.toks) (fun b o hb e=>eb b o hb e) f0 f1 f3 f4 f5⟩
 self:=fun _ _ _ _ _ st h=>wpAny_pyIter_tupleiter st h
theorem turn_range (it:ai)(lo:Int)(n:Nat):Turn P w K tg (Itr lo n) [it] it (fun i h=>IsRangeIter h it (lo+(i:Nat) * 1) ((n:Int) - (i:Nat)) 1) where
 mem:=by simp
 obj:=fun i h st b hb=>by
  have e:b=it:=by simpa using hb
  subst e;exact ⟨_,st,fun v z=>by
   have z':Data.fields _=Data.cell v:=z;cases z'⟩
 keep:=fun i h h' st k=>k it (by simp) _ st
 item:=by
  intro X hP hw hK hc i aN s σ H E I hf st hg;subst hP hw hK;obtain ⟨f0,f1,f2,f3,f4,f5⟩:=hf it (by simp);have W:=Walks.range (prog:=X.prog) (w:=X.w) (I.ok.hd hc) it lo 1 n;refine W.item i s _ _ hg st fun v h' tk hv st' kk=>?_
  obtain ⟨t,rfl⟩:=hv;have I1:Inv X aN σ H { s with heap:=h',toks:=tk }:=I.turned (fun b o hb e=>kk b o (by simpa using hb) e) f0 f1 f3 f4 f5;refine ⟨_,rfl,go_of (s:={ s with heap:=h',toks:=tk }) (n := "range_iterator") st' rfl rfl (by decide) ⟨.int (lo+i),H,I1,⟨t,?_⟩,⟨rfl,rfl⟩,st',fun b hb=>(hf b hb).1⟩⟩;rw [Int.mul_one]
 done:=by
  intro X hP hw hK hc i aN s σ H E I hf st hg;subst hP hw hK;obtain ⟨f0,f1,f2,f3,f4,f5⟩:=hf it (by simp);exact wpAny_pyNext_range_end (I.ok.hd hc) st (by have:n≤i:=hg;omega) fun h' eb=>⟨rfl,I.turned (t':=s.toks) (fun b o hb e=>eb b o hb e) f0 f1 f3 f4 f5⟩
 self:=fun _ _ _ _ _ st h=>wpAny_pyIter_rangeiter st h
def iList (K:ak)(tl:TE):TI:=fun σ H R=>tl σ H fun x H1=>∃ a,x= .ref a∧(∃ xs,SqL K H1 a xs)∧R (Itl K a) H1
def iTup (K:ak)(tl:TE):TI:=fun σ H R=>tl σ H fun x H1=>∃ a,x= .ref a∧(∃ xs,SqT K H1 a xs)∧R (Itt K a) H1
theorem ji {l:Expr}{tl:TE}(hl:PE X l tl):PI X tg l (iList X.K tl):=by
 intro aN s σ H R I h;refine thn (hl aN s σ H _ I h) fun v s1 ⟨x,H1,I1,r1,q1⟩=>?_
 obtain ⟨a,e,⟨xs,hq⟩,q⟩:=q1;subst e;cases r1;obtain ⟨its,rv,p,hz⟩:=I1.list hq;refine wpAny_pyIter_list p.isList ?_;refine ⟨s1.heap.objs.size,[s1.heap.objs.size],_,_,H1,rfl,I1.kept (t':=s1.toks) fun b o e=>ar _ e,turn_list a _,⟨_,aZ _ rfl,rfl,rfl⟩,fun b hb=>?_,q⟩;have e:b=s1.heap.objs.size:=by simpa using hb
 subst e;exact I1.fpOk (aB _) (I1.hok.fresh (aB _))
theorem jO {l:Expr}{tl:TE}(hl:PE X l tl):PI X tg l (iTup X.K tl):=by
 intro aN s σ H R I h;refine thn (hl aN s σ H _ I h) fun v s1 ⟨x,H1,I1,r1,q1⟩=>?_
 obtain ⟨a,e,⟨xs,hq⟩,q⟩:=q1;subst e;cases r1;obtain ⟨its,rv,p,hz⟩:=I1.tuple hq;refine wpAny_pyIter_tuple (show s1.heap.IsTuple a its.toArray from p) ?_;refine ⟨s1.heap.objs.size,[s1.heap.objs.size],_,_,H1,rfl,I1.kept (t':=s1.toks) fun b o e=>ar _ e,turn_tuple a _,⟨_,aZ _ rfl,rfl,rfl⟩,fun b hb=>?_,q⟩;have e:b=s1.heap.objs.size:=by simpa using hb
 subst e;exact I1.fpOk (aB _) (I1.hok.fresh (aB _))
theorem range_it {R:It→Hp→Prop}{lo hi:Int}{t u v:Tok}{tk:Nat}(I:Inv X aN σ H s)(h1: -(2 ^ 62)≤lo)(h2:lo<2 ^ 62)(h3: -(2 ^ 62)≤hi)(h4:hi<2 ^ 62)
  (q:R (Itr lo (hi - lo).toNat) H):aX (br X.prog X.w) X.A (pyIter (.ref s.heap.objs.size)) (PIE X aN σ tg R) E { s with heap:=s.heap.push { cls:= .type "range",data:= .fields #[.int lo t,.int hi u,.int 1 v] },toks:=tk }:=by
 refine wpAny_pyIter_range (IsRange.new ..) (small_one h1 h2 h3 h4) ?_;have I1:Inv X aN σ H { s with heap:=s.heap.push { cls:= .type "range",data:= .fields #[.int lo t,.int hi u,.int 1 v] },toks:=tk }:=I.kept fun b o e=>ar _ e
 refine ⟨(s.heap.push { cls:= .type "range",data:= .fields #[.int lo t,.int hi u,.int 1 v] }).objs.size,[(s.heap.push { cls:= .type "range",data:= .fields #[.int lo t,.int hi u,.int 1 v] }).objs.size],_,_,H,rfl,
  I1.kept (t':=tk) fun b o e=>ar _ e,turn_range _ lo (hi - lo).toNat,?_,fun b hb=>?_,q⟩
 ·have e1:lo+((0:Nat):Int) * 1=lo:=by simp
  have e2:(((hi - lo).toNat:Nat):Int) - ((0:Nat):Int)=dM lo hi 1:=by rw [rangeSize_one];split <;> omega
  show IsRangeIter _ _ (lo+((0:Nat):Int) * 1) ((((hi - lo).toNat:Nat):Int) - ((0:Nat):Int)) 1;rw [e1,e2];exact aZ _ rfl
 ·have e:b=(s.heap.push { cls:= .type "range",data:= .fields #[.int lo t,.int hi u,.int 1 v] }).objs.size:=by simpa using hb
  subst e;exact I1.fpOk (aB _) (I1.hok.fresh (aB _))
def iRng1 (ta:TA):TI:=fun σ H R=>ta σ H fun vs H1=>∃ j:Int,vs=[.int j]∧ -(2 ^ 62)≤j∧j<2 ^ 62∧R (Itr 0 j.toNat) H1
def iRng2 (ta:TA):TI:=fun σ H R=>ta σ H fun vs H1=>∃ i j:Int,vs=[.int i,.int j]∧(-(2 ^ 62)≤i∧i<2 ^ 62∧ -(2 ^ 62)≤j∧j<2 ^ 62)∧R (Itr i (j - i).toNat) H1
theorem jB {a:Expr}{ta:TA}{p:Pos}(hg:Gl X "range")(hm:X.mg "range" =none)(ha:PA X [a] ta)(hs:bE [a] X.env=[(false,eu a X.env)]:=by rfl):PI X tg (.Call (.Name "range" p) [a] [] pos) (iRng1 ta):=by
 intro aN s σ H R I h;refine Call_ (kq I hg hm boot_range (dQ (thn (ha pos aN s σ H _ I h) fun us s1 ⟨vs,H1,I1,r1,q1⟩=>?_) hs rfl));obtain ⟨j,e,q1,q2,q⟩:=q1;subst e;cases r1 with
 | cons r rr =>
  cases rr;obtain ⟨t,rfl⟩:=r;exact call_range_1 (range_it I1 (by omega) (by omega) q1 q2 (by simpa using q))
theorem pi_range2 {a b:Expr}{ta:TA}{p:Pos}(hg:Gl X "range")(hm:X.mg "range" =none)(ha:PA X [a,b] ta)(hs:bE [a,b] X.env=[(false,eu a X.env),(false,eu b X.env)]:=by rfl)(hs2:bE [b] X.env=[(false,eu b X.env)]:=by rfl) :
  PI X tg (.Call (.Name "range" p) [a,b] [] pos) (iRng2 ta):=by
 intro aN s σ H R I h;refine Call_ (kq I hg hm boot_range (dQ (thn (ha pos aN s σ H _ I h) fun us s1 ⟨vs,H1,I1,r1,q1⟩=>?_) (by rw [hs,hs2]) (by rw [hs2];rfl)));obtain ⟨i,j,e,⟨q1,q2,q3,q4⟩,q⟩:=q1;subst e;cases r1 with
 | cons r rr =>
  cases rr with
  | cons r' rr =>
   cases rr;obtain ⟨t,rfl⟩:=r;obtain ⟨t',rfl⟩:=r';exact call_range_2 (range_it I1 q1 q2 q3 q4 q)
def tFor (wi:TI)(g:TG)(tb:TS):TS:=fun D σ H=>wi σ H fun J H1=>∃ W:Nat→Nat→St→Hp→Prop,(∃ m,W 0 m σ H1)∧∀ i m σ H,W i m σ H →
 (J.stop i H∧D.nx σ H)∨(J.go i H∧∃ N:St→Hp→Prop,(∀ σ' H',N σ' H'→∃ m',m'<m∧W (i+1) m' σ' H')∧∀ x H',J.yld i H x H'→g x σ H' fun σ2 H2=>tb { D with nx:=N,ct:=N,bk:=D.nx } σ2 H2)
def pinsAt (fp:List ai)(h:bL):List (ai×Obj):=fp.filterMap fun b=>(h.get? b).map fun o=>(b,o)
theorem kG {fp:List ai}{b:ai}{o:Obj}(hb:b∈fp)(e:h.get? b=some o):(b,o)∈pinsAt fp h:=List.mem_filterMap.mpr ⟨b,hb,by rw [e];rfl⟩
theorem of_pinsAt {fp:List ai}{p:ai×Obj}(hp:p∈pinsAt fp h):p.1∈fp∧h.get? p.1=some p.2:=by
 obtain ⟨b,hb,e⟩:=List.mem_filterMap.mp hp;cases q:h.get? b with
 | none=>rw [q] at e;cases e
 | some o =>
  rw [q] at e;have e':(b,o)=p:=bZ e;subst e';exact ⟨hb,q⟩
theorem Inv.pinned {fp:List ai}(I:Inv X aN σ H s)(hf:∀ b∈fp,FpOk X aN H b)(ho:∀ b∈fp,∃ o,s.heap.get? b=some o∧∀ v,o.data≠ .cell v):Inv X (aN++pinsAt fp s.heap) σ H s :=
 I.pins_of fun p hp=>(aM.mp hp).elim (fun z=>I.pin p (aw _ z)) fun z=>by
  obtain ⟨hb,e⟩:=of_pinsAt z;obtain ⟨f0,f1,f2,_⟩:=hf p.1 hb;obtain ⟨o,e',d⟩:=ho p.1 hb;rw [e] at e';cases e';exact ⟨e,f0,f1,f2,d⟩
theorem Inv.unpinned {pl:List (ai×Obj)}(I:Inv X (aN++pl) σ H s):Inv X aN σ H s:=I.pins_of fun p hp=>I.pin p (aw _ (aE _ hp))
theorem i8 {body:List cP}{wi:TI}{g:TG}{tb:TS}(hp:PassesOwn (br X.prog X.w) X.A X.env X.xe)(hc:X.calm=true)(hi:PI X tg iter wi)(hg:PG X tg g)(hb:PSs X body tb)
  (hs:∀ x,gk iter X.env x=fH x:=by intro _;rfl):PS X (.For tg iter body [] pos) (tFor wi g tb):=by
 intro aN s σ H D I h;refine wpAny_For (thn (hi aN s σ H _ I h) fun v s1 h1=>thn h1 fun itv s2 h2=>?_) hs;obtain ⟨it,fp,tn,J,H2,e,I2,T,st2,f2,W,⟨m0,w0⟩,turn⟩:=h2;subst e;have stat:∀ {H':Hp},(∀ b∈fp,H' b=none)→∀ b∈fp,FpOk X aN H' b:=fun hn b hb=>⟨hn b hb,(f2 b hb).2⟩
 refine codeAny_forLoop_any (fun n s'=>∃ i σ' H',Inv X aN σ' H' s'∧tn i s'.heap∧(∀ b∈fp,H' b=none)∧W i n σ' H') ?_ m0 ⟨0,σ,H2,I2,st2,fun b hb=>(f2 b hb).1,w0⟩;rintro n s3 ⟨i,σ3,H3,I3,st3,fr3,w3⟩
 rcases turn i n σ3 H3 w3 with ⟨stop,qn⟩ | ⟨go,N,hN,step⟩
 ·refine gX hp (thn (T.done X rfl rfl rfl hc i aN s3 σ3 H3 X.xe I3 (stat fr3) st3 stop) fun r s4 ⟨hr,I4⟩=>?_)
  subst hr;exact wpAny_execs_nil ⟨σ3,H3,I4,qn⟩
 ·refine gX hp (thn (T.item X rfl rfl rfl hc i aN s3 σ3 H3 X.xe I3 (stat fr3) st3 go) fun r s4 ⟨u,hr,h4⟩=>?_)
  subst hr;refine gX hp (thn h4 fun _ s5 ⟨x,H5,I5,r5,y5,st5,fr5⟩=>?_);have I5':=I5.pinned (stat fr5) (T.obj _ _ st5);refine gX hp (thn (hg _ s5 σ3 H5 x u _ I5' r5 (step x H5 y5)) fun _ s6 ⟨σ6,H6,I6,q6⟩=>?_);refine gX hp (thn (hb _ s6 σ6 H6 _ I6 q6) fun f s7 q7=>?_);have again:∀ {σ7:St} {H7:Hp},Inv X (aN++pinsAt fp s5.heap) σ7 H7 s7→N σ7 H7→∃ m,m<n∧∃ i σ' H',Inv X aN σ' H' s7∧tn i s7.heap∧(∀ b∈fp,H' b=none)∧W i m σ' H':=fun {σ7 H7} I7 n7=>by
   obtain ⟨m',hm,w7⟩:=hN σ7 H7 n7;refine ⟨m',hm,i+1,σ7,H7,I7.unpinned,T.keep _ _ _ st5 fun b hb o e=>(I7.pin (b,o) (aw _ (aw _ (kG hb e)))).1,fun b hb=>?_,w7⟩;obtain ⟨o,e,d⟩:=T.obj _ _ st5 b hb;exact (I7.pin (b,o) (aw _ (aw _ (kG hb e)))).2.1
  cases f with
  | next=>obtain ⟨σ7,H7,I7,n7⟩:=q7;exact again I7 n7
  | cont=>obtain ⟨σ7,H7,I7,n7⟩:=q7;exact again I7 n7
  | brk=>obtain ⟨σ7,H7,I7,q7⟩:=q7;exact ⟨σ7,H7,I7.unpinned,q7⟩
  | ret v=>obtain ⟨x7,σ7,H7,I7,r7,q7⟩:=q7;exact ⟨x7,σ7,H7,I7.unpinned,r7,q7⟩
theorem kJ {g:TG}{tb:TS}{D:Ends}(Pv:Nat→St→Hp→Prop)(h0:Pv 0 σ H)(hl:∀ i σ H,i≤xs.length→Pv i σ H→SqL K H a xs)
  (hs:∀ i x σ H,xs[i]? =some x→Pv i σ H→g x σ H fun σ2 H2=>tb { D with nx:=Pv (i+1),ct:=Pv (i+1),bk:=D.nx } σ2 H2) (hd:∀ σ H,Pv xs.length σ H→D.nx σ H) :
  ∃ W:Nat→Nat→St→Hp→Prop,(∃ m,W 0 m σ H)∧∀ i m σ H,W i m σ H →
   ((Itl K a).stop i H∧D.nx σ H)∨((Itl K a).go i H∧∃ N:St→Hp→Prop,(∀ σ' H',N σ' H'→∃ m',m'<m∧W (i+1) m' σ' H')∧∀ x H',(Itl K a).yld i H x H'→g x σ H' fun σ2 H2=>tb { D with nx:=N,ct:=N,bk:=D.nx } σ2 H2):=by
 refine ⟨fun i m σ H=>m=xs.length - i∧i≤xs.length∧Pv i σ H,⟨xs.length,by simp,bK _,h0⟩,?_⟩;rintro i m σ H ⟨rfl,hi,p⟩;have q:=hl i σ H hi p
 by_cases hlt:i<xs.length
 ·refine .inr ⟨⟨xs,xs[i],q,by simp [hlt]⟩,Pv (i+1),fun σ' H' p'=>⟨xs.length - (i+1),by omega,rfl,hlt,p'⟩,fun x H' y=>?_⟩
  obtain ⟨e,y⟩:=y;subst e;exact hs i x σ _ (y xs q) p
 ·have e:i=xs.length:=by omega
  subst e;exact .inl ⟨⟨xs,q,aB _⟩,hd σ H p⟩
theorem oi {g:TG}{tb:TS}{D:Ends}(Pv:Nat→St→Hp→Prop)(h0:Pv 0 σ H)(hl:∀ i σ H,i≤xs.length→Pv i σ H→SqT K H a xs)
  (hs:∀ i x σ H,xs[i]? =some x→Pv i σ H→g x σ H fun σ2 H2=>tb { D with nx:=Pv (i+1),ct:=Pv (i+1),bk:=D.nx } σ2 H2) (hd:∀ σ H,Pv xs.length σ H→D.nx σ H) :
  ∃ W:Nat→Nat→St→Hp→Prop,(∃ m,W 0 m σ H)∧∀ i m σ H,W i m σ H →
   ((Itt K a).stop i H∧D.nx σ H)∨((Itt K a).go i H∧∃ N:St→Hp→Prop,(∀ σ' H',N σ' H'→∃ m',m'<m∧W (i+1) m' σ' H')∧∀ x H',(Itt K a).yld i H x H'→g x σ H' fun σ2 H2=>tb { D with nx:=N,ct:=N,bk:=D.nx } σ2 H2):=by
 refine ⟨fun i m σ H=>m=xs.length - i∧i≤xs.length∧Pv i σ H,⟨xs.length,by simp,bK _,h0⟩,?_⟩;rintro i m σ H ⟨rfl,hi,p⟩;have q:=hl i σ H hi p
 by_cases hlt:i<xs.length
 ·refine .inr ⟨⟨xs,xs[i],q,by simp [hlt]⟩,Pv (i+1),fun σ' H' p'=>⟨xs.length - (i+1),by omega,rfl,hlt,p'⟩,fun x H' y=>?_⟩
  obtain ⟨e,y⟩:=y;subst e;exact hs i x σ _ (y xs q) p
 ·have e:i=xs.length:=by omega
  subst e;exact .inl ⟨⟨xs,q,aB _⟩,hd σ H p⟩
theorem lQ {lo:Int}{g:TG}{tb:TS}{D:Ends}(Pv:Nat→St→Hp→Prop)(h0:Pv 0 σ H)
  (hs:∀ i σ H,i<n→Pv i σ H→g (.int (lo+i)) σ H fun σ2 H2=>tb { D with nx:=Pv (i+1),ct:=Pv (i+1),bk:=D.nx } σ2 H2) (hd:∀ σ H,Pv n σ H→D.nx σ H) :
  ∃ W:Nat→Nat→St→Hp→Prop,(∃ m,W 0 m σ H)∧∀ i m σ H,W i m σ H →
   ((Itr lo n).stop i H∧D.nx σ H)∨((Itr lo n).go i H∧∃ N:St→Hp→Prop,(∀ σ' H',N σ' H'→∃ m',m'<m∧W (i+1) m' σ' H')∧∀ x H',(Itr lo n).yld i H x H'→g x σ H' fun σ2 H2=>tb { D with nx:=N,ct:=N,bk:=D.nx } σ2 H2):=by
 refine ⟨fun i m σ H=>m=n - i∧i≤n∧Pv i σ H,⟨n,by simp,bK _,h0⟩,?_⟩;rintro i m σ H ⟨rfl,hi,p⟩
 by_cases hlt:i<n
 ·refine .inr ⟨hlt,Pv (i+1),fun σ' H' p'=>⟨n - (i+1),by omega,rfl,hlt,p'⟩,fun x H' y=>?_⟩
  obtain ⟨e,y⟩:=y;subst e y;exact hs i σ _ hlt p
 ·have e:i=n:=by omega
  subst e;exact .inl ⟨aB _,hd σ H p⟩
abbrev R2:=V→V→Hp→VK→Prop
def OpR (X:Cx)(f:ae→ae→Sem ae)(r:R2):Prop :=
 ∀ (aN:List (ai×Obj)) (s:aq) (σ:St) (H:Hp) (x y:V) (v u:ae) (Q:VK),Inv X aN σ H s→RelV x v→RelV y u→r x y H Q →
  aX (br X.prog X.w) X.A (f v u) (EP X aN σ Q) X.xe s
def UnR (X:Cx)(f:ae→Sem ae)(r:V→Hp→VK→Prop):Prop :=
 ∀ (aN:List (ai×Obj)) (s:aq) (σ:St) (H:Hp) (x:V) (v:ae) (Q:VK),Inv X aN σ H s→RelV x v→r x H Q →
  aX (br X.prog X.w) X.A (f v) (EP X aN σ Q) X.xe s
def CallR (X:Cx)(f:ae)(r:List V→Hp→VK→Prop):Prop :=
 ∀ (aN:List (ai×Obj)) (s:aq) (σ:St) (H:Hp) (xs:List V) (us:List ae) (Q:VK),Inv X aN σ H s→Vals xs us→r xs H Q →
  aX (br X.prog X.w) X.A (call f us) (EP X aN σ Q) X.xe s
def tOp (r:R2)(ta tb:TE):TE:=fun σ H Q=>ta σ H fun x H1=>tb σ H1 fun y H2=>r x y H2 Q
def tUn (r:V→Hp→VK→Prop)(ta:TE):TE:=fun σ H Q=>ta σ H fun x H1=>r x H1 Q
inductive rI (C:Int→Int→Prop)(g:Int→Int→V)(x:V)(y:V)(H:Hp)(Q:VK):Prop
 | mk (i j:_)(_:x= .int i)(_:y= .int j)(_:C i j)(_:Q (g i j) H)
inductive rI0 (g:Int→Int→V)(x:V)(y:V)(H:Hp)(Q:VK):Prop
 | mk (i j:_)(_:x= .int i)(_:y= .int j)(_:Q (g i j) H)
inductive rU (g:Int→V)(x:V)(H:Hp)(Q:VK):Prop
 | mk (i:_)(_:x= .int i)(_:Q (g i) H)
section
variable {a b c:Expr}{ta tb tc:TE}
theorem binT (ha:PE X a ta)(hb:PE X b tb){R:V→V→Hp→Prop}(I:Inv X aN σ H s)
  (h:ta σ H fun x H1=>tb σ H1 fun y H2=>R x y H2) {f:ae→ae→Sem ae}
  (hf:∀ v u s2 x y H2,Inv X aN σ H2 s2→RelV x v→RelV y u→R x y H2→aX (br X.prog X.w) X.A (f v u) Q X.xe s2) :
  aX (br X.prog X.w) X.A (eu a X.env) (fun v s₁=>aX (br X.prog X.w) X.A (eu b X.env) (fun u s₂=>aX (br X.prog X.w) X.A (f v u) Q X.xe s₂) X.xe s₁) X.xe s:=by
 refine thn (ha aN s σ H _ I h) fun v s1 ⟨x,H1,I1,r1,q1⟩=>?_
 refine thn (hb aN s1 σ H1 _ I1 q1) fun u s2 ⟨y,H2,I2,r2,q2⟩=>?_
 exact hf v u s2 x y H2 I2 r1 r2 q2
theorem cp {op:Operator}{r:R2}(ho:OpR X (gm op) r)(ha:PE X a ta)(hb:PE X b tb):PE X (.BinOp a op b pos) (tOp r ta tb):=by
 intro aN s σ H Q I h;exact wpAny_BinOp (binT ha hb I h fun v u s2 x y H2 I2 rx ry q=>ho aN s2 σ H2 x y v u Q I2 rx ry q)
theorem pe_un {op:UnaryOp}{r:V→Hp→VK→Prop}(ho:UnR X (unaryOp op) r)(ha:PE X a ta):PE X (.UnaryOp op a pos) (tUn r ta):=by
 intro aN s σ H Q I h;exact UnaryOp_ (thn (ha aN s σ H _ I h) fun v s1 ⟨x,H1,I1,r1,q1⟩=>ho aN s1 σ H1 x v Q I1 r1 q1)
theorem opI {f:ae→ae→Sem ae}{C:Int→Int→Prop}{g:Int→Int→Int}
  (rule:∀ (i j:Int) (t u:Tok) (s:aq) (Q:ae→aq→Prop) (E:ae→aq→Prop),C i j→Q (.int (g i j) s.toks) { s with toks:=s.toks+1 }→aX (br X.prog X.w) X.A (f (.int i t) (.int j u)) Q E s) :
  OpR X f (rI C fun i j=> .int (g i j)):=by
 intro aN s σ H x y v u Q I rx ry h;obtain ⟨i,j,rfl,rfl,hc,q⟩:=h;obtain ⟨t,rfl⟩:=rx;obtain ⟨t',rfl⟩:=ry;exact rule i j t t' s _ _ hc ⟨.int (g i j),H,I.tok _,⟨_,rfl⟩,q⟩
theorem opI0 {f:ae→ae→Sem ae}{g:Int→Int→Int}
  (rule:∀ (i j:Int) (t u:Tok) (s:aq) (Q:ae→aq→Prop) (E:ae→aq→Prop),Q (.int (g i j) s.toks) { s with toks:=s.toks+1 }→aX (br X.prog X.w) X.A (f (.int i t) (.int j u)) Q E s) :
  OpR X f (rI0 fun i j=> .int (g i j)):=by
 intro aN s σ H x y v u Q I rx ry h;obtain ⟨i,j,rfl,rfl,q⟩:=h;obtain ⟨t,rfl⟩:=rx;obtain ⟨t',rfl⟩:=ry;exact rule i j t t' s _ _ ⟨.int (g i j),H,I.tok _,⟨_,rfl⟩,q⟩
theorem opB0 {f:ae→ae→Sem ae}{g:Int→Int→Bool}
  (rule:∀ (i j:Int) (t u:Tok) (s:aq) (Q:ae→aq→Prop) (E:ae→aq→Prop),Q (.bool (g i j)) s→aX (br X.prog X.w) X.A (f (.int i t) (.int j u)) Q E s) :
  OpR X f (rI0 fun i j=> .bl (g i j)):=by
 intro aN s σ H x y v u Q I rx ry h;obtain ⟨i,j,rfl,rfl,q⟩:=h;obtain ⟨t,rfl⟩:=rx;obtain ⟨t',rfl⟩:=ry;exact rule i j t t' s _ _ ⟨.bl (g i j),H,I,rfl,q⟩
def CDiv (i j:Int):Prop:=0<j∧j<1073741824
def CPow (i j:Int):Prop:=0≤j∧j≤1000000∧i.natAbs<2 ^ 64
def CMul (i j:Int):Prop:=(-(2 ^ 64)<i∧i<2 ^ 64)∨(-(2 ^ 64)<j∧j<2 ^ 64)
theorem CMul.ok {i j:Int}(h:CMul i j):IntMulOk i j:=by
 rcases h with ⟨h1,h2⟩ | ⟨h1,h2⟩
 ·exact .of_left (intBits_le_64 h1 h2)
 ·exact .of_right (intBits_le_64 h1 h2)
theorem fm:OpR X (gm .Add) (rI0 fun i j=> .int (i+j)):=opI0 fun _ _ _ _ _ _ _ q=>add_int q
theorem iH:OpR X (gm .Sub) (rI0 fun i j=> .int (i - j)):=opI0 fun _ _ _ _ _ _ _ q=>sub_int q
theorem iQ:OpR X (gm .Mult) (rI CMul fun i j=> .int (i * j)):=opI fun _ _ _ _ _ _ _ hc q=>mul_int q hc.ok
theorem op_fdiv:OpR X (gm .FloorDiv) (rI CDiv fun i j=> .int (i / j)):=opI fun i j _ _ _ _ _ hc q=>by
 have h1:(0:Int)<j:=hc.1;have h2:j<1073741824:=hc.2;exact floordiv_int (by omega) (by rw [Int.fdiv_eq_ediv_of_nonneg i (by omega)];exact q) (.inl (PyProof.noPylong_small (by omega)))
theorem jn:OpR X (gm .Mod) (rI (fun _ j=>0<j) fun i j=> .int (i % j)):=opI fun i j _ _ _ _ _ hc q=>by
 have h1:(0:Int)<j:=hc;exact mod_int' (by omega) (by rw [Int.fmod_eq_emod_of_nonneg i (by omega)];exact q)
theorem nV:OpR X (gm .Pow) (rI CPow fun i j=> .int (i ^ j.toNat)):=opI fun _ _ _ _ _ _ _ hc q=>pow_int_small hc.1 hc.2.1 hc.2.2 q
theorem unI {f:ae→Sem ae}{g:Int→Int}
  (rule:∀ (i:Int) (t:Tok) (s:aq) (Q:ae→aq→Prop) (E:ae→aq→Prop),Q (.int (g i) s.toks) { s with toks:=s.toks+1 }→aX (br X.prog X.w) X.A (f (.int i t)) Q E s) :
  UnR X f (rU fun i=> .int (g i)):=by
 intro aN s σ H x v Q I rx h;obtain ⟨i,rfl,q⟩:=h;obtain ⟨t,rfl⟩:=rx;exact rule i t s _ _ ⟨.int (g i),H,I.tok _,⟨_,rfl⟩,q⟩
theorem un_neg:UnR X (unaryOp .USub) (rU fun i=> .int (-i)):=unI fun _ _ _ _ _ q=>neg_int q
end
def scal:V→V→Bool
 | .non,.non=>true | .non,.int _=>true | .int _,.non=>true | .non,.bl _=>true | .bl _,.non=>true | .non,.str _=>true | .str _,.non=>true
 | .int _,.int _=>true | .bl _,.bl _=>true | .str _,.str _=>true | .byt _,.byt _=>true
 | .int _,.str _=>true | .str _,.int _=>true | .bl _,.str _=>true | .str _,.bl _=>true
 | _,_=>false
def rEq:R2:=fun x y H Q=>scal x y=true∧Q (.bl (decide (x=y))) H
def rNe:R2:=fun x y H Q=>scal x y=true∧Q (.bl (!decide (x=y))) H
theorem dec_int {i j:Int}:decide (V.int i=V.int j)=(i == j):=by
 rw [Bool.eq_iff_iff];simp
theorem dec_bl {i j:Bool}:decide (V.bl i=V.bl j)=(i == j):=by
 rw [Bool.eq_iff_iff];simp
theorem dec_str {i j:Str}:decide (V.str i=V.str j)=(i == j):=by
 rw [Bool.eq_iff_iff];simp
theorem dec_byt {i j:Array UInt8}:decide (V.byt i=V.byt j)=(i.toList == j.toList):=by
 rw [Bool.eq_iff_iff];cases i;cases j;simp
section
variable {a b c:Expr}{ta tb tc:TE}
theorem fq {Q:VK}{k k':Bool}(I:Inv X aN σ H s)(q:Q (.bl k) H)(e:k=k'):EP X aN σ Q (.bool k') s:=by
 subst e;exact ⟨.bl k,H,I,rfl,q⟩
theorem mB:OpR X (fG .Eq) rEq:=by
 intro aN s σ H x y v u Q I rx ry h;obtain ⟨hs,q⟩:=h;cases x with
 | non =>
  cases rx;cases y with
  | non=>cases ry;exact PySem.EqNone.eq_none_none (fq I q (by simp))
  | bl j=>cases ry;exact PySem.EqNone.eq_none_bool (fq I q (by simp))
  | int j=>obtain ⟨t',rfl⟩:=ry;exact PySem.EqNone.eq_none_int (fq I q (by simp))
  | str j=>obtain ⟨t',rfl⟩:=ry;exact PySem.EqNone.eq_none_str (fq I q (by simp))
  | _=>exact o6 (show false=true from hs) aP
 | bl i =>
  cases rx;cases y with
  | non=>cases ry;exact PySem.EqNone.eq_bool_none (fq I q (by simp))
  | bl j=>cases ry;exact eq_bool (fq I q dec_bl)
  | str j=>obtain ⟨t',rfl⟩:=ry;exact PySem.EqMixed.eq_bool_str (fq I q (by simp))
  | _=>exact o6 (show false=true from hs) aP
 | int i =>
  obtain ⟨t,rfl⟩:=rx;cases y with
  | non=>cases ry;exact PySem.EqNone.eq_int_none (fq I q (by simp))
  | int j=>obtain ⟨t',rfl⟩:=ry;exact eq_int (fq I q dec_int)
  | str j=>obtain ⟨t',rfl⟩:=ry;exact PySem.EqMixed.eq_int_str (fq I q (by simp))
  | _=>exact o6 (show false=true from hs) aP
 | str i =>
  obtain ⟨t,rfl⟩:=rx;cases y with
  | non=>cases ry;exact PySem.EqNone.eq_str_none (fq I q (by simp))
  | bl j=>cases ry;exact PySem.EqMixed.eq_str_bool (fq I q (by simp))
  | int j=>obtain ⟨t',rfl⟩:=ry;exact PySem.EqMixed.eq_str_int (fq I q (by simp))
  | str j=>obtain ⟨t',rfl⟩:=ry;exact eq_str (fq I q dec_str)
  | _=>exact o6 (show false=true from hs) aP
 | byt i =>
  obtain ⟨t,rfl⟩:=rx;cases y with
  | byt j=>obtain ⟨t',rfl⟩:=ry;exact PySem.W.eq_bytes (fq I q dec_byt)
  | _=>exact o6 (show false=true from hs) aP
 | _=>cases y <;> exact o6 (show false=true from hs) aP
theorem op_ne:OpR X (fG .NotEq) rNe:=by
 intro aN s σ H x y v u Q I rx ry h;obtain ⟨hs,q⟩:=h;cases x with
 | non =>
  cases rx;cases y with
  | non=>cases ry;exact PySem.EqNone.ne_none_none (fq I q (by simp))
  | bl j=>cases ry;exact PySem.EqNone.ne_none_bool (fq I q (by simp))
  | int j=>obtain ⟨t',rfl⟩:=ry;exact PySem.EqNone.ne_none_int (fq I q (by simp))
  | str j=>obtain ⟨t',rfl⟩:=ry;exact PySem.EqNone.ne_none_str (fq I q (by simp))
  | _=>exact o6 (show false=true from hs) aP
 | bl i =>
  cases rx;cases y with
  | non=>cases ry;exact PySem.EqNone.ne_bool_none (fq I q (by simp))
  | bl j=>cases ry;exact ne_bool (fq I q (pf not dec_bl))
  | str j=>obtain ⟨t',rfl⟩:=ry;exact PySem.EqMixed.ne_bool_str (fq I q (by simp))
  | _=>exact o6 (show false=true from hs) aP
 | int i =>
  obtain ⟨t,rfl⟩:=rx;cases y with
  | non=>cases ry;exact PySem.EqNone.ne_int_none (fq I q (by simp))
  | int j=>obtain ⟨t',rfl⟩:=ry;exact ne_int (fq I q (pf not dec_int))
  | str j=>obtain ⟨t',rfl⟩:=ry;exact PySem.EqMixed.ne_int_str (fq I q (by simp))
  | _=>exact o6 (show false=true from hs) aP
 | str i =>
  obtain ⟨t,rfl⟩:=rx;cases y with
  | non=>cases ry;exact PySem.EqNone.ne_str_none (fq I q (by simp))
  | bl j=>cases ry;exact PySem.EqMixed.ne_str_bool (fq I q (by simp))
  | int j=>obtain ⟨t',rfl⟩:=ry;exact PySem.EqMixed.ne_str_int (fq I q (by simp))
  | str j=>obtain ⟨t',rfl⟩:=ry;exact ne_str (fq I q (pf not dec_str))
  | _=>exact o6 (show false=true from hs) aP
 | byt i =>
  obtain ⟨t,rfl⟩:=rx;cases y with
  | byt j=>obtain ⟨t',rfl⟩:=ry;exact PySem.W.ne_bytes (fq I q (pf not dec_byt))
  | _=>exact o6 (show false=true from hs) aP
 | _=>cases y <;> exact o6 (show false=true from hs) aP
theorem op_lt:OpR X (fG .Lt) (rI0 fun i j=> .bl (decide (i<j))):=opB0 fun _ _ _ _ _ _ _ q=>lt_int q
theorem op_le:OpR X (fG .LtE) (rI0 fun i j=> .bl (decide (i≤j))):=opB0 fun _ _ _ _ _ _ _ q=>le_int q
theorem op_gt:OpR X (fG .Gt) (rI0 fun i j=> .bl (decide (j<i))):=opB0 fun _ _ _ _ _ _ _ q=>gt_int q
theorem op_ge:OpR X (fG .GtE) (rI0 fun i j=> .bl (decide (j≤i))):=opB0 fun _ _ _ _ _ _ _ q=>ge_int q
theorem op_isN:OpR X (fG .Is) (fun x y H Q=>y= .non∧Q (.bl (decide (x= .non))) H):=by
 intro aN s σ H x y v u Q I rx ry h;obtain ⟨rfl,q⟩:=h;cases ry;refine is_none_gen (fq I q ?_);cases x <;> first
  | (cases rx;rfl)
  | (obtain ⟨t,rfl⟩:=rx;rfl)
theorem op_notN:OpR X (fG .IsNot) (fun x y H Q=>y= .non∧Q (.bl (!decide (x= .non))) H):=by
 intro aN s σ H x y v u Q I rx ry h;obtain ⟨rfl,q⟩:=h;cases ry;refine isnot_none_gen (fq I q ?_);cases x <;> first
  | (cases rx;rfl)
  | (obtain ⟨t,rfl⟩:=rx;rfl)
theorem dN (b:Expr){op:CmpOp}(h:op≠ .In:=by decide)(h2:op≠ .NotIn:=by decide):behindInMarks op b=false:=by
 have e1:(op == CmpOp.In)=false:=by cases op <;> first | rfl | exact o6 rfl h
 have e2:(op == CmpOp.NotIn)=false:=by cases op <;> first | rfl | exact o6 rfl h2
 cases b <;> simp [behindInMarks,e1,e2]
theorem kW {op:CmpOp}{r:R2}(ho:OpR X (fG op) r)(ha:PE X a ta)(hb:PE X b tb)(hm:behindInMarks op b=false):PE X (.Compare a [op] [b] pos) (tOp r ta tb):=by
 intro aN s σ H Q I h;exact wpAny_Compare1 (binT ha hb I h fun v u s2 x y H2 I2 rx ry q=>ho aN s2 σ H2 x y v u Q I2 rx ry q) hm
def tTest (t:TE):TT:=fun σ H Q=>t σ H fun x H'=>IsBl x fun k=>Q k H'
theorem cU {op:CmpOp}{r:R2}(ho:OpR X (fG op) r)(ha:PE X a ta)(hb:PE X b tb)(hm:behindInMarks op b=false):PT X (.Compare a [op] [b] pos) (tTest (tOp r ta tb)):=by
 intro aN s σ H Q I h;refine wpAny_isTrue_Compare1 (thn (ha aN s σ H _ I h) fun v s1 ⟨x,H1,I1,r1,q1⟩=>thn (hb aN s1 σ H1 _ I1 q1) fun u s2 ⟨y,H2,I2,r2,q2⟩ =>
  thn (ho aN s2 σ H2 x y v u _ I2 r1 r2 q2) fun c s3 ⟨z,H3,I3,r3,k,e,q3⟩=>?_) hm
 subst e;cases r3;exact hV ⟨H3,I3,q3⟩
def tChain (r r':R2)(ta tb tc:TE):TE:=fun σ H Q=>ta σ H fun x H1=>tb σ H1 fun y H2=>r x y H2 fun z H3=>∃ k,z= .bl k ∧
 (if k=true then tc σ H3 fun w' H4=>r' y w' H4 Q else Q (.bl false) H3)
theorem pe_chain {op op':CmpOp}{r r':R2}(ho:OpR X (fG op) r)(ho':OpR X (fG op') r')(ha:PE X a ta)(hb:PE X b tb)(hc:PE X c tc)
  (hm:lastMarks [op,op'] [b,c]=false:=by with_unfolding_all rfl):PE X (.Compare a [op,op'] [b,c] pos) (tChain r r' ta tb tc):=by
 intro aN s σ H Q I h;refine Compare_chain (thn (ha aN s σ H _ I h) fun v s1 ⟨x,H1,I1,r1,q1⟩=>chain_link (thn (hb aN s1 σ H1 _ I1 q1) fun u s2 ⟨y,H2,I2,r2,q2⟩ =>
  thn (ho aN s2 σ H2 x y v u _ I2 r1 r2 q2) fun d s3 ⟨z,H3,I3,r3,k,e,q3⟩=>?_)) hm
 subst e;cases r3;refine hV ?_;cases k with
 | false=>exact ite_ff ⟨.bl false,H3,I3,rfl,q3⟩
 | true=>exact ite_tt (chain_last (thn (hc aN s3 σ H3 _ I3 q3) fun w' s4 ⟨z',H4,I4,r4,q4⟩=>ho' aN s4 σ H4 y z' u w' Q I4 r2 r4 q4))
theorem line63:(bj:Nat)<2 ^ 63:=by rw [fS];decide
theorem vals1 {x:V}(r:Vals [x] us):∃ u,us=[u]∧RelV x u:=by
 cases r with
 | cons r1 r2=>cases r2;exact ⟨_,rfl,r1⟩
theorem vals2 {x:V}(r:Vals [x,y] us):∃ u w',us=[u,w']∧RelV x u∧RelV y w':=by
 cases r with
 | cons r1 r2 =>
  cases r2 with
  | cons r3 r4=>cases r4;exact ⟨_,_,rfl,r1,r3⟩
theorem call_min2 (hc:X.calm=true):CallR X (.builtin "min") (fun xs H Q=>∃ i j,xs=[.int i,.int j]∧Q (.int (if j<i then j else i)) H):=by
 intro aN s σ H xs us Q I r h;obtain ⟨i,j,rfl,q⟩:=h;obtain ⟨u,w',rfl,⟨t,rfl⟩,⟨t',rfl⟩⟩:=vals2 r;refine min_two_ints (I.ok.hd hc) fun h' tk k=>⟨_,H,I.kept k,?_,q⟩
 by_cases hj:j<i
 ·rw [o4 hj,o4 hj];exact ⟨_,rfl⟩
 ·rw [oZ hj,oZ hj];exact ⟨_,rfl⟩
end
structure ObjM (h:bL)(x dx C:ai)(mA:Str→Option ae):Prop where
 obj:h.get? x=some (fT C dx)
 ns:h.Ns1 dx mA
 ne:dx≠x
theorem lookIn_ns {dx:ai}{mA:Str→Option ae}(n:h.Ns1 dx mA):∃ od,h.get? dx=some od∧∀ name,PySem.W.lookIn name od=some (mA name):=by
 obtain ⟨o,es,ep,ho,hd,hk,_,hm⟩:=n;refine ⟨o,ho,fun name=>?_⟩;have e:=hm name;unfold nsFind findBy at e;rw [←Array.find?_toList] at e;unfold PySem.W.lookIn;rw [hd]
 dsimp only
 split
 ·rename_i y q
  rw [q] at e;exact pf some e
 ·rename_i q
  rw [q] at e;have a:es.toList.any (·.refKey)=false:=by
   rw [iY];intro y hy;obtain ⟨z,t,hkey⟩:=hk y (Array.mem_toList_iff.mp hy);simp [DictEntry.refKey,hkey]
  have a':¬ es.toList.any (·.refKey)=true:=by rw [a];exact aP
  rw [oZ a'];exact pf some e
theorem ObjM.look {x dx:ai}{mA:Str→Option ae}(I:ObjM h x dx C mA):∃ od,PySem.W.InstAt h x (fT C dx) C (some od)∧∀ name,PySem.W.lookIn name od=some (mA name) :=
 let ⟨od,ho,hl⟩:=lookIn_ns I.ns
 ⟨od,⟨I.obj,rfl,rfl,ho⟩,hl⟩
section
variable {x dx:ai}{mA:Str→Option ae}{name:Str}{v:ae}
theorem get_map {expr:Bool}(X:K.In s.heap)(I:ObjM s.heap x dx C mA)(hg:jb K C name=true)(hh:PySem.W.hasDictIn K C=true)
  (ha:cy K (.ref C) name=some none) (hv:mA name=some v) (hv':PySem.W.handedIn v=true) (h:Q v { s with toks:=s.toks+1 }) :
  aX (br prog w) A (getAttr (.ref x) name expr) Q E s:=by
 obtain ⟨od,J,hl⟩:=I.look;exact PySem.W.get_value X J (PySem.W.plainGet_of hg).1 (PySem.W.findObj_own hh ha rfl (by rw [hl,hv])) hv' h
theorem get_meth {pl:Sem Bool}{Q:ae×List ae→aq→Prop}(X:K.In s.heap)(I:ObjM s.heap x dx C mA)(hg:jb K C name=true)
  (hf:cy K (.ref C) name=some (some (.ref f))) (ht:PySem.W.isFn K (.ref f)=true) (hv:mA name=none) (h:Q (.ref f,[.ref x]) s) :
  aX (br prog w) A (getMethod (.ref x) name pl) Q E s:=by
 obtain ⟨od,J,hl⟩:=I.look;exact PySem.W.method_fn X J (PySem.W.plainGet_of hg).1 (PySem.W.plainGet_of hg).2 hf (beq_iff_eq.mp ht) (by show (PySem.W.lookIn name od).map (·.isSome)=some false;rw [hl,hv];rfl) h
theorem set_map {ns:List Str}{Q:Unit→aq→Prop}(X:K.In s.heap)(I:ObjM s.heap x dx C mA)
  (hs:cy K (.ref C) "__setattr__" =some (some (.builtin "object.__setattr__"))) (hp:PySem.W.plainOver K C=true) (ht:PySem.W.takerIn K C name=some none) (hh:PySem.W.hasDictIn K C=true)
  (hw:PySem.Within mA ns) (hsz:ns.length≤bj)
  (h:∀ h',ObjM h' x dx C (fun y=>if y=name then some v else mA y)→dA dx s.heap h'→Q () { s with heap:=h',toks:=s.toks+2 }) :
  aX (br prog w) A (setAttr (.ref x) name v) Q E s:=by
 obtain ⟨od,J,hl⟩:=I.look;refine PySem.W.set_plain X J hs (PySem.W.osa_open (s:={ s with toks:=s.toks+1 }) (r:=none) X J hp ht fun b=>?_);obtain ⟨cd,hc,hd'⟩:=PySem.W.any_some hh;have hx:s.heap.get? x=some ⟨.ref C,some dx,.plain,#[]⟩:=I.obj;refine ah (aO (ah (ah (wpAny_loadPart hx (ah (PySem.W.Looks.here (s:={ s with toks:=s.toks+1 }) (PySem.W.looks_clsIn X hc) ?_))))));rw [hd'];refine aO (a:=some dx) (ah (aO (ah ?_)));refine wpAny_nsSet1 (s:={ s with toks:=s.toks+1 }) I.ns fun h' hn2 hs2=>?_
 obtain ⟨oD,esD,epD,hoD,hdD,hcD⟩:=hn2.count (PySem.Within.cons name v hw);refine ah (wpAny_lookBehind hoD (by rw [hdD];exact pastItsLine_dict (aY hcD (by rw [aS];omega))) ?_);exact aO (h _ ⟨(hs2.2 _ (cw I.ne)).trans I.obj,hn2,I.ne⟩ hs2)
theorem make_map (X:K.In s.heap)(hm:PySem.W.makesIn K C=true)
  (hi:cy K (.ref C) "__init__" =some (some (.ref f))) (hf:PySem.W.typeIn K (.ref f)=some (.type "function"))
  (h:iT (br prog w) (A.under (.builtin "type.__call__" ⟨.ref C::vs,kw⟩)) (.call (.ref f) ⟨.ref (s.heap.objs.size+1)::vs,kw⟩) (PySem.W.InitBack (s.heap.objs.size+1) R)
   {s with heap:=(s.heap.push eG).push (fT C s.heap.objs.size) }) :
  iT (br prog w) A (.call (.ref C) ⟨vs,kw⟩) R s:=by
 obtain ⟨hh,g,d,t,os⟩:=s;exact PySem.W.make_core (PySem.W.makes_of X hm) (PySem.W.looks_findIn X hi) (fun self=>PySem.W.bind_fn X self hf) (.inl rfl) h
end
def lg (f:Str)(v:V):List (Str×V)→List (Str×V)
 | []=>[(f,v)]
 | (g,x)::r=>if g=f then (g,v)::r else (g,x)::lg f v r
theorem nX (f g:Str)(v:V):∀ fs:List (Str×V),(lg f v fs).lookup g=if g=f then some v else fs.lookup g
 | []=>by
  show d8 g [(f,v)]=_
  by_cases h:g=f
  ·have hb:(g == f)=true:=beq_iff_eq.mpr h
   simp only [d8,hb,o4 h]
  ·have hb:(g == f)=false:=beq_eq_false_iff_ne.mpr h
   simp only [d8,hb,oZ h]
 | (k,x)::r=>by
  have ih:=nX f g v r;rw [show lg f v ((k,x)::r)=(if k=f then (k,v)::r else (k,x)::lg f v r) from rfl]
  by_cases hk:k=f
  ·rw [o4 hk]
   by_cases h:g=k
   ·have hb:(g == k)=true:=beq_iff_eq.mpr h
    simp only [d8,hb,o4 (h.trans hk)]
   ·have hb:(g == k)=false:=beq_eq_false_iff_ne.mpr h
    simp only [d8,hb,oZ (fun e:g=f=>h (e.trans hk.symm))]
  ·rw [oZ hk]
   by_cases h:g=k
   ·have hb:(g == k)=true:=beq_iff_eq.mpr h
    simp only [d8,hb,oZ (fun e:g=f=>hk (h.symm.trans e))]
   ·have hb:(g == k)=false:=beq_eq_false_iff_ne.mpr h
    simp only [d8,hb];exact ih
theorem nZ (f:Str)(v:V):∀ fs:List (Str×V),f∈(lg f v fs).map (·.1)∧∀ g,g∈fs.map (·.1)→g∈(lg f v fs).map (·.1)
 | []=>⟨by simp [lg],fun g h=>by simp at h⟩
 | (k,x)::r=>by
  obtain ⟨i1,i2⟩:=nZ f v r;rw [show lg f v ((k,x)::r)=(if k=f then (k,v)::r else (k,x)::lg f v r) from rfl]
  by_cases hk:k=f
  ·rw [o4 hk]
   subst hk;exact ⟨by simp,fun g h=>by simpa using h⟩
  ·rw [oZ hk]
   refine ⟨?_,fun g h=>?_⟩
   ·rw [bX]
    exact au _ i1
   ·rw [bX] at h ⊢
    rcases az.mp h with e | e
    ·exact az.mpr (.inl e)
    ·exact au _ (i2 g e)
theorem nY (f:Str)(v:V):∀ fs:List (Str×V),(lg f v fs).length≤fs.length+1
 | []=>by simp [lg]
 | (k,x)::r=>by
  have ih:=nY f v r;rw [show lg f v ((k,x)::r)=(if k=f then (k,v)::r else (k,x)::lg f v r) from rfl]
  by_cases hk:k=f
  ·rw [o4 hk,aS,aS];omega
  ·rw [oZ hk,aS,aS];omega
theorem RelO.some_of {o:Option ae}(r:RelO (some v) o):∃ u,o=some u∧RelV v u:=by
 cases o with
 | none=>exact (show False from r).elim
 | some u=>exact ⟨u,rfl,r⟩
theorem RelO.none_of {o:Option ae}(r:RelO none o):o=none:=by
 cases o with
 | none=>rfl
 | some u=>exact (show False from r).elim
theorem handed_of (r:RelV v u):PySem.W.handedIn u=true:=by
 cases v with
 | non=>cases (show u=ae.none from r);rfl
 | bl b=>cases (show u=ae.bool b from r);rfl
 | int i=>obtain ⟨t,e⟩:=(show ∃ t,u=ae.int i t from r);cases e;rfl
 | str x=>obtain ⟨t,e⟩:=(show ∃ t,u=ae.str x t from r);cases e;rfl
 | byt b=>obtain ⟨t,e⟩:=(show ∃ t,u=ae.bytes b t from r);cases e;rfl
 | flt b=>obtain ⟨t,e⟩:=(show ∃ t,u=ae.float b t from r);cases e;rfl
 | ref a=>cases (show u=ae.ref a from r);rfl
 | ty n=>cases (show u=ae.type n from r);rfl
section
variable {dx:ai}{fs fs':List (Str×V)}
theorem ins_get (hok:HOk P w H h)(e:H a=some (.ins C dx fs)):∃ mA,ObjM h a dx C mA∧(∀ f,RelO (fs.lookup f) (mA f))∧PySem.Within mA (fs.map (·.1))∧fs.length≤1000∧H dx=some (.own a):=by
 obtain ⟨d,z,ne,ob,mA,n,r,q⟩:=(show ObjOk P w H h a (.ins C dx fs) from hok a _ e);exact ⟨mA,⟨ob,n,ne⟩,r,q,z,d⟩
end
structure Cls (K:ak)(C:ai):Prop where
 pg:jb K C Str.empty=true
 hd:PySem.W.hasDictIn K C=true
 po:PySem.W.plainOver K C=true
 sa:cy K (.ref C) "__setattr__" =some (some (.builtin "object.__setattr__"))
theorem Cls.get (c:Cls K C)(f:Str):jb K C f=true:=c.pg
def NoAttr (K:ak)(C:ai)(f:Str):Prop:=cy K (.ref C) f=some none
theorem NoAttr.taker {f:Str}(n:NoAttr K C f):PySem.W.takerIn K C f=some none:=by
 unfold PySem.W.takerIn;rw [show cy K (.ref C) f=some none from n];rfl
structure Meth (K:ak)(C:ai)(m:Str)(f:ai):Prop where
 at_:cy K (.ref C) m=some (some (.ref f))
 fn:PySem.W.isFn K (.ref f)=true
 kp:eE K (.ref f)=true
section
variable {dx:ai}{fs:List (Str×V)}{f:Str}
theorem getattr_ok {b:Bool}(I:Inv X aN σ H s)(e:H a=some (.ins C dx fs))(c:Cls X.K C)(n:NoAttr X.K C f)(l:fs.lookup f=some v)
  (h:∀ u s',Inv X aN σ H s'→RelV v u→Q u s'):aX (br X.prog X.w) A (getAttr (.ref a) f b) Q E s:=by
 obtain ⟨mA,O,r,_,_,_⟩:=ins_get I.hok e;obtain ⟨u,hu,ru⟩:=RelO.some_of (v:=v) (o:=mA f) (by rw [←l];exact r f);exact get_map I.kIn O (c.get f) c.hd n hu (handed_of ru) (h u _ (I.tok _) ru)
theorem getmeth_ok {m:Str}{g:ai}{pl:Sem Bool}{Q:ae×List ae→aq→Prop}(I:Inv X aN σ H s)(e:H a=some (.ins C dx fs))(c:Cls X.K C)(k:Meth X.K C m g)(l:fs.lookup m=none)
  (h:Q (.ref g,[.ref a]) s):aX (br X.prog X.w) A (getMethod (.ref a) m pl) Q E s:=by
 obtain ⟨mA,O,r,_,_,_⟩:=ins_get I.hok e;have hn:mA m=none:=RelO.none_of (by rw [←l];exact r m);exact get_meth I.kIn O (c.get m) k.at_ k.fn hn h
theorem setattr_ok {Q:Unit→aq→Prop}(I:Inv X aN σ H s)(e:H a=some (.ins C dx fs))(c:Cls X.K C)(n:NoAttr X.K C f)(hl:fs.length<1000)(ry:RelV y u)
  (h:∀ s',Inv X aN σ (upd H a (.ins C dx (lg f y fs))) s'→Q () s'):aX (br X.prog X.w) A (setAttr (.ref a) f u) Q E s:=by
 obtain ⟨mA,O,r,wi,_,ho⟩:=ins_get I.hok e;have hz:(fs.map (·.1)).length≤bj:=by rw [aa,fS];omega
 refine set_map I.kIn O c.sa c.po n.taker c.hd wi hz fun h' O' sb=>h _ ?_
 have hd:∃ o,h'.get? dx=some o:=let ⟨o,_,_,e',_⟩:=O'.ns;⟨o,e'⟩;refine I.write (x:=a) (e:=dx) (by rw [e];exact True.intro) (.inr ho) (fun b q hb z=>(sb.2 b hb).trans z) hd ?_;refine ⟨by rw [bw O.ne];exact ho,?_,O.ne,O'.obj,_,O'.ns,fun g=>?_,fun g hg=>?_⟩
 ·have:=nY f y fs;omega
 ·show RelO ((lg f y fs).lookup g) (if g=f then some u else mA g)
  rw [nX]
  by_cases q:g=f
  ·rw [o4 q,o4 q];exact ry
  ·rw [oZ q,oZ q];exact r g
 ·by_cases q:g=f
  ·rw [q];exact (nZ f y fs).1
  ·refine (nZ f y fs).2 g (wi g fun z=>hg ?_)
   show (if g=f then some u else mA g)=none;rw [oZ q];exact z
theorem Inv.made (I:Inv X aN σ H s):Inv X aN σ (upd (upd H s.heap.objs.size (.own (s.heap.objs.size+1))) (s.heap.objs.size+1) (.ins C s.heap.objs.size []))
  {s with heap:=(s.heap.push eG).push (fT C s.heap.objs.size) }:=by
 have e1:(s.heap.push eG).get? s.heap.objs.size=some eG:=aZ s.heap rfl;have e2:((s.heap.push eG).push (fT C s.heap.objs.size)).get? (s.heap.objs.size+1)=some (fT C s.heap.objs.size):=by
  have:=aZ (s.heap.push eG) (o:=fT C s.heap.objs.size) rfl
  rwa [fQ] at this
 have e3:(s.heap.push eG).Ns s.heap.objs.size (fun _=>none):=⟨eG,#[],_,e1,rfl,(fun e he=>o6 he (by simp)),fun _=>rfl⟩;have I1:=I.laid (a:=s.heap.objs.size) (o:= .own (s.heap.objs.size+1)) (h':=s.heap.push eG) (t':=s.toks) (fun b u q=>ar _ q) (aB _) ⟨_,e1⟩;refine I1.laid (a:=s.heap.objs.size+1) (o:= .ins C s.heap.objs.size []) (t':=s.toks) (fun b u q=>ar _ q) (Nat.le_of_eq (fQ _ _)) ?_;have ne:s.heap.objs.size≠s.heap.objs.size+1:=bI (jv _);refine ⟨by rw [bw ne,aU],bK _,ne,e2,fun _=>none,(bL.Ns1.of_empty e3).at fun o q=>ar _ q,fun _=>True.intro,fun y hy=>o6 rfl hy⟩
theorem attr_of {env:Env}{f:Str}(hb:attributeBase e f env (eu e env)=eu e env)
  (h:aX (br prog w) A (eu e env) (fun o s₁=>aX (br prog w) A (getAttr o f true) Q E s₁) E s):aX (br prog w) A (eu (.Attribute e f pos) env) Q E s :=
 Attribute_any_ h (by rw [arm_eval_Attribute,hb])
end
def tFld (K:ak)(ta:TE)(f:Str):TE:=fun σ H Q=>ta σ H fun x H1=>∃ a C dx fs v,x= .ref a∧H1 a=some (.ins C dx fs)∧Cls K C∧NoAttr K C f∧fs.lookup f=some v∧Q v H1
def sFld (K:ak)(ta tv:TE)(f:Str):TS:=fun D σ H=>tv σ H fun y H1=>ta σ H1 fun x H2=>∃ a C dx fs,x= .ref a∧H2 a=some (.ins C dx fs)∧Cls K C∧NoAttr K C f∧fs.length<1000 ∧
 D.nx σ (upd H2 a (.ins C dx (lg f y fs)))
section
variable {o value:Expr}{f:Str}{pos' tpos:Pos}{ta tv:TE}
theorem pe_fld (he:PE X e ta)(hb:attributeBase e f X.env (eu e X.env)=eu e X.env):PE X (.Attribute e f pos) (tFld X.K ta f):=by
 intro aN s σ H Q I h;refine attr_of hb (thn (he aN s σ H _ I h) fun u s1 ⟨x,H1,I1,rx,a,C,dx,fs,v,ex,ea,c,n,l,q⟩=>?_);subst ex;obtain rfl:u=ae.ref a:=rx;exact getattr_ok I1 ea c n l fun u' s2 I2 ru=>⟨v,H1,I2,ru,q⟩
theorem ps_fld (ha:PE X o ta)(hv:PE X value tv)(hs:swapsWith value (some (.Attribute o f pos')) pos.line X.env=fH false):PS X (.Assign [.Attribute o f pos'] value pos) (sFld X.K ta tv f):=by
 intro aN s σ H D I h;refine plainObj_wpAny_Assign_Attribute (thn (hv aN s σ H _ I h) fun u s1 ⟨y,H1,I1,ry,q⟩=>thn (ha aN s1 σ H1 _ I1 q) fun ov s2 ⟨x,H2,I2,rx,a,C,dx,fs,ex,ea,c,n,l,q2⟩=>?_) hs;subst ex;obtain rfl:ov=ae.ref a:=rx;exact setattr_ok I2 ea c n l ry fun s3 I3=>⟨σ,_,I3,q2⟩
end
section
variable {c:ae}{b:Bool}
inductive TyOf (K:ak)(H:Hp):V→ae→Prop where
 | non:TyOf K H .non (.type "NoneType")
 | bl (x:Bool):TyOf K H (.bl x) (.type "bool")
 | int (i:Int):TyOf K H (.int i) (.type "int")
 | str (x:Str):TyOf K H (.str x) (.type "str")
 | flt (x:UInt64):TyOf K H (.flt x) (.type "float")
 | lst {a:ai} {xs:List V} (e:H a=some (.lst xs)):TyOf K H (.ref a) (.type "list")
 | frz {a:ai} {o:Obj} {xs:List V} (e:H a=some (.frz o (.lst xs))):TyOf K H (.ref a) (.type "list")
 | tup {a:ai} {xs:List V} (e:H a=some (.tup xs)):TyOf K H (.ref a) (.type "tuple")
 | dK {a:ai} {kvs:List (Key×V)} (e:H a=some (.dK kvs)):TyOf K H (.ref a) (.type "dict")
 | dT {a:ai} {kvs:List (List Key×V)} (e:H a=some (.dT kvs)):TyOf K H (.ref a) (.type "dict")
 | ins {a C dx:ai} {fs:List (Str×V)} (e:H a=some (.ins C dx fs)) (cl:Cls K C) (ha:cy K (.ref C) "__class__" =some (some (.builtin "object.__class__")))
   (hn:PySem.W.specialIn K (.builtin "object.__class__") "__get__" =some (some (.builtin "getset_descriptor.__get__"))) (htk:PySem.W.takesIn K (.builtin "object.__class__")=some true)
   (hm:PySem.W.mroIn K C (.type "object")=some true):TyOf K H (.ref a) (.ref C)
theorem isinst_ok {x:V}{t:ae}(I:Inv X aN σ H s)(rx:RelV x u)(ty:TyOf X.K H x t)(e:PySem.W.kitOne X.K t c=some b)(h:∀ tk,Q (.bool b) { s with toks:=tk }) :
  aX (br X.prog X.w) A (call (.builtin "isinstance") [u,c]) Q E s:=by
 cases ty with
 | non=>cases (show u=ae.none from rx);exact dO PySem.W.kitx_none I.kIn True.intro e (fun z=>nomatch z) h
 | bl y=>cases (show u=ae.bool y from rx);exact dO PySem.W.kitx_bool I.kIn True.intro e (fun z=>nomatch z) h
 | int i=>obtain ⟨t,q⟩:=(show ∃ t,u=ae.int i t from rx);cases q;exact dO PySem.W.kitx_int I.kIn True.intro e (fun z=>nomatch z) h
 | str y=>obtain ⟨t,q⟩:=(show ∃ t,u=ae.str y t from rx);cases q;exact dO PySem.W.kitx_str I.kIn True.intro e (fun z=>nomatch z) h
 | flt y=>obtain ⟨t,q⟩:=(show ∃ t,u=ae.float y t from rx);cases q;exact dO PySem.W.kitx_float I.kIn True.intro e (fun z=>nomatch z) h
 | @lst a xs ea =>
  cases (show u=ae.ref a from rx);obtain ⟨_,_,n,_,h1⟩:=(show ObjOk X.prog X.w H s.heap a (.lst xs) from I.hok a _ ea);exact dO PySem.W.kitx_list I.kIn ⟨_,h1,rfl⟩ e (fun z=>nomatch z) h
 | @frz a ob xs ea =>
  cases (show u=ae.ref a from rx);obtain ⟨_,_,_,n,_,h1⟩:=(show ObjOk X.prog X.w H s.heap a (.frz ob (.lst xs)) from I.hok a _ ea);exact dO PySem.W.kitx_list I.kIn ⟨_,h1,rfl⟩ e (fun z=>nomatch z) h
 | @tup a xs ea =>
  cases (show u=ae.ref a from rx);obtain ⟨_,_,_,p⟩:=(show ObjOk X.prog X.w H s.heap a (.tup xs) from I.hok a _ ea);obtain ⟨o,h1,h2,_⟩:=p;exact dO PySem.W.kitx_tuple I.kIn ⟨o,h1,h2⟩ e (fun z=>nomatch z) h
 | @dK a kvs ea =>
  cases (show u=ae.ref a from rx);obtain ⟨_,_,vs,_,p⟩:=(show ObjOk X.prog X.w H s.heap a (.dK kvs) from I.hok a _ ea);obtain ⟨o,es,ep,h1,h2,_⟩:=p;exact dO PySem.W.kitx_dict I.kIn ⟨o,h1,h2.1⟩ e (fun z=>nomatch z) h
 | @dT a kvs ea =>
  cases (show u=ae.ref a from rx);obtain ⟨_,_,xs,_,o,es,ep,h1,h2,_⟩:=(show ObjOk X.prog X.w H s.heap a (.dT kvs) from I.hok a _ ea);exact dO PySem.W.kitx_dict I.kIn ⟨o,h1,h2.1⟩ e (fun z=>nomatch z) h
 | @ins a C dx fs ea cl ha hn htk hm =>
  cases (show u=ae.ref a from rx);obtain ⟨mA,O,_⟩:=ins_get I.hok ea;obtain ⟨od,J,_⟩:=O.look;exact dO (PySem.W.kitx_own (cl.get _) cl.hd ha hn htk hm) I.kIn J e (fun z=>nomatch z) h
end
structure Room (k:Nat)(A:bS):Prop where
 hd:A.handled=none
 dp:A.depth+3 * k+5<jr
 un:A.units+16 * k+200<cLine
theorem Room.mono {k:Nat}(r:Room k A)(h:j≤k):Room j A:=⟨r.hd,by have:=r.dp;omega,by have:=r.un;omega⟩
theorem Room.deeper {k:Nat}(r:Room (k+1) A)(env:Env):Room k (A.deeper env) :=
 ⟨r.hd,by have:=r.dp;show A.depth+1+3 * k+5<_;omega,by have:=r.un;show A.units+3+16 * k+200<_;omega⟩
theorem Room.in1 {k:Nat}(r:Room (k+1) A):Room k A.in1 :=
 ⟨r.hd,by have:=r.dp;show A.depth+3 * k+5<_;omega,by have:=r.un;show A.units+1+16 * k+200<_;omega⟩
theorem make_depth:(A.under (.builtin "type.__call__" ⟨.ref C::us,kw⟩)).depth=A.depth+1:=by
 first | rfl | simp [bS.under,Code.weight,Code.isCreation,Code.isGuard,Code.isCaller,Code.frames,Code.isFrame,guardIds]
theorem make_units:(A.under (.builtin "type.__call__" ⟨.ref C::us,kw⟩)).units=A.units+1:=by
 first | rfl | simp [bS.under,Code.cUnits,Code.frames,Code.isFrame]
theorem Room.make {k:Nat}(r:Room (k+1) A)(C:ai)(us:List ae)(kw:List (Str×ae)):Room k (A.under (.builtin "type.__call__" ⟨.ref C::us,kw⟩)) :=
 ⟨r.hd,by have:=r.dp;rw [make_depth];omega,by have:=r.un;rw [make_units];omega⟩
theorem Room.depth {k:Nat}(r:Room k A):A.depth<jr:=by have:=r.dp;omega
theorem Room.units {k:Nat}(r:Room k A):A.units+64<cLine:=by have:=r.un;omega
def tNil:TA:=fun _ H Q=>Q [] H
def tCons (ta:TE)(tr:TA):TA:=fun σ H Q=>ta σ H fun x H1=>tr σ H1 fun xs H2=>Q (x::xs) H2
theorem aC:PA X [] tNil:=fun _ _ _ _ H Q I h=>Calls.spliced_nil ⟨[],H,I,.nil,h⟩
theorem af (ha:PE X e te)(hr:PA X es t)(hs:bE (e::es) X.env=(false,eu e X.env)::bE es X.env:=by rfl):PA X (e::es) (tCons te t):=by
 intro pos aN s σ H Q I h;rw [hs];show aX _ _ (spliced ((false,eu e X.env)::gw pos (bE es X.env))) _ _ s;refine Calls.spliced_cons (thn (ha aN s σ H _ I h) fun u s1 ⟨x,H1,I1,r1,q1⟩=>?_);exact thn (hr pos aN s1 σ H1 _ I1 q1) fun us s2 ⟨xs,H2,I2,r2,q2⟩=>⟨x::xs,H2,I2,.cons r1 r2,q2⟩
def tTup (t:TA):TE:=fun σ H Q=>t σ H fun xs H1=>xs.length≤bj∧∀ p,H1 p=none→Q (.ref p) (upd H1 p (.tup xs))
def tLst (t:TA):TE:=fun σ H Q=>t σ H fun xs H1=>xs.length≤bj∧∀ p,H1 p=none→Q (.ref p) (upd H1 p (.lst xs))
theorem pe_tup {x1}(h:PA X es t):PE X (.Tuple es x1 pos) (tTup t):=by
 intro aN s σ H Q I hq;refine wpAny_Tuple_spliced (thn (h pos aN s σ H _ I hq) fun us s1 ⟨xs,H1,I1,r,z,q⟩=>⟨by rw [←r.length];exact z,?_⟩);have hf:H1 s1.heap.objs.size=none:=I1.hok.fresh (aB _);refine ⟨.ref s1.heap.objs.size,upd H1 s1.heap.objs.size (.tup xs),I1.laid (t':=s1.toks) (fun b u e=>ar _ e) (aB _) ?_,rfl,q _ hf⟩;exact ⟨z,us,r,⟨_,aZ _ rfl,rfl,rfl,_,rfl⟩⟩
theorem jk (h:PA X es t):PE X (.List es pos) (tLst t):=by
 intro aN s σ H Q I hq;refine wpAny_List_spliced (thn (h pos aN s σ H _ I hq) fun us s1 ⟨xs,H1,I1,r,z,q⟩=>⟨by rw [←r.length];exact z,?_⟩);have hf:H1 s1.heap.objs.size=none:=I1.hok.fresh (aB _);refine ⟨.ref s1.heap.objs.size,upd H1 s1.heap.objs.size (.lst xs),I1.laid (t':=s1.toks) (fun b u e=>ar _ e) (aB _) ?_,rfl,q _ hf⟩;exact ⟨z,us,0,r,aZ _ rfl⟩
abbrev Sp:=List V→Hp→VK→XK→Prop
abbrev CXT:=List Env→Hp→aq→XK→ae→aq→Prop
structure Env0 (P:aW)(w:bx)(K:ak)(mg:Str→Option ae)(base:bL)(A:bS)(outer:List Env)(s:aq)(H:Hp):Prop where
 frames:A.frames=some outer
 mod:Mod K mg base
 bs:∀ b o,base.get? b=some o→s.heap.get? b=some o∧H b=none
 bsz:base.objs.size≤s.heap.objs.size
 funs:s.heap.FunFrames base outer
 frf:∀ b∈frs outer,H b=none
 hok:HOk P w H s.heap
 bare:AllBare s.gens
def CE (outer:List Env)(P:aW)(w:bx)(H:Hp)(s:aq)(Q:VK)(u:ae)(s':aq):Prop :=
 ∃ v H',s'.os=s.os∧AllBare s'.gens∧Un (frs outer) [] H H' s.heap s'.heap∧HOk P w H' s'.heap∧RelV v u∧Q v H'
def CR (CX:CXT)(outer:List Env)(P:aW)(w:bx)(H:Hp)(s:aq)(Q:VK)(E:XK)(r:Result)(s':aq):Prop :=
 match r with
 | .ok (.ret u)=>CE outer P w H s Q u s'
 | .ok _=>False
 | .error e=>CX outer H s E e s'
structure cS (P:aW)(w:bx)(K:ak)(mg:Str→Option ae)(base:bL)(CX:CXT)(k:Nat)(f:ai)(fd:bq)(ps:List Str)(sp:Sp):Prop where
 len:∀ vs H Q E,sp vs H Q E→vs.length=ps.length
 run:∀ (A:bS) (outer:List Env) (s:aq) (H:Hp) (args:Args) (us:List ae) (vs:List V) (Q:VK) (E:XK),Room k A→Env0 P w K mg base A outer s H→BindsTo s fd args (ps.zip us)→Vals vs us→sp vs H Q E →
  iT (br P w) A (.call (.ref f) args) (CR CX outer P w H s Q E) s
theorem Env0.make {outer:List Env}(e:Env0 P w K mg base A outer s H)(C:ai)(us:List ae)(kw:List (Str×ae)) :
  Env0 P w K mg base (A.under (.builtin "type.__call__" ⟨.ref C::us,kw⟩)) outer s H:=⟨by first | exact e.frames | (simpa [bS.under,Code.envs,Code.isFrame,pushEnvs] using e.frames),e.mod,e.bs,e.bsz,e.funs,e.frf,e.hok,e.bare⟩
section
variable {s':aq}
theorem Inv.env0 (I:Inv X aN σ H s):Env0 X.prog X.w X.K X.mg X.base X.A X.stack s H :=
 ⟨I.ok.frames,I.ok.mod,I.bs,aY I.ok.bsz I.sz,I.stack,I.stkFree,I.hok,I.bare⟩
theorem Inv.after {Q:VK}(I:Inv X aN σ H s)(h:CE X.stack X.prog X.w H s Q u s'):EP X aN σ Q u s':=by
 obtain ⟨v,H',os,bare,un,hok,r,q⟩:=h;obtain ⟨hh,g,d,t,os'⟩:=s';obtain rfl:os'=s.os:=os;exact ⟨v,H',I.call (h':=hh) (g':=g) (d':=d) (t':=t) (ch:=[]) un hok bare (fun b z=>o6 z (by simp)),r,q⟩
end
def tCall (sp:Sp)(dvs:List V)(E:XK)(t:TA):TE:=fun σ H Q=>t σ H fun vs H1=>sp (vs++dvs) H1 Q E
def tMeth (C:ai)(m:Str)(sp:Sp)(dvs:List V)(E:XK)(ta:TE)(t:TA):TE:=fun σ H Q=>ta σ H fun x H1=>∃ a dx fs,x= .ref a∧H1 a=some (.ins C dx fs)∧fs.lookup m=none ∧
 t σ H1 fun vs H2=>sp (x::(vs++dvs)) H2 Q E
def tMake (C:ai)(sp:Sp)(dvs:List V)(E:XK)(t:TA):TE:=fun σ H Q=>t σ H fun vs H1=>∀ x dx,H1 x=none→H1 dx=none→dx≠x →
 sp (.ref x::(vs++dvs)) (upd (upd H1 dx (.own x)) x (.ins C dx [])) (fun v H2=>v= .non∧Q (.ref x) H2) E
def Binds (K:ak)(fd:bq)(ps:List Str)(ds:List ae):Prop :=
 ∀ (s:aq) (us:List ae),K.In s.heap→(us++ds).length=ps.length→BindsTo s fd ⟨us,[]⟩ (ps.zip (us++ds))
theorem Binds.all (h:∀ us:List ae,us.length=ps.length→bindArgs fd ⟨us,[]⟩=fH (ps.zip us)):Binds K fd ps []:=fun s us _ hl=>by
 rw [dU] at hl ⊢;exact .of_eq (h us hl)
def oW (CX:CXT)(X:Cx)(E:XK):Prop:=∀ (aN:List (ai×Obj)) (σ:St) (H:Hp) (s:aq) (e:ae) (s':aq),Inv X aN σ H s→CX X.stack H s E e s'→X.xe e s'
section
variable {CX:CXT}{k:Nat}{sp:Sp}{dvs:List V}{ds:List ae}{E:XK}{m:Str}{p apos:Pos}{o:Expr}{ta:TE}
theorem run_fn {Q:VK}{vs:List V}(F:cS X.prog X.w X.K X.mg X.base CX k f fd ps sp)(hr:Room k X.A)(hb:Binds X.K fd ps ds)(hd:Vals dvs ds)(hx:oW CX X E)
  (I:Inv X aN σ H s) (r:Vals vs us) (h:sp (vs++dvs) H Q E):aX (br X.prog X.w) X.A (call (.ref f) us) (EP X aN σ Q) X.xe s:=by
 have r2:Vals (vs++dvs) (us++ds):=r.append hd;have hl:(us++ds).length=ps.length:=by rw [←r2.length];exact F.len _ _ _ _ h
 refine wpAny_call (codeAny_mono (F.run X.A X.stack s H ⟨us,[]⟩ (us++ds) (vs++dvs) Q E hr I.env0 (hb s us I.kIn hl) r2 h) fun r s' hq=>?_);cases r with
 | error e=>exact hx aN σ H s e s' I hq
 | ok fl =>
  cases fl with
  | ret u=>exact I.after hq
  | next=>exact cN hq
  | brk=>exact cN hq
  | cont=>exact cN hq
theorem pe_call (F:cS X.prog X.w X.K X.mg X.base CX k f fd ps sp)(hr:Room k X.A)(hg:Gl X x)(hm:X.mg x=some (.ref f))(hk:eE X.K (.ref f)=true)(hb:Binds X.K fd ps ds)(hd:Vals dvs ds)(hx:oW CX X E)
  (ha:PA X (e::es) t) (hdb:(x == ("__debug__" :Str))=false:=by decide) (he:bE (e::es) X.env=(false,eu e X.env)::bE es X.env:=by rfl) (hpl:(gw pos (bE es X.env)).any (·.1)=false:=by rfl) :
  PE X (.Call (.Name x p) (e::es) [] pos) (tCall sp dvs E t):=by
 intro aN s σ H Q I h;refine eC (ld_glob I hg hm ?_ hdb);refine jF (h₀:=X.base) I.ok.mod.kin hk (thn (ha pos aN s σ H _ I h) fun us s1 ⟨vs,H1,I1,r,q⟩=>⟨I1.kIn,?_⟩) he hpl;exact run_fn F hr hb hd hx I1 r q
theorem pe_meth {pl:Sem Bool}(he:PE X o ta)(c:Cls X.K C)(hm:Meth X.K C m f)(F:cS X.prog X.w X.K X.mg X.base CX k f fd ps sp)(hr:Room k X.A)(hb:Binds X.K fd ps ds)(hd:Vals dvs ds)(hx:oW CX X E)(ha:PA X (e::es) t)
  (hst:bE (e::es) X.env=(false,eu e X.env)::bE es X.env:=by rfl) (hpl:(gw pos (bE es X.env)).any (·.1)=false:=by rfl)
  (ht:eu (.Call (.Attribute o m apos) (e::es) [] pos) X.env=(do
   let ov ← eu o X.env
   standAt apos.atName
   let (f,first) ← holding [ov] (getMethod ov m pl)
   callWith pos f first (gw pos (bE (e::es) X.env)) (backToKw pos (keywordEach [] X.env))):=by rfl) :
  PE X (.Call (.Attribute o m apos) (e::es) [] pos) (tMeth C m sp dvs E ta t):=by
 intro aN s σ H Q I h;refine PySem.W.methodCall_KW (pl:=pl) (thn (he aN s σ H _ I h) fun u s1 ⟨x,H1,I1,rx,a,dx,fs,ex,ea,l,q⟩=>?_) ht;subst ex;obtain rfl:u=ae.ref a:=rx;refine getmeth_ok I1 ea c hm l ?_;refine jF (first:=[.ref a]) (h₀:=X.base) I.ok.mod.kin hm.kp (thn (ha pos aN s1 σ H1 _ I1 q) fun us s2 ⟨vs,H2,I2,r,q2⟩=>⟨I2.kIn,?_⟩) hst hpl;exact run_fn (us:= .ref a::us) (vs:= .ref a::vs) F hr hb hd hx I2 (.cons rfl r) q2
structure Mk (K:ak)(C f:ai):Prop where
 makes:PySem.W.makesIn K C=true
 init:cy K (.ref C) "__init__" =some (some (.ref f))
 fn:PySem.W.isFn K (.ref f)=true
 kp:eE K (.ref C)=true
theorem run_make {Q:VK}{vs:List V}(M:Mk X.K C f)(F:cS X.prog X.w X.K X.mg X.base CX k f fd ps sp)(hr:Room (k+1) X.A)(hb:Binds X.K fd ps ds)(hd:Vals dvs ds)
  (hx:oW CX X E) (I:Inv X aN σ H s) (r:Vals vs us)
  (h:∀ x dx,H x=none→H dx=none→dx≠x→sp (.ref x::(vs++dvs)) (upd (upd H dx (.own x)) x (.ins C dx [])) (fun v H2=>v= .non∧Q (.ref x) H2) E) :
  aX (br X.prog X.w) X.A (call (.ref C) us) (EP X aN σ Q) X.xe s:=by
 have hq:=h (s.heap.objs.size+1) s.heap.objs.size (I.hok.fresh (Nat.le_succ _)) (I.hok.fresh (aB _)) (bI (jv _));have I2:=Inv.made (C:=C) I;have r2:Vals (V.ref (s.heap.objs.size+1)::(vs++dvs)) (ae.ref (s.heap.objs.size+1)::(us++ds)):= .cons rfl (r.append hd);have hl:(ae.ref (s.heap.objs.size+1)::us++ds).length=ps.length:=by
  have e:=r2.length;rw [F.len _ _ _ _ hq] at e;exact e.symm
 refine wpAny_call (make_map (f:=f) I.kIn M.makes M.init (beq_iff_eq.mp M.fn) (codeAny_mono (F.run _ X.stack _ _ ⟨ae.ref (s.heap.objs.size+1)::us,[]⟩ (ae.ref (s.heap.objs.size+1)::(us++ds)) _ _ E (hr.make C us [])
  (I2.env0.make C us []) (hb _ (ae.ref (s.heap.objs.size+1)::us) I2.kIn hl) r2 hq) fun r s' hq'=>?_))
 cases r with
 | error e=>exact hx aN σ _ _ e s' I2 hq'
 | ok fl =>
  cases fl with
  | ret u =>
   obtain ⟨v,H',I3,rv,ev,q3⟩:=I2.after hq';subst ev;exact ⟨rv,⟨V.ref (s.heap.objs.size+1),H',I3,rfl,q3⟩⟩
  | next=>exact cN hq'
  | brk=>exact cN hq'
  | cont=>exact cN hq'
theorem pe_make (M:Mk X.K C f)(F:cS X.prog X.w X.K X.mg X.base CX k f fd ps sp)(hr:Room (k+1) X.A)(hg:Gl X x)(hm:X.mg x=some (.ref C))(hb:Binds X.K fd ps ds)(hd:Vals dvs ds)(hx:oW CX X E)
  (ha:PA X (e::es) t) (hdb:(x == ("__debug__" :Str))=false:=by decide) (he:bE (e::es) X.env=(false,eu e X.env)::bE es X.env:=by rfl) (hpl:(gw pos (bE es X.env)).any (·.1)=false:=by rfl) :
  PE X (.Call (.Name x p) (e::es) [] pos) (tMake C sp dvs E t):=by
 intro aN s σ H Q I h;refine eC (ld_glob I hg hm ?_ hdb);refine jF (h₀:=X.base) I.ok.mod.kin M.kp (thn (ha pos aN s σ H _ I h) fun us s1 ⟨vs,H1,I1,r,q⟩=>⟨I1.kIn,?_⟩) he hpl;exact run_make M F hr hb hd hx I1 r q
end
structure cb (N P:List Str)(sc:eZ):Prop where
 kind:sc.kind= .function
 co:sc.isCoroutine=false
 gen:sc.isGenerator=false
 nd:N.Nodup
 pre:N.take P.length=P
 par:∀ x∈P,sc.names.lookup x=some .local∨sc.names.lookup x=some .cell
 nofree:∀ y∈sc.names,y.2≠ .free
theorem bindL_out {kindOf:Str→Option cx}{x:Str}:∀ {binds:List (Str×ae)} {m:Str→Option ae},(∀ v,(x,v) ∉ binds)→bindL kindOf binds m x=m x
 | [],_,_=>rfl
 | (n,v)::r,m,h=>by
  unfold bindL;rw [bindL_out fun w hw=>h w (au _ hw)];split
  ·have:x≠n:=by rintro rfl;exact h v bp
   simp [this]
  ·rfl
theorem bindC_out {kindOf:Str→Option cx}{x:Str}:∀ {binds:List (Str×ae)} {m:Str→Option ae},(∀ v,(x,v) ∉ binds)→bindC kindOf binds m x=m x
 | [],_,_=>rfl
 | (n,v)::r,m,h=>by
  unfold bindC;rw [bindC_out fun w hw=>h w (au _ hw)];split
  ·rfl
  ·have:x≠n:=by rintro rfl;exact h v bp
   simp [this]
theorem bindL_get {kindOf:Str→Option cx}{x:Str}{v:ae}:∀ {P:List Str} {vs:List ae} {i:Nat} {m:Str→Option ae},P.Nodup→P[i]? =some x→vs[i]? =some v→kindOf x=some .local →
  bindL kindOf (P.zip vs) m x=some v
 | [],_,_,_,_,h,_,_=>by simp at h
 | _::_,[],_,_,_,_,h,_=>by simp at h
 | p::P,w::vs,0,m,nd,h1,h2,hk=>by
  simp at h1 h2;subst h1;subst h2;show bindL kindOf ((p,w)::P.zip vs) m p=_;unfold bindL;rw [bindL_out fun v hv=>(bF.mp nd).1 (List.of_mem_zip hv).1,o4 hk];simp
 | p::P,w::vs,i+1,m,nd,h1,h2,hk=>by
  show bindL kindOf ((p,w)::P.zip vs) m x=_;unfold bindL;exact bindL_get (i:=i) (bF.mp nd).2 (by simpa using h1) (by simpa using h2) hk
theorem bindC_get {kindOf:Str→Option cx}{x:Str}{v:ae}:∀ {P:List Str} {vs:List ae} {i:Nat} {m:Str→Option ae},P.Nodup→P[i]? =some x→vs[i]? =some v→kindOf x≠some .local →
  bindC kindOf (P.zip vs) m x=some v
 | [],_,_,_,_,h,_,_=>by simp at h
 | _::_,[],_,_,_,_,h,_=>by simp at h
 | p::P,w::vs,0,m,nd,h1,h2,hk=>by
  simp at h1 h2;subst h1;subst h2;show bindC kindOf ((p,w)::P.zip vs) m p=_;unfold bindC;rw [bindC_out fun v hv=>(bF.mp nd).1 (List.of_mem_zip hv).1,oZ hk];simp
 | p::P,w::vs,i+1,m,nd,h1,h2,hk=>by
  show bindC kindOf ((p,w)::P.zip vs) m x=_;unfold bindC;exact bindC_get (i:=i) (bF.mp nd).2 (by simpa using h1) (by simpa using h2) hk
def start (N:List Str)(vs:List V):St:=vs.map some++bP (N.length - vs.length) none
def cxOf (CX:CXT)(P:aW)(w:bx)(K:ak)(mg:Str→Option ae)(base:bL)(N:List Str)(qual:Str)(scope:eZ)(f:ai)(cd:ae)(A:bS)(outer:List Env)(s:aq)(H:Hp)(E:XK):Cx where
 prog:=P
 w:=w
 K:=K
 mg:=mg
 base:=base
 A:=A.deeper (envOfC qual scope s.heap.objs.size f cd)
 N:=N
 s₀:=s
 H₀:=H
 env:=envOfC qual scope s.heap.objs.size f cd
 outer:=outer
 stack:=envOfC qual scope s.heap.objs.size f cd::outer
 ex:=[]
 calm:=true
 fn:=fun _=>true
 pn:=[]
 xe:=fun e s'=>aX (br P w) (A.deeper (envOfC qual scope s.heap.objs.size f cd)) (leaving (envOfC qual scope s.heap.objs.size f cd) e) (fun _ s''=>CX outer H s E e s'') (fun e' s''=>CX outer H s E e' s'') s'
theorem cell_has {sc:eZ}(h:sc.names.lookup x=some .cell):∃ c,(cellsFrom n sc.names []).lookup x=some c:=by
 have q:=PySem.W.cellsFrom_some sc.names n [] (.inl h);exact Option.isSome_iff_exists.mp q
theorem inv_start {CX:CXT}{N:List Str}{qual:Str}{cd:ae}{outer:List Env}{s1:aq}{E:XK}{vs:List V}
  (S:cb N ps scope) (hd:A.handled=none) (e0:Env0 P w K mg base A outer s H) (hl:vs.length=ps.length) (r:Vals vs us)
  (x:InCallC s s.heap.objs.size (bindL (envOfC qual scope s.heap.objs.size f cd).kindOf (ps.zip us) fun _=>none) (cellsFrom (s.heap.objs.size+1) scope.names []) (bindC (envOfC qual scope s.heap.objs.size f cd).kindOf (ps.zip us) fun _=>none) s1) :
  Inv (cxOf CX P w K mg base N qual scope f cd A outer s H E) [] (start N vs) H s1:=by
 have hpl:ps.length≤N.length:=by have:=pf List.length S.pre;rw [bG] at this;omega
 obtain ⟨h1,tk,rfl,hk⟩:=x.done;have noA:∀ b:ai,b ∉ (cxOf CX P w K mg base N qual scope f cd A outer s H E).ex:=fun b z=>o6 (show b∈([]:List ai) from z) (by simp)
 refine ⟨⟨e0.mod,S.kind,rfl,rfl,aB _,fun y z c h1 h2=>?_,fun y hy=>?_,fun y c _ h=>?_,fun _=>hd,bS.frames_deeper e0.frames,.inr ⟨rfl,rfl⟩,fun b z=>o6 z (noA b),e0.bs,e0.bsz,fun b _ _=>noA b,fun b z=>o6 z (noA b),e0.funs,e0.frf⟩,
  rfl,e0.bare,Un.kept hk,⟨_,x.toInCall.ns,fun i y v h1 h2 h3=>?_⟩,fun y c h=>⟨_,x.cell y c h⟩,e0.hok.fresh (aB _),fun y c h=>?_,fun p hp=>o6 (show p∈([]:List (ai×Obj)) from hp) (by simp),e0.hok.kept hk,?_⟩
 ·exact name_of_addr x.apart (cf h1) (cf h2)
 ·have hy:scope.names.lookup y=some .cell∨scope.names.lookup y=some .free:=hy
  rcases hy with hy | hy
  ·exact cell_has hy
  ·exact o6 rfl (S.nofree _ (cf hy))
 ·exact il (x.above y c (cf h))
 ·have hi:i<vs.length:=by
   unfold start at h2
   by_cases hi:i<vs.length
   ·exact hi
   ·rw [bV (by simpa using hi)] at h2
    rw [List.getElem?_replicate] at h2;split at h2 <;> cases h2
  have ha:vs[i]? =some v:=by
   unfold start at h2;rw [fX (by simpa using hi),ay] at h2;cases e:vs[i]? with
   | none=>rw [e] at h2;cases h2
   | some a=>rw [e] at h2;cases h2;rfl
  obtain ⟨u,hu,rv⟩:=r.get ha;have hp:ps[i]? =some y:=by
   rw [←S.pre,List.getElem?_take_of_lt (by omega)];exact h1
  have ndP:ps.Nodup:=by rw [←S.pre];exact S.nd.sublist (List.take_sublist _ _)
  refine ⟨u,rv,?_⟩
  rcases S.par y (bh hp) with k | k
  ·exact .inl ⟨k,bindL_get ndP hp hu k⟩
  ·obtain ⟨c,e⟩:=cell_has (n:=s.heap.objs.size+1) k
   refine .inr ⟨.inl k,c,e,?_⟩;have q:=x.cell y c e;rw [bindC_get ndP hp hu (by show scope.names.lookup y≠_;rw [k];decide)] at q;exact q
 ·exact e0.hok.fresh (il (x.above y c (cf h)))
 ·unfold start
  show _=N.length;rw [av,aa,gO];omega
theorem fn_of {CX:CXT}{k:Nat}{name qual:Str}{body:List cP}{dV kV doc pm cdv ct oc:ae}{an od:Option ai}
  {osl:Array (Option ae)} {N:List Str} {sp:Sp} (lk:K.lookup f=some ⟨oc,od,.func (dm name qual params body scope dV kV doc pm an cdv ct),osl⟩) (hcd:gQ K cdv qual=true) (S:cb N ps scope)
  (len:∀ vs H Q E,sp vs H Q E→vs.length=ps.length)
  (hbody:∀ (A:bS) (outer:List Env) (s:aq) (H:Hp) (vs:List V) (Q:VK) (E:XK),Room k (A.deeper (envOfC qual scope s.heap.objs.size f cdv))→sp vs H Q E →
   ∃ t,PSs (cxOf CX P w K mg base N qual scope f cdv A outer s H E) body t∧t { nx:=fun _ H'=>Q .non H',rt:=Q } (start N vs) H) :
  cS P w K mg base CX (k+1) f (dm name qual params body scope dV kV doc pm an cdv ct) ps sp:=by
 refine ⟨len,fun A outer s H args us vs Q E hr e0 hb r hsp=>?_⟩;have hl:=len _ _ _ _ hsp;have KX:K.In s.heap:=e0.mod.kin.keeps fun b o e=>(e0.bs b o e).1
 have lim:s.heap.NoLimit:=e0.mod.nolimit.keeps fun b o e=>(e0.bs b o e).1
 have kZ:∀ y∈ps.zip us,scope.names.lookup y.1=some .local∨(scope.names.lookup y.1=some .cell∧((cellsFrom (s.heap.objs.size+1) scope.names []).lookup y.1).isSome=true):=fun ⟨n,v⟩ hy=>by
  rcases S.par n (List.of_mem_zip hy).1 with q | q
  ·exact .inl q
  ·exact .inr ⟨q,PySem.W.cellsFrom_some _ _ _ (.inl q)⟩
 refine codeAny_call_function hr.depth (KX _ _ lk) rfl S.co S.gen rfl (PySem.W.codeRec_of KX hcd) (hb _ _ _ _ ?_);refine wpAny_newFunctionEnv_cells S.kind kZ fun env he s1 x=>?_
 subst he;refine ⟨lim.keeps x.toInCall.keep,codeAny_func ?_⟩;obtain ⟨t,ht,hq⟩:=hbody A outer s H vs Q E (hr.deeper _) hsp;have I:Inv (cxOf CX P w K mg base N qual scope f cdv A outer s H E) [] (start N vs) H s1:=inv_start S hr.hd e0 hl r x;refine b9 (ht [] s1 (start N vs) H _ I hq) (fun fl s' hs=>?_) fun e s' hs=>hs
 have fin:∀ {σ':St} {H':Hp} {v:V} {u:ae},Inv (cxOf CX P w K mg base N qual scope f cdv A outer s H E) [] σ' H' s'→RelV v u→Q v H'→CE outer P w H s Q u s' :=
  fun {σ' H' v u} J rv q=>⟨v,H',J.os,J.bare,J.base,J.hok,rv,q⟩
 cases fl with
 | ret u =>
  obtain ⟨v,σ',H',J,rv,q⟩:=hs;exact fin J rv q
 | next =>
  obtain ⟨σ',H',J,q⟩:=hs;exact fin (v:=V.non) (u:=ae.none) J rfl q
 | brk =>
  obtain ⟨_,_,_,q⟩:=hs;exact cN q
 | cont =>
  obtain ⟨_,_,_,q⟩:=hs;exact cN q
section
variable {p:Pos}{id T:String}{r:List V→Hp→VK→Prop}
def tCB (r:List V→Hp→VK→Prop)(t:TA):TE:=fun σ H Q=>t σ H fun vs H1=>r vs H1 Q
theorem eh (hc:CallR X (.builtin id) r)(hg:Gl X x)(hm:X.mg x=none)(hv:bootBuiltins x=some (.builtin id))(ha:PA X (e::es) t)(hn:x ≠ "__name__" := by decide)(hdb:(x == ("__debug__" :Str))=false:=by decide)
  (he:bE (e::es) X.env=(false,eu e X.env)::bE es X.env:=by rfl) (hpl:(gw pos (bE es X.env)).any (·.1)=false:=by rfl):PE X (.Call (.Name x p) (e::es) [] pos) (tCB r t):=by
 intro aN s σ H Q I h;refine eC (kq I hg hm hv ?_ hn hdb);exact PyProof.Rows.callWith_builtin1 (thn (ha pos aN s σ H _ I h) fun us s1 ⟨vs,H1,I1,r1,q1⟩=>hc aN s1 σ H1 vs us Q I1 r1 q1) he hpl
theorem gv (hc:CallR X (.type T) r)(hg:Gl X x)(hm:X.mg x=none)(hv:bootBuiltins x=some (.type T))(ha:PA X (e::es) t)(hn:x ≠ "__name__" := by decide)(hdb:(x == ("__debug__" :Str))=false:=by decide)
  (he:bE (e::es) X.env=(false,eu e X.env)::bE es X.env:=by rfl) (hpl:(gw pos (bE es X.env)).any (·.1)=false:=by rfl):PE X (.Call (.Name x p) (e::es) [] pos) (tCB r t):=by
 intro aN s σ H Q I h;refine eC (kq I hg hm hv ?_ hn hdb);exact dQ (thn (ha pos aN s σ H _ I h) fun us s1 ⟨vs,H1,I1,r1,q1⟩=>hc aN s1 σ H1 vs us Q I1 r1 q1) he hpl
end
end L2
variable {CW:L2.St→L2.VK→L2.It→L2.Hp→Prop}{g:L2.TG}
namespace HT
open PySem PyProof.Rows
theorem cat_tup {t b:ai}{ws:List ae}(ht:IsTup s.heap t vs.toArray)(hb:IsTup s.heap b ws.toArray)(hv:vs≠[])
  (h1:ws=[]→Q (.ref t) s) (h2:ws≠[]→Q (.ref s.heap.objs.size) { s with heap:=s.heap.push { cls:= .type "tuple",data:= .seq (vs++ws).toArray } })
  (hsz:vs.length+ws.length≤bj):aX (br prog w) A (gm .Add (.ref t) (.ref b)) Q E s:=by
 obtain ⟨⟨cls,dd,data,sl⟩,ho,hc,n,hd⟩:=id ht;obtain ⟨⟨cls2,dd2,data2,sl2⟩,ho2,hc2,n2,hd2⟩:=id hb;simp only at hc hd hc2 hd2;subst hc hd hc2 hd2;have e:vs.toArray++ws.toArray=(vs++ws).toArray:=by simp
 by_cases hw:ws=[]
 ·exact concat_meets ⟨_,ho,rfl⟩ ⟨_,ho2,rfl⟩ noFill_tuple_add seq_tuple_add PySem.F.slot_tuple_add kd (jT _ _)
   (tuple_addW1 t b vs.toArray ws.toArray n n2 dd dd2 sl sl2 (by simpa using hv) (by simp [hw])) ⟨ho,ho2,h1 hw⟩
 ·refine concat_meets ⟨_,ho,rfl⟩ ⟨_,ho2,rfl⟩ noFill_tuple_add seq_tuple_add PySem.F.slot_tuple_add kd (jT _ _)
   (tuple_addW2 t b vs.toArray ws.toArray n n2 dd dd2 sl sl2 (by simpa using hv) (by simpa using hw) (by rw [aG,aG];exact hsz)) ⟨ho,ho2,?_⟩
  rw [e];exact h2 hw
def sIx (n d:Nat):Option Int→Nat
 | none=>d
 | some v=>if v<0 then (v+(n:Int)).toNat else min v.toNat n
theorem sIx_nat (n d k:Nat):sIx n d (some (k:Int))=min k n:=by
 show (if (k:Int)<0 then ((k:Int)+(n:Int)).toNat else min (k:Int).toNat n)=min k n;rw [oZ (by omega),cM]
theorem sIx_le (n d:Nat)(hd:d≤n)(o:Option Int):sIx n d o≤n:=by
 cases o with
 | none=>exact hd
 | some v =>
  show (if v<0 then (v+(n:Int)).toNat else min v.toNat n)≤n
  by_cases hv:v<0
  ·rw [o4 hv];omega
  ·rw [oZ hv];exact Nat.min_le_right _ _
theorem clip_eq (v:Int)(n d:Nat):(if v<0 then max (v+(n:Int)) 0 else min v (n:Int))=((sIx n d (some v):Nat):Int):=by
 show (if v<0 then max (v+(n:Int)) 0 else min v (n:Int))=(((if v<0 then (v+(n:Int)).toNat else min v.toNat n):Nat):Int)
 by_cases hv:v<0
 ·simp only [o4 hv];omega
 ·simp only [oZ hv];omega
theorem adjust_gen (lo hi:Option Int)(n:Nat):jw lo hi 1 (n:Int)=(((sIx n 0 lo:Nat):Int),((sIx n n hi:Nat):Int)):=by
 have h1:¬ ((1:Int)<0):=by omega
 unfold jw;simp only [h1,if_false];refine Prod.ext ?_ ?_
 ·cases lo with
  | none=>rfl
  | some v=>exact clip_eq v n 0
 ·cases hi with
  | none=>rfl
  | some v=>exact clip_eq v n n
theorem places_gen (i j:Nat):gJ (i:Int) (j:Int) 1=j - i:=by
 unfold gJ;have h1:(1:Int) > 0:=by omega
 simp only [h1,if_true,Int.ediv_one];split <;> omega
theorem oF {v:ae}{o:Option Int}{Q:Option Int→aq→Prop}(p:IsPart v o)(h:Q o s):aX (br prog w) A (eN.Slice.slicePartIndex v) Q E s:=by
 cases p with
 | none=>exact slicePart_none h
 | int i t=>exact slicePart_int h
theorem sliceApplied_gen {sl:ai}{vl vu:ae}{lo hi:Option Int}{Q:Int×Int×Nat→aq→Prop}(hs:s.heap.IsSliceOf sl vl vu .none)(pl:IsPart vl lo)(pu:IsPart vu hi)
  (h:Q (((sIx n 0 lo:Nat):Int),1,sIx n n hi - sIx n 0 lo) s):aX (br prog w) A (eN.Slice.sliceApplied (.ref sl) (fH (n:Int))) Q E s:=by
 obtain ⟨os,hos,hcs,hds⟩:=id hs;unfold eN.Slice.sliceApplied eN.Slice.sliceFields;refine ah (ah (eI hos hds (x:=vl) rfl (ah (eI hos hds (x:=vu) rfl (ah (eI hos hds (x:= .none) rfl (aO ?_)))))));refine ah (slicePart_none ?_);show aX _ _ (if ((1:Int) == 0)=true then _ else _) _ _ s;rw [oZ (by decide)];refine ah (oF pl (ah (oF pu (ah (aO ?_)))));show aX _ _ (match jw lo hi 1 (n:Int) with | (lo,hi)=>fH (lo,(1:Int),gJ lo hi 1)) _ _ s;rw [adjust_gen lo hi n];show aX _ _ (fH (((sIx n 0 lo:Nat):Int),(1:Int),gJ ((sIx n 0 lo:Nat):Int) ((sIx n n hi:Nat):Int) 1)) _ _ s;rw [places_gen];exact aO h
theorem pick_gen (xs:Array ae)(i k:Nat):((aR k).filterMap fun (m:Nat)=>xs[((i:Int)+(m:Int) * 1).toNat]?).toArray=((xs.toList.drop i).take k).toArray:=by
 have e:(fun (m:Nat)=>xs[((i:Int)+(m:Int) * 1).toNat]?)=fun m=>xs[i+m]? := by
  funext m
  have:((i:Int)+(m:Int) * 1).toNat=i+m:=by omega
  rw [this]
 rw [e];have:=pick_run xs i k;rw [List.filterMap_map] at this;have e2:((fun x=>xs[x]?) ∘ fun x=>i+x)=fun m=>xs[i+m]? := rfl
 rw [e2] at this;rw [this]
theorem getItem_tuple_cut {t sl:ai}{items:Array ae}{vl vu:ae}{lo hi:Option Int}(ht:IsTup s.heap t items)(hs:s.heap.IsSliceOf sl vl vu .none)(pl:IsPart vl lo)(pu:IsPart vu hi)
  (hw:¬ (sIx items.size 0 lo=0∧sIx items.size items.size hi=items.size))
  (h:Q (.ref s.heap.objs.size) { s with heap:=s.heap.push { cls:= .type "tuple",data:= .seq ((items.toList.drop (sIx items.size 0 lo)).take (sIx items.size items.size hi - sIx items.size 0 lo)).toArray } })
  (hsz:items.size≤bj):aX (br prog w) A (getItem (.ref t) (.ref sl)) Q E s:=by
 have htake:sizeOk (.seq ((items.toList.drop (sIx items.size 0 lo)).take (sIx items.size items.size hi - sIx items.size 0 lo)).toArray):=by
  show ((items.toList.drop (sIx items.size 0 lo)).take (sIx items.size items.size hi - sIx items.size 0 lo)).toArray.size≤bj;rw [aG,bG,e8,cX];omega
 have hj:sIx items.size items.size hi≤items.size:=sIx_le _ _ (aB _) hi;obtain ⟨os,hos,hcs,hds⟩:=id hs;have hTs:s.TypeIs (.ref sl) "slice" := ⟨os,hos,hcs⟩;unfold getItem
 try with_reducible refine d7 ?_
 first | refine ah (aO ?_) | skip
 refine ah (wpAny_sequenceKey ht.typeIs (by decide) ?_);refine ah (fE (name:=cT "__getitem__") ht.typeIs cY
  (iC cY ht.typeIs entry_tuple_getitem ?_ (args_tuple_getitem _ _)))
 show aX _ _ (eN.Tuple.tupleItemsOf (.ref t) >>= _) _ _ s;refine ah (tupleItemsOf_ ht ?_);refine ah (wpAny_typeOf hTs ?_);rw [o4 (by decide)];refine ah (sliceApplied_gen hs pl pu ?_);have hno:¬ ((((sIx items.size 0 lo:Nat):Int) == 0 && (1:Int) == 1 && (sIx items.size items.size hi - sIx items.size 0 lo) == items.size)=true):=by
  intro q;rw [dB,dB] at q;have q1:((sIx items.size 0 lo:Nat):Int)=0:=eq_of_beq q.1.1;have q2:sIx items.size items.size hi - sIx items.size 0 lo=items.size:=eq_of_beq q.2;exact hw ⟨by omega,by omega⟩
 show aX _ _ (if (((sIx items.size 0 lo:Nat):Int) == 0 && (1:Int) == 1 && (sIx items.size items.size hi - sIx items.size 0 lo) == items.size)=true then _ else _) _ _ s;rw [oZ hno,pick_gen]
 first
  | exact ah (m:=gR _) (eS (aO ⟨_,rfl,aO h⟩) htake)
  | exact ah (m:=gR _) (eS (ah (aO (aO ⟨_,rfl,aO h⟩))) htake)
  | exact ah (ah (m:=gR _) (eS (aO (aO ⟨_,rfl,aO h⟩)) htake))
  | exact ah (ah (m:=gR _) (eS (aO ⟨_,rfl,aO h⟩) htake))
end HT
namespace L2
open PySem PySem.Spec PyProof.Rows
abbrev TO:=St→Hp→(Option Int→Hp→Prop)→Prop
def PO (X:Cx)(e:Option Expr)(t:TO):Prop :=
 ∀ (aN:List (ai×Obj)) (s:aq) (σ:St) (H:Hp) (Q:Option Int→Hp→Prop),Inv X aN σ H s→t σ H Q →
  aX (br X.prog X.w) X.A (evalPart e X.env) (fun u s'=>∃ o H',Inv X aN σ H' s'∧IsPart u o∧Q o H') X.xe s
def tNoPart:TO:=fun _ H Q=>Q none H
def tPart (t:TE):TO:=fun σ H Q=>t σ H fun x H1=>∃ i,x= .int i∧Q (some i) H1
section
variable {lo hi:Option Expr}{tl th:TO}{p2:Pos}
theorem po_none:PO X none tNoPart:=by
 intro aN s σ H Q I h;rw [evalPart_none];exact aO ⟨none,H,I,.none,h⟩
theorem po_some (h:PE X e te):PO X (some e) (tPart te):=by
 intro aN s σ H Q I hw;rw [evalPart_some];refine thn (h aN s σ H _ I hw) fun u s1 ⟨x,H1,I1,r1,q1⟩=>?_
 obtain ⟨i,rfl,q⟩:=q1;obtain ⟨t,rfl⟩:=r1;exact ⟨some i,H1,I1,.int i t,q⟩
def SlR (X:Cx)(r:V→Option Int→Option Int→Hp→VK→Prop):Prop :=
 ∀ (aN:List (ai×Obj)) (s:aq) (σ:St) (H:Hp) (x:V) (v vl vu:ae) (lo hi:Option Int) (sl:ai) (Q:VK),Inv X aN σ H s→RelV x v→s.heap.IsSliceOf sl vl vu .none→IsPart vl lo→IsPart vu hi→r x lo hi H Q →
  ∃ T id,typeLookup (.type T) "__getitem__" =fH (some (.builtin id))∧s.TypeIs v T∧aX (br X.prog X.w) X.A (getItem v (.ref sl)) (EP X aN σ Q) X.xe s
def tSl (r:V→Option Int→Option Int→Hp→VK→Prop)(te:TE)(tl th:TO):TE:=fun σ H Q=>te σ H fun x H1=>tl σ H1 fun l H2=>th σ H2 fun u H3=>r x l u H3 Q
theorem mR {r:V→Option Int→Option Int→Hp→VK→Prop}(hr:SlR X r)(he:PE X e te)(hl:PO X lo tl)(hu:PO X hi th):PE X (.Subscript e (.Slice lo hi none p2) pos) (tSl r te tl th):=by
 intro aN s σ H Q I h;refine Subscript_ (thn (he aN s σ H _ I h) fun v s1 ⟨x,H1,I1,r1,q1⟩=>?_);refine wpAny_Slice (thn (hl aN s1 σ H1 _ I1 q1) fun vl s2 ⟨l,H2,I2,pl,q2⟩=>thn (hu aN s2 σ H2 _ I2 q2) fun vu s3 ⟨u,H3,I3,pu,q3⟩=>?_);rw [evalPart_none];refine aO ?_;have I4:Inv X aN σ H3 { s3 with heap:=s3.heap.push { cls:= .type "slice",data:= .fields #[vl,vu,.none] } }:=I3.kept (t':=s3.toks) fun b ob q=>ar _ q
 obtain ⟨T,id,hT,ht,hg⟩:=hr aN { s3 with heap:=s3.heap.push { cls:= .type "slice",data:= .fields #[vl,vu,.none] } } σ H3 x v vl vu l u s3.heap.objs.size Q I4 r1 (bL.IsSliceOf.new ..) pl pu q3;show aX (br X.prog X.w) X.A (subscriptTail e (.Slice lo hi none p2) v (.ref s3.heap.objs.size)) (EP X aN σ Q) X.xe { s3 with heap:=s3.heap.push { cls:= .type "slice",data:= .fields #[vl,vu,.none] } };exact tail_any (ops:=[.ref s3.heap.objs.size,v]) ht hT hg (by with_unfolding_all rfl)
def cutV (xs:List V)(lo hi:Option Int):List V:=(xs.drop (HT.sIx xs.length 0 lo)).take (HT.sIx xs.length xs.length hi - HT.sIx xs.length 0 lo)
theorem cutV_length (xs:List V)(lo hi:Option Int):(cutV xs lo hi).length≤xs.length:=by
 unfold cutV;rw [bG,e8];omega
def rSlT (K:ak):V→Option Int→Option Int→Hp→VK→Prop:=fun x lo hi H Q=>∃ a xs,x= .ref a∧SqT K H a xs ∧
 ¬ (HT.sIx xs.length 0 lo=0∧HT.sIx xs.length xs.length hi=xs.length)∧∀ p,H p=none→Q (.ref p) (upd H p (.tup (cutV xs lo hi)))
theorem sl_tup:SlR X (rSlT X.K):=by
 intro aN s σ H x v vl vu lo hi sl Q I rx hs pl pu h;obtain ⟨a,xs,rfl,hx,hw,q⟩:=h;cases rx;obtain ⟨its,r,ht,hz⟩:=I.tuple hx;have hlen:its.toArray.size=xs.length:=by rw [aG];exact r.length.symm
 refine ⟨"tuple",_,cY.lookup,ht.typeIs,?_⟩;refine HT.getItem_tuple_cut ht hs pl pu (by rw [hlen];exact hw) ?_ (by rw [hlen];exact hz);rw [hlen];refine ⟨.ref s.heap.objs.size,_,I.laid (t':=s.toks) (o:= .tup (cutV xs lo hi)) (fun b ob q=>ar _ q) (aB _) ?_,rfl,q _ (I.hok.fresh (aB _))⟩;exact ⟨aY (cutV_length xs lo hi) hz,_,(r.drop (HT.sIx xs.length 0 lo)).take (HT.sIx xs.length xs.length hi - HT.sIx xs.length 0 lo),IsTupN.new _ _⟩
inductive rCatT (K:ak)(x:V)(y:V)(H:Hp)(Q:VK):Prop
 | mk (a b xs ys:_)(_:x= .ref a)(_:y= .ref b)(_:SqT K H a xs)(_:SqT K H b ys)(_:xs≠[])(_:xs.length+ys.length≤bj)(_:(ys=[]→Q (.ref a) H))(_:(ys≠[]→∀ p,H p=none→Q (.ref p) (upd H p (.tup (xs++ys)))))
theorem Vals.nil_iff (r:Vals xs us):us=[]↔xs=[]:=by
 cases r with
 | nil=>simp
 | cons _ _=>simp
theorem op_catT:OpR X (gm .Add) (rCatT X.K):=by
 intro aN s σ H x y v u Q I rx ry h;obtain ⟨a,b,xs,ys,rfl,rfl,ha,hb,hx,hz,q1,q2⟩:=h;cases rx;cases ry;obtain ⟨its,r1,p1,_⟩:=I.tuple ha;obtain ⟨its2,r2,p2,_⟩:=I.tuple hb;refine HT.cat_tup p1 p2 (fun z=>hx (r1.nil_iff.mp z)) (fun z=>⟨.ref a,H,I,rfl,q1 (r2.nil_iff.mp z)⟩) (fun z=>?_) (by rw [←r1.length,←r2.length];exact hz);refine ⟨.ref s.heap.objs.size,_,I.laid (t':=s.toks) (o:= .tup (xs++ys)) (fun b ob q=>ar _ q) (aB _) ?_,rfl,q2 (fun w=>z (r2.nil_iff.mpr w)) _ (I.hok.fresh (aB _))⟩;exact ⟨by rw [av];exact hz,_,r1.append r2,IsTupN.new _ _⟩
end
def ixN (n:Nat)(i:Int):Option Nat:=if 0≤i then (if i<n then some i.toNat else none) else if -(n:Int)≤i then some (i+n).toNat else none
def atI {α:Type}(xs:List α)(i:Int):Option α:=(ixN xs.length i).bind fun j=>xs[j]?
theorem ixN_seq {i:Int}(h:ixN n i=some j):seqIndex? i n=some j∧j<n∧ -(n:Int)≤i∧i<n:=by
 unfold ixN at h
 by_cases h0:0≤i
 ·rw [o4 h0] at h
  by_cases h1:i<n
  ·rw [o4 h1] at h
   have e:i.toNat=j:=bZ h;exact ⟨by rw [seqIndex_of h0 h1,e],by omega,by omega,h1⟩
  ·rw [oZ h1] at h;cases h
 ·rw [oZ h0] at h
  by_cases h1: -(n:Int)≤i
  ·rw [o4 h1] at h
   have e:(i+n).toNat=j:=bZ h;exact ⟨by rw [seqIndex_neg (by omega) h1,e],by omega,h1,by omega⟩
  ·rw [oZ h1] at h;cases h
theorem atI_get {xs:List α}{i:Int}{v:α}(h:atI xs i=some v):∃ j,seqIndex? i xs.length=some j∧xs[j]? =some v∧j<xs.length∧ -(xs.length:Int)≤i∧i<xs.length:=by
 unfold atI at h;cases e:ixN xs.length i with
 | none=>rw [e] at h;cases h
 | some j =>
  rw [e] at h;obtain ⟨h1,h2,h3,h4⟩:=ixN_seq e;exact ⟨j,h1,h,h2,h3,h4⟩
theorem aJ {xs:List α}{v:α}(h:xs[j]? =some v):atI xs (j:Int)=some v:=by
 have hj:j<xs.length:=(ao.mp h).1;have e:ixN xs.length (j:Int)=some j:=by
  unfold ixN;rw [o4 (by omega),o4 (by omega)];simp
 unfold atI;rw [e];exact h
def PlainIx (b:Expr):Prop:=∀ o i,subscripted b false o i=operate [o,i] (getItem o i)
def IxR (X:Cx)(r:R2):Prop :=
 ∀ (value slice:Expr) (aN:List (ai×Obj)) (s:aq) (σ:St) (H:Hp) (x y:V) (v u:ae) (Q:VK),Inv X aN σ H s→RelV x v→RelV y u→r x y H Q →
  subscripted slice false v u=operate [v,u] (getItem v u)→aX (br X.prog X.w) X.A (subscriptTail value slice v u) (EP X aN σ Q) X.xe s
def MtR (X:Cx)(id:String)(r:V→List V→Hp→VK→Prop):Prop :=
 ∀ (aN:List (ai×Obj)) (s:aq) (σ:St) (H:Hp) (x:V) (xs:List V) (v:ae) (us:List ae) (Q:VK),Inv X aN σ H s→RelV x v→Vals xs us→r x xs H Q →
  aX (br X.prog X.w) X.A (call (.builtin id) (v::us)) (EP X aN σ Q) X.xe s
section
variable {a b:Expr}{ta tb:TE}
theorem d9 {r:R2}(hr:IxR X r)(ha:PE X a ta)(hb:PE X b tb)(hs:PlainIx b):PE X (.Subscript a b pos) (tOp r ta tb):=by
 intro aN s σ H Q I h;exact Subscript_ (binT ha hb I h fun v u s2 x y H2 I2 rx ry q=>hr a b aN s2 σ H2 x y v u Q I2 rx ry q (hs _ _))
inductive rIxL (K:ak)(x:V)(y:V)(H:Hp)(Q:VK):Prop
 | mk (p xs i v:_)(_:x= .ref p)(_:y= .int i)(_:SqL K H p xs)(_:atI xs i=some v)(_:Q v H)
inductive nM (K:ak)(x:V)(y:V)(H:Hp)(Q:VK):Prop
 | mk (p xs i v:_)(_:x= .ref p)(_:y= .int i)(_:SqT K H p xs)(_:atI xs i=some v)(_:Q v H)
theorem fA:IxR X (rIxL X.K):=by
 intro value slice aN s σ H x y v u Q I rx ry h hs;obtain ⟨p,xs,i,z,rfl,rfl,hq,he,q⟩:=h;cases rx;obtain ⟨t,rfl⟩:=ry;obtain ⟨its,r,pl,hz⟩:=I.list hq;obtain ⟨j,h1,h2,h3,h4,h5⟩:=atI_get he;obtain ⟨w,ew,rw'⟩:=r.get h2;have hl:=r.length;have hn:=line63;have fin:EP X aN σ Q w s:=⟨z,H,I,rw',q⟩
 by_cases h0:0≤i
 ·have hj:i.toNat=j:=by
   rw [seqIndex_of h0 h5] at h1;exact bZ h1
  exact item_listR pl.isList h0 (by omega) (by rw [hj];simpa using ew) fin hs
 ·have hj:(i+(its.toArray.size:Int)).toNat=j:=by
   rw [seqIndex_neg (by omega) h4] at h1;rw [aG,←hl];exact bZ h1
  exact subscriptTail_builtinR (x:=w) pl.isList.typeIs slot_list_getitem.lookup
   (wpAny_getItem_list_neg (Q:=fun r s'=>r=w∧EP X aN σ Q r s') pl.isList (by omega) (by rw [aG] <;> omega) (by omega) (by rw [hj];simpa using ew) ⟨rfl,fin⟩) hs
theorem dH:IxR X (nM X.K):=by
 intro value slice aN s σ H x y v u Q I rx ry h hs;obtain ⟨p,xs,i,z,rfl,rfl,hq,he,q⟩:=h;cases rx;obtain ⟨t,rfl⟩:=ry;obtain ⟨its,r,pl,hz⟩:=I.tuple hq;obtain ⟨j,h1,h2,h3,h4,h5⟩:=atI_get he;obtain ⟨w,ew,rw'⟩:=r.get h2;have hl:=r.length;have hn:=line63;have fin:EP X aN σ Q w s:=⟨z,H,I,rw',q⟩;exact subscriptTail_builtinR (x:=w) pl.typeIs slot_tuple_getitem.lookup
  (getItem_tuple (j:=j) (Q:=fun r s'=>r=w∧EP X aN σ Q r s') pl (by omega) (by omega) (by rw [aG,←hl];exact h1) (by simpa using ew) ⟨rfl,fin⟩) hs
theorem mapSeq_set (its:List ae)(n j:Nat)(u:ae):cA (·.setIfInBounds j u) { cls:= .type "list",data:= .seq its.toArray n }={ cls:= .type "list",data:= .seq (its.set j u).toArray n }:=by
 simp [cA]
theorem Inv.lst {aN:List (ai×Obj)}{σ:St}{H:Hp}{s:aq}{p:ai}{xs:List V}(I:Inv X aN σ H s)(h:H p=some (.lst xs)) :
  ∃ (its:List ae) (n:Nat),Vals xs its∧s.heap.get? p=some { cls:= .type "list",data:= .seq its.toArray n }∧xs.length≤bj:=by
 obtain ⟨z,its,n,r,e⟩:=I.hok p _ h;exact ⟨its,n,r,e,z⟩
theorem Inv.lstUpd {p:ai}{its its':List ae}{n':Nat}{f:Obj→Obj}(I:Inv X aN σ H s)(h:H p=some (.lst xs))
  (ho:s.heap.get? p=some { cls:= .type "list",data:= .seq its.toArray n }) (hf:f { cls:= .type "list",data:= .seq its.toArray n }={ cls:= .type "list",data:= .seq its'.toArray n' }) (r:Vals ys its') (hz:ys.length≤bj) (t:Nat) :
  Inv X aN σ (upd H p (.lst ys)) { s with heap:=s.heap.update p f,toks:=t }:=by
 have e:(s.heap.update p f).get? p=some { cls:= .type "list",data:= .seq its'.toArray n' }:=by
  rw [bL.get?_update_self f ho (by rw [hf] <;> rfl),hf]
 refine I.write (x:=p) (e:=p) (by rw [h];trivial) (.inl rfl) (fun b u hb q=>(iZ _ _ (cw hb)).trans q) ⟨_,e⟩ ?_;exact ⟨hz,its',n',r,e⟩
def rSetL:V→V→V→Hp→(Hp→Prop)→Prop:=fun o i v H Q=>∃ p xs k j,o= .ref p∧i= .int k∧H p=some (.lst xs)∧ixN xs.length k=some j∧Q (upd H p (.lst (xs.set j v)))
theorem set_list:PSet X rSetL:=by
 intro aN s σ H o i v ov iv u Q I ro ri rv h;obtain ⟨p,xs,k,j,rfl,rfl,hp,hj,q⟩:=h;cases ro;obtain ⟨t,rfl⟩:=ri;obtain ⟨its,n,r,ho,hz⟩:=I.lst hp;obtain ⟨h1,h2,h3,h4⟩:=ixN_seq hj;have hl:=r.length;have hn:=line63;have I':Inv X aN σ (upd H p (.lst (xs.set j v))) { s with heap:=s.heap.update p (cA (·.setIfInBounds j u)) } :=
  I.lstUpd hp ho (mapSeq_set its n j u) (r.set rv j) (by rw [gG];exact hz) s.toks
 by_cases h0:0≤k
 ·have hk:k.toNat=j:=by
   rw [seqIndex_of h0 h4] at h1;exact bZ h1
  exact PySem.W.ki_setAt ho h0 (by omega) (by rw [aG,←hl];exact h4) (by rw [hk];exact ⟨_,I',q⟩)
 ·have hk:(k+(its.toArray.size:Int)).toNat=j:=by
   rw [seqIndex_neg (by omega) h3] at h1;rw [aG,←hl];exact bZ h1
  exact PySem.W.ki_setBack ho (by omega) (by rw [aG,←hl];exact h3) (by omega) (by rw [hk];exact ⟨_,I',q⟩)
def flatV:V→Bool
 | .non=>true
 | .bl _=>true
 | .int _=>true
 | .str _=>true
 | _=>false
def eqV:V→V→Bool
 | .non,.non=>true
 | .bl a,.bl b=>a == b
 | .bl a,.int b=>(if a then 1 else 0) == b
 | .int a,.bl b=>a == (if b then 1 else 0)
 | .int a,.int b=>a == b
 | .str a,.str b=>a == b
 | _,_=>false
theorem eqAt_V {x:V}{v:ae}(ry:RelV y u)(rx:RelV x v)(fy:flatV y=true)(fx:flatV x=true):SeqAt.EqAt A s u v (eqV y x):=by
 cases y with
 | non =>
  cases ry;cases x with
  | non=>cases rx;exact SeqAt.EqAt.same _
  | bl b=>cases rx;exact SeqAt.EqAt.none_bool b
  | int b=>obtain ⟨t,rfl⟩:=rx;exact SeqAt.EqAt.none_int b t
  | str b=>obtain ⟨t,rfl⟩:=rx;exact SeqAt.EqAt.none_str b t
  | _=>exact o6 (show false=true from fx) aP
 | bl a =>
  cases ry;cases x with
  | non=>cases rx;exact SeqAt.EqAt.bool_none a
  | bl b=>cases rx;exact SeqAt.EqAt.bool_bool a b
  | int b=>obtain ⟨t,rfl⟩:=rx;exact SeqAt.EqAt.bool_int a b t
  | str b=>obtain ⟨t,rfl⟩:=rx;exact SeqAt.EqAt.bool_str a b t
  | _=>exact o6 (show false=true from fx) aP
 | int a =>
  obtain ⟨t',rfl⟩:=ry;cases x with
  | non=>cases rx;exact SeqAt.EqAt.int_none a t'
  | bl b=>cases rx;exact SeqAt.EqAt.int_bool a t' b
  | int b=>obtain ⟨t,rfl⟩:=rx;exact SeqAt.EqAt.int_int a t' b t
  | str b=>obtain ⟨t,rfl⟩:=rx;exact SeqAt.EqAt.int_str a t' b t
  | _=>exact o6 (show false=true from fx) aP
 | str a =>
  obtain ⟨t',rfl⟩:=ry;cases x with
  | non=>cases rx;exact SeqAt.EqAt.str_none a t'
  | bl b=>cases rx;exact SeqAt.EqAt.str_bool a t' b
  | int b=>obtain ⟨t,rfl⟩:=rx;exact SeqAt.EqAt.str_int a t' b t
  | str b=>obtain ⟨t,rfl⟩:=rx;exact SeqAt.EqAt.str_str a t' b t
  | _=>exact o6 (show false=true from fx) aP
 | _=>exact o6 (show false=true from fy) aP
def eqU (x:V)(u:ae):Bool:=match u with
 | .none=>eqV .non x
 | .bool b=>eqV (.bl b) x
 | .int i _=>eqV (.int i) x
 | .str z _=>eqV (.str z) x
 | _=>false
theorem eqU_of {x:V}(r:RelV y u)(f:flatV y=true):eqU x u=eqV y x:=by
 cases y with
 | non=>cases r;rfl
 | bl b=>cases r;rfl
 | int i=>obtain ⟨t,rfl⟩:=r;rfl
 | str z=>obtain ⟨t,rfl⟩:=r;rfl
 | _=>exact o6 (show false=true from f) aP
theorem oo {x:V}:∀ {xs:List V} {us:List ae},Vals xs us→xs.all flatV=true→us.any (eqU x)=xs.any fun y=>eqV y x
 | _,_,.nil,_=>rfl
 | y::xs,u::us,.cons r t,f=>by
  rw [List.all_cons,dB] at f;rw [iB,iB,eqU_of r f.1,oo t f.2]
theorem lM {A:bS}{s:aq}{x:V}{v:ae}(rx:RelV x v)(fx:flatV x=true):∀ {xs:List V} {us:List ae},Vals xs us→xs.all flatV=true→∀ u∈us,SeqAt.EqAt A s u v (eqU x u)
 | _,_,.nil,_=>fun u hu=>by cases hu
 | y::xs,u::us,.cons r t,f=>fun u' hu=>by
  rw [List.all_cons,dB] at f
  rcases az.mp hu with rfl | hu
  ·rw [eqU_of r f.1];exact eqAt_V r rx f.1 fx
  ·exact lM rx fx t f.2 u' hu
def inV (x:V)(xs:List V):Bool:=xs.any fun y=>eqV y x
inductive rIn (K:ak)(neg:Bool)(x:V)(y:V)(H:Hp)(Q:VK):Prop
 | mk (p xs:_)(_:y= .ref p)(_:(SqL K H p xs∨SqT K H p xs))(_:flatV x=true)(_:xs.all flatV=true)(_:Q (.bl (if neg then !inV x xs else inV x xs)) H)
theorem op_in_seq:OpR X (fG .In) (rIn X.K false):=by
 intro aN s σ H x y v u Q I rx ry h;obtain ⟨p,xs,rfl,hq,fx,fs,q⟩:=h;cases ry
 rcases hq with hq | hq
 ·obtain ⟨its,r,pl,hz⟩:=I.list hq
  refine SeqAt.in_listAt (eqU x) pl.isList (fun w hw=>lM rx fx r fs w (by simpa using hw)) ⟨.bl _,H,I,rfl,?_⟩;rw [show its.toArray.any (eqU x)=its.any (eqU x) by simp,oo r fs];exact q
 ·obtain ⟨its,r,pl,hz⟩:=I.tuple hq
  refine SeqAt.in_tupleAt (eqU x) pl (fun w hw=>lM rx fx r fs w (by simpa using hw)) ⟨.bl _,H,I,rfl,?_⟩;rw [show its.toArray.any (eqU x)=its.any (eqU x) by simp,oo r fs];exact q
theorem op_notIn_seq:OpR X (fG .NotIn) (rIn X.K true):=by
 intro aN s σ H x y v u Q I rx ry h;obtain ⟨p,xs,rfl,hq,fx,fs,q⟩:=h;cases ry
 rcases hq with hq | hq
 ·obtain ⟨its,r,pl,hz⟩:=I.list hq
  refine SeqAt.notIn_listAt (eqU x) pl.isList (fun w hw=>lM rx fx r fs w (by simpa using hw)) ⟨.bl _,H,I,rfl,?_⟩;rw [show its.toArray.any (eqU x)=its.any (eqU x) by simp,oo r fs];exact q
 ·obtain ⟨its,r,pl,hz⟩:=I.tuple hq
  refine SeqAt.notIn_tupleAt (eqU x) pl (fun w hw=>lM rx fx r fs w (by simpa using hw)) ⟨.bl _,H,I,rfl,?_⟩;rw [show its.toArray.any (eqU x)=its.any (eqU x) by simp,oo r fs];exact q
theorem cZ:CallR X (.builtin "len") (fun xs H Q=>∃ p ys,xs=[.ref p]∧(SqL X.K H p ys∨SqT X.K H p ys)∧Q (.int ys.length) H):=by
 intro aN s σ H xs us Q I r h;obtain ⟨p,ys,rfl,hq,q⟩:=h;obtain ⟨u,rfl,rx⟩:=vals1 r;cases rx;have hn:=line63
 rcases hq with hq | hq
 ·obtain ⟨its,r',pl,hz⟩:=I.list hq
  have hlen:=r'.length;exact Calls.call_len_list pl.isList (by simp only [aG] <;> omega) ⟨.int ys.length,H,I.tok _,⟨s.toks+1,by rw [aG,hlen]⟩,q⟩
 ·obtain ⟨its,r',pl,hz⟩:=I.tuple hq
  have hlen:=r'.length;exact len_tuple pl (by simp only [aG] <;> omega) ⟨.int ys.length,H,I.tok _,⟨s.toks+1,by rw [aG,hlen]⟩,q⟩
theorem call_tuple_of:CallR X (.type "tuple") (fun xs H Q=>∃ p ys,xs=[.ref p]∧((SqL X.K H p ys∧∀ l,H l=none→Q (.ref l) (upd H l (.tup ys)))∨(SqT X.K H p ys∧Q (.ref p) H))):=by
 intro aN s σ H xs us Q I r h;obtain ⟨p,ys,rfl,h⟩:=h;obtain ⟨u,rfl,rx⟩:=vals1 r;cases rx
 rcases h with ⟨hq,q⟩ | ⟨hq,q⟩
 ·obtain ⟨its,r',pl,hz⟩:=I.list hq
  have hlen:=r'.length;refine call_tuple_list pl.isList (fun h' kp=>?_) (by simp only [aG] <;> omega);have I1:Inv X aN σ H { s with heap:=h' }:=I.kept (t':=s.toks) kp;have I2:Inv X aN σ (upd H h'.objs.size (.tup ys)) { s with heap:=h'.push { cls:= .type "tuple",data:= .seq its.toArray } } :=
   I1.laid (t':=s.toks) (fun b o e=>ar _ e) (aB _) (show ObjOk X.prog X.w _ _ _ (.tup ys) from ⟨hz,its,r',IsTupN.new _ _⟩)
  exact ⟨.ref h'.objs.size,_,I2,rfl,q _ (I1.hok.fresh (aB _))⟩
 ·obtain ⟨its,r',pl,hz⟩:=I.tuple hq
  exact call_tuple_same pl ⟨.ref p,H,I,rfl,q⟩
def tyV (K:ak)(T:String)(x:V)(H:Hp):Prop:=match x with
 | .str _=>T = "str"
 | .int _=>T = "int"
 | .ref p=>(T = "list" ∧∃ xs,SqL K H p xs)∨(T = "tuple" ∧∃ o,K.lookup p=some o∧o.cls= .type "tuple" ∧o.dict=none) ∨
   (T = "dict" ∧((∃ kvs,H p=some (.dK kvs))∨∃ kvs,H p=some (.dT kvs)))∨(T = "set" ∧∃ S n,H p=some (.set S n))
 | _=>False
theorem tyV_is {T:String}{x:V}{v:ae}(I:Inv X aN σ H s)(r:RelV x v)(ty:tyV X.K T x H) :
  s.TypeIs v T∧∀ a,v= .ref a→∃ ob,s.heap.get? a=some ob∧ob.dict=none:=by
 cases x with
 | str z =>
  obtain ⟨t,rfl⟩:=r;cases (show T = "str" from ty);exact ⟨typeIs_str s z t,fun _ e=>nomatch e⟩
 | int i =>
  obtain ⟨t,rfl⟩:=r;cases (show T = "int" from ty);exact ⟨typeIs_int s i t,fun _ e=>nomatch e⟩
 | ref p =>
  cases r
  rcases ty with ⟨rfl,xs,hq⟩ | ⟨rfl,o,hk,hc,hd⟩ | ⟨rfl,hk⟩ | ⟨rfl,S,n,hk⟩
  ·obtain ⟨its,_,pl,_⟩:=I.list hq
   refine ⟨pl.isList.typeIs,fun a e=>?_⟩;cases e;obtain ⟨o,n,e,c,hd,_⟩:=pl;exact ⟨o,e,hd⟩
  ·refine ⟨⟨o,I.kIn p o hk,hc⟩,fun a e=>?_⟩
   cases e;exact ⟨o,I.kIn _ o hk,hd⟩
  ·have z:∃ o,s.heap.get? p=some o∧o.ExactDict:=by
    rcases hk with ⟨kvs,hk⟩ | ⟨kvs,hk⟩
    ·obtain ⟨_,_,_,_,o,_,_,e,ex,_⟩:=I.hok p _ hk
     exact ⟨o,e,ex⟩
    ·obtain ⟨_,_,_,_,o,_,_,e,ex,_⟩:=I.hok p _ hk
     exact ⟨o,e,ex⟩
   obtain ⟨o,e,ex⟩:=z;refine ⟨⟨o,e,ex.1⟩,fun a e2=>?_⟩;cases e2;exact ⟨o,e,ex.2.1⟩
  ·obtain ⟨o,_,_,_,e,ex,_⟩:=I.hok p _ hk
   refine ⟨⟨o,e,ex.1⟩,fun a e2=>?_⟩;cases e2;exact ⟨o,e,ex.2.1⟩
 | _=>exact cN ty
def tBM0 (K:ak)(T:String)(r:V→List V→Hp→VK→Prop)(to:TE):TE:=fun σ H Q=>to σ H fun x H1=>tyV K T x H1∧r x [] H1 Q
def tBM (K:ak)(T:String)(r:V→List V→Hp→VK→Prop)(to:TE)(t:TA):TE:=fun σ H Q=>to σ H fun x H1=>tyV K T x H1∧t σ H1 fun xs H2=>r x xs H2 Q
variable {o:Expr}{to:TE}{name:Str}{apos cpos:Pos}{T id:String}{r:V→List V→Hp→VK→Prop}
theorem oM (pa:PlainAttrs T)(slot:Slot T name id)(hty:typeOf (.builtin id)=fH (.type "method_descriptor"))(hm:MtR X id r)(ho:PE X o to)
  (hbase:attributeBase o name X.env (eu o X.env)=eu o X.env:=by rfl) (hline:(apos.endLine == cpos.line)=true:=by rfl):PE X (.Call (.Attribute o name apos) [] [] cpos) (tBM0 X.K T r to):=by
 intro aN s σ H Q I h;refine wpAny_Call_method0_late hbase hline (thn (ho aN s σ H _ I h) fun v s1 ⟨x,H1,I1,r1,ty,q1⟩=>?_);obtain ⟨h1,h2⟩:=tyV_is I1 r1 ty;exact ⟨T,id,pa,slot,hty,h1,h2,Calls.callWith_builtin rfl (PySem.evalArgs_none (hm aN s1 σ H1 x [] v [] Q I1 r1 .nil q1))⟩
theorem mz (pa:PlainAttrs T)(slot:Slot T name id)(hty:typeOf (.builtin id)=fH (.type "method_descriptor"))(hm:MtR X id r)(ho:PE X o to)(ha:PA X (e::es) t)
  (hbase:attributeBase o name X.env (eu o X.env)=eu o X.env:=by rfl)
  (hfew:((gw cpos (bE (e::es) X.env)).all (fun x=> !x.1) && (backToKw cpos (keywordEach [] X.env)).all (fun x=>x.1.isSome)
   && decide ((e::es).length+([]:List Keyword).length+(if ([]:List Keyword).isEmpty then 0 else 1)<30))=true:=by rfl)
  (hline:(apos.endLine == cpos.line)=true:=by rfl) (hs:bE (e::es) X.env=(false,eu e X.env)::bE es X.env:=by rfl) (hplain:(gw cpos (bE es X.env)).any (·.1)=false:=by rfl) :
  PE X (.Call (.Attribute o name apos) (e::es) [] cpos) (tBM X.K T r to t):=by
 intro aN s σ H Q I h;refine wpAny_Call_method_late hbase hfew hline rfl (thn (ho aN s σ H _ I h) fun v s1 ⟨x,H1,I1,r1,ty,q1⟩=>?_);obtain ⟨h1,h2⟩:=tyV_is I1 r1 ty;refine ⟨T,id,pa,slot,hty,h1,h2,?_⟩;have hA:=ha cpos aN s1 σ H1 _ I1 q1;rw [hs] at hA ⊢;refine Calls.callWith_builtin (by show (false || (gw cpos (bE es X.env)).any (·.1))=false;rw [hplain] <;> rfl) (Calls.evalArgs_plain ?_);exact thn hA fun us s2 ⟨vs,H2,I2,r2,q2⟩=>hm aN s2 σ H2 x vs v us Q I2 r1 r2 q2
end
def MtM (X:Cx)(id:String)(r:V→List V→Hp→VK→Prop):Prop :=
 ∀ (aN:List (ai×Obj)) (s:aq) (σ:St) (H:Hp) (x:V) (xs:List V) (v:ae) (us:List ae) (Q:VK),Inv X aN σ H s→RelV x v→Vals xs us→r x xs H Q →
  aX (br X.prog X.w) X.A (call (.builtin id) (v::us)) (EP X aN σ Q) X.xe s
theorem Vals.one:∀ {x:V} {us:List ae},Vals [x] us→∃ u,us=[u]∧RelV x u
 | _,_,.cons r .nil=>⟨_,rfl,r⟩
theorem Vals.zero:∀ {us:List ae},Vals [] us→us=[]
 | _,.nil=>rfl
theorem Vals.dropLast (h:Vals xs us):Vals xs.dropLast us.dropLast:=by
 induction h with
 | nil=>exact .nil
 | cons r t ih =>
  cases t with
  | nil=>exact .nil
  | cons q t'=>exact .cons r ih
theorem Vals.rep {xs:List V}{us:List ae}(h:Vals xs us):∀ k:Nat,Vals (bP k xs).flatten (bP k us).flatten
 | 0=> .nil
 | k+1=>by
  rw [iu,iu,List.flatten_cons,List.flatten_cons];exact Vals.append h (Vals.rep h k)
theorem erase_last (l:List α):l.eraseIdx (l.length - 1)=l.dropLast:=by
 induction l with
 | nil=>rfl
 | cons a r ih =>
  cases r with
  | nil=>rfl
  | cons b r =>
   have e:(a::b::r).length - 1=((b::r).length - 1)+1:=by
    have h1:(a::b::r).length=r.length+2:=rfl;have h2:(b::r).length=r.length+1:=rfl;omega
   rw [e,List.eraseIdx_cons_succ,ih]
   all_goals rfl
theorem foldl_rep (its:List ae):∀ (k:Nat) (acc:List ae),
  List.foldl (fun x1 x2=>x1++x2) acc.toArray (bP k its.toArray)=(acc++(bP k its).flatten).toArray
 | 0,acc=>by simp
 | k+1,acc=>by
  have e:acc.toArray++its.toArray=(acc++its).toArray:=by simp
  have e2:(acc++its)++(bP k its).flatten=acc++(bP (k+1) its).flatten:=by
   rw [iu,List.flatten_cons,List.append_assoc]
  rw [←e2,←foldl_rep its k (acc++its),←e,iu,bM]
section
variable {l b:ai}{zs:List V}
theorem Inv.lset {its its':List ae}{f:Array ae→Array ae}(I:Inv X aN σ H s)(hH:H l=some (.lst xs))
  (e:s.heap.get? l=some { cls:= .type "list",data:= .seq its.toArray n }) (hf:f its.toArray=its'.toArray) (hv:Vals ys its') (hz:ys.length≤bj) :
  Inv X aN σ (upd H l (.lst ys)) { s with heap:=s.heap.update l (cA f),toks:=t' }:=by
 have q:=PySem.IsL.update e f;rw [hf] at q;refine I.write (x:=l) (e:=l) (by rw [hH];exact trivial) (.inl rfl) (fun b' u hb hu=>(iZ s.heap (cA f) (cw hb)).trans hu) ⟨_,q⟩ ?_;exact ⟨hz,its',_,hv,q⟩
theorem Inv.lnew {its:List ae}(I:Inv X aN σ H s)(hv:Vals ys its)(hz:ys.length≤bj) :
  Inv X aN σ (upd H s.heap.objs.size (.lst ys)) { s with heap:=s.heap.push { cls:= .type "list",data:= .seq its.toArray },toks:=t' } :=
 I.laid (fun _ _ q=>ar _ q) (aB _) ⟨hz,its,0,hv,aZ _ rfl⟩
theorem Inv.fresh (I:Inv X aN σ H s):H s.heap.objs.size=none:=I.hok.fresh (aB _)
theorem Inv.lstM (I:Inv X aN σ H s)(hH:H l=some (.lst xs)):xs.length≤bj∧∃ (its:List ae) (n:Nat),Vals xs its∧xs.length=its.length∧s.heap.get? l=some { cls:= .type "list",data:= .seq its.toArray n }:=by
 obtain ⟨z,its,n,r,e⟩:=I.hok l _ hH;exact ⟨z,its,n,r,r.length,e⟩
theorem notLongL (h:n≤bj):gW n=false:=by
 unfold gW;exact o9 (by omega)
end
inductive rAppend (x:V)(vs:List V)(H:Hp)(Q:VK):Prop
 | mk (l xs y:_)(_:x= .ref l)(_:vs=[y])(_:H l=some (.lst xs))(_:xs.length<bj)(_:Q .non (upd H l (.lst (xs++[y]))))
theorem iI:MtM X "list.append" rAppend:=by
 intro aN s σ H x vs v us Q I rx rv h;obtain ⟨l,xs,y,rfl,rfl,hH,hz,q⟩:=h;cases rx;obtain ⟨u,rfl,ru⟩:=rv.one;obtain ⟨z,its,n,r,hl,e⟩:=I.lstM hH;refine call_meets F.slot_list_append ⟨_,e,rfl⟩ F.entry_list_append (F.args_list_append_2 _ _) (PySem.list_append l its.toArray n u (by rw [aG];omega)) ⟨e,?_⟩;refine ⟨.non,_,I.lset (its':=its++[u]) hH e (by simp) (r.append (.cons ru .nil)) ?_,rfl,q⟩;rw [av,fR];omega
inductive rExtend (x:V)(vs:List V)(H:Hp)(Q:VK):Prop
 | mk (l b xs zs:_)(_:x= .ref l)(_:vs=[.ref b])(_:H l=some (.lst xs))(_:H b=some (.lst zs))(_:xs.length+zs.length≤bj)(_:Q .non (upd H l (.lst (xs++zs))))
theorem mt_extend:MtM X "list.extend" rExtend:=by
 intro aN s σ H x vs v us Q I rx rv h;obtain ⟨l,b,xs,zs,rfl,rfl,hH,hB,hz,q⟩:=h;cases rx;obtain ⟨u,rfl,ru⟩:=rv.one;cases ru;obtain ⟨z,its,n,r,hl,e⟩:=I.lstM hH;obtain ⟨z2,its2,n2,r2,hl2,e2⟩:=I.lstM hB;have hsz:its.toArray.size+its2.toArray.size≤bj:=by rw [aG,aG];omega
 have hlong:¬ (!its.toArray.isEmpty && gW (its.toArray.size+its2.toArray.size))=true:=by
  rw [notLongL hsz,Bool.and_false];exact aP
 refine call_meets F.slot_list_extend ⟨_,e,rfl⟩ F.entry_list_extend (F.args_list_extend_2 _ _)
  (AutoSeq1.list_extend_list_list_0 l its.toArray n b its2.toArray n2 hlong (by rw [aG];omega) (by omega)) ⟨e,e2,?_⟩
 refine ⟨.non,_,I.lset (its':=its++its2) hH e (by simp) (r.append r2) ?_,rfl,q⟩;rw [av];omega
inductive rPop (x:V)(vs:List V)(H:Hp)(Q:VK):Prop
 | mk (l xs y:_)(_:x= .ref l)(_:vs=[])(_:H l=some (.lst xs))(_:xs[xs.length - 1]? =some y)(_:Q y (upd H l (.lst xs.dropLast)))
theorem oO:MtM X "list.pop" rPop:=by
 intro aN s σ H x vs v us Q I rx rv h;obtain ⟨l,xs,y,rfl,rfl,hH,hy,q⟩:=h;cases rx;have hus:=rv.zero;subst hus;obtain ⟨z,its,n,r,hl,e⟩:=I.lstM hH;obtain ⟨u,hu,ru⟩:=r.get hy;have hy':its.toArray[its.toArray.size - 1]? =some u:=by
  show its.toArray[its.length - 1]? =some u;rw [←Array.getElem?_toList,←hl];exact hu
 refine call_meets F.slot_list_pop ⟨_,e,rfl⟩ F.entry_list_pop (F.args_list_pop_1 _) (MeetsSeq.list_pop_last l its.toArray n u hy' (by rw [aG];omega)) ⟨e,?_⟩;refine ⟨y,_,I.lset (its':=its.dropLast) hH e ?_ r.dropLast ?_,ru,q⟩
 ·show its.toArray.eraseIdxIfInBounds (its.toArray.size - 1)=its.dropLast.toArray
  rw [aG,List.eraseIdxIfInBounds_toArray,erase_last]
 ·rw [List.length_dropLast]
  omega
inductive rCat (x:V)(y:V)(H:Hp)(Q:VK):Prop
 | mk (l b xs zs:_)(_:x= .ref l)(_:y= .ref b)(_:H l=some (.lst xs))(_:H b=some (.lst zs))(_:xs.length+zs.length≤bj)(_:∀ p,H p=none→Q (.ref p) (upd H p (.lst (xs++zs))))
theorem op_cat:OpR X (gm .Add) rCat:=by
 intro aN s σ H x y v u Q I rx ry h;obtain ⟨l,b,xs,zs,rfl,rfl,hH,hB,hz,q⟩:=h;cases rx;cases ry;obtain ⟨z,its,n,r,hl,e⟩:=I.lstM hH;obtain ⟨z2,its2,n2,r2,hl2,e2⟩:=I.lstM hB;refine PySem.P.add_list e e2 ?_ (by rw [aG,aG];omega);have ea:its.toArray++its2.toArray=(its++its2).toArray:=by simp
 rw [ea];exact ⟨.ref _,_,I.lnew (t':=s.toks) (r.append r2) (by rw [av];omega),rfl,q _ I.fresh⟩
inductive rRep (x:V)(y:V)(H:Hp)(Q:VK):Prop
 | mk (l k xs:_)(_:x= .ref l)(_:y= .int k)(_:H l=some (.lst xs))(_: -(2 ^ 63)≤k)(_:k<2 ^ 63)(_:xs.length * k.toNat≤bj)(_:∀ p,H p=none→Q (.ref p) (upd H p (.lst (bP k.toNat xs).flatten)))
theorem len_rep (xs:List α)(k:Nat):(bP k xs).flatten.length=k * xs.length:=by
 induction k with
 | zero=>simp
 | succ k ih=>rw [iu,List.flatten_cons,av,ih,Nat.succ_mul,Nat.add_comm]
theorem op_rep:OpR X (gm .Mult) rRep:=by
 intro aN s σ H x y v u Q I rx ry h;obtain ⟨l,k,xs,rfl,rfl,hH,h1,h2,hz,q⟩:=h;cases rx;obtain ⟨t,rfl⟩:=ry;obtain ⟨z,its,n,r,hl,e⟩:=I.lstM hH;have hlen:its.toArray.size * k.toNat≤bj:=by rw [aG,←hl];exact hz
 have hcap:¬ its.toArray.size * k.toNat > (2 ^ 63 - 1) / 8:=by
  have:(bj:Nat)≤(2 ^ 63 - 1) / 8:=by decide
  omega
 have hfit:¬ (!Builtin.List.listFitsIndex k)=true:=by
  rw [fitsIndex_both h1 h2];exact aP
 have hlong:¬ gW (its.toArray.size * k.toNat)=true:=by
  rw [notLongL hlen];exact aP
 have hnew:List.foldl (fun x1 x2=>x1++x2) #[] (bP (if its.toArray.isEmpty=true then 0 else k.toNat) its.toArray)=(bP k.toNat its).flatten.toArray:=by
  have f0:∀ m:Nat,List.foldl (fun x1 x2=>x1++x2) #[] (bP m its.toArray)=(bP m its).flatten.toArray:=fun m=>by
   have:=foldl_rep its m [];rw [List.nil_append] at this;exact this
  rw [f0];cases its with
  | nil=>simp
  | cons a r'=>rw [oZ (by simp)]
 refine wpAny_binaryOp_repeat_ref (T := "list") (U := "int") (by decide) ⟨_,e,rfl⟩ (fun s'=>typeIs_int s' k t) noFill_list_mul F.fills_int_mul F.slot_int_rmul repeat_list F.slot_int_index.lookup
  (call_meets F.slot_int_rmul (typeIs_int s k t) F.entry_int_rmul (F.args_int_rmul_2 _ _) (int___rmul___int_list k t l its.toArray n)
   ⟨e,rfl,⟨_,e,rfl⟩,call_meets F.slot_list_mul ⟨_,e,rfl⟩ F.entry_list_mul (F.args_list_mul_2 _ _) (AutoListH.list___mul___list_int_3 l its.toArray n k t hfit hcap hlong) ⟨e,?_⟩⟩)
 rw [hnew];exact ⟨.ref _,_,I.lnew (t':=s.toks) (r.rep k.toNat) (by rw [len_rep,jd];exact hz),rfl,q _ I.fresh⟩
end L2
namespace Att
open PySem PySem.W PySem.Calls PyProof.Rows
theorem oa {P:Params}:∀ (ns:List Int) (vs:List ae),WellAll P h vs (ns.map WData.int)→IntsAre vs ns:=by
 intro ns
 induction ns with
 | nil =>
  intro vs w;rw [List.map_nil] at w;cases w;exact .nil
 | cons n ns ih =>
  intro vs w;rw [bX] at w;cases w with
  | cons a b =>
   cases a;exact .cons _ _ (ih _ b)
theorem script_of {l:OpenLaw}(hn:l.most=some n){P:Params}{args:List WData}{vals:List ae}
  (hpre:l.row.toRowW.claim.pre args=true) (hwl:WellAll P h vals args) :
  ∃ a vs ns,vals=[ae.ref a]∧args=[WData.list (ns.map WData.int)]∧h.get? a=some { cls:= .type "list",data:= .seq vs.toArray }∧IntsAre vs ns∧ns.length≤n:=by
 have hsh:WShape.hasAll [] args [.list .int]=true:=(pre_splitW hpre).1;have hc:l.pre.holds [] { args:=args }=true:=(pre_splitW hpre).2;obtain ⟨d,r,rfl,h1,h2⟩:=hasAllW_cons hsh;obtain rfl:=hasAllW_nil h2;obtain ⟨xs,rfl,h3⟩:=hasW_list h1;obtain ⟨ns,rfl⟩:=items_int h3;have hlen:ns.length≤n:=by
  unfold OpenLaw.pre at hc;have h4:(WTm.not (.lt (.lit (.int (n:Int))) (.len (.arg 0)))).holds [] { args:=[.list (ns.map .int)] }=true:=by
   have h4:=(holds_andW hc).1;rw [hn] at h4;exact h4
  have h5:=condW_of h4 (w_not (w_lt w_lit (w_len_list (w_arg rfl))));rw [aa] at h5;refine Nat.le_of_not_lt fun q=>?_
  have q':(n:Int)<((ns.length:Nat):Int):=by omega
  first
   | (rw [o8 q'] at h5;exact o6 h5 (by decide))
   | (simp at h5;omega)
 cases hwl with
 | cons w1 w2 =>
  cases w2;cases w1 with
  | list ho hall=>exact ⟨_,_,ns,rfl,rfl,ho,oa ns _ hall,hlen⟩
theorem post_true (l:OpenLaw)(args:List WData):l.row.toRowW.claim.post args (.bool true) args=true :=
 postW_of (r:=l.row.toRowW) (X:=(true == true))
  (show WShape.has [] (.bool true) .bool=true by first | rfl | decide | simp [WShape.has,WShape.arms,WShape.armsAll])
  (show (WTm.eq .res (.lit (.bool true))).value [] { args:=args,res:=some (.bool true),after:=args }=some (.bool (true == true)) from w_eq_bool (w_res rfl) w_lit) rfl
theorem attach_call {l:OpenLaw}{q:aW}{loose:List Str}{YP:bx→bL→Prop}{d:DefRec}
  (hn:l.most=some n) (hdf:d.params.defaults=[])
  (call:∀ (w:bx) (s₀ s₁:aq) (mg mb:Str→Option ae) (fa:ai) (o:Obj) (pm cd doc:ae) (a:ai) (vs:List ae) (ns:List Int),
   Ground q loose [] XP w s₀ mg mb s₁.heap→YP w s₁.heap →
   s₁.heap.get? fa=some o→o.data= .func (docDef d.name d.params d.body d.scope pm cd doc)→s₁.heap.CodeRec cd d.name→mg d.name=some (.ref fa) →
   s₁.heap.get? a=some { cls:= .type "list",data:= .seq vs.toArray }→IntsAre vs ns→ns.length≤n→s₁.gens= #[] →
   iT (br l.prog w) callerA (.call (.ref fa) ⟨[.ref a],[]⟩) (fun r s'=>r= .ok (.ret (.bool true))∧OldK s₁.heap s'.heap∧s'.os=s₁.os∧AllBare s'.gens) s₁) :
  WalkO q loose XP YP l.row.toRowW d [] (fun f vs=>PySem.call f vs):=by
 intro w s₀ s₁ mg mb G Y fa o pm cd doc dV kV ho hd hcd hD hmg hg args vals as hpre hlay hrd hwl hlo;obtain rfl:dV= .none:=Dflts.none hD hdf;obtain rfl:kV= .none:=Dflts.noKw hD;obtain ⟨a,vs,ns,rfl,rfl,hobj,hints,hlen⟩:=script_of hn hpre hwl;refine enter_call (codeAny_mono (call w s₀ s₁ mg mb fa o pm cd doc a vs ns G Y ho (fd_plain hd) hcd hmg hobj hints hlen hg) fun r s' hq=>?_);obtain ⟨rfl,h2,h3,h4⟩:=hq;exact ⟨.inl ⟨.bool true,.bool true,[],rfl,fun _=>rfl,.bool true,post_true l _,fun _=>⟨List.Pairwise.nil,fun _ hm=>(nomatch hm)⟩⟩,h2,h3,h4⟩
end Att
namespace L2
open PySem PySem.Spec PyProof.Rows
theorem mU:∀ {vs:List ae} {ns:List Int},IntsAre vs ns→Vals (ns.map V.int) vs
 | _,_,.nil=> .nil
 | _,_,.cons n t h=> .cons ⟨t,rfl⟩ (mU h)
abbrev CX0:CXT:=fun _ _ _ _ _ _=>False
abbrev E0:XK:=fun _ _ _=>False
theorem pass0:oW CX0 X E0:=fun _ _ _ _ _ _ _ h=>h.elim
structure Fun (K:ak)(x qual:Str)(st:cP)(f:ai)(fd:bq):Prop where
 ex:∃ (oc:ae) (od:Option ai) (kV doc pm:ae) (an:Option ai) (cdv ct:ae) (osl:Array (Option ae)),
  fd=dm x qual (iS st) (fk st) (defScope st) .none kV doc pm an cdv ct∧K.lookup f=some ⟨oc,od,.func fd,osl⟩∧gQ K cdv qual=true
 kp:eE K (.ref f)=true
theorem Fun.ok {qual:Str}{N:List Str}{k:Nat}{sp:Sp}(F:Fun K x qual st f fd)(S:cb N ps (defScope st))(len:∀ vs H Q E,sp vs H Q E→vs.length=ps.length)
  (hbody:∀ (cdv:ae) (A:bS) (outer:List Env) (s:aq) (H:Hp) (vs:List V) (Q:VK) (E:XK),Room k (A.deeper (envOfC qual (defScope st) s.heap.objs.size f cdv))→sp vs H Q E →
   ∃ t,PSs (cxOf CX0 P w K mg base N qual (defScope st) f cdv A outer s H E).nox (fk st) t∧t { nx:=fun _ H'=>Q .non H',rt:=Q } (start N vs) H):cS P w K mg base CX0 (k+1) f fd ps sp:=by
 obtain ⟨oc,od,kV,doc,pm,an,cdv,ct,osl,rfl,lk,hcd⟩:=F.ex;refine fn_of lk hcd S len fun A outer s H vs Q E hr hsp=>?_
 obtain ⟨t,h,q⟩:=hbody cdv A outer s H vs Q E hr hsp;exact ⟨t,h.nox,q⟩
theorem Fun.binds {qual:Str}(F:Fun K x qual st f fd)
  (h:∀ (kV doc pm:ae) (an:Option ai) (cdv ct:ae) (us:List ae),us.length=ps.length→bindArgs (dm x qual (iS st) (fk st) (defScope st) .none kV doc pm an cdv ct) ⟨us,[]⟩=fH (ps.zip us)):Binds K fd ps []:=by
 obtain ⟨oc,od,kV,doc,pm,an,cdv,ct,osl,rfl,lk,hcd⟩:=F.ex;exact .all (h kV doc pm an cdv ct)
theorem mw {qual:Str}{oc:ae}{od an:Option ai}{osl:Array (Option ae)}{kV doc pm cdv ct:ae}(l:K.lookup f=some ⟨oc,od,.func (dm x qual (iS st) (fk st) (defScope st) .none kV doc pm an cdv ct),osl⟩)
  (c:gQ K cdv qual=true) (k:eE K (.ref f)=true):Fun K x qual st f (dm x qual (iS st) (fk st) (defScope st) .none kV doc pm an cdv ct):=⟨⟨oc,od,kV,doc,pm,an,cdv,ct,osl,rfl,l,c⟩,k⟩
theorem lG (h:n≤1000):n<bj:=bR h (by decide)
theorem pv (i:Nat)(hN:X.N[i]? =some x:=by rfl)(hv:Vis X.env.scope x:=by first | exact Or.inl rfl | exact Or.inr (Or.inl rfl) | exact Or.inr (Or.inr rfl))(hd:(x == ("__debug__" :Str))=false:=by decide)
  (hcd:(x == ("__classdict__" :Str))=false:=by decide):PE X (.Name x pos) (tVar i):=pe_var hN hv hd hcd
theorem iteF {A B:Prop}(h:B):if false=true then A else B:=by
 rw [oZ aP];exact h
theorem iteT {A B:Prop}(h:A):if true=true then A else B:=by
 rw [o4 rfl];exact h
theorem ite2 {c A B:Prop}[Decidable c](h1:c→A)(h2:¬ c→B):if c then A else B:=by
 by_cases h:c
 ·rw [o4 h]
  exact h1 h
 ·rw [oZ h]
  exact h2 h
def Same (H H':Hp):Prop:=∀ b o,H b=some o→H' b=some o
theorem Same.refl (H:Hp):Same H H:=fun _ _ h=>h
theorem Same.trans {H2:Hp}(a:Same H H1)(b:Same H1 H2):Same H H2:=fun c o h=>b c o (a c o h)
theorem Same.free (e:Same H H'){l:ai}(h:H' l=Option.none):H l=Option.none:=by
 cases q:H l with
 | none=>rfl
 | some o =>
  rw [e l o q] at h;cases h
theorem Same.seq (e:Same H H')(h:SqL K H a xs):SqL K H' a xs:=by
 rcases h with (h | ⟨o,h⟩) | h
 ·exact .inl (.inl (e _ _ h))
 ·exact .inl (.inr ⟨o,e _ _ h⟩)
 ·exact .inr h
theorem op_fdivB:OpR X (gm .FloorDiv) (rI (fun _ j=>0<j∧j.natAbs.log2<9000) fun i j=> .int (i / j)):=opI fun i j _ _ _ _ _ hc q=>by
 have e:i.fdiv j=i / j:=Int.fdiv_eq_ediv_of_nonneg i (Int.le_of_lt hc.1);refine floordiv_int (by have:=hc.1;omega) ?_ (.inl (PyProof.noPylong_of_log2 hc.2));rw [e];exact q
def tyn (H:Hp):V→Option String
 | .non=>some "NoneType"
 | .bl _=>some "bool"
 | .int _=>some "int"
 | .str _=>some "str"
 | .ref a=>match H a with
  | some (.lst _)=>some "list"
  | some (.tup _)=>some "tuple"
  | some (.dK _)=>some "dict"
  | _=>none
 | _=>none
theorem TyOf.byName {T:String}(h:tyn H v=some T):TyOf K H v (.type T):=by
 cases v with
 | non=>cases h;exact .non
 | bl b=>cases h;exact .bl b
 | int i=>cases h;exact .int i
 | str x=>cases h;exact .str x
 | ref a =>
  simp only [tyn] at h;cases e:H a with
  | none=>rw [e] at h;cases h
  | some o =>
   rw [e] at h;cases o <;> first | (cases h;first | exact .lst e | exact .tup e | exact .dK e) | cases h
 | _=>cases h
theorem kit_tuple (K:ak){T:String}(h:T∈["NoneType","bool","int","str","list","tuple","dict"]):PySem.W.kitOne K (.type T) (.type "tuple")=some (T == "tuple"):=by
 simp only [az,cq,or_false] at h
 rcases h with rfl | rfl | rfl | rfl | rfl | rfl | rfl <;> kernel_rfl
theorem tyn_mem {T:String}(h:tyn H v=some T):T∈["NoneType","bool","int","str","list","tuple","dict"]:=by
 cases v with
 | non=>cases h;simp
 | bl b=>cases h;simp
 | int i=>cases h;simp
 | str x=>cases h;simp
 | ref a =>
  simp only [tyn] at h;cases e:H a with
  | none=>rw [e] at h;cases h
  | some o =>
   rw [e] at h;cases o <;> first | (cases h;simp;done) | cases h
 | _=>cases h
theorem call_isinst:CallR X (.builtin "isinstance") (fun xs H Q=>∃ x n t b,xs=[x,.ty n]∧TyOf X.K H x t∧PySem.W.kitOne X.K t (.type n)=some b∧Q (.bl b) H):=by
 intro aN s σ H xs us Q I r h;obtain ⟨x,n,t,b,rfl,ty,e,q⟩:=h;obtain ⟨u,w',rfl,ru,rw'⟩:=vals2 r;cases (show w'=ae.type n from rw');exact isinst_ok I ru ty e fun tk=>⟨.bl b,H,I.tok tk,rfl,q⟩
theorem call_isTup:CallR X (.builtin "isinstance") (fun xs H Q=>∃ x T,xs=[x,.ty "tuple"]∧tyn H x=some T∧Q (.bl (T == "tuple")) H) :=
 fun aN s σ H xs us Q I r ⟨x,T,e,hT,q⟩=>call_isinst aN s σ H xs us Q I r ⟨x,_,_,_,e,.byName hT,kit_tuple _ (tyn_mem hT),q⟩
inductive rCatA (K:ak)(x:V)(y:V)(H:Hp)(Q:VK):Prop
 | mk (a b xs ys:_)(_:x= .ref a)(_:y= .ref b)(_:H a=some (.tup xs))(_:H b=some (.tup ys))(_:xs.length+ys.length≤bj)(_:∀ p H',Same H H'→H' p=some (.tup (xs++ys))→Q (.ref p) H')
theorem km:OpR X (gm .Add) (rCatA X.K):=by
 intro aN s σ H x y v u Q I rx ry h;obtain ⟨a,b,xs,ys,rfl,rfl,ha,hb,hz,q⟩:=h;cases xs with
 | cons x xs =>
  refine op_catT aN s σ H (.ref a) (.ref b) v u Q I rx ry ⟨a,b,_,ys,rfl,rfl,SqT.of ha,SqT.of hb,(by simp),hz,fun e=>?_,fun _ p hp=>?_⟩
  ·subst e
   exact q a H (Same.refl H) (by rw [dU];exact ha)
  ·exact q p _ (fun c o e=>by rw [bw (bz e hp)];exact e) aU
 | nil =>
  cases (show v=ae.ref a from rx);cases (show u=ae.ref b from ry);obtain ⟨its,r1,p1,_⟩:=I.tuple (SqT.of (K:=X.K) ha);obtain ⟨its2,r2,p2,_⟩:=I.tuple (SqT.of (K:=X.K) hb);cases r1;obtain ⟨⟨c1,d1,t1,l1⟩,o1,k1,n1,g1⟩:=id p1;obtain ⟨⟨c2,d2,t2,l2⟩,o2,k2,n2,g2⟩:=id p2;simp only at k1 g1 k2 g2;subst k1 g1 k2 g2;exact concat_meets ⟨_,o1,rfl⟩ ⟨_,o2,rfl⟩ noFill_tuple_add seq_tuple_add PySem.F.slot_tuple_add kd (jT _ _)
   (tuple_addW0 a b _ its2.toArray n1 n2 d1 d2 l1 l2 (by simp)) ⟨o1,o2,⟨.ref b,H,I,rfl,q b H (Same.refl H) hb⟩⟩
def gi (X:Cx)(scope:eZ)(cl:List (Str×ai))(C:ai)(N:List Str)(s:aq)(H:Hp)(ex:List ai):Cx :=
 { X with N:=N,s₀:=s,H₀:=H,env:=compEnvC scope cl C X.env,outer:=X.stack,ex:=ex,fn:=fun _=>false,pn:=[],xe:=fun _ _=>False }
theorem k5 {env:Env}(hf:∀ y∈scope.names,y.2= .free→∃ c,env.cells.lookup y.1=some c) :
  ∃ cl,closureFor scope env=fH cl∧(∀ x c,cl.lookup x=some c→env.cells.lookup x=some c)∧∀ y∈scope.names,y.2= .free→cl.lookup y.1=env.cells.lookup y.1:=by
 have aux:∀ (names:List (Str×cx)) (acc:List (Str×ai)),(∀ y∈names,y.2= .free→∃ c,env.cells.lookup y.1=some c)→(∀ x c,acc.lookup x=some c→env.cells.lookup x=some c) →
   ∃ cl,(forIn names acc fun x r=>match x with
     | (name,kind)=>if (kind == cx.free)=true then (cellOf env name >>= fun c=>fH (ForInStep.yield ((name,c)::r))) else fH (ForInStep.yield r):Sem (List (Str×ai)))=fH cl ∧
    (∀ x c,cl.lookup x=some c→env.cells.lookup x=some c)∧(∀ x c,acc.lookup x=some c→cl.lookup x=some c)∧∀ y∈names,y.2= .free→cl.lookup y.1=env.cells.lookup y.1:=by
  intro names
  induction names with
  | nil=>intro acc _ ha;exact ⟨acc,rfl,ha,fun _ _ e=>e,fun y hy=>o6 hy (by simp)⟩
  | cons z r ih =>
   intro acc hn ha;obtain ⟨n,k⟩:=z;have hr:∀ y∈r,y.2= .free→∃ c,env.cells.lookup y.1=some c:=fun y hy=>hn y (au _ hy)
   by_cases hk:k= .free
   ·subst hk
    obtain ⟨c,hc⟩:=hn (n,.free) bp rfl;have hc:env.cells.lookup n=some c:=hc;have ha':∀ x d,((n,c)::acc).lookup x=some d→env.cells.lookup x=some d:=fun x d e=>by
     rw [cW] at e;cases hx:x == n with
     | true =>
      rw [hx] at e;have e':c=d:=bZ e;have ex:x=n:=eq_of_beq hx;rw [ex,←e'];exact hc
     | false=>rw [hx] at e;exact ha x d e
    obtain ⟨cl,e1,e2,e3,e4⟩:=ih ((n,c)::acc) hr ha';have ij:cellOf env n=fH c:=by unfold cellOf;rw [hc]
    refine ⟨cl,?_,e2,fun x d e=>?_,fun y hy hy2=>?_⟩
    ·rw [List.forIn_cons]
     show ((if (cx.free == cx.free)=true then (cellOf env n >>= fun c=>fH (ForInStep.yield ((n,c)::acc))) else fH (ForInStep.yield acc)) >>= _)=_;rw [o4 (by decide:(cx.free == cx.free)=true),ij];exact e1
    ·have h1:((n,c)::acc).lookup x=some (if x == n then c else d):=by
      rw [cW];cases hx:x == n with
      | true=>rfl
      | false=>exact e
     have h2:=e3 x _ h1;have h3:=e2 x _ h2;have h4:=ha x d e;rw [h3] at h4;rw [h2];exact h4
    ·rcases az.mp hy with rfl | hy3
     ·have h1:((n,c)::acc).lookup n=some c:=by rw [cW,beq_self_eq_true]
      show cl.lookup n=_;rw [e3 n c h1,hc]
     ·exact e4 y hy3 hy2
   ·have hb:(k == cx.free)=false:=by simpa using hk
    obtain ⟨cl,e1,e2,e3,e4⟩:=ih acc hr ha;refine ⟨cl,?_,e2,e3,fun y hy hy2=>?_⟩
    ·rw [List.forIn_cons]
     show ((if (k == cx.free)=true then (cellOf env n >>= fun c=>fH (ForInStep.yield ((n,c)::acc))) else fH (ForInStep.yield acc)) >>= _)=_;rw [hb];exact e1
    ·rcases az.mp hy with rfl | hy3
     ·exact o6 hy2 hk
     ·exact e4 y hy3 hy2
 obtain ⟨cl,e1,e2,_,e4⟩:=aux scope.names [] hf fun x c e=>by cases e
 refine ⟨cl,Eq.trans ?_ e1,e2,e4⟩;unfold closureFor
 first
  | rfl
  | (simp only [bind_pure];done)
  | (simp only [bind_pure];rfl)
  | (simp only [bind_pure]
     congr 1
     funext x r
     obtain ⟨n,k⟩:=x;cases (k == cx.free) <;> rfl)
theorem lZ {env:Env}:∀ {names:List (Str×cx)} {x:Str} {k':cx},
  (names.map fun (n,k)=>if (k == cx.free && env.scope.kind == .function && env.kindOf n == some .cell) then (n,cx.cell) else (n,k)).lookup x=some k' →
  names.lookup x=some k'∨(names.lookup x=some .free∧k'= .cell)
 | [],_,_,h=>by simp at h
 | (n,k)::r,x,k',h=>by
  have ih:= @lZ env r x k';rw [bX] at h;show d8 x ((n,k)::r)=_∨(d8 x ((n,k)::r)=_∧_);rw [cW]
  by_cases hq:(k == cx.free && env.scope.kind == .function && env.kindOf n == some .cell)=true
  ·have g:d8 x ((if (k == cx.free && env.scope.kind == .function && env.kindOf n == some .cell)=true then (n,cx.cell) else (n,k))::_)=_:=h
   rw [o4 hq,cW] at g;have hk:k= .free:=by
    rw [dB,dB] at hq;exact eq_of_beq hq.1.1
   cases hx:x == n with
   | true=>rw [hx] at g;rw [hk];exact .inr ⟨rfl,(bZ g).symm⟩
   | false=>rw [hx] at g;exact ih g
  ·have g:d8 x ((if (k == cx.free && env.scope.kind == .function && env.kindOf n == some .cell)=true then (n,cx.cell) else (n,k))::_)=_:=h
   rw [oZ hq,cW] at g;cases hx:x == n with
   | true=>rw [hx] at g;exact .inl g
   | false=>rw [hx] at g;exact ih g
theorem mj {env:Env}(hk:env.scope.kind= .function){x:Str}(hx:env.kindOf x=some .cell):∀ {names:List (Str×cx)},names.lookup x=some .free →
  (names.map fun (n,k)=>if (k == cx.free && env.scope.kind == .function && env.kindOf n == some .cell) then (n,cx.cell) else (n,k)).lookup x=some .cell
 | [],h=>by simp at h
 | (n,k)::r,h=>by
  have ih:= @mj env hk x hx r;show d8 x ((if (k == cx.free && env.scope.kind == .function && env.kindOf n == some .cell)=true then (n,cx.cell) else (n,k))::_)=some cx.cell;rw [cW] at h;cases hxn:x == n with
  | true =>
   rw [hxn] at h;have ek:k= .free:=bZ h;have en:x=n:=eq_of_beq hxn;subst ek en;rw [o4 (by rw [hk,hx];rfl),cW,beq_self_eq_true]
  | false =>
   rw [hxn] at h
   by_cases hq:(k == cx.free && env.scope.kind == .function && env.kindOf n == some .cell)=true
   ·rw [o4 hq,cW,hxn];exact ih h
   ·rw [oZ hq,cW,hxn];exact ih h
def PTs (X:Cx)(ifs:List Expr)(t:TT):Prop :=
 ∀ (aN:List (ai×Obj)) (s:aq) (σ:St) (H:Hp) (Q:Bool→Hp→Prop),Inv X aN σ H s→t σ H Q →
  aX (br X.prog X.w) X.A (forIn ifs true fun c r=>if r=true then do let ok ← isTrue c X.env (eu c X.env);fH (ForInStep.yield ok) else fH (ForInStep.yield r)) (TP X aN σ Q) X.xe s
def tNoIf:TT:=fun _ H Q=>Q true H
theorem gB {A B:Hp→Prop}(h:A H):tNoIf σ H fun b H4=>if b=true then A H4 else B H4:=by
 show if true=true then A H else B H;rw [o4 rfl];exact h
theorem ia:PTs X [] tNoIf:=fun _ _ _ H _ I h=>wpAny_tests_nil ⟨H,I,h⟩
theorem nN {c:Expr}{t:TT}(h:PT X c t):PTs X [c] t:=fun aN s σ H Q I q=>wpAny_tests_one (h aN s σ H Q I q)
theorem HOk.take (x:HOk P w H h)(hn:H a=none)(new:ObjOk P w (upd H a o) h a o):HOk P w (upd H a o) h:=fun b u e=>by
 by_cases hb:b=a
 ·subst hb;rw [aU] at e;cases e;exact new
 ·rw [bw hb] at e
  exact (x b u e).stay (fun _ _ _ q=>q) (fun c q=>by rw [bw (bz q hn)];exact q) fun c xs q=>by rw [bw (bz q hn)];exact q
def cV (σ:St)(js:List Nat):St:=js.map fun j=>(σ[j]?).getD none
def CompW (js:List Nat)(tt:TT)(te:TE)(σ:St)(Q:VK)(J:It)(H1:Hp):Prop:=∃ W:Nat→Nat→List V→Hp→Prop,(∃ m,W 0 m [] H1)∧∀ i m ys H2,W i m ys H2 →
 (J.stop i H2∧∀ D,H2 D=none→Q (.ref D) (upd H2 D (.lst ys))) ∨
 (J.go i H2∧ys.length<bj∧∃ N:List V→Hp→Prop,(∀ ys' H',N ys' H'→∃ m',m'<m∧W (i+1) m' ys' H')∧∀ x H3,J.yld i H2 x H3→tt (some x::cV σ js) H3 fun b H4 =>
  if b=true then te (some x::cV σ js) H4 fun y H5=>N (ys++[y]) H5 else N ys H4)
def tComp (wi:TI)(js:List Nat)(tt:TT)(te:TE):TE:=fun σ H Q=>wi σ H fun J H1=>CompW js tt te σ Q J H1
abbrev lobj (us:List ae)(n:Nat):Obj:={ cls:= .type "list",data:= .seq us.toArray n }
abbrev oX (prog:aW)(w:bx)(A:bS)(env:Env)(R:Result→aq→Prop):ae→aq→Prop:=notedBy (br prog w) A env fun x t=>R (.error x) t
theorem loop_any {elt:Expr}{it acc:ae}{env:Env}(J:Nat→aq→Prop)
  (step:∀ k t,J k t→aX (br prog w) A (pyNext it) (fun r t1=>match r with
   | none=>R (.ok .next) t1
   | some v=>aX (br prog w) A (letOwnedTupleGo tg it v) (fun _ t2=>aX (br prog w) A (assign tg env v) (fun _ t3 =>
     aX (br prog w) A (forIn ifs true fun c b=>if b=true then do let z ← isTrue c env (eu c env);fH (ForInStep.yield z) else fH (ForInStep.yield b)) (fun z t4 =>
      if z=true then aX (br prog w) A (eu elt env) (fun y t5=>aX (br prog w) A (call (.builtin "list.append") [acc,y]) (fun _ t6=>∃ m,m<k∧J m t6) (oX prog w A env R) t5) (oX prog w A env R) t4
      else ∃ m,m<k∧J m t4) (oX prog w A env R) t3) (oX prog w A env R) t2) (oX prog w A env R) t1) (oX prog w A env R) t)
  (k:Nat) (h:J k s):iT (br prog w) A (.compLoop (.ListComp elt [⟨tg,iter,ifs,0⟩] scope pos) 0 it acc env) R s:=by
 refine codeAny_loop rfl J (fun k t hJ=>?_) k h;show aX _ A ((compTurn (.ListComp elt [⟨tg,iter,ifs,0⟩] scope pos) 0 it acc env).onRaise (fun y=>do noteFrame y env;theTreesLotGoes y)) _ _ t;refine wpAny_noted ?_;rw [compTurn_list];refine ah (wpAny_standAt (ah (b9 (step k t hJ) (fun r t1 q1=>?_) fun _ _ f=>f)));cases r with
 | none=>exact aO q1
 | some v =>
  refine ah (b9 q1 (fun _ t2 q2=>?_) fun _ _ f=>f);refine ah (b9 q2 (fun _ t3 q3=>?_) fun _ _ f=>f);refine ah (b9 q3 (fun z t4 q4=>?_) fun _ _ f=>f);cases z with
  | false=>exact aO ⟨rfl,q4⟩
  | true=>exact ah (ah (b9 q4 (fun y t5 q5=>ah (b9 q5 (fun _ t6 q6=>aO (aO ⟨rfl,q6⟩)) fun _ _ f=>f)) fun _ _ f=>f))
def oY (n:Nat)(g:TG)(js:List Nat)(tt:TT)(te:TE)(σ:St)(Q:VK)(J:It)(H1:Hp):Prop:=∃ W:Nat→Nat→List V→Hp→Prop,(∃ m,W 0 m [] H1)∧∀ i m ys H2,W i m ys H2 →
 (J.stop i H2∧∀ D,H2 D=none→Q (.ref D) (upd H2 D (.lst ys))) ∨
 (J.go i H2∧ys.length<bj∧∃ N:List V→Hp→Prop,(∀ ys' H',N ys' H'→∃ m',m'<m∧W (i+1) m' ys' H')∧∀ x H3,J.yld i H2 x H3→∀ v0:St,v0.length=n→g x (v0++cV σ js) H3 fun σ4 H4 =>
  (∃ v1:St,v1.length=n∧σ4=v1++cV σ js)∧tt σ4 H4 fun b H5=>if b=true then te σ4 H5 fun y H6=>N (ys++[y]) H6 else N ys H5)
def tCompT (wi:TI)(n:Nat)(g:TG)(js:List Nat)(tt:TT)(te:TE):TE:=fun σ H Q=>wi σ H fun J H1=>oY n g js tt te σ Q J H1
theorem comp_core {Q:VK}{use:Option (ae→Sem Unit)}{R:ae→aq→Prop}{pos':Pos}{elt:Expr}{xs:List Str}{wi:TI}
  (hc:X.calm=true) (hi:PI X tg iter wi)
  (ij:∀ y∈scope.names,y.2≠ .cell) (kZ:scope.kind= .function) (ku:∀ y∈scope.names,y.2= .local→scope.names.lookup y.1=some .local)
  (hfr:∀ y∈scope.names,y.2= .free→X.env.scope.names.lookup y.1=some .cell) (hjs:js.map (fun j=>X.N[j]?)=fr.map some) (hfv:∀ y∈fr,scope.names.lookup y=some .free)
  (hg:∀ cl C s' H' ex,PG (gi X scope cl C (xs++fr) s' H' ex) tg g)
  (hb:∀ cl C s' H' ex,PE (gi X scope cl C (xs++fr) s' H' ex) elt te∧PTs (gi X scope cl C (xs++fr) s' H' ex) ifs tt)
  (hCW:∀ σ Q J H1,CW σ Q J H1→oY xs.length g js tt te σ Q J H1) (I:Inv X aN σ H s) (h:wi σ H fun J H1=>CW σ Q J H1)
  (fin:∀ (s4:aq) (H5:Hp) (D C:ai) (mC:Str→Option ae),s4.heap.Ns C mC→Inv X aN σ H5 s4→H5 C=none→C≠X.env.locals→C ∉ X.fs→(∀ p∈X.pn++aN,p.1≠C)→(∀ y c,X.env.cells.lookup y=some c→c≠C)→X.s₀.heap.objs.size≤C→Q (.ref D) H5→compPost (br X.prog X.w) X.A X.xe use R (.ref D) C (.ok .next) s4)
  (hs:∀ z,gk iter X.env z=fH z:=by intro _;rfl) :
  aX (br X.prog X.w) X.A (comprehension (.ListComp elt [⟨tg,iter,ifs,0⟩] scope pos) scope X.env pos' (newList []) false (eu iter X.env) use) R X.xe s:=by
 have hXk:X.env.scope.kind= .function:=I.ok.kind;obtain ⟨cl,hclos,c1,c2⟩:=k5 (scope:=scope) (env:=X.env) fun y hy hk=>I.ok.has _ (.inl (hfr y hy hk))
 refine wpAny_comprehension_free rfl hs hclos kZ ku (thn (hi aN s σ H _ I h) fun xv s1 h1=>thn h1 fun itv s2 h2=>?_);obtain ⟨it,fp,tn,J,H2,rfl,I2,T,st2,f2,hcw⟩:=h2;obtain ⟨W,⟨m0,w0⟩,turn⟩:=hCW _ _ _ _ hcw;refine eS (wpAny_newFunctionEnv ij (by intro y hy;simp at hy) (fun hA nsA sbA=>?_) kZ)
 dsimp only at nsA sbA ⊢
 generalize hG:s2.heap.push { cls:= .type "list",dict:=none,data:= .seq ([]:List ae).toArray }=G at nsA sbA ⊢;have hC:G.objs.size=s2.heap.objs.size+1:=by rw [←hG,fQ]
 have hDC:s2.heap.objs.size≠G.objs.size:=by rw [hC];exact bI (jv _)
 have small:∀ b o,s2.heap.get? b=some o→b≠G.objs.size∧b≠s2.heap.objs.size:=fun b o e=>⟨by rw [hC];exact bI (gU (aL e)),bI (aL e)⟩
 have old:∀ b o,s2.heap.get? b=some o→hA.get? b=some o:=fun b o e=>sbA.extBut b o (small b o e).1 (ar _ (hG ▸ ar _ e))
 have hDA:hA.get? s2.heap.objs.size=some (lobj [] 0):=sbA.extBut _ _ hDC (ar _ (hG ▸ aZ _ rfl));have fpo:∀ b∈fp,∃ o,s2.heap.get? b=some o:=fun b hb=>let ⟨o,e,_⟩:=T.obj _ _ st2 b hb;⟨o,e⟩
 have celo:∀ y c,cl.lookup y=some c→∃ o,s2.heap.get? c=some o:=fun y c e=>let ⟨_,o,ho,_⟩:=I2.cell y c (c1 y c e);⟨o,ho⟩
 have ok':(gi X scope cl G.objs.size (xs++fr) s2 H2 fp).Ok:=by
  refine ⟨I2.ok.mod,kZ,I2.ok.glob,I2.ok.blt,?_,fun a b c e1 e2=>I2.ok.inj a b c (c1 a c e1) (c1 b c e2),fun y hy=>?_,fun _ _ z=>o6 z (by intro q;cases q),I2.ok.hd,I2.ok.frames,.inl rfl,fun b hb=>?_,I2.bs,aY I2.ok.bsz I2.sz,fun b o e hb=>?_,fun b hb hz=>?_,I2.stack,I2.stkFree⟩
  ·show s2.heap.objs.size≤G.objs.size
   rw [hC];exact Nat.le_succ _
  ·have hy:(relabel scope X.env).names.lookup y=some .cell∨(relabel scope X.env).names.lookup y=some .free:=hy
   have key:scope.names.lookup y=some .free:=by
    rcases hy with hy | hy
    ·rcases lZ hy with q | ⟨q,_⟩
     ·exact o6 rfl (ij _ (cf q))
     ·exact q
    ·rcases lZ hy with q | ⟨q,_⟩
     ·exact q
     ·exact q
   have hm:=cf key;obtain ⟨c,e⟩:=I.ok.has y (.inl (hfr _ hm rfl));exact ⟨c,(c2 _ hm rfl).trans e⟩
  ·obtain ⟨o,e⟩:=fpo b hb
   exact ⟨(small b o e).1,fun y c q=>(f2 b hb).2.2.2.2.1 y c (c1 y c q)⟩
  ·obtain ⟨_,_,_,f3,_⟩:=f2 b hb
   rcases f3 with f3 | f3
   ·exact I2.ok.noex b o e f3
   ·exact o6 (aQ (aL e) (aY I2.ok.bsz f3)) (fN _)
  ·obtain ⟨_,n1,n2,_⟩:=f2 b hb
   exact (az.mp (I2.stkSub b hz)).elim n1 n2
 have nofs:s2.heap.objs.size ∉ frs X.stack:=fun hz=>by
  obtain ⟨_,o,ho,_⟩:=I2.stack.mem hz;exact fN _ (aL ho)
 have lenB:(cV σ js).length=fr.length:=by
  have e:=pf List.length hjs;rw [aa,aa] at e;unfold cV;rw [aa];exact e
 have start':∀ t,Inv (gi X scope cl G.objs.size (xs++fr) s2 H2 fp) [(s2.heap.objs.size,lobj [] 0)] ((xs.map fun _=>none)++cV σ js) H2 { s2 with heap:=hA,toks:=t }:=fun t=>by
  refine ⟨ok',rfl,I2.bare,Un.kept old,⟨_,nsA,fun i y v e1 e2 e3=>?_⟩,fun y c e=>?_,I2.hok.fresh (by rw [hC];exact Nat.le_succ _),fun y c e=>I2.freeC y c (c1 y c e),fun p hp=>?_,I2.hok.kept old,?_⟩
  ·by_cases hix:i<xs.length
   ·rw [fX (by rw [aa];exact hix),ay,gE hix] at e2
    cases e2
   ·obtain ⟨i,rfl⟩:∃ j,i=xs.length+j:=⟨i - xs.length,by omega⟩
    have e1:(xs++fr)[xs.length+i]? =some y:=e1;have e1:fr[i]? =some y:=by rw [bV (by omega),show xs.length+i - xs.length=i by omega] at e1;exact e1
    have e2:(cV σ js)[i]? =some (some v):=by rw [bV (by rw [aa];omega),aa,show xs.length+i - xs.length=i by omega] at e2;exact e2
    unfold cV at e2;rw [ay] at e2;obtain ⟨j,ej,e2⟩:=bB.mp e2;have hN:X.N[j]? =some y:=by
     have q:=pf (fun l=>l[i]?) hjs;simp only [ay,ej,e1,fV] at q;exact bZ q
    have hσ:σ[j]? =some (some v):=by
     cases z:σ[j]? with
     | none=>rw [z] at e2;cases e2
     | some w=>rw [z] at e2;exact pf some e2
    have hfree:=hfv y (bh e1);have hm:=cf hfree;have hce:X.env.scope.names.lookup y=some .cell:=hfr _ hm rfl;obtain ⟨m,_,hl⟩:=I2.loc;obtain ⟨u,ru,look⟩:=hl j y v hN hσ (.inr (.inl hce));refine ⟨u,ru,.inr ⟨.inl (mj hXk hce hfree),?_⟩⟩
    rcases look with ⟨k,_⟩ | ⟨_,c,ec,ho⟩
    ·have k:X.env.scope.names.lookup y=some .local:=k
     rw [hce] at k;cases k
    ·obtain ⟨o,ho,hd⟩:=ho
     exact ⟨c,(c2 _ hm rfl).trans ec,o,old c o ho,hd⟩
  ·obtain ⟨v,o,ho,hd⟩:=I2.cell y c (c1 y c e)
   exact ⟨v,o,old c o ho,hd⟩
  ·have hp:p∈[(s2.heap.objs.size,lobj [] 0)]:=hp
   have e:=ax.mp hp;subst e;exact ⟨hDA,I2.hok.fresh (aB _),hDC,nofs,fun v z=>by cases z⟩
  ·show ((xs.map fun _=>none)++cV σ js).length=(xs++fr).length
   rw [av,av,aa,lenB]
 have fok:∀ {us:List ae} {n:Nat} {H':Hp},(∀ b∈fp,H' b=none)→∀ b∈fp,FpOk (gi X scope cl G.objs.size (xs++fr) s2 H2 fp) [(s2.heap.objs.size,lobj us n)] H' b:=fun {us n H'} hn b hb=>by
  obtain ⟨o,e⟩:=fpo b hb;refine ⟨hn b hb,(small b o e).1,fun hz=>(az.mp (I2.stkSub b hz)).elim (f2 b hb).2.1 (f2 b hb).2.2.1,.inl hb,fun y c q=>(f2 b hb).2.2.2.2.1 y c (c1 y c q),fun p hp=>?_⟩;have hp:p∈[(s2.heap.objs.size,lobj us n)]:=hp;have ep:=ax.mp hp;subst ep;exact fun z=>(small b o e).2 z.symm
 have loop:∀ sB:aq,(∃ t,sB={ s2 with heap:=hA,toks:=t }) →
   iT (br X.prog X.w) X.A (.compLoop (.ListComp elt [⟨tg,iter,ifs,0⟩] scope pos) 0 (.ref it) (.ref s2.heap.objs.size) (compEnvC scope cl G.objs.size X.env))
    (compPost (br X.prog X.w) X.A X.xe use R (.ref s2.heap.objs.size) G.objs.size) sB:=by
  rintro sB ⟨t,rfl⟩;refine loop_any (fun k s'=>∃ i ys us n v0 H',v0.length=xs.length∧Inv (gi X scope cl G.objs.size (xs++fr) s2 H2 fp) [(s2.heap.objs.size,lobj us n)] (v0++cV σ js) H' s'∧Vals ys us∧ys.length≤bj∧tn i s'.heap∧(∀ b∈fp,H' b=none)∧W i k ys H') ?_ m0
   ⟨0,[],[],0,xs.map fun _=>none,H2,aa ..,start' t,.nil,bK _,T.keep _ _ _ st2 fun b hb o e=>old b o e,fun b hb=>(f2 b hb).1,w0⟩
  rintro k s3 ⟨i,ys,us,n,v0,H3,hv0,I3,rv,hlen,st3,fr3,w3⟩
  rcases turn i k ys H3 w3 with ⟨stop,qn⟩ | ⟨go,hlt,N',hN',step⟩
  ·refine thn (T.done (gi X scope cl G.objs.size (xs++fr) s2 H2 fp) rfl rfl rfl hc i _ s3 _ H3 _ I3 (fok fr3) st3 stop) fun r s4 ⟨hr,I4⟩=>?_
   subst hr;obtain ⟨mC,hnC,_⟩:=id I4.loc;obtain ⟨pD,nD,_,_,_⟩:=I4.pin (s2.heap.objs.size,lobj us n) (by show _∈[]++[_];simp);have pD:s4.heap.get? s2.heap.objs.size=some (lobj us n):=pD;have nD:H3 s2.heap.objs.size=none:=nD;have nC:H3 G.objs.size=none:=I4.free;have D2:∀ b o,s2.heap.get? b=some o→b≠s2.heap.objs.size:=fun b o e=>(small b o e).2
   have base4:Un (frs X.stack) fp H2 H3 s2.heap s4.heap:=I4.base;have u4:Un (frs X.stack) fp H2 (upd H3 s2.heap.objs.size (.lst ys)) s2.heap s4.heap :=
    {keep:=base4.keep
     slot:=base4.slot
     free:=fun b o e nb hx'=>by rw [bw (D2 b o e)];exact base4.free b o e nb hx'
     there:=base4.there
     tups:=fun b xs e=>by have q:=base4.tups b xs e;rw [bw (bz q nD)];exact q
     frzs:=fun b o u e=>by have q:=base4.frzs b o u e;rw [bw (bz q nD)];exact q
     tbls:=fun b ps e=>by obtain ⟨more,q⟩:=base4.tbls b ps e;exact ⟨more,by rw [bw (bz q nD)];exact q⟩ }
   have I5:Inv X aN σ (upd H3 s2.heap.objs.size (.lst ys)) s4:=I2.call' (s':=s4) (ch:=fp) I4.os u4 (I4.hok.take nD ⟨hlen,us,n,rv,pD⟩) I4.bare fun b hb=>by
    obtain ⟨_,g1,_,g3,g4,g5⟩:=f2 b hb;exact ⟨g3,g1,g4,g5⟩
   have locC:G.objs.size≠X.env.locals:=fun z=>by
    obtain ⟨_,⟨o,_,_,ho,_⟩,_⟩:=id I2.loc;exact (small _ o ho).1 z.symm
   have fsC:G.objs.size ∉ X.fs:=fun hz=>by
    obtain ⟨_,o,ho,_⟩:=I2.ok.funs.mem hz;have:=aQ (aL ho) I2.sz;rw [hC] at this;exact fN _ (Nat.lt_of_succ_lt this)
   have pinX:∀ p∈X.pn++aN,p.1≠G.objs.size:=fun p hp=>(small _ _ (I2.pin p hp).1).1
   have nCu:(upd H3 s2.heap.objs.size (.lst ys)) G.objs.size=none:=by rw [bw (cw hDC)];exact nC
   refine fin s4 _ _ _ mC hnC I5 nCu locC fsC pinX (fun y c q z=>?_) (aY I2.sz (by rw [hC];exact Nat.le_succ _)) (qn _ nD);obtain ⟨v,o,ho,_⟩:=I2.cell y c q;exact (small c o ho).1 z
  ·refine thn (T.item (gi X scope cl G.objs.size (xs++fr) s2 H2 fp) rfl rfl rfl hc i _ s3 _ H3 _ I3 (fok fr3) st3 go) fun r s4 ⟨u,hr,h4⟩=>?_
   subst hr;refine thn h4 fun _ s5 ⟨v,H5,I5,r5,y5,st5,fr5⟩=>?_
   have I5':=I5.pinned (fok fr5) (T.obj _ _ st5);refine b9 (hg cl G.objs.size s2 H2 fp _ s5 _ H5 v u _ I5' r5 (step v H5 y5 v0 hv0)) (fun _ s6 ⟨σ6,H6,I6,⟨w1,hw1,e6⟩,q6⟩=>?_) fun _ _ f=>f.elim
   subst e6;refine b9 ((hb cl G.objs.size s2 H2 fp).2 _ s6 _ H6 _ I6 q6) (fun b s7 ⟨H7,I7,q7⟩=>?_) fun _ _ f=>f.elim
   have back:∀ {s8:aq} {H8:Hp},Inv (gi X scope cl G.objs.size (xs++fr) s2 H2 fp) ([(s2.heap.objs.size,lobj us n)]++pinsAt fp s5.heap) (w1++cV σ js) H8 s8→tn (i+1) s8.heap∧∀ b∈fp,H8 b=none:=fun {s8 H8} I8=>by
    refine ⟨T.keep _ _ _ st5 fun b hb o e=>(I8.pin (b,o) (aw _ (aw _ (kG hb e)))).1,fun b hb=>?_⟩;obtain ⟨o,e,_⟩:=T.obj _ _ st5 b hb;exact (I8.pin (b,o) (aw _ (aw _ (kG hb e)))).2.1
   cases b with
   | false =>
    obtain ⟨m',hm,w7⟩:=hN' _ _ q7;obtain ⟨t7,n7⟩:=back I7;exact ⟨m',hm,i+1,ys,us,n,w1,H7,hw1,I7.unpinned,rv,hlen,t7,n7,w7⟩
   | true =>
    refine b9 ((hb cl G.objs.size s2 H2 fp).1 _ s7 _ H7 _ I7 q7) (fun y' s8 ⟨y,H8,I8,r8,q8⟩=>?_) fun _ _ f=>f.elim
    obtain ⟨m',hm,w8⟩:=hN' _ _ q8;obtain ⟨t8,n8⟩:=back I8;have I8':=I8.unpinned;obtain ⟨pD,nD,_,_,_⟩:=I8'.pin (s2.heap.objs.size,lobj us n) (by show _∈[]++[_];simp);have pD:s8.heap.get? s2.heap.objs.size=some (lobj us n):=pD;have nD:H8 s2.heap.objs.size=none:=nD;refine append_at pD (fun h9 hs9 e9=>?_) (by rw [aG,←rv.length];exact hlen);have e9:h9.get? s2.heap.objs.size=some (lobj (us++[y']) (n+1)):=by rw [e9];simp [lobj]
    have J0:Inv (gi X scope cl G.objs.size (xs++fr) s2 H2 fp) [] (w1++cV σ js) H8 s8:=I8'.pins_of fun p hp=>o6 hp (by simp)
    have J9:Inv (gi X scope cl G.objs.size (xs++fr) s2 H2 fp) [] (w1++cV σ js) H8 { s8 with heap:=h9,toks:=s8.toks } :=
     J0.turned (it:=s2.heap.objs.size) (fun b o hb' e=>hs9.extBut b o hb' e) nD hDC (.inr (aB _)) (fun y0 c q z=>by
      obtain ⟨o,e⟩:=celo y0 c q;exact (small c o e).2 z) fun p hp=>o6 (show p∈([]:List (ai×Obj)) from hp) (by simp)
    refine ⟨m',hm,i+1,ys++[y],us++[y'],n+1,w1,H8,hw1,J9.pins_of fun p hp=>?_,rv.append (.cons r8 .nil),(by rw [av,fR];exact hlt),T.keep _ _ _ t8 fun b hb' o e=>hs9.extBut b o (by
     obtain ⟨o',e'⟩:=fpo b hb';exact (small b o' e').2) e,n8,w8⟩
    have ep:=ax.mp hp;subst ep;exact ⟨e9,nD,hDC,nofs,fun v z=>by cases z⟩
 exact codeAny_compStart_list (loop _ ⟨_,rfl⟩) (T.self _ 0 _ _ _ (T.keep _ _ _ st2 fun b hb o e=>old b o e) (loop _ ⟨_,rfl⟩))
theorem pe_compC {elt:Expr}{xs:List Str}{wi:TI}
  (hc:X.calm=true) (hi:PI X tg iter wi)
  (ij:∀ y∈scope.names,y.2≠ .cell) (kZ:scope.kind= .function) (ku:∀ y∈scope.names,y.2= .local→scope.names.lookup y.1=some .local)
  (hfr:∀ y∈scope.names,y.2= .free→X.env.scope.names.lookup y.1=some .cell) (hjs:js.map (fun j=>X.N[j]?)=fr.map some) (hfv:∀ y∈fr,scope.names.lookup y=some .free)
  (hg:∀ cl C s' H' ex,PG (gi X scope cl C (xs++fr) s' H' ex) tg g)
  (hb:∀ cl C s' H' ex,PE (gi X scope cl C (xs++fr) s' H' ex) elt te∧PTs (gi X scope cl C (xs++fr) s' H' ex) ifs tt)
  (hCW:∀ σ Q J H1,CW σ Q J H1→oY xs.length g js tt te σ Q J H1) (hs:∀ z,gk iter X.env z=fH z:=by intro _;rfl) :
  PE X (.ListComp elt [⟨tg,iter,ifs,0⟩] scope pos) (fun σ H Q=>wi σ H fun J H1=>CW σ Q J H1):=by
 intro aN s σ H Q I h;rw [eval_ListComp];exact comp_core (use:=none) (R:=EP X aN σ Q) hc hi ij kZ ku hfr hjs hfv hg hb hCW I h (fun s4 H5 D C mC n I5 nC lC fC pC cC sC q=>⟨mC,n,fun h' hsb=>⟨.ref D,H5,I5.turned (t':=s4.toks) (it:=C) (fun b o hb' e=>hsb.extBut b o hb' e) nC lC (.inr sC) cC pC,rfl,q⟩⟩) hs
theorem compW_T {Q:VK}{J:It}(h:CompW js tt te σ Q J H1):oY 1 (ox 0) js tt te σ Q J H1:=by
 obtain ⟨W,w0,turn⟩:=h;refine ⟨W,w0,fun i m ys H2 hw=>?_⟩
 rcases turn i m ys H2 hw with h | ⟨h1,h2,N,h3,h4⟩
 ·exact .inl h
 ·refine .inr ⟨h1,h2,N,h3,fun x H3 hy v0 hv=>?_⟩
  obtain ⟨w,rfl⟩:∃ w,v0=[w]:=by
   obtain _ | ⟨w,v0⟩:=v0
   ·cases hv
   ·obtain _ | ⟨z,v0⟩:=v0
    ·exact ⟨w,rfl⟩
    ·cases hv
  exact ⟨⟨[some x],rfl,rfl⟩,h4 x H3 hy⟩
theorem jj {elt:Expr}{px:Pos}{wi:TI}
  (hc:X.calm=true) (hi:PI X (.Name x px) iter wi)
  (ij:∀ y∈scope.names,y.2≠ .cell) (kZ:scope.kind= .function) (ku:∀ y∈scope.names,y.2= .local→scope.names.lookup y.1=some .local) (hx:scope.names.lookup x=some .local)
  (hfr:∀ y∈scope.names,y.2= .free→X.env.scope.names.lookup y.1=some .cell) (hnd:(x::fr).Nodup) (hjs:js.map (fun j=>X.N[j]?)=fr.map some) (hfv:∀ y∈fr,scope.names.lookup y=some .free)
  (hb:∀ cl C s' H' ex,PE (gi X scope cl C (x::fr) s' H' ex) elt te∧PTs (gi X scope cl C (x::fr) s' H' ex) ifs tt)
  (hs:∀ z,gk iter X.env z=fH z:=by intro _;rfl) :
  PE X (.ListComp elt [⟨.Name x px,iter,ifs,0⟩] scope pos) (tComp wi js tt te) :=
 pe_compC (xs:=[x]) (g:=ox 0) hc hi ij kZ ku hfr hjs hfv (fun _ _ _ _ _=>dX hnd rfl (.inl (eJ hx)) (.inr (eJ hx))) hb (fun _ _ _ _ h=>compW_T h) hs
theorem ka {Q:VK}(Pv:Nat→List V→Hp→Prop)(h0:Pv 0 [] H)(hl:∀ i ys H,i≤xs.length→Pv i ys H→SqT K H a xs∧ys.length≤i)(hz:xs.length≤bj)
  (hs:∀ i x ys H,xs[i]? =some x→Pv i ys H→tt (some x::cV σ js) H fun b H4=>if b=true then te (some x::cV σ js) H4 fun y H5=>Pv (i+1) (ys++[y]) H5 else Pv (i+1) ys H4)
  (hd:∀ ys H,Pv xs.length ys H→∀ D,H D=none→Q (.ref D) (upd H D (.lst ys))):CompW js tt te σ Q (Itt K a) H:=by
 refine ⟨fun i m ys H=>i≤xs.length∧m=xs.length - i∧Pv i ys H,⟨_,bK _,rfl,h0⟩,fun i m ys H2 ⟨hi,hm,hp⟩=>?_⟩;obtain ⟨hq,hy⟩:=hl i ys H2 hi hp
 by_cases e:i=xs.length
 ·subst e
  exact .inl ⟨⟨xs,hq,aB _⟩,hd ys H2 hp⟩
 ·have hlt:i<xs.length:=gF hi e
  refine .inr ⟨⟨xs,_,hq,gE hlt⟩,by omega,Pv (i+1),fun ys' H' hp'=>⟨xs.length - (i+1),by omega,by omega,rfl,hp'⟩,fun x H3 hy3=>?_⟩;obtain ⟨e3,hx⟩:=hy3;subst e3;exact hs i x ys H3 (hx xs hq) hp
theorem nextT_item {j t:ai}{its}{v:ae}(jt:s.heap.IsTupleIter j t i)(tt:s.heap.IsTuple t its)(hv:its[i]? =some v)
  (q:∀ g,g.IsTupleIter j t (i+1)→dA j s.heap g→Q v { s with heap:=g }):aX (br prog w) A (cO (.ref j)) Q E s:=by
 obtain ⟨ob,e1,e2,e3⟩:=id jt;obtain ⟨ot,g1,_,k,g2⟩:=tt;unfold cO;refine ah (fE (name:=cT "__next__") jt.typeIs ir (iC ir jt.typeIs F.entry_tuple_iterator_next ?_ (F.args_tuple_iterator_next_1 _)));show aX _ _ (field (.ref j) 0 >>= _) _ _ s;refine ah (eI e1 e3 (x:= .ref t) rfl ?_);show aX _ _ (ite ((ae.ref t == ae.none)=true) _ _) _ _ s;rw [oZ (fun z:(ae.ref t == ae.none)=true=>aP z)];show aX _ _ (field (.ref j) 1 >>= _) _ _ s;refine ah (eI e1 e3 (x:= .int i 0) rfl ?_);show aX _ _ (seqItems? (.ref t) >>= _) _ _ s;refine ah (ft g1 g2 ?_);simp only [cM,hv];refine ah (wpAny_setField e1 e3 (by simp) (aO ⟨v,rfl,aO (q _ ?_ (fW ..))⟩));exact ⟨_,bL.get?_update_self _ e1 (Obj.isFreed_of_fields (Obj.data_mapFields e3 _)),(Obj.cls_mapFields ..).trans e2,by rw [Obj.data_mapFields e3];simp [rawInt]⟩
theorem nextT_end {j t:ai}{its}(hh:A.handled=none)(jt:s.heap.IsTupleIter j t i)(tt:s.heap.IsTuple t its)(hv:its[i]? =none)
  (q:∀ g x,bL.ExtBut j s.heap g→(∃ o,g.get? x=some o∧o.cls= .type "StopIteration")→E (.ref x) { s with heap:=g }):aX (br prog w) A (cO (.ref j)) Q E s:=by
 obtain ⟨ob,e1,e2,e3⟩:=id jt;obtain ⟨ot,g1,_,k,g2⟩:=tt;unfold cO;refine ah (fE (name:=cT "__next__") jt.typeIs ir (iC ir jt.typeIs F.entry_tuple_iterator_next ?_ (F.args_tuple_iterator_next_1 _)));show aX _ _ (field (.ref j) 0 >>= _) _ _ s;refine ah (eI e1 e3 (x:= .ref t) rfl ?_);show aX _ _ (ite ((ae.ref t == ae.none)=true) _ _) _ _ s;rw [oZ (fun z:(ae.ref t == ae.none)=true=>aP z)];show aX _ _ (field (.ref j) 1 >>= _) _ _ s;refine ah (eI e1 e3 (x:= .int i 0) rfl ?_);show aX _ _ (seqItems? (.ref t) >>= _) _ _ s;refine ah (ft g1 g2 ?_);simp only [cM,hv];refine ah (wpAny_rule (ah (wpAny_setField e1 e3 (by simp) ?_)));show aX _ _ (newExc (.type "StopIteration") [] >>= _) _ _ _;refine ah ?_;simp only [newExc,newTuple];refine ah (eS ?_ (by size_fits));refine ah (m:=firstArgMember _ _) (wpAny_of_eq (a:=ae.none) (by first | rfl | (unfold firstArgMember;rfl)) ?_);refine eS ?_ (by size_fits);simp only [raiseNew];refine ah (wpAny_handled ?_)
 first | rw [show A.in1.handled=none from hh] | rw [hh]
 exact ah (aO (wpAny_throw (q _ _ (((fW ..).extBut.push _).push _) ⟨_,aZ _ rfl,rfl⟩)))
theorem Inv.turnAll {g:bL}{ch:List ai}(I:Inv X aN σ H s)(hf:∀ b∈ch,FpOk X aN H b)
  (k:∀ b o,b ∉ ch→s.heap.get? b=some o→g.get? b=some o) (hH:∀ b u,H b=some u→H' b=some u) (hN:∀ b o,s.heap.get? b=some o→H b=none→H' b=none) (hok:HOk X.prog X.w H' g):Inv X aN σ H' { s with heap:=g }:=by
 refine I.step (g':=s.gens) (d':=s.drawn) (t':=s.toks) (ch:=ch) (fun b hb=>?_) (fun b o _ _ hc e _=>k b o hc e) (fun b o _ _ hc e _=>⟨o.slots,k b o hc e⟩) (fun b o _ e n=>hN b o e n)
  (fun b o hc e=>⟨o,k b o hc e⟩) (fun b xs e=>hH b _ e) (fun b o u e=>hH b _ e) (fun b ps e=>⟨#[],by rw [hH b _ e];simp⟩) (fun m hm=>?_) hok I.bare
 ·obtain ⟨_,f1,_,f3,f4,f5⟩:=hf b hb
  exact ⟨f3,f1,f4,f5⟩
 ·obtain ⟨o,es,ep,ho,r⟩:=hm
  exact ⟨o,es,ep,k _ o (fun hb=>(hf _ hb).2.1 rfl) ho,r⟩
theorem Same.put (e:Same H H1){p:ai}(h:H1 p=none):Same H (upd H1 p o):=fun b u q=>by rw [bw (bz (e b u q) h)];exact e b u q
theorem Inv.big (I:Inv X aN σ H s):i5<s.heap.objs.size:=by
 have h:bO<s.heap.objs.size:=(I.mod.glob.keeps I.bk).lt;exact jf (by decide) h
theorem dk_empty (h:bL)(hb:i5<h.objs.size):ObjOk P w H (h.push { cls:= .type "dict",data:= .dict #[] }) h.objs.size (.dK []) :=
 ⟨bK _,beq_eq_false_iff_ne.mpr (cw (bI hb)),[],.nil,bL.DictOf.new h⟩
def tDNewK:TE:=fun _ H Q=>∀ p,H p=none→Q (.ref p) (upd H p (.dK []))
theorem pe_dnewK:PE X (.Dict [] [] pos) tDNewK:=fun aN s σ H Q I h =>
 wpAny_Dict_empty ⟨.ref s.heap.objs.size,_,I.laid (a:=s.heap.objs.size) (o:= .dK []) (t':=s.toks) (fun _ _ q=>ar _ q) (aB _) (dk_empty s.heap I.big),rfl,h _ (I.hok.fresh (aB _))⟩
theorem PE.imp {t t':TE}(h:PE X e t)(i:∀ σ H Q,t' σ H Q→t σ H Q):PE X e t':=fun aN s σ H Q I q=>h aN s σ H Q I (i σ H Q q)
theorem OpR.imp {f:ae→ae→Sem ae}{r r':R2}(h:OpR X f r)(i:∀ x y H Q,r' x y H Q→r x y H Q):OpR X f r':=fun aN s σ H x y v u Q I rx ry q=>h aN s σ H x y v u Q I rx ry (i x y H Q q)
theorem CallR.imp {f:ae}{r r':List V→Hp→VK→Prop}(h:CallR X f r)(i:∀ xs H Q,r' xs H Q→r xs H Q):CallR X f r':=fun aN s σ H xs us Q I rv q=>h aN s σ H xs us Q I rv (i xs H Q q)
def tACut (t:TA):TA:=fun σ H R=>∃ R':List V→Hp→Prop,(∀ xs H,R' xs H→R xs H)∧t σ H R'
theorem PA.cut (h:PA X es t):PA X es (tACut t):=fun pos aN s σ H Q I ⟨R',i,q⟩ =>
 thn (h pos aN s σ H R' I q) fun us s' ⟨vs,H',I',rv,q'⟩=>⟨vs,H',I',rv,i _ _ q'⟩
def New (H:Hp)(o:HO)(Q:VK):Prop:=∀ p H',Same H H'→H' p=some o→Q (.ref p) H'
theorem New.of {Q:VK}(h:New H o Q):∀ p,H p=none→Q (.ref p) (upd H p o):=fun p hp=>h p _ (Same.put (Same.refl H) hp) aU
def tTupA (t:TA):TE:=fun σ H Q=>t σ H fun xs H1=>xs.length≤bj∧New H1 (.tup xs) Q
def tLstA (t:TA):TE:=fun σ H Q=>t σ H fun xs H1=>xs.length≤bj∧New H1 (.lst xs) Q
theorem dg {x1}(h:PA X es t):PE X (.Tuple es x1 pos) (tTupA t):=(pe_tup h.cut).imp fun _ _ _ q=>⟨_,fun _ _ z=>⟨z.1,z.2.of⟩,q⟩
theorem pe_lstA (h:PA X es t):PE X (.List es pos) (tLstA t):=(jk h.cut).imp fun _ _ _ q=>⟨_,fun _ _ z=>⟨z.1,z.2.of⟩,q⟩
theorem op_catL:OpR X (gm .Add) (fun x y H Q=>∃ l b xs zs,x= .ref l∧y= .ref b∧H l=some (.lst xs)∧H b=some (.lst zs)∧xs.length+zs.length≤bj∧New H (.lst (xs++zs)) Q) :=
 op_cat.imp fun _ _ _ _ ⟨l,b,xs,zs,e1,e2,e3,e4,e5,q⟩=>⟨l,b,xs,zs,e1,e2,e3,e4,e5,q.of⟩
inductive Dt where
 | non | bl (b:Bool) | int (i:Int) | str (x:Str) | tup (ds:List Dt) | oth (T:String)
mutual
inductive IsD (H:Hp):V→Dt→Prop where
 | non:IsD H .non .non
 | bl (b:Bool):IsD H (.bl b) (.bl b)
 | int (i:Int):IsD H (.int i) (.int i)
 | str (x:Str):IsD H (.str x) (.str x)
 | tup {a:ai} {xs:List V} {ds:List Dt} (h:H a=some (.tup xs)) (r:IsDs H xs ds):IsD H (.ref a) (.tup ds)
 | lst {a:ai} {xs:List V} (h:H a=some (.lst xs)):IsD H (.ref a) (.oth "list")
 | dct {a:ai} {kvs:List (Key×V)} (h:H a=some (.dK kvs)):IsD H (.ref a) (.oth "dict")
inductive IsDs (H:Hp):List V→List Dt→Prop where
 | nil:IsDs H [] []
 | cons {x:V} {d:Dt} {xs:List V} {ds:List Dt} (h:IsD H x d) (r:IsDs H xs ds):IsDs H (x::xs) (d::ds)
end
mutual
theorem IsD.same {H H':Hp}(e:Same H H'):∀ {v:V} {d:Dt},IsD H v d→IsD H' v d
 | _,_,.non=> .non
 | _,_,.bl b=> .bl b
 | _,_,.int i=> .int i
 | _,_,.str x=> .str x
 | _,_,.tup h r=> .tup (e _ _ h) (IsDs.same e r)
 | _,_,.lst h=> .lst (e _ _ h)
 | _,_,.dct h=> .dct (e _ _ h)
theorem IsDs.same {H H':Hp}(e:Same H H'):∀ {vs:List V} {ds:List Dt},IsDs H vs ds→IsDs H' vs ds
 | _,_,.nil=> .nil
 | _,_,.cons h r=> .cons (IsD.same e h) (IsDs.same e r)
end
mutual
theorem IsD.inj {H:Hp}:∀ {v:V} {d e:Dt},IsD H v d→IsD H v e→d=e
 | _,_,_,.non,.non=>rfl
 | _,_,_,.bl _,.bl _=>rfl
 | _,_,_,.int _,.int _=>rfl
 | _,_,_,.str _,.str _=>rfl
 | _,_,_,.tup h r,q=>by
  cases q with
  | tup h' r'=>rw [h] at h';cases h';rw [IsDs.inj r r']
  | lst h'=>rw [h] at h';cases h'
  | dct h'=>rw [h] at h';cases h'
 | _,_,_,.lst h,q=>by
  cases q with
  | tup h' r'=>rw [h] at h';cases h'
  | lst h'=>rfl
  | dct h'=>rw [h] at h';cases h'
 | _,_,_,.dct h,q=>by
  cases q with
  | tup h' r'=>rw [h] at h';cases h'
  | lst h'=>rw [h] at h';cases h'
  | dct h'=>rfl
theorem IsDs.inj {H:Hp}:∀ {vs:List V} {ds es:List Dt},IsDs H vs ds→IsDs H vs es→ds=es
 | _,_,_,.nil,.nil=>rfl
 | _,_,_,.cons h r,.cons h' r'=>by rw [IsD.inj h h',IsDs.inj r r']
end
theorem IsDs.length:∀ {xs:List V} {ds:List Dt},IsDs H xs ds→xs.length=ds.length
 | _,_,.nil=>rfl
 | _,_,.cons _ r=>by rw [aS,aS,IsDs.length r]
theorem IsDs.get:∀ {xs:List V} {ds:List Dt} {i:Nat} {x:V},IsDs H xs ds→xs[i]? =some x→∃ d,ds[i]? =some d∧IsD H x d
 | _,_,_,_,.nil,e=>by simp at e
 | _,_,0,_,.cons h _,e=>by simp at e;subst e;exact ⟨_,rfl,h⟩
 | _,_,i+1,x,.cons _ r,e=>by
  obtain ⟨d,h1,h2⟩:=IsDs.get (i:=i) (x:=x) r (by simpa using e);exact ⟨d,by simpa using h1,h2⟩
theorem IsDs.at:∀ {xs:List V} {ds:List Dt} {i:Nat} {d:Dt},IsDs H xs ds→ds[i]? =some d→∃ x,xs[i]? =some x∧IsD H x d
 | _,_,_,_,.nil,e=>by simp at e
 | _,_,0,_,.cons h _,e=>by simp at e;subst e;exact ⟨_,rfl,h⟩
 | _,_,i+1,d,.cons _ r,e=>by
  obtain ⟨x,h1,h2⟩:=IsDs.at (i:=i) (d:=d) r (by simpa using e);exact ⟨x,by simpa using h1,h2⟩
theorem IsDs.append:∀ {xs ys:List V} {ds es:List Dt},IsDs H xs ds→IsDs H ys es→IsDs H (xs++ys) (ds++es)
 | _,_,_,_,.nil,s=>s
 | _,_,_,_,.cons h r,s=> .cons h (IsDs.append r s)
theorem IsDs.ints:∀ (ns:List Int),IsDs H (ns.map V.int) (ns.map Dt.int)
 | []=> .nil
 | n::r=> .cons (.int n) (IsDs.ints r)
theorem IsDs.ints_of:∀ {xs:List V} {ns:List Int},IsDs H xs (ns.map Dt.int)→xs=ns.map V.int
 | _,[],.nil=>rfl
 | _,n::r,.cons h q=>by cases h;rw [IsDs.ints_of q];rfl
theorem IsD.tup_of {ds:List Dt}(h:IsD H v (.tup ds)):∃ a xs,v= .ref a∧H a=some (.tup xs)∧IsDs H xs ds:=by
 cases h with
 | tup h r=>exact ⟨_,_,rfl,h,r⟩
mutual
def eqD:Dt→Dt→Bool
 | .non,.non=>true
 | .bl a,.bl b=>a == b
 | .bl a,.int b=>(if a then 1 else 0) == b
 | .int a,.bl b=>a == (if b then 1 else 0)
 | .int a,.int b=>a == b
 | .str a,.str b=>a == b
 | .tup xs,.tup ys=>eqDs xs ys
 | _,_=>false
def eqDs:List Dt→List Dt→Bool
 | [],[]=>true
 | x::xs,y::ys=>eqD x y && eqDs xs ys
 | _,_=>false
end
mutual
def pl:Dt→Bool
 | .oth _=>false
 | .tup ds=>pls ds
 | _=>true
def pls:List Dt→Bool
 | []=>true
 | d::ds=>pl d && pls ds
end
mutual
def dep:Dt→Nat
 | .tup ds=>deps ds+1
 | _=>0
def deps:List Dt→Nat
 | []=>0
 | d::ds=>max (dep d) (deps ds)
end
mutual
theorem eqD_refl:∀ d:Dt,pl d=true→eqD d d=true
 | .non,_=>by unfold eqD;rfl
 | .bl b,_=>by unfold eqD;exact beq_self_eq_true b
 | .int i,_=>by unfold eqD;exact beq_self_eq_true i
 | .str x,_=>by unfold eqD;exact beq_self_eq_true x
 | .tup ds,h=>by
  unfold eqD;unfold pl at h;exact eqDs_refl ds h
 | .oth T,h=>by unfold pl at h;cases h
theorem eqDs_refl:∀ ds:List Dt,pls ds=true→eqDs ds ds=true
 | [],_=>by unfold eqDs;rfl
 | d::ds,h=>by
  unfold eqDs;unfold pls at h;rw [dB] at h;rw [eqD_refl d h.1,eqDs_refl ds h.2];rfl
end
end L2
namespace L2
open PySem PySem.Spec PyProof.Rows
theorem iJ:CallR X (.type "tuple") (fun xs H Q=>∃ p ys,xs=[.ref p]∧SqL X.K H p ys∧New H (.tup ys) Q) :=
 call_tuple_of.imp fun _ _ _ ⟨p,ys,e,h,q⟩=>⟨p,ys,e,.inl ⟨h,q.of⟩⟩
theorem jR {Q:VK}(Pv:Nat→List V→Hp→Prop)(h0:Pv 0 [] H)(hl:∀ i ys H,i≤xs.length→Pv i ys H→SqL K H a xs∧ys.length≤i)(hz:xs.length≤bj)
  (hs:∀ i x ys H,xs[i]? =some x→Pv i ys H→tt (some x::cV σ js) H fun b H4=>if b=true then te (some x::cV σ js) H4 fun y H5=>Pv (i+1) (ys++[y]) H5 else Pv (i+1) ys H4)
  (hd:∀ ys H,Pv xs.length ys H→∀ D,H D=none→Q (.ref D) (upd H D (.lst ys))):CompW js tt te σ Q (Itl K a) H:=by
 refine ⟨fun i m ys H=>i≤xs.length∧m=xs.length - i∧Pv i ys H,⟨_,bK _,rfl,h0⟩,fun i m ys H2 ⟨hi,hm,hp⟩=>?_⟩;obtain ⟨hq,hy⟩:=hl i ys H2 hi hp
 by_cases e:i=xs.length
 ·subst e
  exact .inl ⟨⟨xs,hq,aB _⟩,hd ys H2 hp⟩
 ·have hlt:i<xs.length:=gF hi e
  refine .inr ⟨⟨xs,_,hq,gE hlt⟩,by omega,Pv (i+1),fun ys' H' hp'=>⟨xs.length - (i+1),by omega,by omega,rfl,hp'⟩,fun x H3 hy3=>?_⟩;obtain ⟨e3,hx⟩:=hy3;subst e3;exact hs i x ys H3 (hx xs hq) hp
theorem kK {lo:Int}{Q:VK}(Pv:Nat→List V→Hp→Prop)(h0:Pv 0 [] H)(hl:∀ i ys H,i≤n→Pv i ys H→ys.length≤i)(hz:n≤bj)
  (hs:∀ (i:Nat) ys H,i<n→Pv i ys H→tt (some (.int (lo+i))::cV σ js) H fun b H4=>if b=true then te (some (.int (lo+i))::cV σ js) H4 fun y H5=>Pv (i+1) (ys++[y]) H5 else Pv (i+1) ys H4)
  (hd:∀ ys H,Pv n ys H→∀ D,H D=none→Q (.ref D) (upd H D (.lst ys))):CompW js tt te σ Q (Itr lo n) H:=by
 refine ⟨fun i m ys H=>i≤n∧m=n - i∧Pv i ys H,⟨_,bK _,rfl,h0⟩,fun i m ys H2 ⟨hi,hm,hp⟩=>?_⟩;have hy:=hl i ys H2 hi hp
 by_cases e:i=n
 ·subst e
  exact .inl ⟨aB _,hd ys H2 hp⟩
 ·have hlt:i<n:=gF hi e
  refine .inr ⟨hlt,by omega,Pv (i+1),fun ys' H' hp'=>⟨n - (i+1),by omega,by omega,rfl,hp'⟩,fun x H3 hy3=>?_⟩;obtain ⟨e3,hx⟩:=hy3;subst e3 hx;exact hs i ys H3 hlt hp
theorem ps_setCC {iy:Nat}{y0:Str}{py spos:Pos}{elt:Expr}{xs:List Str}{wi:TI}
  (hN0:X.N.Nodup) (hi0:X.N[iy]? =some y0) (hx0:Loc X.env.scope y0) (hc:X.calm=true) (hi:PI X tg iter wi)
  (ij:∀ y∈scope.names,y.2≠ .cell) (kZ:scope.kind= .function) (ku:∀ y∈scope.names,y.2= .local→scope.names.lookup y.1=some .local)
  (hfr:∀ y∈scope.names,y.2= .free→X.env.scope.names.lookup y.1=some .cell) (hjs:js.map (fun j=>X.N[j]?)=fr.map some) (hfv:∀ y∈fr,scope.names.lookup y=some .free)
  (hg:∀ cl C s' H' ex,PG (gi X scope cl C (xs++fr) s' H' ex) tg g)
  (hb:∀ cl C s' H' ex,PE (gi X scope cl C (xs++fr) s' H' ex) elt te∧PTs (gi X scope cl C (xs++fr) s' H' ex) ifs tt)
  (hCW:∀ σ Q J H1,CW σ Q J H1→oY xs.length g js tt te σ Q J H1) (hs:∀ z,gk iter X.env z=fH z:=by intro _;rfl) (hsw:swapsWith (.ListComp elt [⟨tg,iter,ifs,0⟩] scope pos) (some (.Name y0 py)) spos.line X.env=fH true:=by rfl)
  (hf0:X.fn y0=true∨X.env.scope.names.lookup y0=some .local:=by first | exact .inl rfl | exact .inr rfl | assumption) :
  PS X (.Assign [.Name y0 py] (.ListComp elt [⟨tg,iter,ifs,0⟩] scope pos) spos) (tAsg (fun σ H Q=>wi σ H fun J H1=>CW σ Q J H1) (ox iy)):=by
 intro aN s σ H Dn I h;rw [exec_Assign_Name_used _ _ _ _ hsw];refine ah (wpAny_standAt (ah ?_));show aX _ X.A (do let _ ← comprehension (.ListComp elt [⟨tg,iter,ifs,0⟩] scope pos) scope X.env _ (newList []) false (eu iter X.env) (some (assign (.Name y0 py) X.env))) _ _ s;refine ah (b9 (comp_core (use:=some (assign (.Name y0 py) X.env)) (R:=fun _ s'=>SP X aN Dn .next s') hc hi ij kZ ku hfr hjs hfv hg hb hCW I h (fun s4 H5 D C mC hnC I5 nC locC fsC pinX cC sC q=>?_) hs) (fun _ s' hq=>aO (aO hq)) fun _ _ e=>e);obtain ⟨oC,esC,epC,hoC,rC⟩:=id hnC;have I6:Inv X ((C,oC)::aN) σ H5 s4:=I5.pins_of fun p hp=>by
  rcases az.mp hp with rfl | hp
  ·refine ⟨hoC,nC,locC,fsC,fun v z=>?_⟩
   rw [rC.1] at z;cases z
  ·exact I5.pin p (aw _ hp)
 have hPG0:PG X (.Name y0 py) (ox iy):=dX hN0 hi0 hx0 hf0;refine thn (hPG0 _ s4 σ _ (.ref D) (.ref D) (fun σ' H'=>Dn.nx σ' H'∧H' C=none) I6 rfl ⟨q,nC⟩) fun _ s6 ⟨σ6,H6,I7,q7,n7⟩=>?_
 have o7:=(I7.pin (C,oC) (aw _ (bp ..))).1;refine ⟨mC,⟨oC,esC,epC,o7,rC⟩,fun h' hsb=>⟨σ6,H6,?_,q7⟩⟩;have I8:Inv X aN σ6 H6 s6:=I7.pins_of fun p hp=>I7.pin p (aw _ (au _ hp))
 exact I8.turned (t':=s6.toks) (it:=C) (fun b o hb' e=>hsb.extBut b o hb' e) n7 locC (.inr sC) cC pinX
theorem l4 {iy:Nat}{y0:Str}{py spos:Pos}{elt:Expr}{px:Pos}{wi:TI}
  (hN0:X.N.Nodup) (hi0:X.N[iy]? =some y0) (hx0:Loc X.env.scope y0) (hc:X.calm=true) (hi:PI X (.Name x px) iter wi)
  (ij:∀ y∈scope.names,y.2≠ .cell) (kZ:scope.kind= .function) (ku:∀ y∈scope.names,y.2= .local→scope.names.lookup y.1=some .local) (hx:scope.names.lookup x=some .local)
  (hfr:∀ y∈scope.names,y.2= .free→X.env.scope.names.lookup y.1=some .cell) (hnd:(x::fr).Nodup) (hjs:js.map (fun j=>X.N[j]?)=fr.map some) (hfv:∀ y∈fr,scope.names.lookup y=some .free)
  (hb:∀ cl C s' H' ex,PE (gi X scope cl C (x::fr) s' H' ex) elt te∧PTs (gi X scope cl C (x::fr) s' H' ex) ifs tt)
  (hs:∀ z,gk iter X.env z=fH z:=by intro _;rfl) (hsw:swapsWith (.ListComp elt [⟨.Name x px,iter,ifs,0⟩] scope pos) (some (.Name y0 py)) spos.line X.env=fH true:=by rfl)
  (hf0:X.fn y0=true∨X.env.scope.names.lookup y0=some .local:=by first | exact .inl rfl | exact .inr rfl | assumption) :
  PS X (.Assign [.Name y0 py] (.ListComp elt [⟨.Name x px,iter,ifs,0⟩] scope pos) spos) (tAsg (tComp wi js tt te) (ox iy)) :=
 ps_setCC (xs:=[x]) (g:=ox 0) hN0 hi0 hx0 hc hi ij kZ ku hfr hjs hfv (fun _ _ _ _ _=>dX hnd rfl (.inl (eJ hx)) (.inr (eJ hx))) hb (fun _ _ _ _ h=>compW_T h) hs hsw hf0
def notStar:Expr→Bool
 | .Starred _ _=>false
 | _=>true
theorem starEach_not {env:Env}(h:notStar e=true):bE (e::es) env=(false,eu e env)::bE es env:=by
 cases e <;> first | rfl | cases h
theorem pa_k (ha:PE X e te)(hr:PA X es t)(h:notStar e=true:=by rfl):PA X (e::es) (tCons te t):=af ha hr (starEach_not h)
structure PEs (X:Cx)(e:Expr)(t:TE):Prop where
 h:PE X e t
structure PAs (X:Cx)(es:List Expr)(t:TA):Prop where
 h:PA X es t
structure PSt (X:Cx)(st:cP)(t:TS):Prop where
 h:PS X st t
theorem kR {t:TS}(h:PS X st t):PS X st (fun D σ H=>∃ N:St→Hp→Prop,(∀ σ' H',N σ' H'→D.nx σ' H')∧t { D with nx:=N } σ H):=by
 intro aN s σ H D I ⟨N,hN,ht⟩;refine thn (h aN s σ H { D with nx:=N } I ht) fun f s' q=>?_
 cases f with
 | next=>obtain ⟨σ',H',I',n'⟩:=q;exact ⟨σ',H',I',hN _ _ n'⟩
 | brk=>exact q
 | cont=>exact q
 | ret u=>exact q
structure PSl (X:Cx)(sts:List cP)(t:TS):Prop where
 h:PSs X sts t
section
variable {a b:Expr}{ta tb:TE}
theorem iw {i j}:PEs X (.Constant (.int i) j pos) (tC (.int i)):=⟨bo⟩
theorem k_op {op:Operator}{r:R2}(ho:OpR X (gm op) r)(ha:PEs X a ta)(hb:PEs X b tb):PEs X (.BinOp a op b pos) (tOp r ta tb):=⟨cp ho ha.h hb.h⟩
theorem k_ix {r:R2}(hr:IxR X r)(ha:PEs X a ta)(hb:PEs X b tb)(hs:PlainIx b):PEs X (.Subscript a b pos) (tOp r ta tb):=⟨d9 hr ha.h hb.h hs⟩
theorem k_lst (h:PAs X es t):PEs X (.List es pos) (tLstA t):=⟨pe_lstA h.h⟩
theorem oz:PAs X [] tNil:=⟨aC⟩
theorem dI (ha:PEs X e te)(hr:PAs X es t)(h:notStar e=true:=by rfl):PAs X (e::es) (tCons te t):=⟨pa_k ha.h hr.h h⟩
theorem bc {sts:List cP}{t u:TS}(a:PSt X st t)(b:PSl X sts u):PSl X (st::sts) (tSeq t u):=⟨mP a.h b.h⟩
theorem dh {t:TS}(a:PSt X st t):PSl X [st] t:=⟨df a.h⟩
end
def CBig (i j:Int):Prop:=i.natAbs<10 ^ 400∧j.natAbs<10 ^ 400
theorem bits_of {x:Int}(h:x.natAbs<10 ^ 400):jg x≤2 ^ 20:=by
 unfold jg;split
 ·exact bK _
 ·rename_i hx
  have h0 : x.natAbs ≠ 0 := fun z => hx (by have : x = 0 := by omega
                                            rw [this];rfl)
  have h1:x.natAbs<2 ^ 4000:=jf h (by decide +kernel);have h2:=(Nat.log2_lt h0).mpr h1;have h3:(4000:Nat)+1≤2 ^ 20:=by decide
  omega
theorem op_mulB:OpR X (gm .Mult) (rI CBig fun i j=> .int (i * j)):=opI fun _ _ _ _ _ _ _ hc q=>mul_int q (IntMulOk.of_bits (bits_of hc.1) (bits_of hc.2))
theorem ints_are:∀ {ns:List Int} {us:List ae},Vals (ns.map V.int) us→IntsAre us ns
 | [],_,.nil=> .nil
 | _::_,_,.cons ⟨_,e⟩ r=>by cases e;exact .cons _ _ (ints_are r)
theorem pe_compT {elt:Expr}{xs:List Str}{wi:TI}
  (hc:X.calm=true) (hi:PI X tg iter wi)
  (ij:∀ y∈scope.names,y.2≠ .cell) (kZ:scope.kind= .function) (ku:∀ y∈scope.names,y.2= .local→scope.names.lookup y.1=some .local)
  (hfr:∀ y∈scope.names,y.2= .free→X.env.scope.names.lookup y.1=some .cell) (hjs:js.map (fun j=>X.N[j]?)=fr.map some) (hfv:∀ y∈fr,scope.names.lookup y=some .free)
  (hg:∀ cl C s' H' ex,PG (gi X scope cl C (xs++fr) s' H' ex) tg g)
  (hb:∀ cl C s' H' ex,PE (gi X scope cl C (xs++fr) s' H' ex) elt te∧PTs (gi X scope cl C (xs++fr) s' H' ex) ifs tt)
  (hs:∀ z,gk iter X.env z=fH z:=by intro _;rfl) :
  PE X (.ListComp elt [⟨tg,iter,ifs,0⟩] scope pos) (tCompT wi xs.length g js tt te) :=
 pe_compC hc hi ij kZ ku hfr hjs hfv hg hb (fun _ _ _ _ h=>h) hs
abbrev gPair (K:ak):TG:=gTup K 2 (gCons (ox 0) (gCons (ox 1) gNil))
theorem pg_two {ex:List ai}{y:Str}{k:Nat}{p1 p2 pt:Pos}(hc:X.calm=true)(hnd:(x::y::fr).Nodup)(hx:scope.names.lookup x=some .local)(hy:scope.names.lookup y=some .local) :
  PG (gi X scope cl C ([x,y]++fr) s H ex) (.Tuple [.Name x p1,.Name y p2] k pt) (gPair X.K) :=
 pg_tup hc (iG (dX (i:=0) hnd rfl (.inl (eJ hx)) (.inr (eJ hx))) (iG (dX (i:=1) hnd rfl (.inl (eJ hy)) (.inr (eJ hy))) nU))
theorem getItem_all {t sl:ai}{items:Array ae}{vl vu:ae}{lo hi:Option Int}(ht:IsTup s.heap t items)(hs:s.heap.IsSliceOf sl vl vu .none)(pl:IsPart vl lo)(pu:IsPart vu hi)
  (hw:HT.sIx items.size 0 lo=0∧HT.sIx items.size items.size hi=items.size) (h:Q (.ref t) s):aX (br prog w) A (getItem (.ref t) (.ref sl)) Q E s:=by
 obtain ⟨os,hos,hcs,hds⟩:=id hs;have hTs:s.TypeIs (.ref sl) "slice" := ⟨os,hos,hcs⟩;unfold getItem
 try with_reducible refine d7 ?_
 first | refine ah (aO ?_) | skip
 refine ah (wpAny_sequenceKey ht.typeIs (by decide) ?_);refine ah (fE (name:=cT "__getitem__") ht.typeIs cY
  (iC cY ht.typeIs entry_tuple_getitem ?_ (args_tuple_getitem _ _)))
 show aX _ _ (eN.Tuple.tupleItemsOf (.ref t) >>= _) _ _ s;refine ah (tupleItemsOf_ ht ?_);refine ah (wpAny_typeOf hTs ?_);rw [o4 (by decide)];refine ah (HT.sliceApplied_gen hs pl pu ?_);show aX _ _ (if (((HT.sIx items.size 0 lo:Nat):Int) == 0 && (1:Int) == 1 && (HT.sIx items.size items.size hi - HT.sIx items.size 0 lo) == items.size)=true then _ else _) _ _ s;rw [hw.1,hw.2,Nat.sub_zero,o4 (by simp)];unfold eN.Tuple.tupleIsExact;refine ah (ah (wpAny_typeOf ht.typeIs (aO ?_)));rw [o4 (by decide)];exact ah (wpAny_rule (aO ⟨_,rfl,aO h⟩))
theorem sl_tupN:SlR X (fun x lo hi H Q=>∃ a xs,x= .ref a∧H a=some (.tup xs)∧New H (.tup (cutV xs lo hi)) Q):=by
 intro aN s σ H x v vl vu lo hi sl Q I rx hs pl pu h;obtain ⟨a,xs,rfl,hx,q⟩:=h
 by_cases hw:HT.sIx xs.length 0 lo=0∧HT.sIx xs.length xs.length hi=xs.length
 ·cases rx
  obtain ⟨its,r,ht,hz⟩:=I.tuple (SqT.of (K:=X.K) hx);have hlen:its.toArray.size=xs.length:=by rw [aG];exact r.length.symm
  refine ⟨"tuple",_,cY.lookup,ht.typeIs,?_⟩;refine getItem_all ht hs pl pu (by rw [hlen];exact hw) ⟨.ref a,H,I,rfl,q a H (Same.refl H) ?_⟩;have e:cutV xs lo hi=xs:=by unfold cutV;rw [hw.1,hw.2,List.drop_zero,Nat.sub_zero,bf]
  rw [e];exact hx
 ·exact sl_tup aN s σ H _ v vl vu lo hi sl Q I rx hs pl pu ⟨a,xs,rfl,SqT.of hx,hw,q.of⟩
theorem call_sum (hc:X.calm=true):CallR X (.builtin "sum") (fun xs H Q=>∃ (p:ai) (ns:List Int),xs=[.ref p]∧SqL X.K H p (ns.map V.int)∧Q (.int ns.sum) H):=by
 intro aN s σ H xs us Q I r h;obtain ⟨p,ns,rfl,hq,q⟩:=h;obtain ⟨u,rfl,ru⟩:=vals1 r;cases (show u=ae.ref p from ru);obtain ⟨its,rv,pl,hz⟩:=I.list hq;have hi:=ints_are rv;obtain ⟨ys,hx⟩:=hi.allInts.items;have hl':s.heap.IsList p (intItems ys):=hx ▸ pl.isList;refine sum_intListG (I.ok.hd hc) hl' fun h' tk t' hk=>?_
 have e1:ns=ys.toList.map (·.1):=by
  rw [←nums_intItems,←hx];exact (show numsOf its.toArray.toList=ns from hi.numsOf).symm
 have e2:preSum (numAt ys) ys.size=ns.sum:=by
  rw [preSum_eq,iV (by simp),e1]
 rw [e2];exact ⟨.int ns.sum,H,I.kept (t':=tk) hk,⟨t',rfl⟩,q⟩
theorem vals_at:∀ {xs:List V} {us:List ae},xs.length=us.length→(∀ (i:Nat) (x:V),xs[i]? =some x→∃ u,us[i]? =some u∧RelV x u)→Vals xs us
 | [],[],_,_=> .nil
 | [],_::_,h,_=>by cases h
 | _::_,[],h,_=>by cases h
 | x::xs,u::us,h,k=>by
  obtain ⟨u',e,r⟩:=k 0 x rfl;cases e;exact .cons r (vals_at (by simpa using h) fun i y hy=>k (i+1) y hy)
theorem call_rng1:CallR X (.type "range") (fun xs H Q=>∃ j:Int,xs=[.int j]∧New H (.rng 0 j) Q):=by
 intro aN s σ H xs us Q I r h;obtain ⟨j,rfl,q⟩:=h;obtain ⟨u,rfl,ru⟩:=vals1 r;obtain ⟨t,rfl⟩:=(show ∃ t,u=ae.int j t from ru);refine call_range_1 ?_;exact ⟨.ref s.heap.objs.size,_,I.laid (t':=s.toks+1+1) (o:= .rng 0 j) (fun _ _ z=>ar _ z) (aB _) ⟨_,_,_,aZ _ rfl⟩,rfl,q.of _ I.fresh⟩
theorem call_listR (hc:X.calm=true):CallR X (.type "list") (fun xs H Q=>∃ (a:ai) (n:Nat),xs=[.ref a]∧H a=some (.rng 0 (n:Int))∧n≤1000∧∀ l,H l=none→Q (.ref l) (upd H l (.lst ((aR n).map fun k=>V.int (k:Nat))))):=by
 intro aN s σ H xs us Q I r h;obtain ⟨a,n,rfl,ha,hn,q⟩:=h;obtain ⟨u,rfl,ru⟩:=vals1 r;cases (show u=ae.ref a from ru);obtain ⟨t,u,v,hr⟩:=I.hok a _ ha;have hs:dM 0 (n:Int) 1=n:=by
  unfold dM;rw [o4 (by decide)]
  by_cases h0:(0:Int)<n
  ·rw [o4 h0,Int.ediv_one];omega
  ·rw [oZ h0];omega
 refine call_list_range (n:=n) (I.ok.hd hc) hr (by unfold gN;rw [hs];unfold eN.Range.rangeFitsLong;simp;omega) hs (by omega) fun h' tk acc c hk hg hi=>?_
 refine ⟨.ref s.heap.objs.size,_,I.laid (t':=tk) (o:= .lst ((aR n).map fun k=>V.int (k:Nat))) hk (aB _) ⟨?_,acc.toList,c,?_,?_⟩,rfl,q _ I.fresh⟩
 ·rw [aa,bt];exact aY hn (by decide)
 ·refine vals_at (by rw [aa,bt,cX,hi.1]) fun i x hx=>?_
  rw [ay] at hx;obtain ⟨k,hk2,rfl⟩:=bB.mp hx;have hik:i<n:=by have:=(ao.mp hk2).1;rw [bt] at this;exact this
  rw [gp hik] at hk2;cases hk2;have hi2:i<acc.size:=by rw [hi.1];exact hik
  have e:=eR hi2;obtain ⟨t2,e2⟩:=hi.2 i _ e;refine ⟨_,by rw [Array.getElem?_toList];exact e,⟨t2,?_⟩⟩;rw [e2];congr 1;omega
 ·rw [Array.toArray_toList];exact hg
theorem mr (h:PAs X es t):PEs X (.List es pos) (tLst t):=⟨jk h.h⟩
section
variable {κ:Type} [DecidableEq κ]
def lV (kvs:List (κ×V))(k:κ):Option V:=(kvs.find? fun kv=>decide (kv.1=k)).map (·.2)
def l3 (kvs:List (κ×V))(k:κ)(v:V):List (κ×V) :=
 if (kvs.any fun kv=>decide (kv.1=k))=true then kvs.map (fun kv=>if kv.1=k then (kv.1,v) else kv) else kvs++[(k,v)]
theorem hW {p:κ×V}{r:List (κ×V)}{k:κ}(e:p.1=k):lV (p::r) k=some p.2:=by simp [lV,gH,e]
theorem gP {p:κ×V}{r:List (κ×V)}{k:κ}(e:¬ p.1=k):lV (p::r) k=lV r k:=by simp [lV,gH,e]
theorem lh (k:κ):∀ kvs:List (κ×V),(kvs.any fun kv=>decide (kv.1=k))=(lV kvs k).isSome
 | []=>rfl
 | p::r=>by
  rw [iB]
  by_cases e:p.1=k
  ·simp only [hW e,o8 e,Bool.true_or,Option.isSome_some]
  ·rw [gP e,o9 e,Bool.false_or];exact lh k r
theorem valV_map (k j:κ)(y:V):∀ kvs:List (κ×V),lV (kvs.map fun kv=>if kv.1=k then (kv.1,y) else kv) j=(lV kvs j).map fun x=>if j=k then y else x
 | []=>rfl
 | p::r=>by
  have ih:=valV_map k j y r;rw [bX]
  by_cases h:p.1=k
  ·rw [o4 h]
   by_cases e:p.1=j
   ·rw [hW (p:=(p.1,y)) e,hW e,fV,o4 (e.symm.trans h)]
   ·rw [gP (p:=(p.1,y)) e,gP e,ih]
  ·rw [oZ h]
   by_cases e:p.1=j
   ·rw [hW (p:=p) e,hW e,fV,oZ (fun z=>h (e.trans z))]
   ·rw [gP (p:=p) e,gP e,ih]
theorem valV_snoc (k j:κ)(y:V):∀ kvs:List (κ×V),lV kvs k=none→lV (kvs++[(k,y)]) j=if j=k then some y else lV kvs j
 | [],_=>by
  by_cases e:k=j
  ·rw [o4 e.symm];exact hW (p:=(k,y)) e
  ·rw [oZ (fun z=>e z.symm)];exact gP (p:=(k,y)) e
 | p::r,hn=>by
  rw [List.cons_append];have hk:¬ p.1=k:=fun z=>by rw [hW z] at hn;cases hn
  rw [gP hk] at hn;have ih:=valV_snoc k j y r hn
  by_cases e:p.1=j
  ·rw [hW e,hW e,oZ (fun z=>hk (e.trans z))]
  ·rw [gP e,gP e,ih]
theorem valV_put (kvs:List (κ×V))(k j:κ)(y:V):lV (l3 kvs k y) j=if j=k then some y else lV kvs j:=by
 unfold l3
 by_cases a:(kvs.any fun kv=>decide (kv.1=k))=true
 ·rw [o4 a,valV_map]
  rw [lh] at a
  by_cases e:j=k
  ·obtain ⟨x,hx⟩:=Option.isSome_iff_exists.mp a
   rw [o4 e,e,hx,fV,o4 rfl]
  ·rw [oZ e]
   cases lV kvs j with
   | none=>rfl
   | some x=>rw [fV,oZ e]
 ·rw [oZ a]
  refine valV_snoc k j y kvs ?_;rw [lh] at a;cases q:lV kvs k with
  | none=>rfl
  | some x=>rw [q] at a;exact (a rfl).elim
theorem j8 (kvs:List (κ×V))(k:κ)(v:V):(l3 kvs k v).length≤kvs.length+1:=by
 unfold l3;split
 ·rw [aa];omega
 ·rw [av,aS,List.length_nil];omega
theorem putK_new {kvs:List (κ×V)}{k:κ}(v:V)(h:lV kvs k=none):l3 kvs k v=kvs++[(k,v)]:=by
 unfold l3;rw [lh,h];exact oZ (by decide)
theorem RelO.isSome_eq {o:Option V}{u:Option ae}(r:RelO o u):o.isSome=u.isSome:=by
 cases o with
 | none=>cases u with
  | none=>rfl
  | some _=>exact (show False from r).elim
 | some _=>cases u with
  | none=>exact (show False from r).elim
  | some _=>rfl
theorem KV.val {kvs:List (κ×V)}{vs:List (κ×ae)}(r:KV kvs vs)(k:κ):RelO (lV kvs k) (valueAt vs k):=by
 unfold KV at r
 induction r with
 | nil=>exact True.intro
 | @cons p q ps qs h t ih =>
  obtain ⟨h1,h2⟩:=h
  by_cases e:p.1=k
  ·have e':q.1=k:=h1.symm.trans e
   have b:valueAt (q::qs) k=some q.2:=by simp [valueAt,gH,e']
   rw [hW e,b];exact h2
  ·have e':¬ q.1=k:=fun z=>e (h1.trans z)
   have b:valueAt (q::qs) k=valueAt qs k:=by simp [valueAt,gH,e']
   rw [gP e,b];exact ih
theorem KV.any {kvs:List (κ×V)}{vs:List (κ×ae)}(r:KV kvs vs)(k:κ):(kvs.any fun kv=>decide (kv.1=k))=vs.any fun kv=>decide (kv.1=k):=by
 unfold KV at r
 induction r with
 | nil=>rfl
 | cons h t ih=>rw [iB,iB,ih,h.1]
theorem KV.repl {kvs:List (κ×V)}{vs:List (κ×ae)}(r:KV kvs vs)(k:κ)(ry:RelV y u) :
  KV (kvs.map fun kv=>if kv.1=k then (kv.1,y) else kv) (vs.map fun kv=>if kv.1=k then (kv.1,u) else kv):=by
 unfold KV at r ⊢
 induction r with
 | nil=>exact .nil
 | @cons p q ps qs h t ih =>
  rw [bX,bX];refine .cons ?_ ih;obtain ⟨h1,h2⟩:=h
  by_cases e:p.1=k
  ·rw [o4 e,o4 (h1.symm.trans e)];exact ⟨h1,ry⟩
  ·rw [oZ e,oZ (fun z=>e (h1.trans z))];exact ⟨h1,h2⟩
theorem KV.put {kvs:List (κ×V)}{vs:List (κ×ae)}(r:KV kvs vs)(k:κ)(ry:RelV y u):KV (l3 kvs k y) (stored vs k u):=by
 unfold l3 stored;rw [r.any k]
 by_cases e:(vs.any fun kv=>decide (kv.1=k))=true
 ·rw [o4 e,o4 e];exact r.repl k ry
 ·rw [oZ e,oZ e];exact Paired.snoc r ⟨rfl,ry⟩
theorem KV.length {kvs:List (κ×V)}{vs:List (κ×ae)}(r:KV kvs vs):kvs.length=vs.length:=Paired.length r
end
theorem kV_is {k:Key}(r:RelV (kV k) u):(ib P w).is k u=true:=by
 cases k with
 | inl i=>obtain ⟨t,e⟩:=(show ∃ t,u=ae.int i t from r);subst e;exact mixKind_int P w i t
 | inr x=>obtain ⟨t,e⟩:=(show ∃ t,u=ae.str x t from r);subst e;exact mixKind_str P w x t
theorem items_are {P:aW}{w:bx}:∀ {ks:List Key} {us:List ae},Vals (ks.map kV) us→ItemsAre (ib P w) ks us
 | [],_,r=>by rw [List.map_nil] at r;cases r;exact .nil
 | k::ks,_,r=>by
  rw [bX] at r;cases r with
  | cons h t=>exact .cons (kV_is h) (items_are t)
abbrev KT (H:Hp):List (List Key×V)→List (List Key×ai×ae)→Prop:=ju fun p q=>p.1=q.1∧H q.2.1=some (.tup (p.1.map kV))∧RelV p.2 q.2.2
theorem KT.val {xs:List (List Key×ai×ae)}(r:KT H kvs xs)(k:List Key):RelO (lV kvs k) ((atKey xs k).map (·.2)):=by
 induction r with
 | nil=>exact True.intro
 | @cons p q ps qs h t ih =>
  obtain ⟨h1,_,h2⟩:=h
  by_cases e:p.1=k
  ·have e':q.1=k:=h1.symm.trans e
   have b:atKey (q::qs) k=some q.2:=by simp [atKey,gH,e']
   rw [hW e,b];exact h2
  ·have e':¬ q.1=k:=fun z=>e (h1.trans z)
   have b:atKey (q::qs) k=atKey qs k:=by simp [atKey,gH,e']
   rw [gP e,b];exact ih
theorem KT.repl {xs:List (List Key×ai×ae)}(r:KT H kvs xs)(k:List Key)(ry:RelV y u) :
  KT H (kvs.map fun kv=>if kv.1=k then (kv.1,y) else kv) (xs.map (putAt k u)):=by
 induction r with
 | nil=>exact .nil
 | @cons p q ps qs h t ih =>
  rw [bX,bX];refine .cons ?_ ih;obtain ⟨h1,h2,h3⟩:=h;unfold putAt
  by_cases e:p.1=k
  ·rw [o4 e,o4 (h1.symm.trans e)];exact ⟨h1,h2,ry⟩
  ·rw [oZ e,oZ (fun z=>e (h1.trans z))];exact ⟨h1,h2,h3⟩
theorem KT.put {xs:List (List Key×ai×ae)}(r:KT H kvs xs)(k:List Key){b:ai}(hb:H b=some (.tup (k.map kV)))(ry:RelV y u) :
  KT H (l3 kvs k y) (storedH xs k b u):=by
 have e:(kvs.any fun kv=>decide (kv.1=k))=(atKey xs k).isSome:=by
  rw [lh,(r.val k).isSome_eq,Option.isSome_map]
 unfold l3 storedH;rw [e]
 by_cases q:(atKey xs k).isSome=true
 ·rw [o4 q,o4 q];exact r.repl k ry
 ·rw [oZ q,oZ q];exact Paired.snoc r ⟨rfl,hb,ry⟩
theorem KT.keeps {xs:List (List Key×ai×ae)}(r:KT H kvs xs)(ht:∀ b ys,H b=some (.tup ys)→H' b=some (.tup ys)):KT H' kvs xs :=
 Paired.mapP r fun _ _ z=>⟨z.1,ht _ _ z.2.1,z.2.2⟩
theorem rd_of {u:HO}(ok:HOk P w H h)(e:Rd H a u):ObjOk P w H h a u:=e.ok ok
theorem dk_rd {kvs:List (Key×V)}(ok:HOk P w H h)(e:Rd H a (.dK kvs)):kvs.length≤bj∧(a == i5)=false∧∃ vs,KV kvs vs∧h.DictOf (ib P w) a vs :=
 show ObjOk P w H h a (.dK kvs) from rd_of ok e
theorem dk_of {kvs:List (Key×V)}(ok:HOk P w H h)(e:H a=some (.dK kvs)):kvs.length≤bj∧(a == i5)=false∧∃ vs,KV kvs vs∧h.DictOf (ib P w) a vs:=dk_rd ok (.inl e)
theorem key_of {ks:List Key}(ok:HOk P w H h)(e:H a=some (.tup (ks.map kV))):(tupleKind (ib P w)).is h ks a:=by
 obtain ⟨_,its,r,o,h1,h2,_,n,h3⟩:=(show ObjOk P w H h a (.tup (ks.map kV)) from ok a _ e);exact ⟨o,its.toArray,n,h1,h2,h3,by simpa using items_are r⟩
theorem dt_rd (ok:HOk P w H h)(e:Rd H a (.dT kvs)):kvs.length≤bj∧(a == i5)=false ∧
  ∃ xs,KT H kvs xs∧h.DictOfH (tupleKind (ib P w)) a xs:=by
 obtain ⟨z,y,xs,r,o,es,ep,h1,h2,h3,h4,h5⟩:=(show ObjOk P w H h a (.dT kvs) from rd_of ok e);refine ⟨z,y,xs,r,o,es,ep,h1,h2,h3,h4,fun x hx=>?_,h5⟩;have all:∀ {l:List (List Key×V)} {m:List (List Key×ai×ae)},KT H l m→∀ x∈m,(tupleKind (ib P w)).is h x.1 x.2.1:=by
  intro l m q
  induction q with
  | nil=>intro x hx;exact nomatch hx
  | @cons p q ps qs hq t ih =>
   intro x hx
   rcases az.mp hx with e | hx
   ·subst e
    exact key_of ok (by rw [←hq.1];exact hq.2.1)
   ·exact ih x hx
 exact all r x hx
theorem dt_of (ok:HOk P w H h)(e:H a=some (.dT kvs)):kvs.length≤bj∧(a == i5)=false ∧
  ∃ xs,KT H kvs xs∧h.DictOfH (tupleKind (ib P w)) a xs:=dt_rd ok (.inl e)
def DGet (H:Hp)(a:ai)(y:V)(r:Option V):Prop :=
 (∃ kvs k,Rd H a (.dK kvs)∧y=kV k∧r=lV kvs k)∨∃ kvs k b,Rd H a (.dT kvs)∧y= .ref b∧H b=some (.tup (k.map kV))∧r=lV kvs k
def DPut (H:Hp)(a:ai)(y v:V)(H':Hp):Prop :=
 (∃ kvs k,H a=some (.dK kvs)∧y=kV k∧kvs.length<bj∧H'=upd H a (.dK (l3 kvs k v))) ∨
 ∃ kvs k b,H a=some (.dT kvs)∧y= .ref b∧H b=some (.tup (k.map kV))∧kvs.length<bj∧H'=upd H a (.dT (l3 kvs k v))
theorem DGet.k {H:Hp}{a:ai}{kvs:List (Key×V)}{k:Key}(e:H a=some (.dK kvs)):DGet H a (kV k) (lV kvs k):= .inl ⟨kvs,k,.inl e,rfl,rfl⟩
theorem DPut.k {H:Hp}{a:ai}{kvs:List (Key×V)}{k:Key}{v:V}(e:H a=some (.dK kvs))(hl:kvs.length<bj):DPut H a (kV k) v (upd H a (.dK (l3 kvs k v))):= .inl ⟨kvs,k,e,rfl,hl,rfl⟩
section
variable {r:ae}{o:Option V}
theorem d_getItem (hu:A.units+1<cLine)(I:Inv X aN σ H s)(g:DGet H a y (some v))(ry:RelV y u)(h:∀ w' s',Inv X aN σ H s'→RelV v w'→Q w' s') :
  aX (br X.prog X.w) A (getItem (.ref a) u) Q E s:=by
 rcases g with ⟨kvs,k,e,ey,l⟩ | ⟨kvs,k,b,e,ey,eb,l⟩
 ·subst ey
  obtain ⟨z,hd,vs,rel,dd⟩:=dk_rd I.hok e;obtain ⟨w',hw,rw'⟩:=RelO.some_of (v:=v) (o:=valueAt vs k) (by rw [l];exact rel.val k);exact wpAny_getItem_of (kV_is ry) dd.mapOf hw (h w' _ (I.tok _) rw')
 ·subst ey
  cases (show u=ae.ref b from ry);obtain ⟨z,hd,xs,rel,dd⟩:=dt_rd I.hok e;obtain ⟨w',hw,rw'⟩:=RelO.some_of (v:=v) (o:=(atKey xs k).map (·.2)) (by rw [l];exact rel.val k);obtain ⟨p,hp,hp2⟩:=bB.mp hw;refine wpAny_getItem_heap (tupleKind_room_in1 hu) (key_of I.hok eb) dd hp ?_;rw [hp2];exact h w' _ (I.tok _) rw'
theorem d_notIn (hu:A.units+1<cLine)(I:Inv X aN σ H s)(g:DGet H a y o)(ry:RelV y u)(h:∀ s',Inv X aN σ H s'→Q (.bool (!o.isSome)) s') :
  aX (br X.prog X.w) A (fG .NotIn u (.ref a)) Q E s:=by
 rcases g with ⟨kvs,k,e,ey,l⟩ | ⟨kvs,k,b,e,ey,eb,l⟩
 ·subst ey
  obtain ⟨z,hd,vs,rel,dd⟩:=dk_rd I.hok e;refine wpAny_notIn_of (kV_is ry) hd dd.mapOf ?_;rw [←(rel.val k).isSome_eq,←l];exact h _ (I.tok _)
 ·subst ey
  cases (show u=ae.ref b from ry);obtain ⟨z,hd,xs,rel,dd⟩:=dt_rd I.hok e;refine wpAny_notIn_heap (tupleKind_room_in1 hu) (key_of I.hok eb) hd dd ?_;have q:=(rel.val k).isSome_eq;rw [Option.isSome_map] at q;rw [←q,←l];exact h _ (I.tok _)
theorem d_write {ob:HO}(I:Inv X aN σ H s)(mu:Mut (H a))(hs:dA a s.heap h')(he:∃ q,h'.get? a=some q)(new:ObjOk X.prog X.w (upd H a ob) h' a ob) :
  Inv X aN σ (upd H a ob) { s with heap:=h',toks:=t' } :=
 I.write (x:=a) (e:=a) mu (.inl rfl) (fun b q hb z=>(hs.2 b hb).trans z) he new
theorem dk_new {kvs:List (Key×V)}{vs:List (Key×ae)}(z:kvs.length≤bj)(hd:(a == i5)=false)(rel:KV kvs vs)(dd:h'.DictOf (ib P w) a vs) :
  ObjOk P w H' h' a (.dK kvs):=⟨z,hd,vs,rel,dd⟩
theorem d_setItem {Q:Unit→aq→Prop}(hu:A.units+1<cLine)(I:Inv X aN σ H s)(g:DPut H a y v H')(ry:RelV y u)(rv:RelV v r)(h:∀ s',Inv X aN σ H' s'→Q () s') :
  aX (br X.prog X.w) A (setItem (.ref a) u r) Q E s:=by
 rcases g with ⟨kvs,k,e,ey,l,eH⟩ | ⟨kvs,k,b,e,ey,eb,l,eH⟩
 ·subst ey eH
  obtain ⟨z,hd,vs,rel,dd⟩:=dk_of I.hok e;have hz:vs.length≤bj:=by rw [←rel.length];exact z
  have hl:(l3 kvs k v).length≤bj:=by have:=j8 kvs k v;omega
  refine wpAny_setItem_pairs (hsz:=hz) (kV_is ry) dd fun h' dd' hs=>h _ ?_
  have he:∃ q,h'.get? a=some q:=let ⟨q,_,_,hq,_⟩:=dd';⟨q,hq⟩;exact d_write I (by rw [e];exact True.intro) hs he (dk_new hl hd (rel.put k rv) dd')
 ·subst ey eH
  cases (show u=ae.ref b from ry);obtain ⟨z,hd,xs,rel,dd⟩:=dt_of I.hok e;have hz:xs.length≤bj:=by rw [←Paired.length rel];exact z
  have hl:(l3 kvs k v).length≤bj:=by have:=j8 kvs k v;omega
  refine wpAny_setItem_heap (hsz:=hz) (tupleKind_room_in1 hu) (key_of I.hok eb) dd fun h' dd' hs=>h _ ?_
  obtain ⟨q,es,ep,hq,h2,h3,h4,_,h5⟩:=dd';refine d_write I (by rw [e];exact True.intro) hs ⟨q,hq⟩ ⟨hl,hd,_,(rel.put k eb rv).keeps fun c ys ec=>?_,q,es,ep,hq,h2,h3,h4,h5⟩;rw [bw (eD ec e (fun z=>nomatch z))];exact ec
end
def NoSl (i:Expr):Prop:=∀ ov iv,subscripted i false ov iv=operate [ov,iv] (getItem ov iv)
theorem subD_of {env:Env}{value slice:Expr}{T id:String}
  (hl:typeLookup (.type T) "__getitem__" =fH (some (.builtin id))) (hs:NoSl slice)
  (h:aX (br prog w) A (eu value env) (fun o s₁=>aX (br prog w) A (eu slice env) (fun i s₂=>s₂.TypeIs o T∧aX (br prog w) A (getItem o i) Q E s₂) E s₁) E s) :
  aX (br prog w) A (eu (.Subscript value slice pos) env) Q E s:=by
 refine Subscript_ (b9 h (fun o s₁ h₁=>b9 h₁ (fun i s₂ h₂=>?_) fun _ _ x=>x) fun _ _ x=>x);obtain ⟨hT,h₂⟩:=h₂;unfold subscriptTail;refine ah ?_;rw [getitemInPython_of_ne hT.not_modules];refine ah (wpAny_specialOf hT hl ?_);have fin:aX (br prog w) A (subscripted slice false o i) (fun r s₃=>aX (br prog w) A (letTemporaryGo value o r >>= fun _=>fH r) Q E s₃) E s₂:=by
  rw [hs o i];exact wpAny_operating (b9 h₂ (fun r s₃ h₃=>ah (wpAny_letTemporaryGo (aO h₃))) fun _ _ x=>x)
 first
  | exact aO (ah fin)
  | exact ah (aO (ah fin))
  | exact ah fin
theorem dict_typeIs {o:Option V}(I:Inv X aN σ H s)(g:DGet H a y o):s.TypeIs (.ref a) "dict" := by
 rcases g with ⟨kvs,k,e,_,_⟩ | ⟨kvs,k,b,e,_,_,_⟩
 ·obtain ⟨_,_,vs,_,dd⟩:=dk_rd I.hok e
  exact dd.typeIs
 ·obtain ⟨_,_,xs,_,dd⟩:=dt_rd I.hok e
  exact dd.typeIs
def tDGet (td ty:TE):TE:=fun σ H Q=>td σ H fun x H1=>ty σ H1 fun y H2=>∃ a v,x= .ref a∧DGet H2 a y (some v)∧Q v H2
def tDNotIn (ty td:TE):TE:=fun σ H Q=>ty σ H fun y H1=>td σ H1 fun x H2=>∃ a o,x= .ref a∧DGet H2 a y o∧Q (.bl (!o.isSome)) H2
def sDPut (td ty tv:TE):TS:=fun D σ H=>tv σ H fun v H1=>td σ H1 fun x H2=>ty σ H2 fun y H3=>∃ a H4,x= .ref a∧DPut H3 a y v H4∧D.nx σ H4
section
variable {o i value:Expr}{pos' tpos:Pos}{td ty tv:TE}
theorem pe_dget (hu:X.A.units+1<cLine)(ho:PE X o td)(hi:PE X i ty)(hs:NoSl i):PE X (.Subscript o i pos) (tDGet td ty):=by
 intro aN s σ H Q I h;refine subD_of PySem.F.slot_dict_getitem.lookup hs (thn (ho aN s σ H _ I h) fun u s1 ⟨x,H1,I1,rx,q1⟩=>thn (hi aN s1 σ H1 _ I1 q1) fun iv s2 ⟨y,H2,I2,ry,a,v,ex,g,q2⟩=>?_);subst ex;obtain rfl:u=ae.ref a:=rx;exact ⟨dict_typeIs I2 g,d_getItem hu I2 g ry fun w' s3 I3 rw'=>⟨v,H2,I3,rw',q2⟩⟩
theorem lJ (hu:X.A.units+1<cLine)(hi:PE X i ty)(ho:PE X o td):PC X .NotIn i o (tDNotIn ty td):=by
 intro aN s σ H Q I h;refine thn (hi aN s σ H _ I h) fun iv s1 ⟨y,H1,I1,ry,q1⟩=>thn (ho aN s1 σ H1 _ I1 q1) fun u s2 ⟨x,H2,I2,rx,a,ov,ex,g,q2⟩=>?_
 subst ex;obtain rfl:u=ae.ref a:=rx;exact d_notIn hu I2 g ry fun s3 I3=>⟨.bl (!ov.isSome),H2,I3,rfl,q2⟩
theorem ps_dput (hu:X.A.units+1<cLine)(ho:PE X o td)(hi:PE X i ty)(hv:PE X value tv)(hs:swapsWith value (some (.Subscript o i pos')) pos.line X.env=fH false) :
  PS X (.Assign [.Subscript o i pos'] value pos) (sDPut td ty tv):=by
 intro aN s σ H D I h;refine wpAny_Assign_Subscript (thn (hv aN s σ H _ I h) fun r s1 ⟨v,H1,I1,rv,q1⟩=>thn (ho aN s1 σ H1 _ I1 q1) fun u s2 ⟨x,H2,I2,rx,q2⟩=>thn (hi aN s2 σ H2 _ I2 q2) fun iv s3 ⟨y,H3,I3,ry,a,H4,ex,g,q3⟩=>?_) hs;subst ex;obtain rfl:u=ae.ref a:=rx;exact d_setItem hu I3 g ry rv fun s4 I4=>⟨σ,H4,I4,q3⟩
end
def tPairs:List (TE×TE)→St→Hp→(List (V×V)→Hp→Prop)→Prop
 | [],_,H,Q=>Q [] H
 | (tk,tv)::r,σ,H,Q=>tk σ H fun x H1=>tv σ H1 fun y H2=>tPairs r σ H2 fun ps H3=>Q ((x,y)::ps) H3
abbrev VV:List (V×V)→List (ae×ae)→Prop:=ju fun p q=>RelV p.1 q.1∧RelV p.2 q.2
def PPs (X:Cx)(pos:Pos)(keys:List (Option Expr))(values:List Expr)(trs:List (TE×TE)):Prop :=
 ∀ (aN:List (ai×Obj)) (s:aq) (σ:St) (H:Hp) (Q:List (V×V)→Hp→Prop),Inv X aN σ H s→tPairs trs σ H Q →
  aX (br X.prog X.w) X.A (evalPairs (pairTrees keys values X.env pos)) (fun vs s'=>∃ ps H',Inv X aN σ H' s'∧VV ps vs∧Q ps H') X.xe s
theorem pps_nil:PPs X pos [] [] []:=fun aN s σ H Q I h=>pairTrees_nil_walk ⟨[],H,I,.nil,h⟩
theorem pps_cons {k v:Expr}{ks:List (Option Expr)}{vs:List Expr}{tk tv:TE}{trs:List (TE×TE)}(hk:PE X k tk)(hv:PE X v tv)(hr:PPs X pos ks vs trs) :
  PPs X pos (some k::ks) (v::vs) ((tk,tv)::trs):=fun aN s σ H Q I h =>
 pairTrees_cons_walk (thn (hk aN s σ H _ I h) fun u s1 ⟨x,H1,I1,rx,q1⟩=>thn (hv aN s1 σ H1 _ I1 q1) fun w2 s2 ⟨y,H2,I2,ry,q2⟩ =>
  thn (hr aN s2 σ H2 _ I2 q2) fun ws s3 ⟨ps,H3,I3,rel,q3⟩=>⟨(x,y)::ps,H3,I3,.cons ⟨rx,ry⟩ rel,q3⟩)
def lL (kvs more:List (Key×V)):List (Key×V):=more.foldl (fun acc kv=>l3 acc kv.1 kv.2) kvs
theorem KV.merge:∀ {more:List (Key×V)} {rs:List (Key×ae)} {kvs:List (Key×V)} {vs:List (Key×ae)},KV more rs→KV kvs vs→KV (lL kvs more) (merged vs rs):=by
 intro more rs kvs vs r;unfold KV at r
 induction r generalizing kvs vs with
 | nil=>intro q;exact q
 | @cons p q ps qs h t ih =>
  intro r0;have e:KV (l3 kvs p.1 p.2) (stored vs q.1 q.2):=by
   have:=r0.put p.1 h.2;rw [←h.1];exact this
  exact ih e
theorem lN:∀ (more kvs:List (Key×V)),(lL kvs more).length≤kvs.length+more.length
 | [],kvs=>by show kvs.length≤kvs.length+0;omega
 | p::r,kvs=>by
  have h1:=lN r (l3 kvs p.1 p.2);have h2:=j8 kvs p.1 p.2;show (lL (l3 kvs p.1 p.2) r).length≤_;rw [aS];omega
theorem oV {P:aW}{w:bx}:∀ {kvs:List (Key×V)} {ws:List (ae×ae)},VV (kvs.map fun kv=>(kV kv.1,kv.2)) ws→∃ rs,Carries (ib P w) ws rs∧KV kvs rs
 | [],_,r=>by rw [List.map_nil] at r;cases r;exact ⟨[],True.intro,.nil⟩
 | p::kvs,_,r=>by
  rw [bX] at r;cases r with
  | @cons a b as bs h t =>
   obtain ⟨rs,c,q⟩:=oV (P:=P) (w:=w) t;obtain ⟨b1,b2⟩:=b;exact ⟨(p.1,b2)::rs,⟨kV_is h.1,rfl,c⟩,.cons ⟨rfl,h.2⟩ q⟩
def tDisp (trs:List (TE×TE)):TE:=fun σ H Q=>∀ p,H p=none→tPairs trs σ (upd H p (.dK [])) fun ps H2=>H2 p=some (.dK [])∧∃ kvs:List (Key×V),ps=kvs.map (fun kv=>(kV kv.1,kv.2))∧kvs.length≤15∧Q (.ref p) (upd H2 p (.dK (lL [] kvs)))
theorem pe_disp {keys:List (Option Expr)}{values:List Expr}{trs:List (TE×TE)}(h:PPs X pos keys values trs)(hall:keys.all (·.isSome)=true)(hl:keys.length=values.length)(h0:keys≠[])
  (h15:keys.length≤15):PE X (.Dict keys values pos) (tDisp trs):=by
 intro aN s σ H Q I q;have hn:=I.hok.fresh (aB s.heap.objs.size);have I1:=I.laid (a:=s.heap.objs.size) (o:= .dK []) (h':=s.heap.push { cls:= .type "dict",data:= .dict #[] }) (t':=s.toks) (fun _ _ q=>ar _ q) (aB _) (dk_empty s.heap I.big);refine wpAny_Dict_walk (knd:=ib X.prog X.w) hall hl h0 h15 (thn (h aN _ σ _ _ I1 (q _ hn)) fun ws s2 ⟨ps,H2,I2,rel,e,kvs,ep,lk,q2⟩=>?_);subst ep;obtain ⟨rs,c,rk⟩:=oV (P:=X.prog) (w:=X.w) rel;obtain ⟨z,hd,vs0,r0,dd⟩:=dk_of I2.hok e;cases r0;refine ⟨rs,c,dd,fun h' dd' hs=>⟨.ref s.heap.objs.size,_,?_,rfl,q2⟩⟩;have hz:(lL [] kvs).length≤bj:=by
  have h1:=lN kvs [];rw [List.length_nil] at h1;rw [fS];omega
 have he:∃ q,h'.get? s.heap.objs.size=some q:=let ⟨q,_,_,hq,_⟩:=dd';⟨q,hq⟩;exact d_write I2 (by rw [e];exact True.intro) hs he (dk_new hz hd (rk.merge .nil) dd')
end L2
namespace Att
open PySem PySem.W PySem.Calls PyProof.Rows
end Att
namespace L2
open PySem PySem.Spec PyProof.Rows
section
variable {M:Model}
theorem mE {α β:Type}{f:α→β→Sem (ForInStep β)}{Q:β→aq→Prop}:∀ (l:List α) (I:Nat→β→aq→Prop) (b:β) (s:aq),I 0 b s →
  (∀ i a b s,l[i]? =some a→I i b s→aX M A (f a b) (fun r s'=>∃ b',r= .yield b'∧I (i+1) b' s') E s)→(∀ b s,I l.length b s→Q b s)→aX M A (forIn l b f) Q E s
 | [],_,b,s,h0,_,hd=>by
  rw [List.forIn_nil];exact aO (hd b s h0)
 | a::l,I,b,s,h0,hs,hd=>by
  rw [List.forIn_cons];refine ah (b9 (hs 0 a b s rfl h0) (fun r s' ⟨b',e,h'⟩=>?_) fun _ _ f=>f);subst e;exact mE l (fun i=>I (i+1)) b' s' h' (fun i a b s ha hi=>hs (i+1) a b s ha hi) fun b s h=>hd b s h
end
structure Sq where
 l:Bool
 a:ai
def SqAt (h:bL)(c:Sq)(xs:Array ae):Prop:=match c.l with | true=>h.IsList c.a xs | false=>h.IsTuple c.a xs
def ItAt (h:bL)(c:Sq)(i:ai)(k:Nat):Prop:=match c.l with | true=>h.IsListIter i c.a k | false=>h.IsTupleIter i c.a k
abbrev k9 (h:bL)(T:ai)(vs:List ae):Prop:=h.get? T=some { cls:= .type "tuple",data:= .seq vs.toArray }
theorem SqAt.ext {g:bL}{c:Sq}{xs:Array ae}(x:SqAt h c xs)(e:∀ o,h.get? c.a=some o→g.get? c.a=some o):SqAt g c xs:=by
 obtain ⟨l,a⟩:=c;cases l with
 | true=>obtain ⟨o,ho,r⟩:=(show h.IsList a xs from x);exact ⟨o,e o ho,r⟩
 | false=>obtain ⟨o,ho,r⟩:=(show h.IsTuple a xs from x);exact ⟨o,e o ho,r⟩
theorem ItAt.ext {g:bL}{c:Sq}{i:ai}{k:Nat}(x:ItAt h c i k)(e:∀ o,h.get? i=some o→g.get? i=some o):ItAt g c i k:=by
 obtain ⟨l,a⟩:=c;cases l with
 | true=>obtain ⟨o,ho,r⟩:=(show h.IsListIter i a k from x);exact ⟨o,e o ho,r⟩
 | false=>obtain ⟨o,ho,r⟩:=(show h.IsTupleIter i a k from x);exact ⟨o,e o ho,r⟩
theorem ItAt.obj {c:Sq}{i:ai}{k:Nat}(x:ItAt h c i k):∃ o,h.get? i=some o∧∀ v,o.data≠ .cell v:=by
 obtain ⟨l,a⟩:=c;cases l with
 | true=>obtain ⟨o,ho,_,d⟩:=(show h.IsListIter i a k from x);exact ⟨o,ho,fun v z=>by rw [d] at z;cases z⟩
 | false=>obtain ⟨o,ho,_,d⟩:=(show h.IsTupleIter i a k from x);exact ⟨o,ho,fun v z=>by rw [d] at z;cases z⟩
theorem oN {c:Sq}{i:ai}{k:Nat}{xs:Array ae}{v:ae}(jt:ItAt s.heap c i k)(tt:SqAt s.heap c xs)(hv:xs[k]? =some v)
  (q:∀ g,ItAt g c i (k+1)→dA i s.heap g→Q v { s with heap:=g }):aX (br prog w) A (cO (.ref i)) Q E s:=by
 obtain ⟨l,a⟩:=c;cases l with
 | true=>exact wpAny_nextOf_list_item (show s.heap.IsListIter i a k from jt) (show s.heap.IsList a xs from tt) hv fun g h1 h2=>q g h1 h2
 | false=>exact nextT_item (show s.heap.IsTupleIter i a k from jt) (show s.heap.IsTuple a xs from tt) hv fun g h1 h2=>q g h1 h2
theorem nextS_end {c:Sq}{i:ai}{k:Nat}{xs:Array ae}(hh:A.handled=none)(jt:ItAt s.heap c i k)(tt:SqAt s.heap c xs)(hv:xs[k]? =none)
  (q:∀ g x,bL.ExtBut i s.heap g→(∃ o,g.get? x=some o∧o.cls= .type "StopIteration")→E (.ref x) { s with heap:=g }):aX (br prog w) A (cO (.ref i)) Q E s:=by
 obtain ⟨l,a⟩:=c;cases l with
 | true=>exact wpAny_nextOf_list_end hh (show s.heap.IsListIter i a k from jt) (show s.heap.IsList a xs from tt) hv fun g x h1 h2=>q g x h1 h2
 | false=>exact nextT_end hh (show s.heap.IsTupleIter i a k from jt) (show s.heap.IsTuple a xs from tt) hv fun g x h1 h2=>q g x h1 h2
theorem iterS {c:Sq}{xs:Array ae}(tt:SqAt s.heap c xs)
  (q:∀ g,ItAt g c s.heap.objs.size 0→g.objs.size=s.heap.objs.size+1→(∀ b o,s.heap.get? b=some o→g.get? b=some o)→Q (.ref s.heap.objs.size) { s with heap:=g }):aX (br prog w) A (pyIter (.ref c.a)) Q E s:=by
 obtain ⟨l,a⟩:=c;cases l with
 | true=>exact wpAny_pyIter_list (show s.heap.IsList a xs from tt) (q _ ⟨_,aZ _ rfl,rfl,rfl⟩ (fQ ..) fun b o e=>ar _ e)
 | false=>exact wpAny_pyIter_tuple (show s.heap.IsTuple a xs from tt) (q _ ⟨_,aZ _ rfl,rfl,rfl⟩ (fQ ..) fun b o e=>ar _ e)
theorem updRow {x:ae}{k:Nat}{Q:Unit→aq→Prop}(hT:k9 s.heap T vs)(hz:vs.length≤100)
  (h:∀ g,k9 g T (vs.set k x)→dA T s.heap g→Q () { s with heap:=g }):aX (br prog w) A (updateSeq T (·.setIfInBounds k x)) Q E s:=by
 refine wpAny_updateSeq hT rfl (h _ ?_ (fW ..)) (by rw [aG];exact aY hz (by decide)) (by rw [Array.size_setIfInBounds,aG];exact aY hz (by decide));show bL.get? _ T=_;rw [bL.get?_update_self _ hT rfl];simp [cA]
structure ZIn (h g:bL)(z TI TO:ai)(cs:List Sq)(is:List ai)(k j:Nat)(vs old:List ae):Prop where
 sz:g.objs.size=h.objs.size
 zip:IsZip g z TI TO .ellipsis
 row:k9 g TO (vs.take j++old.drop j)
 its:∀ (n:Nat) c i,cs[n]? =some c→is[n]? =some i→ItAt g c i (if n<j then k+1 else k)
 ext:∀ e o,e≠z→e≠TO→e ∉ is→h.get? e=some o→g.get? e=some o
structure ZOk (h:bL)(z TI TO:ai)(cs:List Sq)(is:List ai)(k:Nat)(old:List ae):Prop where
 len:is.length=cs.length
 few:cs.length≤8
 pos:0<cs.length
 nod:(z::TI::TO::is).Nodup
 zip:IsZip h z TI TO .none
 ti:k9 h TI (is.map ae.ref)
 to:k9 h TO old
 lo:old.length=cs.length
 its:∀ (n:Nat) c i,cs[n]? =some c→is[n]? =some i→ItAt h c i k
 off:∀ c∈cs,c.a≠z∧c.a≠TO∧c.a ∉ is
theorem nod_ne {is:List ai}{i:ai}{e:ai}(hn:is.Nodup)(h1:is[j]? =some i)(h2:is[n]? =some e)(h:n≠j):e≠i:=fun z=>by
 subst z;have a:=(ao.mp h1);have b:=(ao.mp h2);obtain ⟨ha,ea⟩:=a;obtain ⟨hb,eb⟩:=b;exact h ((List.getElem_inj hn).mp (eb.trans ea.symm))
theorem ZIn.step {g:bL}{z TI TO:ai}{cs:List Sq}{is:List ai}{k:Nat}{old:List ae}{i:ai}{c:Sq}(D:ZOk h z TI TO cs is k old)(Z:ZIn h g z TI TO cs is k j vs old)(hi:is[j]? =some i)(hc:cs[j]? =some c){g2 g3:bL}{v:ae}(hv:vs[j]? =some v)(lv:vs.length=cs.length)
  (n2:ItAt g2 c i (k+1)) (s2:dA i g g2) (r3:k9 g3 TO ((vs.take j++old.drop j).set j v)) (s3:dA TO g2 g3):ZIn h g3 z TI TO cs is k (j+1) vs old:=by
 have nod:=D.nod;rw [bF,bF,bF] at nod;obtain ⟨nz,nT,nO,ni⟩:=nod;have mi:i∈is:=bh hi;have iz:z≠i:=fun q=>nz (by rw [q];simp [mi])
 have iO:TO≠i:=fun q=>nO (by rw [q];exact mi)
 have zO:z≠TO:=fun q=>nz (by rw [q];simp)
 have jl:j<cs.length:=(ao.mp hc).1;refine ⟨by rw [s3.1,s2.1,Z.sz],s3.extBut _ _ zO (s2.extBut _ _ iz Z.zip),?_,fun n c' i' hc' hi'=>?_,fun e o e1 e2 e3 q=>s3.extBut _ _ e2 (s2.extBut _ _ (fun y=>e3 (by rw [y];exact mi)) (Z.ext e o e1 e2 e3 q))⟩
 ·have lo:=D.lo
  have e:(vs.take j++old.drop j).set j v=vs.take (j+1)++old.drop (j+1):=by
   have l1:(vs.take j).length=j:=by rw [bG];omega
   rw [List.set_append,oZ (by omega),l1,Nat.sub_self,List.drop_eq_getElem_cons (by omega:j<old.length),List.set_cons_zero,bg,hv];simp
  rw [←e];exact r3
 ·have mi':i'∈is:=bh hi'
  have iO':i'≠TO:=fun q=>nO (by rw [←q];exact mi')
  by_cases e:n=j
  ·subst e
   rw [hi] at hi';rw [hc] at hc';cases hi';cases hc';rw [o4 (by omega)];exact n2.ext fun o q=>s3.extBut _ _ iO' q
  ·have q:=Z.its n c' i' hc' hi'
   have e2:(if n<j+1 then k+1 else k)=(if n<j then k+1 else k):=by
    by_cases y:n<j
    ·rw [o4 y,o4 (by omega)]
    ·rw [oZ y,oZ (by omega)]
   rw [e2];exact q.ext fun o r=>s3.extBut _ _ iO' (s2.extBut _ _ (nod_ne ni hi hi' e) r)
theorem zipS_go {z TI TO:ai}{cs:List Sq}{is:List ai}{k:Nat}{old:List ae}{Q:Option ae→aq→Prop}(D:ZOk s.heap z TI TO cs is k old)
  (hv:∀ (n:Nat) c,cs[n]? =some c→∃ xs v,SqAt s.heap c xs∧xs[k]? =some v∧vs[n]? =some v) (lv:vs.length=cs.length)
  (q:∀ g,IsZip g z TI TO (rawInt s.heap.objs.size)→k9 g TO vs→(∀ (n:Nat) c i,cs[n]? =some c→is[n]? =some i→ItAt g c i (k+1))→k9 g s.heap.objs.size vs→g.objs.size=s.heap.objs.size+1 →
   (∀ e o,e≠z→e≠TO→e ∉ is→s.heap.get? e=some o→g.get? e=some o)→Q (some (.ref s.heap.objs.size)) { s with heap:=g }):aX (br prog w) A (pyNext (.ref z)) Q E s:=by
 have hT:s.TypeIs (.ref z) "zip" := ⟨_,D.zip,rfl⟩;have nod:=D.nod;rw [bF,bF,bF] at nod;obtain ⟨nz,nT,nO,ni⟩:=nod;have zO:z≠TO:=fun q=>nz (by rw [q];simp)
 have few:=D.few;have len:=D.len;unfold pyNext;refine ah (wpAny_attempt (fE (name:=cT "__next__") hT F.slot_zip_next (iC F.slot_zip_next hT F.entry_zip_next ?_ (F.args_zip_next_1 _))));show aX _ _ (field (.ref z) 2 >>= _) _ _ s;refine ah (eI D.zip rfl (x:= .bool false) (by rfl) ?_);show aX _ _ (field (.ref z) 3 >>= _) _ _ s;refine ah (eI D.zip rfl (x:= .ref TI) (by rfl) ?_);refine ah (ft D.ti rfl ?_)
 dsimp only
 rw [oZ (by intro y;rw [Array.isEmpty_iff_size_eq_zero,aG,aa,len] at y;have:=D.pos;omega)];refine ah ?_;unfold jU;refine ah (eI D.zip rfl (x:= .none) (by rfl) (aO ?_));simp only [if_true];refine ah (wpAny_rule ?_);refine ah (eI D.zip rfl (x:= .ref TO) (by rfl) ?_);refine ah (i4 D.zip (by simp) fun g1 z1 s1=>?_);have z1:IsZip g1 z TI TO .ellipsis:=z1;refine ah ?_;refine mE _ (fun j b s'=>b=_∧∃ g,s'={ s with heap:=g }∧ZIn s.heap g z TI TO cs is k j vs old) _ _ ⟨rfl,g1,rfl,?_⟩ ?_ ?_
 ·refine ⟨s1.1,z1,s1.extBut _ _ zO.symm D.to,fun n c i hc hi=>?_,fun e o e1 _ _ h=>s1.extBut _ _ e1 h⟩
  rw [oZ (by omega)];exact (D.its n c i hc hi).ext fun o h=>s1.extBut _ _ (fun y=>nz (by rw [←y];simp [bh hi])) h
 ·rintro j a b s' ha ⟨rfl,g,rfl,Z⟩
  rw [List.getElem?_zipIdx] at ha;obtain ⟨x,hx,rfl⟩:=bB.mp ha;have hx:(is.map ae.ref)[j]? =some x:=by simpa using hx
  rw [ay] at hx;obtain ⟨i,hi,rfl⟩:=bB.mp hx;have jl:j<cs.length:=by rw [←len];exact (ao.mp hi).1
  have hc:cs[j]? =some cs[j]:=gE jl;obtain ⟨xs,v,hq,hxv,hvv⟩:=hv j _ hc;obtain ⟨o1,o2,o3⟩:=D.off _ (bH jl);have it:=Z.its j _ i hc hi;rw [oZ (by omega)] at it
  dsimp only
  refine ah (wpAny_onRaise ?_);show aX _ _ (cO (.ref i) >>= _) _ _ _;refine ah (oN it (hq.ext fun o h=>Z.ext _ o o1 o2 o3 h) hxv fun g2 n2 s2=>aO ?_);have iO:TO≠i:=fun q=>nO (by rw [q];exact bh hi)
  have r2:k9 g2 TO (vs.take j++old.drop j):=s2.extBut _ _ iO Z.row;refine ah (ft r2 rfl ?_);refine ah (updRow (x:=v) (k:=0+j) r2 (by rw [av,bG,e8];have:=D.lo;omega) fun g3 r3 s3=>?_);rw [Nat.zero_add] at r3;refine ah (jH (aO ⟨_,rfl,rfl,g3,rfl,Z.step D hi hc hvv lv n2 s2 r3 s3⟩))
 ·rintro b s' ⟨rfl,g5,rfl,Z⟩
  have ll:((is.map ae.ref).toArray.toList.zipIdx).length=cs.length:=by simp [len]
  rw [ll] at Z;have z5:=Z.zip;have o5:k9 g5 TO vs:=by
   have:=Z.row;rw [←lv,bf,lv,←D.lo,List.drop_length,dU] at this;exact this
  have m5:∀ (n:Nat) c i,cs[n]? =some c→is[n]? =some i→ItAt g5 c i (k+1):=fun n c i hc hi=>by
   have:=Z.its n c i hc hi;rw [o4 (ao.mp hc).1] at this;exact this
  dsimp only
  refine ah (ft o5 rfl ?_);refine ah (wpAny_newTuple ?_);have zlt:z<g5.objs.size:=aL z5;have sz:=Z.sz;refine ah ?_;unfold eN.SmallTypes.ownedTupleHandOut;have z6:IsZip (g5.push { cls:= .type "tuple",data:= .seq vs.toArray }) z TI TO .ellipsis:=ar _ z5;refine ah (i4 z6 (by simp) fun g7 z7 s7=>?_);have z7:IsZip g7 z TI TO (rawInt g5.objs.size):=z7;refine i4 z7 (by simp) fun g8 z8 s8=>?_
  have z8:IsZip g8 z TI TO (rawInt g5.objs.size):=z8;have up:∀ e o,e≠z→g5.get? e=some o→g8.get? e=some o:=fun e o c1 h=>s8.extBut _ _ c1 (s7.extBut _ _ c1 (ar _ h))
  have t8:k9 g8 g5.objs.size vs:=s8.extBut _ _ (cR zlt) (s7.extBut _ _ (cR zlt) (aZ _ rfl));have sz8:g8.objs.size=g5.objs.size+1:=by rw [s8.1,s7.1,fQ]
  rw [sz] at z8 t8 sz8;refine aO ⟨_,rfl,?_⟩;refine aO ?_;show Q (some (.ref g5.objs.size)) _;rw [sz];refine q g8 z8 (up _ _ zO.symm o5) (fun n c i hc hi=>(m5 n c i hc hi).ext fun o h=>up _ o (fun y=>nz (by rw [←y];simp [bh hi])) h) t8 sz8 fun e o c1 c2 c3 h=>up e o c1 (Z.ext e o c1 c2 c3 h)
theorem zipS_stop {z TI TO:ai}{cs:List Sq}{is:List ai}{k:Nat}{old:List ae}{cm:Sq}{Q:Option ae→aq→Prop}(hh:A.handled=none)(D:ZOk s.heap z TI TO cs is k old)
  (hv:∀ (n:Nat) c,cs[n]? =some c→n<m→∃ xs v,SqAt s.heap c xs∧xs[k]? =some v∧vs[n]? =some v) (lv:vs.length=cs.length) (hm:cs[m]? =some cm) {xm:Array ae} (hxm:SqAt s.heap cm xm) (hem:xm[k]? =none)
  (q:∀ g,(∀ e o,e≠z→e≠TO→e ∉ is→s.heap.get? e=some o→g.get? e=some o)→Q none { s with heap:=g }):aX (br prog w) A (pyNext (.ref z)) Q E s:=by
 have hT:s.TypeIs (.ref z) "zip" := ⟨_,D.zip,rfl⟩;have nod:=D.nod;rw [bF,bF,bF] at nod;obtain ⟨nz,nT,nO,ni⟩:=nod;have zO:z≠TO:=fun q=>nz (by rw [q];simp)
 have few:=D.few;have len:=D.len;have fin:∀ g x,(∀ e o,e≠z→e≠TO→e ∉ is→s.heap.get? e=some o→g.get? e=some o)→(∃ o,g.get? x=some o∧o.cls= .type "StopIteration") →
   aX (br prog w) A (do if ← isInstance (.ref x) (.type "StopIteration") then fH none else throw (.ref x)) Q E { s with heap:=g }:=fun g x k ⟨o,ho,hc⟩=>by
  refine ah (wpAny_isInstance (T := "StopIteration") (b:=true) ⟨o,ho,hc⟩ isSubtype_stop ?_);exact aO (q g k)
 have ml:m<cs.length:=(ao.mp hm).1;unfold pyNext;refine ah (wpAny_attempt (fE (name:=cT "__next__") hT F.slot_zip_next (iC F.slot_zip_next hT F.entry_zip_next ?_ (F.args_zip_next_1 _))));show aX _ _ (field (.ref z) 2 >>= _) _ _ s;refine ah (eI D.zip rfl (x:= .bool false) (by rfl) ?_);show aX _ _ (field (.ref z) 3 >>= _) _ _ s;refine ah (eI D.zip rfl (x:= .ref TI) (by rfl) ?_);refine ah (ft D.ti rfl ?_)
 dsimp only
 rw [oZ (by intro y;rw [Array.isEmpty_iff_size_eq_zero,aG,aa,len] at y;have:=D.pos;omega)];refine ah ?_;unfold jU;refine ah (eI D.zip rfl (x:= .none) (by rfl) (aO ?_));simp only [if_true];refine ah (wpAny_rule ?_);refine ah (eI D.zip rfl (x:= .ref TO) (by rfl) ?_);refine ah (i4 D.zip (by simp) fun g1 z1 s1=>?_);have z1:IsZip g1 z TI TO .ellipsis:=z1;refine ah ?_;refine mE _ (fun j b s'=>b=_∧j≤m∧∃ g,s'={ s with heap:=g }∧ZIn s.heap g z TI TO cs is k j vs old) _ _ ⟨rfl,bK _,g1,rfl,?_⟩ ?_ ?_
 ·refine ⟨s1.1,z1,s1.extBut _ _ zO.symm D.to,fun n c i hc hi=>?_,fun e o e1 _ _ h=>s1.extBut _ _ e1 h⟩
  rw [oZ (by omega)];exact (D.its n c i hc hi).ext fun o h=>s1.extBut _ _ (fun y=>nz (by rw [←y];simp [bh hi])) h
 ·rintro j a b s' ha ⟨rfl,jm,g,rfl,Z⟩
  rw [List.getElem?_zipIdx] at ha;obtain ⟨x,hx,rfl⟩:=bB.mp ha;have hx:(is.map ae.ref)[j]? =some x:=by simpa using hx
  rw [ay] at hx;obtain ⟨i,hi,rfl⟩:=bB.mp hx;have jl:j<cs.length:=by rw [←len];exact (ao.mp hi).1
  have hc:cs[j]? =some cs[j]:=gE jl;obtain ⟨o1,o2,o3⟩:=D.off _ (bH jl);have it:=Z.its j _ i hc hi;rw [oZ (by omega)] at it;have iO:TO≠i:=fun q=>nO (by rw [q];exact bh hi)
  have iz:z≠i:=fun q=>nz (by rw [q];simp [bh hi])
  dsimp only
  refine ah (wpAny_onRaise ?_);show aX _ _ (cO (.ref i) >>= _) _ _ _
  by_cases e:j=m
  ·subst e
   rw [hc] at hm;cases hm;refine ah (nextS_end hh it (hxm.ext fun o h=>Z.ext _ o o1 o2 o3 h) hem fun g2 x s2 hx2=>?_);obtain ⟨oe,e1,e2⟩:=hx2;have z2:IsZip g2 z TI TO .ellipsis:=s2 _ _ iz Z.zip;have xz:x≠z:=fun r=>by subst r;rw [z2] at e1;cases e1;simp at e2
   exact i4 z2 (by simp) fun g3 _ s3=>fin g3 x (fun e o c1 c2 c3 h=>s3.extBut _ _ c1 (s2 _ _ (fun y=>c3 (by rw [y];exact bh hi)) (Z.ext e o c1 c2 c3 h))) ⟨oe,s3.extBut _ _ xz e1,e2⟩
  ·obtain ⟨xs,v,hq,hxv,hvv⟩:=hv j _ hc (by omega)
   refine ah (oN it (hq.ext fun o h=>Z.ext _ o o1 o2 o3 h) hxv fun g2 n2 s2=>aO ?_);have r2:k9 g2 TO (vs.take j++old.drop j):=s2.extBut _ _ iO Z.row;refine ah (ft r2 rfl ?_);refine ah (updRow (x:=v) (k:=0+j) r2 (by rw [av,bG,e8];have:=D.lo;omega) fun g3 r3 s3=>?_);rw [Nat.zero_add] at r3;refine ah (jH (aO ⟨_,rfl,rfl,by omega,g3,rfl,Z.step D hi hc hvv lv n2 s2 r3 s3⟩))
 ·rintro b s' ⟨rfl,jm,g5,rfl,Z⟩
  have ll:((is.map ae.ref).toArray.toList.zipIdx).length=cs.length:=by simp [len]
  rw [ll] at jm;omega
theorem k6 {α:Type}{P:Nat→α→Prop}:∀ (k:Nat),(∀ n,n<k→∃ u,P n u)→∃ us:List α,us.length=k∧∀ (n:Nat) u,us[n]? =some u→P n u
 | 0,_=>⟨[],rfl,fun n u h=>by simp at h⟩
 | k+1,h=>by
  obtain ⟨us,hl,hu⟩:=k6 k fun n hn=>h n (by omega)
  obtain ⟨u,pu⟩:=h k (by omega);refine ⟨us++[u],by rw [av,hl];rfl,fun n v hv=>?_⟩
  by_cases e:n<us.length
  ·rw [fX e] at hv
   exact hu n v hv
  ·rw [bV (by omega)] at hv
   have hn:n=us.length:=by
    have:=(ao.mp hv).1;simp at this;omega
   subst hn;rw [Nat.sub_self] at hv;cases hv;rw [hl];exact pu
theorem vals_of:∀ {vs:List V} {us:List ae},vs.length=us.length→(∀ (n:Nat) v u,vs[n]? =some v→us[n]? =some u→RelV v u)→Vals vs us
 | [],[],_,_=> .nil
 | v::vs,u::us,hl,h=> .cons (h 0 v u rfl rfl) (vals_of (by simpa using hl) fun n v' u' a b=>h (n+1) v' u' a b)
 | [],_::_,hl,_=>by simp at hl
 | _::_,[],hl,_=>by simp at hl
def HSq (H:Hp)(c:Sq)(xs:List V):Prop:=match c.l with | true=>H c.a=some (.lst xs) | false=>H c.a=some (.tup xs)
theorem HSq.inj {c:Sq}(a:HSq H c xs)(b:HSq H c ys):xs=ys:=by
 obtain ⟨l,q⟩:=c;cases l with
 | true=>have a:H q=some (.lst xs):=a;have b:H q=some (.lst ys):=b;rw [a] at b;cases b;rfl
 | false=>have a:H q=some (.tup xs):=a;have b:H q=some (.tup ys):=b;rw [a] at b;cases b;rfl
theorem HSq.has {c:Sq}(a:HSq H c xs):∃ o,H c.a=some o:=by
 obtain ⟨l,q⟩:=c;cases l with
 | true=>exact ⟨_,a⟩
 | false=>exact ⟨_,a⟩
theorem HSq.at {c:Sq}(I:Inv X aN σ H s)(h:HSq H c xs):∃ its,Vals xs its∧SqAt s.heap c its.toArray:=by
 obtain ⟨l,q⟩:=c;cases l with
 | true =>
  obtain ⟨its,r,p,_⟩:=I.list (SqL.of (K:=X.K) (show H q=some (.lst xs) from h));exact ⟨its,r,p.isList⟩
 | false =>
  obtain ⟨its,r,p,_⟩:=I.tuple (SqT.of (K:=X.K) (show H q=some (.tup xs) from h));exact ⟨its,r,p⟩
def Itq (cs:List Sq):It :=
 ⟨fun i H=>∃ vs:List V,vs.length=cs.length∧∀ (n:Nat) c,cs[n]? =some c→∃ xs x,HSq H c xs∧xs[i]? =some x∧vs[n]? =some x,
  fun i H v H'=>∃ p vs,H p=none∧v= .ref p∧H'=upd H p (.tup vs)∧vs.length=cs.length∧∀ (n:Nat) c x xs,cs[n]? =some c→HSq H c xs→vs[n]? =some x→xs[i]? =some x,
  fun i H=>∃ m cm xm,cs[m]? =some cm∧HSq H cm xm∧xm.length≤i∧∀ (n:Nat) c,cs[n]? =some c→n<m→∃ xs x,HSq H c xs∧xs[i]? =some x⟩
theorem turn_zipS {k0}{z TI TO:ai}{cs:List Sq}{is:List ai} :
  Turn P w K (.Tuple es k0 pos) (Itq cs) (z::TI::TO::is) z (fun i h=>∃ old,ZOk h z TI TO cs is i old) where
 mem:=by simp
 obj:=fun i h st c hc=>by
  obtain ⟨old,D⟩:=st;simp only [az] at hc
  rcases hc with rfl | rfl | rfl | hc
  ·exact ⟨_,D.zip,fun v z=>by cases z⟩
  ·exact ⟨_,D.ti,fun v z=>by cases z⟩
  ·exact ⟨_,D.to,fun v z=>by cases z⟩
  ·obtain ⟨n,hn⟩:=List.getElem?_of_mem hc
   have hl:n<cs.length:=by rw [←D.len];exact (ao.mp hn).1
   exact (D.its n _ c (gE hl) hn).obj
 keep:=fun i h h' st k=>by
  obtain ⟨old,D⟩:=st;exact ⟨old,D.len,D.few,D.pos,D.nod,k z (by simp) _ D.zip,k TI (by simp) _ D.ti,k TO (by simp) _ D.to,D.lo,fun n c i hc hi=>(D.its n c i hc hi).ext fun o e=>k i (by simp [bh hi]) o e,D.off⟩
 item:=by
  intro X hP hw hK hc i aN s σ H E I hf st hg;subst hP hw hK;obtain ⟨old,D⟩:=st;obtain ⟨vs,lv,hv⟩:=hg;have nz:∀ e∈z::TI::TO::is,H e=none:=fun e he=>(hf e he).1
  have hT:H s.heap.objs.size=none:=I.fresh;have ex:∀ n,n<cs.length→∃ u:ae,(∀ c,cs[n]? =some c→∃ xs,SqAt s.heap c xs∧xs[i]? =some u)∧∀ v,vs[n]? =some v→RelV v u:=fun n hn=>by
   obtain ⟨xs,x,h1,h2,h3⟩:=hv n _ (gE hn);obtain ⟨its,r,p⟩:=h1.at I;obtain ⟨u,hu,ru⟩:=r.get h2;refine ⟨u,fun c hc=>?_,fun v hv'=>?_⟩
   ·rw [gE hn] at hc
    cases hc;exact ⟨_,p,by simpa using hu⟩
   ·rw [h3] at hv'
    cases hv';exact ru
  obtain ⟨us,lu,hu⟩:=k6 cs.length ex;have hrel:Vals vs us:=vals_of (by omega) fun n v u a b=>(hu n u b).2 v a
  refine zipS_go D (vs:=us) (fun n c hc=>?_) lu fun g z1 to1 m1 tp sz kk=>⟨_,rfl,?_⟩
  ·have hn:n<us.length:=by rw [lu];exact (ao.mp hc).1
   obtain ⟨xs,a,b⟩:=(hu n _ (gE hn)).1 c hc;exact ⟨xs,us[n],a,b,gE hn⟩
  refine wpAny_letOwnedTupleGo_zip z1 fun g2 z2 s2=>?_
  have s2:dA z g g2:=s2;have k2:∀ e o,e ∉ z::TO::is→s.heap.get? e=some o→g2.get? e=some o:=fun e o hn h=>by
   simp only [az,not_or] at hn;exact s2.extBut _ _ hn.1 (kk e o hn.1 hn.2.1 hn.2.2 h)
  have zlt:z<s.heap.objs.size:=aL D.zip;have tp2:k9 g2 s.heap.objs.size us:=s2.extBut _ _ (cR zlt) tp;have sub:∀ e∈z::TO::is,e∈z::TI::TO::is:=fun e he=>by
   simp only [az] at he ⊢
   rcases he with rfl | rfl | he <;> simp [*]
  have trk:∀ e o,H e=some o→e ∉ z::TO::is:=fun e o he hm=>by rw [nz e (sub e hm)] at he;cases he
  have J:Inv X aN σ (upd H s.heap.objs.size (.tup vs)) { s with heap:=g2 }:=by
   refine I.turnAll (ch:=z::TO::is) (fun e he=>hf e (sub e he)) k2 (fun e o h=>by rw [bw (bz h hT)];exact h) (fun e o h n=>by rw [bw (bI (aL h))];exact n) fun e o h=>?_
   by_cases q:e=s.heap.objs.size
   ·subst q
    rw [aU] at h;cases h;exact ⟨by rw [lv];exact aY D.few (by decide),us,hrel,_,tp2,rfl,rfl,_,rfl⟩
   ·rw [bw q] at h
    refine (I.hok e o h).stay (fun c v hc' q'=>k2 c v (by
     rcases hc' with z' | z'
     ·rw [z'];exact trk e o h
     ·exact trk c _ z') q') (fun c q'=>by rw [bw (bz q' hT)];exact q') fun c xs q'=>by rw [bw (bz q' hT)];exact q'
  have nod:=D.nod;rw [bF,bF,bF] at nod;obtain ⟨nz',nT,nO,ni⟩:=nod;refine ⟨.ref s.heap.objs.size,_,J,rfl,⟨_,vs,hT,rfl,rfl,lv,fun n c x xs hc hq hx=>?_⟩,⟨us,D.len,D.few,D.pos,D.nod,z2,?_,s2.extBut _ _ (fun y=>nz' (by rw [←y];simp)) to1,lu,fun n c j hc hj=>?_,D.off⟩,fun e he=>?_⟩
  ·obtain ⟨ys,y,h1,h2,h3⟩:=hv n c hc
   rw [h1.inj hq] at h2;rw [h3] at hx;cases hx;exact h2
  ·refine k2 _ _ (fun y=>?_) D.ti
   rcases az.mp y with y | y
   ·exact nz' (by rw [←y];simp)
   ·exact nT y
  ·exact (m1 n c j hc hj).ext fun o e=>s2.extBut _ _ (fun y=>nz' (by rw [←y];simp [bh hj])) e
  ·have hlt:e<s.heap.objs.size:=by
    simp only [az] at he
    rcases he with rfl | rfl | rfl | he
    ·exact aL D.zip
    ·exact aL D.ti
    ·exact aL D.to
    ·obtain ⟨n,hn⟩:=List.getElem?_of_mem he
     have hl:n<cs.length:=by rw [←D.len];exact (ao.mp hn).1
     obtain ⟨o,ho,_⟩:=(D.its n _ e (gE hl) hn).obj;exact aL ho
   rw [bw (bI hlt)];exact nz e he
 done:=by
  intro X hP hw hK hc i aN s σ H E I hf st hg;subst hP hw hK;obtain ⟨old,D⟩:=st;obtain ⟨m,cm,xm,hm,hxm,hi,hv⟩:=hg;have nz:∀ e∈z::TI::TO::is,H e=none:=fun e he=>(hf e he).1
  have ex:∀ n,n<cs.length→∃ u:ae,∀ c,cs[n]? =some c→n<m→∃ xs,SqAt s.heap c xs∧xs[i]? =some u:=fun n hn=>by
   by_cases e:n<m
   ·obtain ⟨xs,x,h1,h2⟩:=hv n _ (gE hn) e
    obtain ⟨its,r,p⟩:=h1.at I;obtain ⟨u,hu,ru⟩:=r.get h2;refine ⟨u,fun c hc _=>?_⟩;rw [gE hn] at hc;cases hc;exact ⟨_,p,by simpa using hu⟩
   ·exact ⟨.none,fun c _ z=>o6 z e⟩
  obtain ⟨us,lu,hu⟩:=k6 cs.length ex;obtain ⟨its,r,p⟩:=hxm.at I;have hl:=r.length;refine zipS_stop (I.ok.hd hc) D (vs:=us) (m:=m) (fun n c hc hn=>?_) lu hm p (by simp;omega) fun g kk=>⟨rfl,?_⟩
  ·have hn':n<us.length:=by rw [lu];exact (ao.mp hc).1
   obtain ⟨xs,a,b⟩:=hu n _ (gE hn') c hc hn;exact ⟨xs,us[n],a,b,gE hn'⟩
  have sub:∀ e∈z::TO::is,e∈z::TI::TO::is:=fun e he=>by
   simp only [az] at he ⊢
   rcases he with rfl | rfl | he <;> simp [*]
  have k2:∀ e o,e ∉ z::TO::is→s.heap.get? e=some o→g.get? e=some o:=fun e o hn h=>by
   simp only [az,not_or] at hn;exact kk e o hn.1 hn.2.1 hn.2.2 h
  have trk:∀ e o,H e=some o→e ∉ z::TO::is:=fun e o he hm=>by rw [nz e (sub e hm)] at he;cases he
  refine I.turnAll (ch:=z::TO::is) (fun e he=>hf e (sub e he)) k2 (fun _ _ h=>h) (fun _ _ _ n=>n) fun e o h=>?_
  exact (I.hok e o h).stay (fun c v hc' q'=>k2 c v (by
   rcases hc' with z' | z'
   ·rw [z'];exact trk e o h
   ·exact trk c _ z') q') (fun _ q'=>q') fun _ _ q'=>q'
 self:=fun _ _ _ _ _ st h=>let ⟨_,D⟩:=st;wpAny_pyIter_zip D.zip h
structure ZNew (h g:bL)(cs:List Sq):Prop where
 zip:IsZip g (h.objs.size+cs.length+2) (h.objs.size+cs.length) (h.objs.size+cs.length+1) .none
 ti:k9 g (h.objs.size+cs.length) (((aR cs.length).map fun j=>h.objs.size+j).map ae.ref)
 to:k9 g (h.objs.size+cs.length+1) (bP cs.length .none)
 its:∀ (n:Nat) c,cs[n]? =some c→ItAt g c (h.objs.size+n) 0
 ext:∀ b o,h.get? b=some o→g.get? b=some o
theorem newClass_zip (vs:List ae):eN.SmallTypes.newClass "zip" ⟨.type "zip" :: vs,[]⟩=fH (.type "zip",vs):=by
 unfold eN.SmallTypes.newClass;simp only [isType,sub_zip,pure_bind,Bool.not_true,Bool.false_eq_true,if_false]
theorem zipS_new (cs:List Sq)(few:cs.length≤8) :
  Meets (eN.«zip.__new__» ⟨.type "zip" :: cs.map fun c=>ae.ref c.a,[]⟩) (fun _ R s=>(∀ c∈cs,∃ xs,SqAt s.heap c xs)∧∀ g,ZNew s.heap g cs→R (.ok (.ret (.ref (s.heap.objs.size+cs.length+2)))) { s with heap:=g }) :=
 .of_wp fun prog w A R s h=>by
  obtain ⟨h1,h⟩:=h;unfold eN.«zip.__new__»;refine ah (wpAny_of_eq (newClass_zip _) ?_);show aX _ _ (eN.SmallTypes.iterAll (cs.map fun c=>ae.ref c.a) >>= _) _ _ _;refine ah ?_;unfold eN.SmallTypes.iterAll;refine ah (mE _ (fun j its s'=>∃ g,s'={ s with heap:=g }∧g.objs.size=s.heap.objs.size+j∧its=((aR j).map fun i=>ae.ref (s.heap.objs.size+i)).toArray∧(∀ (n:Nat) c,n<j→cs[n]? =some c→ItAt g c (s.heap.objs.size+n) 0)∧∀ b o,s.heap.get? b=some o→g.get? b=some o) _ _ ⟨s.heap,rfl,rfl,rfl,fun n c hn=>o6 hn (by omega),fun _ _ e=>e⟩ ?_ ?_)
  ·rintro j a its s' ha ⟨g,rfl,sz,rfl,hit,ext⟩
   rw [ay] at ha;obtain ⟨c,hc,rfl⟩:=bB.mp ha;obtain ⟨xs,hx⟩:=h1 c (bh hc);refine ah (d7 (iterS (c:=c) (xs:=xs) (hx.ext fun o e=>ext _ o e) fun g2 i2 z2 e2=>?_));refine aO ⟨_,rfl,g2,rfl,?_,?_,fun n c' hn hc'=>?_,fun b o e=>e2 b o (ext b o e)⟩
   ·show g2.objs.size=_
    rw [z2];show g.objs.size+1=_;rw [sz];omega
   ·show Array.push _ (ae.ref g.objs.size)=_
    rw [sz,List.range_succ,aA];simp
   ·by_cases e:n=j
    ·subst e
     rw [hc] at hc';cases hc';have i2:ItAt g2 c g.objs.size 0:=i2;rw [sz] at i2;exact i2
    ·exact (hit n c' (by omega) hc').ext fun o q=>e2 _ o q
  ·rintro its s' ⟨g,rfl,sz,rfl,hit,ext⟩
   have ll:(cs.map fun c=>ae.ref c.a).length=cs.length:=aa ..;rw [ll] at sz hit ⊢;refine aO ?_
   dsimp only
   have n8:((aR cs.length).map fun i=>ae.ref (s.heap.objs.size+i)).length≤bj:=by
    rw [aa,bt];exact aY few (by decide)
   refine ah (wpAny_newTuple ?_ (by simpa using n8));refine ah (wpAny_newTuple ?_ (by simpa using n8));refine ah ?_;unfold eN.SmallTypes.newRecord;refine eS (aO ⟨_,rfl,?_⟩) (by show 5≤bj+2;decide);have e1:(g.push { cls:= .type "tuple",data:= .seq ((aR cs.length).map fun i=>ae.ref (s.heap.objs.size+i)).toArray }).objs.size=s.heap.objs.size+cs.length+1:=by rw [fQ,sz]
   have e2:((g.push { cls:= .type "tuple",data:= .seq ((aR cs.length).map fun i=>ae.ref (s.heap.objs.size+i)).toArray }).push { cls:= .type "tuple",data:= .seq ((((aR cs.length).map fun i=>ae.ref (s.heap.objs.size+i)).toArray.toList.map fun _=>ae.none)).toArray }).objs.size=s.heap.objs.size+cs.length+2:=by rw [fQ,e1]
   have key:=h (((g.push { cls:= .type "tuple",data:= .seq ((aR cs.length).map fun i=>ae.ref (s.heap.objs.size+i)).toArray }).push { cls:= .type "tuple",data:= .seq ((((aR cs.length).map fun i=>ae.ref (s.heap.objs.size+i)).toArray.toList.map fun _=>ae.none)).toArray }).push { cls:= .type "zip",data:= .fields #[.none,.bool false,.bool false,.ref (s.heap.objs.size+cs.length),.ref (s.heap.objs.size+cs.length+1)] })
    ⟨by rw [←e2];exact aZ _ rfl,?_,?_,fun n c hc=>(hit n c (ao.mp hc).1 hc).ext fun o q=>ar _ (ar _ (ar _ q)),fun b o q=>ar _ (ar _ (ar _ (ext b o q)))⟩
   ·rw [←e2] at key
    have e1':(s.heap.objs.size+cs.length:Nat)=g.objs.size:=sz.symm;rw [←e1,e1'] at key;exact key
   ·have em:(((aR cs.length).map fun j=>s.heap.objs.size+j).map ae.ref)=((aR cs.length).map fun i=>ae.ref (s.heap.objs.size+i)):=by rw [dt];rfl
    show bL.get? _ _=_;rw [em,←sz];exact ar _ (ar _ (aZ _ rfl))
   ·rw [←e1]
    have er:(((aR cs.length).map fun i=>ae.ref (s.heap.objs.size+i)).toArray.toList.map fun _=>ae.none)=bP cs.length ae.none:=by
     rw [List.eq_replicate_iff];exact ⟨by simp,fun x hx=>by obtain ⟨_,_,rfl⟩:=aV.mp hx;rfl⟩
    rw [er];exact ar _ (aZ _ rfl)
theorem zip_args3 (a b c d:ae):argsOk "object.__init__" ⟨[a,b,c,d],[]⟩:=by
 unfold argsOk;rw [signature?_of (id := "object.__init__") (n:=['_','_','t','i','n','i','_','_']) (o:=['t','c','e','j','b','o']) (by kernel_rfl) F.owner_object]
 kernel_rfl
theorem zip_type3 (a b c:ae):checkTypeCall "zip" ⟨[a,b,c],[]⟩=fH ():=by kernel_rfl
theorem zip_new3 (a b c:ae):checkBuiltinCall "zip.__new__" ⟨[.type "zip",a,b,c],[]⟩=fH ():=by kernel_rfl
theorem zip_walk {s1:aq}{k0}{pt:Pos}{R:It→Hp→Prop}{cs:List Sq}(I1:Inv X aN σ H1 s1)(few:cs.length≤8)(pos:0<cs.length)(hq:∀ c∈cs,∃ xs,HSq H1 c xs)(q:R (Itq cs) H1){g:bL}(Z:ZNew s1.heap g cs) :
  aX (br X.prog X.w) X.A (pyIter (.ref (s1.heap.objs.size+cs.length+2))) (PIE X aN σ (.Tuple es k0 pt) R) E { s1 with heap:=g }:=by
 have small:∀ c∈cs,c.a<s1.heap.objs.size:=fun c hc=>by
  obtain ⟨xs,hx⟩:=hq c hc;obtain ⟨o,ho⟩:=hx.has;exact Nat.lt_of_not_le fun hge=>by rw [I1.hok.fresh hge] at ho;cases ho
 refine wpAny_pyIter_zip Z.zip ⟨_,(s1.heap.objs.size+cs.length+2)::(s1.heap.objs.size+cs.length)::(s1.heap.objs.size+cs.length+1)::((aR cs.length).map fun j=>s1.heap.objs.size+j),_,Itq cs,H1,rfl,I1.kept (t':=s1.toks) Z.ext,turn_zipS,⟨_,?_,few,pos,?_,Z.zip,Z.ti,Z.to,by rw [gO],fun n c i hc hi=>?_,fun c hc=>?_⟩,fun e he=>?_,q⟩
 ·rw [aa,bt]
 ·have nd:((aR cs.length).map fun j=>s1.heap.objs.size+j).Nodup:=by
   rw [bU,fY];exact (bU.mp List.nodup_range).imp fun h e=>h (by omega)
  have out:∀ x,s1.heap.objs.size+cs.length≤x→x ∉ ((aR cs.length).map fun j=>s1.heap.objs.size+j):=fun x hx hm=>by
   obtain ⟨j,hj,rfl⟩:=aV.mp hm;have:=bQ.mp hj;omega
  rw [bF,bF,bF];refine ⟨fun h=>?_,fun h=>?_,fun h=>out _ (by show @LE.le Nat _ _ _;omega) h,nd⟩
  ·rcases az.mp h with h | h
   ·have h: @Eq Nat _ _:=h
    omega
   ·rcases az.mp h with h | h
    ·have h: @Eq Nat _ _:=h
     omega
    ·exact out _ (by show @LE.le Nat _ _ _;omega) h
  ·rcases az.mp h with h | h
   ·have h: @Eq Nat _ _:=h
    omega
   ·exact out _ (by show @LE.le Nat _ _ _;omega) h
 ·rw [ay,gp (ao.mp hc).1] at hi
  cases hi;exact Z.its n c hc
 ·have:=small c hc
  have this: @LT.lt Nat _ c.a s1.heap.objs.size:=this;refine ⟨by show @Ne Nat _ _;omega,by show @Ne Nat _ _;omega,fun hm=>?_⟩;obtain ⟨j,hj,e⟩:=aV.mp hm;have e: @Eq Nat _ _:=e;omega
 ·have hge:s1.heap.objs.size≤e:=by
   simp only [az] at he
   rcases he with rfl | rfl | rfl | he
   ·show @LE.le Nat _ _ _;omega
   ·show @LE.le Nat _ _ _;omega
   ·show @LE.le Nat _ _ _;omega
   ·obtain ⟨j,hj,rfl⟩:=aV.mp he
    show @LE.le Nat _ _ _;omega
  exact I1.fpOk hge (I1.hok.fresh hge)
def iZip2 (ta:TA):TI:=fun σ H R=>ta σ H fun vs H1=>∃ c1 c2 xs ys,vs=[.ref c1.a,.ref c2.a]∧HSq H1 c1 xs∧HSq H1 c2 ys∧R (Itq [c1,c2]) H1
theorem pi_zip2 {ea eb:Expr}{ta:TA}{p:Pos}{k0}{pt:Pos}(hg:Gl X "zip")(hm:X.mg "zip" =none)(ha:PA X [ea,eb] ta)(hs:bE [ea,eb] X.env=[(false,eu ea X.env),(false,eu eb X.env)]:=by rfl)(hs2:bE [eb] X.env=[(false,eu eb X.env)]:=by rfl) :
  PI X (.Tuple es k0 pt) (.Call (.Name "zip" p) [ea,eb] [] pos) (iZip2 ta):=by
 intro aN s σ H R I h;refine Call_ (kq I hg hm boot_zip (dQ (thn (ha pos aN s σ H _ I h) fun us s1 ⟨vs,H1,I1,r1,q1⟩=>?_) (by rw [hs,hs2]) (by rw [hs2];rfl)));obtain ⟨c1,c2,xs,ys,e,h1,h2,q⟩:=q1;subst e;obtain ⟨u1,u2,rfl,r2,r3⟩:=vals2 r1;cases (show u1=ae.ref c1.a from r2);cases (show u2=ae.ref c2.a from r3);obtain ⟨_,_,p1⟩:=h1.at I1;obtain ⟨_,_,p2⟩:=h2.at I1;refine callType_new F.called_zip (by decide) (F.typeCall_zip_2 _ _) (F.newCall_zip_2 _ _) (fun obj=>F.args_object_init_3 obj _ _) F.entry_zip_new (zipS_new [c1,c2] (by show 2≤8;decide)) ⟨fun c hc=>?_,fun g Z=>⟨⟨_,Z.zip,rfl⟩,?_⟩⟩
 ·simp only [az,cq,or_false] at hc
  rcases hc with rfl | rfl
  ·exact ⟨_,p1⟩
  ·exact ⟨_,p2⟩
 ·refine zip_walk (cs:=[c1,c2]) I1 (by show 2≤8;decide) (by show 0<2;decide) (fun c hc=>?_) q Z
  simp only [az,cq,or_false] at hc
  rcases hc with rfl | rfl
  ·exact ⟨_,h1⟩
  ·exact ⟨_,h2⟩
theorem valsThree {x z:V}(h:Vals [x,y,z] us):∃ u1 u2 u3,us=[u1,u2,u3]∧RelV x u1∧RelV y u2∧RelV z u3:=by
 cases h with
 | cons h1 r1=>cases r1 with
  | cons h2 r2=>cases r2 with
   | cons h3 r3=>cases r3;exact ⟨_,_,_,rfl,h1,h2,h3⟩
def iZip3 (ta:TA):TI:=fun σ H R=>ta σ H fun vs H1=>∃ c1 c2 c3 xs ys zs,vs=[.ref c1.a,.ref c2.a,.ref c3.a]∧HSq H1 c1 xs∧HSq H1 c2 ys∧HSq H1 c3 zs∧R (Itq [c1,c2,c3]) H1
theorem pi_zip3 {ea eb ec:Expr}{ta:TA}{p:Pos}{k0}{pt:Pos}(hg:Gl X "zip")(hm:X.mg "zip" =none)(ha:PA X [ea,eb,ec] ta)(hs:bE [ea,eb,ec] X.env=[(false,eu ea X.env),(false,eu eb X.env),(false,eu ec X.env)]:=by rfl)(hs2:bE [eb,ec] X.env=[(false,eu eb X.env),(false,eu ec X.env)]:=by rfl) :
  PI X (.Tuple es k0 pt) (.Call (.Name "zip" p) [ea,eb,ec] [] pos) (iZip3 ta):=by
 intro aN s σ H R I h;refine Call_ (kq I hg hm boot_zip (dQ (thn (ha pos aN s σ H _ I h) fun us s1 ⟨vs,H1,I1,r1,q1⟩=>?_) (by rw [hs,hs2]) (by rw [hs2];rfl)));obtain ⟨c1,c2,c3,xs,ys,zs,e,h1,h2,h3,q⟩:=q1;subst e;obtain ⟨u1,u2,u3,rfl,r2,r3,r4⟩:=valsThree r1;cases (show u1=ae.ref c1.a from r2);cases (show u2=ae.ref c2.a from r3);cases (show u3=ae.ref c3.a from r4);obtain ⟨_,_,p1⟩:=h1.at I1;obtain ⟨_,_,p2⟩:=h2.at I1;obtain ⟨_,_,p3⟩:=h3.at I1;refine callType_new F.called_zip (by decide) (zip_type3 _ _ _) (zip_new3 _ _ _) (fun obj=>zip_args3 obj _ _ _) F.entry_zip_new (zipS_new [c1,c2,c3] (by show 3≤8;decide)) ⟨fun c hc=>?_,fun g Z=>⟨⟨_,Z.zip,rfl⟩,?_⟩⟩
 ·simp only [az,cq,or_false] at hc
  rcases hc with rfl | rfl | rfl
  ·exact ⟨_,p1⟩
  ·exact ⟨_,p2⟩
  ·exact ⟨_,p3⟩
 ·refine zip_walk (cs:=[c1,c2,c3]) I1 (by show 3≤8;decide) (by show 0<3;decide) (fun c hc=>?_) q Z
  simp only [az,cq,or_false] at hc
  rcases hc with rfl | rfl | rfl
  ·exact ⟨_,h1⟩
  ·exact ⟨_,h2⟩
  ·exact ⟨_,h3⟩
theorem for_zip3 {c1 c2 c3:Sq}{zs:List V}{tb:TS}{D:Ends}(Pv:Nat→St→Hp→Prop)(h0:Pv 0 σ H)(hl:∀ i σ H,i≤xs.length→Pv i σ H→HSq H c1 xs∧HSq H c2 ys∧HSq H c3 zs)(hxy:xs.length=ys.length)(hxz:xs.length=zs.length)
  (hs:∀ i x y z p σ H,xs[i]? =some x→ys[i]? =some y→zs[i]? =some z→Pv i σ H→H p=none→g (.ref p) σ (upd H p (.tup [x,y,z])) fun σ2 H2=>tb { D with nx:=Pv (i+1),ct:=Pv (i+1),bk:=D.nx } σ2 H2) (hd:∀ σ H,Pv xs.length σ H→D.nx σ H) :
  ∃ W:Nat→Nat→St→Hp→Prop,(∃ m,W 0 m σ H)∧∀ i m σ H,W i m σ H →
   ((Itq [c1,c2,c3]).stop i H∧D.nx σ H)∨((Itq [c1,c2,c3]).go i H∧∃ N:St→Hp→Prop,(∀ σ' H',N σ' H'→∃ m',m'<m∧W (i+1) m' σ' H')∧∀ x H',(Itq [c1,c2,c3]).yld i H x H'→g x σ H' fun σ2 H2=>tb { D with nx:=N,ct:=N,bk:=D.nx } σ2 H2):=by
 refine ⟨fun i m σ H=>i≤xs.length∧m=xs.length - i∧Pv i σ H,⟨_,bK _,rfl,h0⟩,fun i m σ H ⟨hi,hm,hp⟩=>?_⟩;obtain ⟨qa,qb,qc⟩:=hl i σ H hi hp
 by_cases e:i=xs.length
 ·subst e
  exact .inl ⟨⟨0,c1,xs,rfl,qa,aB _,fun n c _ hn=>o6 hn (by omega)⟩,hd σ H hp⟩
 ·have hlt:i<xs.length:=gF hi e
  have hlt2:i<ys.length:=by omega
  have hlt3:i<zs.length:=by omega
  refine .inr ⟨⟨[xs[i],ys[i],zs[i]],rfl,fun n c hc=>?_⟩,Pv (i+1),fun σ' H' hp'=>⟨xs.length - (i+1),by omega,by omega,rfl,hp'⟩,fun v H3 hy=>?_⟩
  ·match n,hc with
   | 0,hc=>cases hc;exact ⟨xs,xs[i],qa,gE hlt,rfl⟩
   | 1,hc=>cases hc;exact ⟨ys,ys[i],qb,gE hlt2,rfl⟩
   | 2,hc=>cases hc;exact ⟨zs,zs[i],qc,gE hlt3,rfl⟩
   | n+3,hc=>simp at hc
  ·obtain ⟨p,vs,hn,rfl,rfl,lv,hx⟩:=hy
   match vs,lv,hx with
   | [x,y,z],_,hx=>exact hs i x y z p σ H (hx 0 c1 x xs rfl qa rfl) (hx 1 c2 y ys rfl qb rfl) (hx 2 c3 z zs rfl qc rfl) hp hn
theorem PE.cutV {t:TE}(h:PE X e t):PE X e (fun σ H Q=>∃ N:VK,(∀ v H',N v H'→Q v H')∧t σ H N):=fun aN s σ H Q I ⟨N,i,q⟩ =>
 thn (h aN s σ H N I q) fun u s' ⟨v,H',I',rv,q'⟩=>⟨v,H',I',rv,i _ _ q'⟩
theorem oU {c1 c2:Sq}{Q:VK}(Pv:Nat→List V→Hp→Prop)(h0:Pv 0 [] H)(hl:∀ i zs H,i≤xs.length→Pv i zs H→HSq H c1 xs∧HSq H c2 ys∧zs.length≤i)(hxy:xs.length=ys.length)(hz:xs.length≤bj)
  (hs:∀ i x y zs p H,xs[i]? =some x→ys[i]? =some y→Pv i zs H→H p=none→tt (some x::some y::cV σ js) (upd H p (.tup [x,y])) fun b H4=>if b=true then te (some x::some y::cV σ js) H4 fun y H5=>Pv (i+1) (zs++[y]) H5 else Pv (i+1) zs H4)
  (hd:∀ zs H,Pv xs.length zs H→∀ D,H D=none→Q (.ref D) (upd H D (.lst zs))):oY 2 (gPair K) js tt te σ Q (Itq [c1,c2]) H:=by
 refine ⟨fun i m zs H=>i≤xs.length∧m=xs.length - i∧Pv i zs H,⟨_,bK _,rfl,h0⟩,fun i m zs H2 ⟨hi,hm,hp⟩=>?_⟩;obtain ⟨qa,qb,hy⟩:=hl i zs H2 hi hp
 by_cases e:i=xs.length
 ·subst e
  exact .inl ⟨⟨0,c1,xs,rfl,qa,aB _,fun n c _ hn=>o6 hn (by omega)⟩,hd zs H2 hp⟩
 ·have hlt:i<xs.length:=gF hi e
  have hlt2:i<ys.length:=by omega
  refine .inr ⟨⟨[xs[i],ys[i]],rfl,fun n c hc=>?_⟩,by omega,Pv (i+1),fun ys' H' hp'=>⟨xs.length - (i+1),by omega,by omega,rfl,hp'⟩,fun v H3 hy3 v0 hv0=>?_⟩
  ·match n,hc with
   | 0,hc=>cases hc;exact ⟨xs,xs[i],qa,gE hlt,rfl⟩
   | 1,hc=>cases hc;exact ⟨ys,ys[i],qb,gE hlt2,rfl⟩
   | n+2,hc=>simp at hc
  ·obtain ⟨p,vs,hn,rfl,rfl,lv,hx⟩:=hy3
   match vs,lv,hx,v0,hv0 with
   | [x,y],_,hx,[v1,v2],_=>exact ⟨p,_,rfl,SqT.of aU,rfl,_,_,rfl,_,_,rfl,rfl,⟨[some x,some y],rfl,rfl⟩,hs i x y zs p H2 (hx 0 c1 x xs rfl qa rfl) (hx 1 c2 y ys rfl qb rfl) hp hn⟩
end L2
variable {cs:List L2.Sq}
local macro_rules
 | `(tactic|exists $s:term) => `(tactic|(show ∀ y:cj×PySem.NameKind,y∈_→y.2=PySem.NameKind.free→d8 y.1 (L2.defScope $s).names=some PySem.NameKind.cell;decide +kernel))
local macro_rules
 | `(tactic|trivial) => `(tactic|first|decide +kernel|exact ⟨rfl,rfl,rfl,by decide +kernel,rfl,by decide +kernel,by decide +kernel⟩|exact True.intro)
local macro_rules
 | `(tactic|contradiction) => `(tactic|(intro _ _ _ _ h;first | (cases h;subst_vars;rfl) | ((repeat (obtain ⟨_,h⟩:=h));subst_vars;rfl)))
namespace L2
open PySem PyProof.Rows
theorem ixZ {a:Expr}{ta:TE}{p q:Pos}{i:Int}{j}(h:PE X a ta):PE X (.Subscript a (.Constant (.int i) j p) q) (tOp (nM X.K) ta (tC (.int i))):=d9 dH h bo (fun _ _=>rfl)
theorem szZ1:1≤bj:=by decide
theorem mx:2≤bj:=by decide
theorem szZ4:4≤bj:=by decide
theorem szZ5:5≤bj:=by decide
end L2
namespace L2
abbrev pza:List cj:=["net"]
abbrev pzb:List cj:=["net","bounds","ring"]
abbrev pzc:List cj:=["_law_pot_here","_law_most"]
abbrev pzd:List cj:=["net","step"]
abbrev pze:List cj:=["_law_script","_law_k"]
abbrev pzf:List cj:=["net","table"]
abbrev pzg:List cj:=["_law_net_here","_law_table"]
abbrev pzh:List cj:=["net","span"]
abbrev pzi:List cj:=["_law_pot_here","_law_times","_law_beat","_law_ends","_law_width","_law_kept"]
abbrev pzj:List cj:=["net","case"]
abbrev pzk:List cj:=["_law_pot_here","_law_times","_law_beat","_law_most","_law_spoils"]
abbrev pzl:List cj:=["beat","number"]
abbrev pzm:List cj:=["net","spans","happening"]
abbrev pzn:List cj:=["net","most"]
abbrev pzo:List cj:=["net","leaf_in"]
abbrev pzp:List cj:=["case","span"]
abbrev pzq:List cj:=["_law_script","_law_most","_law_extras","_law_spoils"]
abbrev pzr:List cj:=["rings","span"]
abbrev pzs:List cj:=["bounds","span","low","high"]
abbrev pzt:List cj:=["net","rings","wait","case"]
abbrev pzu:List cj:=["_law_cell","_law_k"]
abbrev pzv:List cj:=["_law_pot_here","_law_times","_law_beat","_law_k","_law_lim","_law_spoils"]
abbrev pzw:List cj:=["bounds","way"]
abbrev pzx:List cj:=["net","bounds","leaf"]
abbrev pzy:List cj:=["net","spans","begin","end"]
abbrev pzz:List cj:=["self","case","span","at"]
abbrev pzA:List cj:=["net","steps","bounds"]
abbrev pzB:List cj:=["net","rings","bounds"]
abbrev pzC:List cj:=["net","table","span"]
abbrev pzD:List cj:=["_law_net_here","_law_number"]
abbrev pzE:List cj:=["_law_net_here"]
end L2
namespace HN
open PySem L2 PyProof.Rows
theorem iteB {b:Bool}{A B:Prop}(h:b=true)(x:A):if b=true then A else B:=by rw [o4 h];exact x
theorem oQ {b:Bool}{A B:Prop}(h:b=false)(x:B):if b=true then A else B:=by rw [oZ (by rw [h];exact aP)];exact x
structure Nm (mg:Str→Option ae):Prop where
 isin:mg "isinstance" =none
 tint:mg "int" =none
 tbool:mg "bool" =none
 ttup:mg "tuple" =none
 len:mg "len" =none
 min:mg "min" =none
 all:mg "all" =none
structure Fn (K:ak)(mg:Str→Option ae)(x:Str)(st:cP)(ps:List Str)(f:ai)(fd:bq):Prop where
 F:Fun K x x st f fd
 mg:mg x=some (.ref f)
 b:Binds K fd ps []
theorem pc1 {k:Nat}{sp:Sp}{p:Pos}(G:Fn X.K X.mg x st ps f fd)(F:cS X.prog X.w X.K X.mg X.base CX0 k f fd ps sp)(hr:Room k X.A)
  (ha:PA X (e::es) t) (hg:Gl X x:=by rfl) (hdb:(x == ("__debug__" :Str))=false:=by decide) (he:bE (e::es) X.env=(false,eu e X.env)::bE es X.env:=by rfl) (hpl:(gw pos (bE es X.env)).any (·.1)=false:=by rfl) :
  PE X (.Call (.Name x p) (e::es) [] pos) (tCall sp [] E0 t):=pe_call F hr hg G.mg G.F.kp G.b .nil pass0 ha hdb he hpl
theorem pe_gint {i:Int}(hm:∃ t,X.mg x=some (.int i t))(hg:Gl X x:=by rfl)(hd:(x == ("__debug__" :Str))=false:=by decide):PE X (.Name x pos) (tC (.int i)) :=
 let ⟨t,e⟩:=hm;pe_glob (v:= .int i) (u:= .int i t) hg e ⟨t,rfl⟩ hd
theorem pe_isTup {p p2:Pos}(N:Nm X.mg)(he:PE X e te)(hg:Gl X "isinstance" := by rfl)(hg2:Gl X "tuple" := by rfl)
  (hs1:bE [e,.Name "tuple" p2] X.env=(false,eu e X.env)::bE [.Name "tuple" p2] X.env:=by rfl) (hpl:(gw pos (bE [.Name "tuple" p2] X.env)).any (·.1)=false:=by rfl) :
  PE X (.Call (.Name "isinstance" p) [e,.Name "tuple" p2] [] pos) (tCB (fun xs H Q=>∃ x T,xs=[x,.ty "tuple"]∧tyn H x=some T∧Q (.bl (T == "tuple")) H) (tCons te (tCons (tC (.ty "tuple")) tNil))) :=
 eh call_isTup hg N.isin boot_isinstance (af he (af (pe_bltn hg2 N.ttup iA rfl) aC) hs1) (he:=hs1) (hpl:=hpl)
structure Sn where
 s:Int
 g:Int
 l:Int
 o:Int
 w:Int
abbrev Sn.row (x:Sn):List Int:=[x.s,x.g,x.l,x.o,x.w]
abbrev jL (b m:Int)(sp:List Sn):Dt:= .tup [.int b,.int m,.tup (sp.map fun x=> .tup (x.row.map Dt.int))]
theorem fj {m:Int}{sp:List Sn}(h:IsD H v (jL b m sp)):∃ t p ys,v= .ref t∧H t=some (.tup [.int b,.int m,.ref p])∧H p=some (.tup ys)∧ys.length=sp.length∧∀ (i:Nat) (x:Sn),sp[i]? =some x→∃ q,ys[i]? =some (.ref q)∧H q=some (.tup [.int x.s,.int x.g,.int x.l,.int x.o,.int x.w]):=by
 obtain ⟨t,xs,rfl,ht,rx⟩:=h.tup_of;cases rx with
 | cons h0 r0 =>
  cases r0 with
  | cons h1 r1 =>
   cases r1 with
   | cons h2 r2 =>
    cases r2;cases h0;cases h1;obtain ⟨p,ys,rfl,hp,ry⟩:=h2.tup_of;refine ⟨t,p,ys,rfl,ht,hp,by rw [ry.length,aa],fun i x hx=>?_⟩;obtain ⟨y,hy,dy⟩:=ry.at (i:=i) (d:= .tup (x.row.map Dt.int)) (by rw [ay,hx];rfl);obtain ⟨q,zs,rfl,hq,rz⟩:=dy.tup_of;have ez:=rz.ints_of;subst ez;exact ⟨q,hy,hq⟩
def tm (ts:List Int)(i:Int):Int:=ts.getD i.toNat 0
theorem ow {i:Int}(h0:0≤i)(h1:i<ts.length):atI (ts.map V.int) i=some (.int (tm ts i)):=by
 obtain ⟨j,rfl⟩:=cu h0;refine aJ ?_;rw [ay,gE (by omega)];unfold tm;rw [cM,ag,gE (by omega)];rfl
structure Rdy (b:Int)(ts:List Int)(sp:List Sn):Prop where
 b1:0<b
 few:sp.length≤1000
 ends:∀ x∈sp,0≤x.s∧x.s<ts.length∧0≤x.g∧x.g<ts.length
def fb (b:Int)(ts:List Int)(x:Sn):Int:=(tm ts x.g - tm ts x.s - x.l) % b
def jG (b:Int)(ts:List Int)(sp:List Sn):List Int:=sp.map (fb b ts)
def brk (b:Int)(ts:List Int)(x:Sn):Bool:=decide (x.o - x.l<fb b ts x)
def g9 (b:Int)(ts:List Int)(sp:List Sn):Bool:= !(sp.any (brk b ts))
def dW (b:Int)(ts:List Int)(sp:List Sn):Int:=(sp.map fun x=>x.w * fb b ts x).sum
theorem eU (h:n≤1000):n≤bj:=aY h (by decide)
structure Nt (mg:Str→Option ae):Prop where
 range:mg "range" =none
 enum:mg "enumerate" =none
 zip:mg "zip" =none
 sum:mg "sum" =none
 tlist:mg "list" =none
 max:mg "max" =none
structure SnOk (b m:Int)(x:Sn):Prop where
 s0:0≤x.s
 s1:x.s<m
 g0:0≤x.g
 g1:x.g<m
 ne:x.s≠x.g
 l0:0≤x.l
 lo:x.l≤x.o
 ob:x.o<x.l+b
 o60:x.o<10 ^ 60
 w0:0≤x.w
 w1:x.w≤1000000000000
structure NetT (b m:Int)(sp:List Sn):Prop where
 b1:1≤b
 b2:b≤10 ^ 59
 m1:1≤m
 m2:m≤16
 few:sp.length≤40
 all:∀ x∈sp,SnOk b m x
theorem NetT.rdy {m:Int}{sp:List Sn}(h:NetT b m sp)(ht:(ts.length:Int)=m):Rdy b ts sp :=
 ⟨by have:=h.b1;omega,by have:=h.few;omega,fun x hx=>by have:=h.all x hx;exact ⟨this.s0,by have:=this.s1;omega,this.g0,by have:=this.g1;omega⟩⟩
theorem NetT.ws {m:Int}{sp:List Sn}(h:NetT b m sp):∀ x∈sp,0≤x.w∧x.w≤1000000000000:=fun x hx=>⟨(h.all x hx).w0,(h.all x hx).w1⟩
theorem rest_two (x y l b:Int):(x % b - y % b - l) % b=(x - y - l) % b:=by
 have hx:=fU x b;have hy:=fU y b;have e:x - y - l=(x % b - y % b - l)+b * (x / b - y / b):=by rw [Int.mul_sub];omega
 rw [e,Int.add_mul_emod_self_left]
inductive spRest (vs:List V)(H:Hp)(Q:VK)(_:XK):Prop
 | mk (b n:_)(_:vs=[.int b,.int n])(_:0<b)(_:Q (.int (n % b)) H)
inductive spWidth (vs:List V)(H:Hp)(Q:VK)(_:XK):Prop
 | mk (v b m sp i x:_)(_:vs=[v,.int (i:Nat)])(_:IsD H v (jL b m sp))(_:sp[i]? =some x)(_:Q (.int (x.o - x.l)) H)
inductive spWaitIn (vs:List V)(H:Hp)(Q:VK)(_:XK):Prop
 | mk (v u b m sp ts i x:_)(_:vs=[v,.ref u,.int (i:Nat)])(_:IsD H v (jL b m sp))(_:H u=some (.tup (ts.map V.int)))(_:Rdy b ts sp)(_:sp[i]? =some x)(_:Q (.int (fb b ts x)) H)
inductive spWaits (vs:List V)(H:Hp)(Q:VK)(_:XK):Prop
 | mk (v u b m sp ts:_)(_:vs=[v,.ref u])(_:IsD H v (jL b m sp))(_:H u=some (.tup (ts.map V.int)))(_:Rdy b ts sp)(_:∀ p H',Same H H'→H' p=some (.tup ((jG b ts sp).map V.int))→Q (.ref p) H')
inductive ly (vs:List V)(H:Hp)(Q:VK)(_:XK):Prop
 | mk (v u b m sp ts:_)(_:vs=[v,.ref u])(_:IsD H v (jL b m sp))(_:H u=some (.tup (ts.map V.int)))(_:Rdy b ts sp)(_:(∀ x∈sp,0≤x.w∧x.w≤1000000000000))(_:∀ H',Same H H'→Q (.int (dW b ts sp)) H')
inductive spCell (K:ak)(vs:List V)(H:Hp)(Q:VK)(_:XK):Prop
 | mk (a:ai)(ns:List Int)(k:Int)(_:vs=[.ref a,.int k])(_:SqL K H a (ns.map V.int))(_:0≤k)(_:∀ c:Int,Q (.int c) H)
theorem lU {xs:List α}{r:Int}(h0:0≤r)(h1:r<xs.length):∃ v,atI xs r=some v∧v∈xs:=by
 obtain ⟨j,rfl⟩:=cu h0;have hj:j<xs.length:=by omega
 exact ⟨xs[j],aJ (gE hj),bH hj⟩
theorem log_ok {m:Int}(h0:0<m)(h:m<10 ^ 61):0<m∧m.natAbs.log2<9000:=by
 refine ⟨h0,?_⟩;have h1:m.natAbs<2 ^ 300:=by
  have:(10:Nat) ^ 61<2 ^ 300:=by trivial
  have h2:m.natAbs<10 ^ 61:=by omega
  exact jf h2 this
 have h3:m.natAbs≠0:=by omega
 have:=(Nat.log2_lt h3).mpr h1;omega
theorem goal_ok {s t m:Int}(h0:0≤s)(h1:s<m)(h2:0≤t)(h3:t<m - 1):0≤(s+1+t) % m∧(s+1+t) % m<m∧s≠(s+1+t) % m:=by
 have hm:0<m:=by omega
 have a:=cG (s+1+t) (by omega:m≠0);have b:=cB (s+1+t) hm;refine ⟨a,b,?_⟩
 by_cases q:s+1+t<m
 ·rw [Int.emod_eq_of_lt (by omega) q];omega
 ·have e:(s+1+t) % m=(s+1+t - m) % m:=(Int.sub_emod_right _ _).symm
  rw [e,Int.emod_eq_of_lt (by omega) (by omega)];omega
abbrev rowsP {α:Type}(f:α→List Int)(xs:List α):Dt:= .tup (xs.map fun x=> .tup ((f x).map Dt.int))
theorem jJ {f:α→List Int}{xs:List α}(r:IsDs H ys (xs.map fun x=> .tup ((f x).map Dt.int))){x:α}(hx:xs[i]? =some x):∃ q,ys[i]? =some (.ref q)∧H q=some (.tup ((f x).map V.int)):=by
 obtain ⟨y,hy,dy⟩:=r.at (i:=i) (d:= .tup ((f x).map Dt.int)) (by rw [ay,hx];rfl);obtain ⟨q,zs,rfl,hq,rz⟩:=dy.tup_of;have ez:=rz.ints_of;subst ez;exact ⟨q,hy,hq⟩
theorem iE {f:α→List Int}{xs:List α}(h:IsD H v (rowsP f xs)):∃ p ys,v= .ref p∧H p=some (.tup ys)∧ys.length=xs.length∧IsDs H ys (xs.map fun x=> .tup ((f x).map Dt.int)):=by
 obtain ⟨p,ys,rfl,hp,ry⟩:=h.tup_of;exact ⟨p,ys,rfl,hp,by rw [ry.length,aa],ry⟩
structure Stp where
 i:Nat
 d:Int
abbrev Stp.row (s:Stp):List Int:=[(s.i:Int),s.d]
abbrev mf (ws:List Stp):Dt:=rowsP Stp.row ws
abbrev bndR (p:Int×Int):List Int:=[p.1,p.2]
abbrev bndP (bs:List (Int×Int)):Dt:=rowsP bndR bs
def frm (x:Sn)(d:Int):Int:=if d=1 then x.s else x.g
def too (x:Sn)(d:Int):Int:=if d=1 then x.g else x.s
def oA (n:Nat)(ws:List Stp):Prop:=∀ s∈ws,s.i<n∧(s.d=1∨s.d= -1)
def kM (sp:List Sn)(s:Stp):Int:=match sp[s.i]? with | some x=>frm x s.d | none=>0
def fe (sp:List Sn)(s:Stp):Int:=match sp[s.i]? with | some x=>too x s.d | none=>0
def oP (bs:List (Int×Int))(s:Stp):Int:=match bs[s.i]? with | some p=>if s.d=1 then p.1 else -p.2 | none=>0
def kx (bs:List (Int×Int))(s:Stp):Int:=match bs[s.i]? with | some p=>if s.d=1 then p.2 else -p.1 | none=>0
def fg (bs:List (Int×Int))(ws:List Stp):Int:=(ws.map (oP bs)).sum
def gY (bs:List (Int×Int))(ws:List Stp):Int:=(ws.map (kx bs)).sum
inductive spFrom (vs:List V)(H:Hp)(Q:VK)(_:XK):Prop
 | mk (v:V)(q:ai)(b m:Int)(sp:List Sn)(s:Stp)(x:Sn)(_:vs=[v,.ref q])(_:IsD H v (jL b m sp))(_:H q=some (.tup (s.row.map V.int)))(_:sp[s.i]? =some x)(_:Q (.int (frm x s.d)) H)
inductive spTo (vs:List V)(H:Hp)(Q:VK)(_:XK):Prop
 | mk (v:V)(q:ai)(b m:Int)(sp:List Sn)(s:Stp)(x:Sn)(_:vs=[v,.ref q])(_:IsD H v (jL b m sp))(_:H q=some (.tup (s.row.map V.int)))(_:sp[s.i]? =some x)(_:Q (.int (too x s.d)) H)
inductive spFirst (vs:List V)(H:Hp)(Q:VK)(_:XK):Prop
 | mk (v:V)(b m:Int)(sp:List Sn)(_:vs=[v])(_:IsD H v (jL b m sp))(_:sp.length≤1000)(_:∀ u H',Same H H'→IsD H' u (bndP (sp.map fun x=>(x.l,x.o)))→Q u H')
inductive spSum (vs:List V)(H:Hp)(Q:VK)(_:XK):Prop
 | mk (vb vw:V)(bs:List (Int×Int))(ws:List Stp)(_:vs=[vb,vw])(_:IsD H vb (bndP bs))(_:IsD H vw (mf ws))(_:oA bs.length ws)(_:∀ p H',Same H H'→H' p=some (.tup [.int (fg bs ws),.int (gY bs ws)])→Q (.ref p) H')
abbrev eQ {α:Type}(f:α→List Int)(xs:List α):List Dt:=xs.map fun x=> .tup ((f x).map Dt.int)
structure N3 (mg:Str→Option ae):Prop where
 tset:mg "set" =none
def TupK (H H':Hp):Prop:=∀ q xs,H q=some (.tup xs)→H' q=some (.tup xs)
theorem TupK.trans {H2:Hp}(a:TupK H H1)(b:TupK H1 H2):TupK H H2:=fun q xs h=>b q xs (a q xs h)
theorem Same.tupK (e:Same H H'):TupK H H':=fun _ _ h=>e _ _ h
theorem fF {p:ai}(hp:H p=some (.lst xs)):TupK H (upd H p o):=fun q ys h=>by rw [bw (eD h hp nofun)];exact h
theorem fh {α:Type}{f:α→List Int}{H H':Hp}(e:TupK H H'):∀ {xs:List α} {zs:List V},IsDs H zs (eQ f xs)→IsDs H' zs (eQ f xs)
 | [],_,h=>by cases h;exact .nil
 | x::xs,zs,h=>by
  unfold eQ at h ⊢;rw [bX] at h ⊢;cases h with
  | cons h1 h2 =>
   obtain ⟨q,ws,rfl,hq,rw'⟩:=h1.tup_of;have e2:=rw'.ints_of;subst e2;exact .cons (.tup (e q _ hq) (IsDs.ints _)) (fh e h2)
def BsU (bs:List (Int×Int)):Prop:=∀ q∈bs,0≤q.1∧q.1≤q.2∧q.2<10 ^ 60
def upB (b s:Int):Int:= -(-s / b)
inductive ng (vs:List V)(H:Hp)(Q:VK)(_:XK):Prop
 | mk (vn vb vw:V)(b m:Int)(sp:List Sn)(bs:List (Int×Int))(ws:List Stp)(_:vs=[vn,vb,vw])(_:IsD H vn (jL b m sp))(_:0<b)(_:b<10 ^ 61)(_:IsD H vb (bndP bs))(_:IsD H vw (mf ws))(_:oA bs.length ws)(_:∀ p H',Same H H'→H' p=some (.tup [.int (upB b (fg bs ws)),.int (gY bs ws / b)])→Q (.ref p) H')
inductive Lf where
 | ring (ws:List Stp)
 | price (rows:List (Int×List Stp))
abbrev rowD (r:Int×List Stp):Dt:= .tup [.int r.1,mf r.2]
def leafP:Lf→Dt
 | .ring ws=> .tup [.str "ring",mf ws]
 | .price rows=> .tup [.str "price",.tup (rows.map rowD)]
def i9 (b:Int)(bs:List (Int×Int))(ws:List Stp):Bool:=decide (upB b (fg bs ws) > gY bs ws / b)
def sureB (b:Int)(bs:List (Int×Int))(ws:List Stp):Bool:=decide (upB b (fg bs ws)=gY bs ws / b)
inductive spDead (vs:List V)(H:Hp)(Q:VK)(_:XK):Prop
 | mk (vn vb vw:V)(b m:Int)(sp:List Sn)(bs:List (Int×Int))(ws:List Stp)(_:vs=[vn,vb,vw])(_:IsD H vn (jL b m sp))(_:0<b)(_:b<10 ^ 61)(_:IsD H vb (bndP bs))(_:IsD H vw (mf ws))(_:oA bs.length ws)(_:∀ H',Same H H'→Q (.bl (i9 b bs ws)) H')
inductive spSure (vs:List V)(H:Hp)(Q:VK)(_:XK):Prop
 | mk (vn vb vw:V)(b m:Int)(sp:List Sn)(bs:List (Int×Int))(ws:List Stp)(_:vs=[vn,vb,vw])(_:IsD H vn (jL b m sp))(_:0<b)(_:b<10 ^ 61)(_:IsD H vb (bndP bs))(_:IsD H vw (mf ws))(_:oA bs.length ws)(_:∀ H',Same H H'→Q (.bl (sureB b bs ws)) H')
theorem IsDs.takeN {H:Hp}:∀ {xs:List V} {ds:List Dt} (n:Nat),IsDs H xs ds→IsDs H (xs.take n) (ds.take n)
 | _,_,0,_=> .nil
 | _,_,_+1,.nil=> .nil
 | _,_,n+1,.cons h r=> .cons h (IsDs.takeN n r)
theorem IsDs.dropN {H:Hp}:∀ {xs:List V} {ds:List Dt} (n:Nat),IsDs H xs ds→IsDs H (xs.drop n) (ds.drop n)
 | _,_,0,h=>h
 | _,_,_+1,.nil=> .nil
 | _,_,n+1,.cons _ r=>IsDs.dropN n r
def Along (sp:List Sn):Int→List Stp→Int→Prop
 | x,[],y=>x=y
 | x,s::ws,y=>kM sp s=x∧Along sp (fe sp s) ws y
theorem Along.append {sp:List Sn}:∀ {us:List Stp} {x y z:Int} {vs:List Stp},Along sp x us y→Along sp y vs z→Along sp x (us++vs) z
 | [],_,_,_,_,h,k=>by cases h;exact k
 | _::us,_,_,_,_,h,k=>⟨h.1,Along.append (us:=us) h.2 k⟩
theorem k4 {sp:List Sn}{d:Int}(h:j<sp.length):kM sp ⟨j,d⟩=frm sp[j] d:=by
 unfold kM;show (match sp[j]? with | some x=>frm x d | none=>0)=_;rw [gE h]
theorem jW {sp:List Sn}{d:Int}(h:j<sp.length):fe sp ⟨j,d⟩=too sp[j] d:=by
 unfold fe;show (match sp[j]? with | some x=>too x d | none=>0)=_;rw [gE h]
theorem ends_of_span {sp:List Sn}{st:Stp}{d:Int}(h:j<sp.length)(e:st.i=j)(hs:st.d=1∨st.d= -1)(hd:d=1∨d= -1):fe sp st=fe sp ⟨j,d⟩∨kM sp st=fe sp ⟨j,d⟩:=by
 obtain ⟨i,dd⟩:=st;have e:i=j:=e;subst e;have hs:dd=1∨dd= -1:=hs;rw [jW h,jW h,k4 h];unfold too frm
 rcases hs with rfl | rfl <;> rcases hd with rfl | rfl <;> simp
structure Bk (sp:List Sn)(be ou:Int)(x:Int)(ws:List Stp):Prop where
 inn:oA sp.length ws
 alo:Along sp be ws x
 one:(ws.map Stp.i).Nodup
 out:∀ s∈ws,(s.i:Int)≠ou
structure Rg (sp:List Sn)(ws:List Stp):Prop where
 inn:oA sp.length ws
 two:2≤ws.length
 few:ws.length≤17
 one:(ws.map Stp.i).Nodup
 rnd:∃ x,Along sp x ws x
theorem Bk.ring {sp:List Sn}{k:Nat}{ws:List Stp}(hk:k<sp.length)(hne:sp[k].s≠sp[k].g)(h:Bk sp sp[k].g (k:Nat) sp[k].s ws)(hl:ws.length≤16):Rg sp (⟨k,1⟩::ws):=by
 refine ⟨fun s hs=>?_,?_,by rw [aS];omega,?_,sp[k].s,?_,?_⟩
 ·rcases az.mp hs with rfl | hs
  ·exact ⟨hk,.inl rfl⟩
  ·exact h.inn s hs
 ·cases ws with
  | nil=>exact o6 h.alo.symm hne
  | cons a r=>rw [aS,aS];omega
 ·rw [bX,bF]
  refine ⟨fun z=>?_,h.one⟩;obtain ⟨st,hst,e⟩:=aV.mp z;exact h.out st hst (by rw [e])
 ·rw [k4 hk];rfl
 ·rw [jW hk];exact h.alo
inductive spWithB (vs:List V)(H:Hp)(Q:VK)(_:XK):Prop
 | mk (vb:V)(k:Nat)(lo hi:Int)(bs:List (Int×Int))(_:vs=[vb,.int (k:Nat),.int lo,.int hi])(_:IsD H vb (bndP bs))(_:k<bs.length)(_:bs.length≤40)(_:∀ u H',Same H H'→IsD H' u (bndP (bs.set k (lo,hi)))→Q u H')
inductive Tq where
 | leaf (d:Dt)
 | cut (k:Nat) (a:Int) (x y:Tq)
def jV:Tq→Dt
 | .leaf d=>d
 | .cut k a x y=> .tup [.str "cut",.int (k:Nat),.int a,jV x,jV y]
def ko (bs:List (Int×Int))(k:Nat)(a:Int):List (Int×Int):=bs.set k ((bs.getD k (0,0)).1,a)
def eY (bs:List (Int×Int))(k:Nat)(a:Int):List (Int×Int):=bs.set k (a+1,(bs.getD k (0,0)).2)
theorem one_len (bs:List (Int×Int))(k:Nat)(a:Int):(ko bs k a).length=bs.length:=by unfold ko;rw [gG]
theorem other_len (bs:List (Int×Int))(k:Nat)(a:Int):(eY bs k a).length=bs.length:=by unfold eY;rw [gG]
end HN
variable {S:List HN.Stp}{c:List (Int×List HN.Stp)×List Int}{rows:List (Int×List HN.Stp)}{rs:List (Nat×List HN.Stp)}{sp:List HN.Sn}
namespace L2
open PySem PyProof.Rows HN
mutual
theorem IsD.keepP {H H':Hp}(e:TupK H H'):∀ {v:V} {d:Dt},IsD H v d→pl d=true→IsD H' v d
 | _,_,.non,_=> .non
 | _,_,.bl b,_=> .bl b
 | _,_,.int i,_=> .int i
 | _,_,.str x,_=> .str x
 | _,_,.tup h r,p=> .tup (e _ _ h) (IsDs.keepP e r (by unfold pl at p;exact p))
 | _,_,.lst h,p=>by unfold pl at p;cases p
 | _,_,.dct h,p=>by unfold pl at p;cases p
theorem IsDs.keepP {H H':Hp}(e:TupK H H'):∀ {xs:List V} {ds:List Dt},IsDs H xs ds→pls ds=true→IsDs H' xs ds
 | _,_,.nil,_=> .nil
 | _,_,.cons h r,p=>by
  unfold pls at p;rw [dB] at p;exact .cons (IsD.keepP e h p.1) (IsDs.keepP e r p.2)
end
end L2
namespace HN
open PySem L2 PyProof.Rows
theorem j6 {α:Type}{f:α→Dt}:∀ (xs:List α),(∀ x∈xs,pl (f x)=true)→pls (xs.map f)=true
 | [],_=>by show pls []=true;unfold pls;rfl
 | x::xs,h=>by
  show pls (f x::xs.map f)=true;unfold pls;rw [h x (by simp),j6 xs fun y hy=>h y (au _ hy)];rfl
theorem pl_ints (ns:List Int):pl (.tup (ns.map Dt.int))=true:=by
 unfold pl;exact j6 ns fun x _=>by unfold pl;rfl
theorem kU (f:α→List Int)(xs:List α):pl (rowsP f xs)=true:=by
 unfold rowsP;unfold pl;exact j6 xs fun x _=>pl_ints (f x)
def RowOk (b:Int)(sp:List Sn)(bs:List (Int×Int))(r:Int×List Stp):Prop:=Rg sp r.2∧sureB b bs r.2=true∧ -1000000000000≤r.1∧r.1≤1000000000000
def LfOk (b:Int)(sp:List Sn)(bs:List (Int×Int)):Lf→Prop
 | .ring ws=>Rg sp ws∧i9 b bs ws=true
 | .price rows=>rows.length≤40∧∀ r∈rows,RowOk b sp bs r
theorem bY {m:Int}(e:TupK H H')(h:IsD H v (jL b m sp)):IsD H' v (jL b m sp):=by
 obtain ⟨t,xs,rfl,ht,rx⟩:=h.tup_of;cases rx with
 | cons h0 r0 =>
  cases r0 with
  | cons h1 r1 =>
   cases r1 with
   | cons h2 r2 =>
    cases r2;cases h0;cases h1;obtain ⟨p,ys,rfl,hp,ry⟩:=h2.tup_of;exact .tup (e _ _ ht) (.cons (.int _) (.cons (.int _) (.cons (.tup (e _ _ hp) (fh (f:=Sn.row) (xs:=sp) e ry)) .nil)))
inductive spWaitsN (vs:List V)(H:Hp)(Q:VK)(_:XK):Prop
 | mk (v:V)(u:ai)(b m:Int)(sp:List Sn)(ts:List Int)(_:vs=[v,.ref u])(_:IsD H v (jL b m sp))(_:H u=some (.tup (ts.map V.int)))(_:Rdy b ts sp)(_:∀ p H',Same H H'→H' p=some (.lst ((jG b ts sp).map V.int))→Q (.ref p) H')
def sideS (k:Int)(x:Sn):Sn:=⟨x.s+k,x.g+k,x.l,x.o,x.w⟩
theorem Rdy.side {k:Int}{t1 t2:List Int}{sp1 sp2:List Sn}(hk:(t1.length:Int)=k)(R1:Rdy b t1 sp1)(R2:Rdy b t2 sp2)(few:sp1.length+sp2.length≤1000):Rdy b (t1++t2) (sp1++sp2.map (sideS k)) :=
 ⟨R1.b1,by rw [av,aa];exact few,fun x hx=>by
  rw [av]
  rcases aM.mp hx with hx | hx
  ·obtain ⟨s0,s1,g0,g1⟩:=R1.ends x hx
   exact ⟨s0,by omega,g0,by omega⟩
  ·obtain ⟨y,hy,rfl⟩:=aV.mp hx
   obtain ⟨s0,s1,g0,g1⟩:=R2.ends y hy;show 0≤y.s+k∧y.s+k<((t1.length+t2.length:Nat):Int)∧0≤y.g+k∧y.g+k<((t1.length+t2.length:Nat):Int);omega⟩
structure Sides (b m1 m2:Int)(sp1 sp2:List Sn):Prop where
 N1:NetT b m1 sp1
 N2:NetT b m2 sp2
 m:m1+m2≤16
 few:sp1.length+sp2.length≤40
def TabsL (H:Hp)(b m:Int)(us:List V):Prop:=∀ u∈us,∃ (q:ai) (ts:List Int),u= .ref q∧H q=some (.tup (ts.map V.int))∧(ts.length:Int)=m
theorem TabsL.same {m:Int}{us:List V}(h:TabsL H b m us)(e:Same H H'):TabsL H' b m us:=fun u hu=>let ⟨q,ts,a,c,d⟩:=h u hu;⟨q,ts,a,e _ _ c,d⟩
theorem netP_rows {m:Int}(h:IsD H v (jL b m sp)):∃ t p ys,v= .ref t∧H t=some (.tup [.int b,.int m,.ref p])∧H p=some (.tup ys)∧IsDs H ys (eQ Sn.row sp):=by
 obtain ⟨t,xs,rfl,ht,rx⟩:=h.tup_of;cases rx with
 | cons h0 r0 =>
  cases r0 with
  | cons h1 r1 =>
   cases r1 with
   | cons h2 r2 =>
    cases r2;cases h0;cases h1;obtain ⟨p,ys,rfl,hp,ry⟩:=h2.tup_of;exact ⟨t,p,ys,rfl,ht,hp,ry⟩
def strS (n:Int)(x:Sn):Sn:=⟨x.s,x.g,x.l * n,x.o * n,x.w⟩
def strT (n:Int)(ts:List Int):List Int:=ts.map fun t=>t * n
theorem strT_len (n:Int)(ts:List Int):(strT n ts).length=ts.length:=by unfold strT;rw [aa]
theorem Rdy.str {n:Int}(R:Rdy b ts sp)(hn:0<n):Rdy (b * n) (strT n ts) (sp.map (strS n)) :=
 ⟨Int.mul_pos R.b1 hn,by rw [aa];exact R.few,fun x hx=>by
  obtain ⟨y,hy,rfl⟩:=aV.mp hx;rw [strT_len];exact R.ends y hy⟩
end HN
namespace L2
open PySem PySem.W PyProof.Rows
def Gd {α:Type}(lt:Nat→Nat→Bool)(n:Nat):KasT α→(α→Prop)→Prop
 | .ret a,P=>P a
 | .ask i j k,P=>i<n∧j<n∧Gd lt n (k (lt i j)) P
theorem Gd.mono {α:Type}{lt:Nat→Nat→Bool}{n:Nat}{P R:α→Prop}(h:∀ a,P a→R a):∀ {t:KasT α},Gd lt n t P→Gd lt n t R
 | .ret a,g=>h a g
 | .ask _ _ _,g=>⟨g.1,g.2.1,Gd.mono h g.2.2⟩
theorem Gd.bind {α β:Type}{lt:Nat→Nat→Bool}{n:Nat}{f:α→KasT β}{P:β→Prop}:∀ {t:KasT α},Gd lt n t (fun a=>Gd lt n (f a) P)→Gd lt n (t.bind f) P
 | .ret _,g=>g
 | .ask _ _ _,g=>⟨g.1,g.2.1,Gd.bind g.2.2⟩
theorem Gd.wp {α:Type}{lt:Nat→Nat→Bool}{n:Nat}{P:α→Prop}{cmp:Nat→Nat→(Bool→aq→Prop)→aq→Prop}{Q:α→aq→Prop}{s:aq}(hc:∀ i j C,i<n→j<n→C (lt i j) s→cmp i j C s)(hq:∀ a,P a→Q a s):∀ {t:KasT α},Gd lt n t P→t.kasWp cmp Q s
 | .ret a,g=>hq a g
 | .ask i j k,g=>hc i j _ g.1 g.2.1 (Gd.wp hc hq g.2.2)
structure Ord (lt:Nat→Nat→Bool)(n:Nat):Prop where
 tot:∀ i j,i<n→j<n→i≠j→lt i j=false→lt j i=true
 tr:∀ i j k,lt i j=true→lt j k=true→lt i k=true
abbrev gA (p:Array Nat)(i:Nat):Nat:=p.getD i 0
abbrev Pm (n:Nat)(p:Array Nat):Prop:=p.toList.Perm (aR n)
theorem ky:gA p i=p[i]?.getD 0:=by
 show p.getD i 0=_;rw [Array.getD_eq_getD_getElem?]
theorem Pm.size (h:Pm n p):p.size=n:=by
 have:=h.length_eq;rw [bt,cX] at this;exact this
theorem Pm.lt (h:Pm n p)(hi:i<n):gA p i<n:=by
 have hs:i<p.size:=by rw [h.size];exact hi
 have e:gA p i=p[i]:=by rw [ky,eR hs];rfl
 rw [e];have:p[i]∈p.toList:=by simp
 exact bQ.mp (h.mem_iff.mp this)
theorem Pm.ne (h:Pm n p)(hij:i<j)(hj:j<n):gA p i≠gA p j:=by
 have hd:p.toList.Nodup:=h.nodup_iff.mpr List.nodup_range;have si:i<p.toList.length:=by rw [cX,h.size];omega
 have sj:j<p.toList.length:=by rw [cX,h.size];omega
 have ei:gA p i=p.toList[i]:=by rw [ky,eR (by rw [h.size];omega)];simp
 have ej:gA p j=p.toList[j]:=by rw [ky,eR (by rw [h.size];omega)];simp
 rw [ei,ej];exact List.pairwise_iff_getElem.mp (bU.mp hd) i j si sj hij
theorem Pm.of {q:Array Nat}(h:Pm n p)(e:q.Perm p):Pm n q:=(Array.perm_iff_toList_perm.mp e).trans h
def SoA (lt:Nat→Nat→Bool)(p:Array Nat)(m:Nat):Prop:=∀ i j,i<j→j<m→lt (gA p i) (gA p j)=true
def DeA (lt:Nat→Nat→Bool)(p:Array Nat)(m:Nat):Prop:=∀ i j,i<j→j<m→lt (gA p j) (gA p i)=true
section
variable {lt:Nat→Nat→Bool}
theorem SoA.more (O:Ord lt n)(h:SoA lt p m)(h1:lt (gA p (m - 1)) (gA p m)=true):SoA lt p (m+1):=fun i j hij hj=>by
 by_cases e:j<m
 ·exact h i j hij e
 ·have ej:j=m:=by omega
  rw [ej]
  by_cases ei:i=m - 1
  ·rw [ei];exact h1
  ·exact O.tr _ _ _ (h i (m - 1) (by omega) (by omega)) h1
theorem DeA.more (O:Ord lt n)(h:DeA lt p m)(h1:lt (gA p m) (gA p (m - 1))=true):DeA lt p (m+1):=fun i j hij hj=>by
 by_cases e:j<m
 ·exact h i j hij e
 ·have ej:j=m:=by omega
  rw [ej]
  by_cases ei:i=m - 1
  ·rw [ei];exact h1
  ·exact O.tr _ _ _ h1 (h i (m - 1) (by omega) (by omega))
theorem asc_ok (O:Ord lt n){p:Array Nat}(hp:Pm n p):∀ (f m:Nat),1≤m→m+f=n→SoA lt p m→Gd lt n (kas_asc p f m) (fun r=>m≤r∧r≤n∧SoA lt p r∧(r<n→lt (gA p r) (gA p (r - 1))=true))
 | 0,m,_,h1,hs=>⟨aB _,by omega,hs,fun z=>o6 z (by omega)⟩
 | f+1,m,h0,h1,hs=>by
  refine ⟨hp.lt (by omega),hp.lt (by omega),?_⟩;cases c:lt (gA p m) (gA p (m - 1)) with
  | true =>
   exact ⟨aB _,by omega,hs,fun _=>c⟩
  | false =>
   have h2:=O.tot _ _ (hp.lt (by omega)) (hp.lt (by omega)) (hp.ne (by omega:m - 1<m) (by omega)).symm c;refine (asc_ok O hp f (m+1) (by omega) (by omega) (hs.more O h2)).mono fun r ⟨a,b,cc,d⟩=>⟨by omega,b,cc,d⟩
theorem desc_ok (O:Ord lt n){p:Array Nat}(hp:Pm n p):∀ (f m:Nat),1≤m→m+f=n→DeA lt p m→Gd lt n (kas_desc f p m 0) (fun r=>r.1=p∧r.2.2=0∧m≤r.2.1∧r.2.1≤n∧DeA lt p r.2.1)
 | 0,m,_,h1,hs=>⟨rfl,rfl,aB _,by show m≤n;omega,hs⟩
 | f+1,m,h0,h1,hs=>by
  refine ⟨hp.lt (by omega),hp.lt (by omega),?_⟩;cases c:lt (gA p m) (gA p (m - 1)) with
  | true =>
   refine (desc_ok O hp f (m+1) (by omega) (by omega) (hs.more O c)).mono fun r ⟨a,b,cc,d,e⟩=>⟨a,b,by omega,d,e⟩
  | false =>
   have h2:=O.tot _ _ (hp.lt (by omega)) (hp.lt (by omega)) (hp.ne (by omega:m - 1<m) (by omega)).symm c;refine ⟨hp.lt (by omega),hp.lt (by omega),?_⟩;show Gd lt n (if (lt (gA p (m - 1)) (gA p m))=true then KasT.ret (p,m,0) else kas_desc f p (m+1) (0+1)) _;rw [o4 h2];exact ⟨rfl,rfl,aB _,by show m≤n;omega,hs⟩
theorem rev_ok (hp:Pm n p)(hm:m≤n):Pm n (kas_rev p 0 m):=hp.of (mirror_perm _ _ _ _)
theorem rev_so (hp:Pm n p)(hm:m≤n)(h:DeA lt p m):SoA lt (kas_rev p 0 m) m:=fun i j hij hj=>by
 have e:∀ k,k<m→gA (kas_rev p 0 m) k=gA p (m - 1 - k):=fun k hk=>by
  rw [ky,ky];have:=getElem?_mirror_all (xs:=p) (i:=0) (j:=m) (by rw [hp.size];exact hm) k;unfold kas_rev;rw [this,o4 ⟨bK _,hk⟩];congr 2;omega
 rw [e i (by omega),e j hj];exact h _ _ (by omega) (by omega)
theorem tail_ok (O:Ord lt n)(hp:Pm n p)(h1:1≤m)(hm:m≤n)(h:DeA lt p m):Gd lt n (kas_tail3 m n p) (fun r=>Pm n r.2∧1≤r.1∧r.1≤n∧SoA lt r.2 r.1):=by
 unfold kas_tail3;refine Gd.bind ((asc_ok O (rev_ok hp hm) (n - m) m h1 (by omega) (rev_so hp hm h)).mono fun r ⟨a,b,c,_⟩=>?_);exact ⟨rev_ok hp hm,by show 1≤r;omega,b,c⟩
theorem count_ok (O:Ord lt n)(h1:1≤n)(hp:Pm n p):Gd lt n (kas_count n p) (fun r=>Pm n r.2∧1≤r.1∧r.1≤n∧SoA lt r.2 r.1):=by
 unfold kas_count;refine Gd.bind ((asc_ok O hp (n - 1) 1 (aB _) (by omega) (fun i j a b=>o6 a (by omega))).mono fun r ⟨a,b,c,d⟩=>?_)
 by_cases e:r=n
 ·rw [o4 (by rw [e];exact beq_self_eq_true n)]
  exact ⟨hp,a,b,c⟩
 ·rw [oZ (by rw [beq_iff_eq];exact e)]
  by_cases e2:r > 1
  ·rw [o4 e2]
   refine ⟨hp.lt (by omega),hp.lt (by omega),?_⟩;show Gd lt n (if (lt (gA p 0) (gA p (r - 1)))=true then KasT.ret (r,p) else _) _;rw [o4 (c 0 (r - 1) (by omega) (by omega))];exact ⟨hp,a,b,c⟩
  ·rw [oZ e2]
   have er:r=1:=by omega
   subst er;have hn:1<n:=by omega
   have dd:=d hn;unfold kas_descPart;refine Gd.bind ((desc_ok O hp (n - (1+1)) (1+1) (by omega) (by omega) (fun i j x y=>by
    have ei:i=0:=by omega
    have ej:j=1:=by omega
    rw [ei,ej];exact dd)).mono fun q ⟨q1,q2,q3,q4,q5⟩=>?_)
   rw [oZ (by rw [q2];omega),q1];exact tail_ok O hp (by omega) q4 q5
theorem place_ok (O:Ord lt n){p:Array Nat}(hp:Pm n p){k:Nat}(hk:k<n)(hs:SoA lt p k):∀ (f l r:Nat),l≤r→r≤k→r - l≤f→(∀ i,i<l→lt (gA p i) (gA p k)=true)→(∀ i,r≤i→i<k→lt (gA p k) (gA p i)=true)→Gd lt n (kas_place p k f l r) (fun m=>m≤k∧(∀ i,i<m→lt (gA p i) (gA p k)=true)∧∀ i,m≤i→i<k→lt (gA p k) (gA p i)=true)
 | 0,l,r,h1,h2,h3,a,b=>⟨by omega,a,fun i x y=>b i (by omega) y⟩
 | f+1,l,r,h1,h2,h3,a,b=>by
  show Gd lt n (if l ≥ r then KasT.ret l else KasT.ask (gA p k) (gA p ((l+r) / 2)) fun c=>if c=true then kas_place p k f l ((l+r) / 2) else kas_place p k f ((l+r) / 2+1) r) _
  by_cases e:l ≥ r
  ·rw [o4 e]
   exact ⟨by omega,a,fun i x y=>b i (by omega) y⟩
  ·rw [oZ e]
   refine ⟨hp.lt hk,hp.lt (by omega),?_⟩;cases c:lt (gA p k) (gA p ((l+r) / 2)) with
   | true =>
    refine place_ok O hp hk hs f l ((l+r) / 2) (by omega) (by omega) (by omega) a fun i x y=>?_
    by_cases ei:i=(l+r) / 2
    ·rw [ei];exact c
    ·exact O.tr _ _ _ c (hs _ _ (by omega) y)
   | false =>
    have h5:=O.tot _ _ (hp.lt hk) (hp.lt (by omega)) (hp.ne (by omega:(l+r) / 2<k) hk).symm c;refine place_ok O hp hk hs f ((l+r) / 2+1) r (by omega) h2 (by omega) (fun i x=>?_) b
    by_cases ei:i=(l+r) / 2
    ·rw [ei];exact h5
    ·exact O.tr _ _ _ (hs i _ (by omega:i<(l+r) / 2) (by omega)) h5
theorem bub_so (O:Ord lt n)(hp:Pm n p){k:Nat}(hk:k<n)(hm:m≤k)(hs:SoA lt p k)(a:∀ i,i<m→lt (gA p i) (gA p k)=true)(b:∀ i,m≤i→i<k→lt (gA p k) (gA p i)=true):SoA lt (bubble p k (k - m)) (k+1):=fun i j hij hj=>by
 have e:∀ x,gA (bubble p k (k - m)) x=if x=m then gA p k else if m<x∧x≤k then gA p (x - 1) else gA p x:=fun x=>by
  have:=getElem?_bubble (xs:=p) (src:=k) (by rw [hp.size];exact hk) (k - m) (by omega) x;have e0:k - (k - m)=m:=by omega
  rw [e0] at this;rw [ky,this]
  by_cases h1:x=m
  ·rw [o4 h1,o4 h1,ky]
  ·rw [oZ h1,oZ h1]
   by_cases h2:m<x∧x≤k
   ·rw [o4 h2,o4 h2,ky]
   ·rw [oZ h2,oZ h2,ky]
 rw [e i,e j]
 by_cases i1:i=m
 ·rw [o4 i1,oZ (by omega),o4 (by omega)]
  exact b _ (by omega) (by omega)
 ·rw [oZ i1]
  by_cases i2:m<i∧i≤k
  ·rw [o4 i2,oZ (by omega),o4 (by omega)]
   exact hs _ _ (by omega) (by omega)
  ·rw [oZ i2]
   by_cases j1:j=m
   ·rw [o4 j1];exact a _ (by omega)
   ·rw [oZ j1]
    by_cases j2:m<j∧j≤k
    ·rw [o4 j2];exact hs _ _ (by omega) (by omega)
    ·rw [oZ j2];exact hs _ _ hij (by omega)
theorem bin_ok (O:Ord lt n):∀ (f:Nat) (p:Array Nat) (k:Nat),k+f=n→Pm n p→SoA lt p k→Gd lt n (kas_bin f p k) (fun q=>Pm n q∧SoA lt q n)
 | 0,p,k,h1,hp,hs=>by
  have e:k=n:=by omega
  rw [e] at hs;exact ⟨hp,hs⟩
 | f+1,p,k,h1,hp,hs=>by
  show Gd lt n ((kas_place p k k 0 k).bind fun l=>kas_bin f (bubble p k (k - l)) (k+1)) _;refine Gd.bind ((place_ok O hp (by omega) hs k 0 k (bK _) (aB _) (by omega) (fun i x=>o6 x (by omega)) (fun i x y=>o6 x (by omega))).mono fun m ⟨m1,m2,m3⟩=>?_);exact bin_ok O f _ (k+1) (by omega) (hp.of (bubble_perm _ _ _)) (bub_so O hp (by omega) m1 hs m2 m3)
theorem sort_ok (O:Ord lt n)(h1:1≤n):Gd lt n (kas_sort n) (fun q=>Pm n q∧SoA lt q n):=by
 unfold kas_sort;refine Gd.bind ((count_ok O h1 (p:=(aR n).toArray) (by show (aR n).toArray.toList.Perm _;rw [eO])).mono fun r ⟨a,b,c,d⟩=>?_)
 by_cases e:r.1<n
 ·rw [o4 e]
  have em:max r.1 1=r.1:=by omega
  rw [em];exact bin_ok O _ _ _ (by omega) a d
 ·rw [oZ e]
  have er:r.1=n:=by omega
  rw [er] at d;exact ⟨a,d⟩
end
theorem nh {out:Array ae}{b:ai}{u:Obj}(hb:b≠a)(e:h.get? b=some u):(sortedHeap h a vs out).get? b=some u:=by
 unfold sortedHeap;rw [gq _ _ _ _ hb];exact ar _ (ar _ (by rw [gq _ _ _ _ hb];exact e))
theorem sortedHeap_at {out:Array ae}(e:h.get? a=some (bJ "list" vs.toArray n)):∃ c,(sortedHeap h a vs out).get? a=some (bJ "list" out c):=by
 unfold sortedHeap;exact ⟨_,gh (ar _ (ar _ (gh e fun _=> #[]))) fun _=>out⟩
def preAll (h:bL)(vs:List ae):bL:=((h.push (bJ "list" #[] 0)).update h.objs.size (cA (· ++ vs.toArray))).push (bJ "list" vs.toArray 0)
theorem preAll_keep {b:ai}{u:Obj}(e:h.get? b=some u):(preAll h vs).get? b=some u:=by
 have hb:=aL e;exact ar _ (by rw [gq _ _ _ _ (bI hb)];exact ar _ e)
theorem preAll_at:(preAll h vs).get? (h.objs.size+1)=some (bJ "list" vs.toArray 0):=by
 have hsz:((h.push (bJ "list" #[] 0)).update h.objs.size (cA (· ++ vs.toArray))).objs.size=h.objs.size+1:=by
  rw [bL.size_update,size_push']
 unfold preAll;rw [←hsz];exact aZ _ rfl
theorem call_sortedI:CallR X (.builtin "sorted") (fun xs H Q=>∃ (p:ai) (ns:List Int),xs=[.ref p]∧SqL X.K H p (ns.map V.int)∧ns.length<64∧∀ (l:ai) (ns':List Int),H l=none→ns'.Perm ns→ns'.Pairwise (· ≤ ·)→Q (.ref l) (upd H l (.lst (ns'.map V.int)))):=by
 intro aN s σ H xs us Q I r h;obtain ⟨p,ns,rfl,hq,hn,q⟩:=h;obtain ⟨u,rfl,ru⟩:=vals1 r;cases (show u=ae.ref p from ru);obtain ⟨its,rv,pl,hz⟩:=I.list hq;have hl:its.length=ns.length:=by rw [←rv.length,aa]
 refine sorted_ints pl.isList (ints_are rv) (by omega) fun out ns' a1 a2 a3=>?_
 obtain ⟨c,hc⟩:=sortedHeap_at (h:=preAll s.heap its) (vs:=its) (out:=out) preAll_at;refine ⟨.ref (s.heap.objs.size+1),_,I.laid (o:= .lst (ns'.map V.int)) (t':=s.toks) (fun b u e=>nh (bI (gU (aL e))) (preAll_keep e)) (Nat.le_succ _) ⟨?_,out.toList,c,mU a1,?_⟩,rfl,q _ ns' (I.hok.fresh (Nat.le_succ _)) a2 a3⟩
 ·rw [aa,a2.length_eq];exact aY (by omega:ns.length≤1000) (by decide)
 ·rw [Array.toArray_toList];exact hc
def jK (h:bL)(a:ai)(vs:List ae):bL:=((h.update a (cA fun _=>(#[]:Array ae))).push (bJ "tuple" vs.toArray 0)).push (bJ "list" #[] 0)
theorem mid_keep {b:ai}{u:Obj}(hb:b≠a)(e:h.get? b=some u):(jK h a vs).get? b=some u :=
 ar _ (ar _ (by rw [gq _ _ _ _ hb];exact e))
def ltP (k m:Int×Int):Bool:=if (k.1 == m.1)=true then (if (k.2 == m.2)=true then false else decide (k.2<m.2)) else decide (k.1<m.1)
theorem ltP_iff {k m:Int×Int}:ltP k m=true↔(k.1<m.1∨(k.1=m.1∧k.2<m.2)):=by
 unfold ltP
 by_cases h1:k.1=m.1
 ·rw [o4 (by rw [beq_iff_eq];exact h1)]
  by_cases h2:k.2=m.2
  ·rw [o4 (by rw [beq_iff_eq];exact h2)]
   constructor
   ·intro h;cases h
   ·intro h;omega
  ·rw [oZ (by rw [beq_iff_eq];exact h2),decide_eq_true_eq]
   omega
 ·rw [oZ (by rw [beq_iff_eq];exact h1),decide_eq_true_eq]
  omega
abbrev kyP (ks:List (Int×Int))(i:Nat):Int×Int:=ks.getD i (0,0)
theorem kyP_at (h:i<ks.length):kyP ks i=ks[i]:=by
 show ks.getD i (0,0)=_;rw [ag,gE h];rfl
theorem ord_of (h:ks.Nodup):Ord (fun i j=>ltP (kyP ks i) (kyP ks j)) ks.length:=by
 refine ⟨fun i j hi hj hne hf=>?_,fun i j k h1 h2=>?_⟩
 ·show ltP (kyP ks j) (kyP ks i)=true
  have hn:kyP ks i≠kyP ks j:=by
   rw [kyP_at hi,kyP_at hj];intro e;exact hne ((List.getElem_inj h).mp e)
  have hf:¬ ltP (kyP ks i) (kyP ks j)=true:=by
   show ¬ ltP (kyP ks i) (kyP ks j)=true;rw [show ltP (kyP ks i) (kyP ks j)=false from hf];decide
  rw [ltP_iff] at hf ⊢;have:¬ ((kyP ks i).1=(kyP ks j).1∧(kyP ks i).2=(kyP ks j).2):=fun z=>hn (Prod.ext z.1 z.2)
  omega
 ·have h1:ltP (kyP ks i) (kyP ks j)=true:=h1
  have h2:ltP (kyP ks j) (kyP ks k)=true:=h2;show ltP (kyP ks i) (kyP ks k)=true;rw [ltP_iff] at h1 h2 ⊢;omega
def PrsAt (h:bL)(vs:List ae)(ks:List (Int×Int)):Prop:=vs.length=ks.length∧∀ (i:Nat) (v:ae) (k:Int×Int),vs[i]? =some v→ks[i]? =some k→∃ a o t u n,v= .ref a∧h.get? a=some o∧o.cls= .type "tuple" ∧o.data= .seq #[.int k.1 t,.int k.2 u] n
theorem prs_tups {h:bL}:∀ {vs:List ae} {ks:List (Int×Int)},PrsAt h vs ks→∃ fs:List ae,KatTups h vs fs∧fs.length=vs.length∧∀ f∈fs,∃ i t,f=ae.int i t
 | [],[],_=>⟨[],trivial,rfl,fun f hf=>o6 hf (by simp)⟩
 | [],_::_,p=>o6 p.1 (by simp)
 | _::_,[],p=>o6 p.1 (by simp)
 | v::vs,k::ks,p=>by
  obtain ⟨fs,t1,t2,t3⟩:=prs_tups (vs:=vs) (ks:=ks) ⟨by have:=p.1;simp only [aS] at this;omega,fun i v' k' e1 e2=>p.2 (i+1) v' k' (by simpa using e1) (by simpa using e2)⟩;obtain ⟨a,o,t,u,n,rfl,q2,q3,q4⟩:=p.2 0 v k rfl rfl;refine ⟨.int k.1 t::fs,KatTups.cons q2 q3 q4 rfl t1,by rw [aS,aS,t2],fun f hf=>?_⟩
  rcases az.mp hf with rfl | hf
  ·exact ⟨_,_,rfl⟩
  ·exact t3 f hf
theorem prs_kind (p:PrsAt s.heap vs ks)(h1:1≤vs.length){Q:SortKind→aq→Prop}(q:Q (tuples' true) s):aX (br prog w) A (keyKind' vs.toArray) Q E s:=by
 obtain ⟨fs,t1,t2,t3⟩:=prs_tups p;have e1:((ae.type "int" :ae) == ae.type "int")=true:=by trivial
 have e2:((ae.type "int" :ae) != ae.type "tuple")=true:=by trivial
 refine kat_kind (T:= .type "int") t1 (by omega) (fun v hv=>?_) e1 (by rw [e2];exact q);obtain ⟨i,t,rfl⟩:=t3 v hv;exact Looks.of_pure rfl
theorem prs_ask (p:PrsAt s.heap vs ks)(hi:i<vs.length)(hj:j<vs.length){C:Bool→aq→Prop}(c:C (ltP (kyP ks i) (kyP ks j)) s):kas_ask prog w A (tuples' true) vs i j C s:=by
 have li:=p.1;obtain ⟨a,o,t,u,n,e1,q2,q3,q4⟩:=p.2 i vs[i] ks[i] (gE hi) (gE (by omega));obtain ⟨a',o',t',u',n',e1',q2',q3',q4'⟩:=p.2 j vs[j] ks[j] (gE hj) (gE (by omega));unfold kas_ask;have ei:vs.getD i ae.none= .ref a:=by rw [ag,gE hi];exact e1
 have ej:vs.getD j ae.none= .ref a':=by rw [ag,gE hj];exact e1'
 rw [ei,ej];rw [kyP_at (by omega),kyP_at (by omega)] at c;refine kat_lt q2 q4 q2' q4' ?_;refine kat_cons (wpAny_eqBool_int ?_);unfold ltP at c
 by_cases h1:(ks[i].1 == ks[j].1)=true
 ·rw [o4 h1] at c
  rw [h1];refine kat_yes (kat_cons (wpAny_eqBool_int ?_))
  by_cases h2:(ks[i].2 == ks[j].2)=true
  ·rw [o4 h2] at c
   rw [h2];exact kat_yes (kat_nil c)
  ·rw [oZ h2] at c
   rw [i3.mpr h2];exact kat_no (kat_one _ _ (lt_int (Q:=PySem.W.BoolBack C) c))
 ·rw [oZ h1] at c
  rw [i3.mpr h1];exact kat_no (oneLt_int c)
def om (h:bL)(kS a:ai)(out:List ae):bL:=(h.update kS (cA fun _=>(#[]:Array ae))).update a (cA fun _=>out.toArray)
theorem key_tail {kS:ai}{st:SortSt}{out ks:List ae}{e e1:Nat}{P:PySem.Fin→aq→Prop}(hout:(arrOf st).map (·.2)=iU out)(hz:out.length<64)(hkz:ks.length<64)(hf:failedOf st=none)
  (hk:s.heap.get? kS=some (bJ "list" ks.toArray e)) (ha:s.heap.get? a=some (bJ "list" #[] e1)) (hne:kS≠a)
  (h:P (.done (.ret .none)) { s with heap:=om s.heap kS a out }):aX (br prog w) A (ksk_tail a false e1 (.ref kS) st) P E s:=by
 have na:(s.heap.update kS (cA fun _=>(#[]:Array ae))).get? a=some (bJ "list" #[] e1):=by
  rw [gq _ _ _ _ (cw hne)];exact ha
 unfold ksk_tail
 try dsimp only
 rw [hout];refine ah (listUpdate_at hk rfl ?_ (by rw [aG,fS];omega) (bK _));refine ah (jH ?_);refine ah (seqEpoch_at na rfl ?_);refine ah (listUpdate_at na rfl ?_ (bK _) (by show (if false=true then _ else out.toArray).size≤_;rw [oZ (by decide),aG,fS];omega));rw [hf];simp only [bne_self_eq_false,Bool.false_eq_true,if_false];exact aO h
theorem key_end {kS:ai}{ks:List ae}{e e1:Nat}{κ:SortKind}{lt:Nat→Nat→Bool}{P:PySem.Fin→aq→Prop}(hl:ks.length=vs.length)(h2:2≤vs.length)(h64:vs.length<64)(O:Ord lt vs.length)
  (hk:s.heap.get? kS=some (bJ "list" ks.toArray e)) (ha:s.heap.get? a=some (bJ "list" #[] e1)) (hne:kS≠a)
  (hkk:∀ Q:SortKind→aq→Prop,Q κ s→aX (br prog w) A (keyKind' ks.toArray) Q (fun _ _=>False) s)
  (hc:∀ i j C,i<vs.length→j<vs.length→C (lt i j) s→kas_ask prog w A κ ks i j C s)
  (h:∀ p:Array Nat,Pm vs.length p→SoA lt p vs.length→P (.done (.ret .none)) { s with heap:=om s.heap kS a (p.toList.map fun i=>vs.getD i ae.none) }) :
  aX (br prog w) A (ksk_end a false vs.toArray e1 (.ref kS) ks.toArray) P E s:=by
 have hn2:¬ vs.toArray.size<2:=by rw [aG];omega
 unfold ksk_end
 try dsimp only
 rw [oZ (by decide),oZ hn2,oZ hn2,oZ (by decide)];refine ah (b9 (hkk (fun κ' s'=>κ'=κ∧s'=s) ⟨rfl,rfl⟩) (fun κ' s0 z=>?_) fun _ _ x=>x.elim);obtain ⟨z1,z2⟩:=z;subst z1;subst z2;have G:=(sort_ok O (by omega)).wp (cmp:=kas_ask prog w A κ' ks) (s:=s0) (Q:=fun p s'=>s'=s0∧Pm vs.length p∧SoA lt p vs.length) hc (fun p hp=>⟨rfl,hp.1,hp.2⟩);refine ah (b9 (kat_run (Q:=fun st' s'=>∃ p:Array Nat,p.size=vs.length∧arrOf st'=p.map (kas_item (ks.toArray.zip vs.toArray))∧failedOf st'=none∧s'=s0∧Pm vs.length p∧SoA lt p vs.length) hl h2 h64 (fun p' st' s' a1 a2 a3 a4=>⟨p',a1,a2,a3,a4.1,a4.2.1,a4.2.2⟩) G) ?_ fun _ _ e=>e);rintro ⟨⟨⟩,st'⟩ s' ⟨p,hp,har,hf,rfl,pm,so⟩
 try dsimp only
 exact key_tail (kat_snds hl har) (by rw [aa,cX,hp];exact h64) (by omega) hf hk ha hne (h p pm so)
theorem key_fold {f:ae}{kS:ai}{body:ae→PUnit→Sem (ForInStep PUnit)}(J:List ae→aq→Prop)(vs:List ae)(h64:vs.length<64)
  (hb:∀ x ks e (t:aq),ks.length<64→t.heap.get? kS=some (bJ "list" ks.toArray e) →
   aX (br prog w) A (call f [x]) (fun k t'=>t'.heap.get? kS=some (bJ "list" ks.toArray e)∧∀ h' c,dA kS t'.heap h'→h'.get? kS=some (bJ "list" (ks++[k]).toArray c)→J (ks++[k]) { t' with heap:=h' }) (fun _ _=>False) t →
   aX (br prog w) A (body x ⟨⟩) (fun r t'=>r= .yield ⟨⟩∧∃ k c,t'.heap.get? kS=some (bJ "list" (ks++[k]).toArray c)∧J (ks++[k]) t') E t)
  (hc:∀ ks x e (t:aq),vs[ks.length]? =some x→J ks t→t.heap.get? kS=some (bJ "list" ks.toArray e) →
   aX (br prog w) A (call f [x]) (fun k t'=>t'.heap.get? kS=some (bJ "list" ks.toArray e)∧∀ h' c,dA kS t'.heap h'→h'.get? kS=some (bJ "list" (ks++[k]).toArray c)→J (ks++[k]) { t' with heap:=h' }) (fun _ _=>False) t) :
  ∀ (r ks:List ae) (e:Nat) (t:aq),vs=vs.take ks.length++r→ks.length+r.length=vs.length→t.heap.get? kS=some (bJ "list" ks.toArray e)→J ks t →
   aX (br prog w) A (forIn r PUnit.unit body) (fun _ t'=>∃ ks e,t'.heap.get? kS=some (bJ "list" ks.toArray e)∧ks.length=vs.length∧J ks t') E t
 | [],ks,e,t,_,hl,hk,j=>by
  rw [List.forIn_nil];exact aO ⟨ks,e,hk,by simpa using hl,j⟩
 | x::r,ks,e,t,hv,hl,hk,j=>by
  rw [aS] at hl;rw [List.forIn_cons];have hx:vs[ks.length]? =some x:=by
   rw [hv,bV (by rw [bG];omega),bG,show ks.length - min ks.length vs.length=0 by omega];rfl
  refine ah (b9 (hb x ks e t (by omega) hk (hc ks x e t hx j hk)) (fun q t' hq=>?_) fun _ _ z=>z);obtain ⟨rfl,k,c,hk',j'⟩:=hq;show aX (br prog w) A (forIn r PUnit.unit body) _ E t';refine key_fold J vs h64 hb hc r (ks++[k]) c t' ?_ (by rw [av,fR];omega) hk' j';rw [av,fR,bg,hx]
  simpa using hv
theorem key_rest {kS:ai}{f:ae}{e1:Nat}{P:PySem.Fin→aq→Prop}(J:List ae→aq→Prop)(h64:vs.length<64)(hk:s.heap.get? kS=some (bJ "list" #[] 0))(j0:J [] s)
  (hc:∀ ks x e (t:aq),vs[ks.length]? =some x→J ks t→t.heap.get? kS=some (bJ "list" ks.toArray e) →
   aX (br prog w) A (call f [x]) (fun k t'=>t'.heap.get? kS=some (bJ "list" ks.toArray e)∧∀ h' c,dA kS t'.heap h'→h'.get? kS=some (bJ "list" (ks++[k]).toArray c)→J (ks++[k]) { t' with heap:=h' }) (fun _ _=>False) t)
  (h:∀ ks e (t:aq),ks.length=vs.length→J ks t→t.heap.get? kS=some (bJ "list" ks.toArray e)→aX (br prog w) A (ksk_end a false vs.toArray e1 (.ref kS) ks.toArray) P E t) :
  aX (br prog w) A (ksk_rest a f false vs.toArray e1 (.ref kS)) P E s:=by
 unfold ksk_rest;refine ah (wpAny_rule ?_)
 first
  | rw [List.forIn_toArray]
  | (rw [←Array.forIn_toList];simp only [eO])
  | rw [←Array.forIn_toList]
 refine ah (b9 (key_fold J vs h64 (fun x ks e t hz ht hx=>?_) hc vs [] 0 s (by simp) (by simp) hk j0) (fun _ t hd=>?_) fun _ _ z=>z)
 ·refine ah (wpAny_attempt (b9 hx (fun k t' hk=>?_) fun _ _ hF=>hF.elim))
  obtain ⟨k1,k2⟩:=hk;have s1:=fW t'.heap kS (cA (·.push k));have ea:(iU ks).push k=iU (ks++[k]):=by simp
  obtain ⟨c2,hc2⟩:∃ c2,(t'.heap.update kS (cA (·.push k))).get? kS=some (bJ "list" (iU (ks++[k])) c2):=⟨_,by rw [←ea];exact gh k1 (·.push k)⟩
  try dsimp only
  refine ah (listUpdate_at k1 rfl ?_ (by rw [aG,fS];omega) (aY (Nat.le_of_eq (Array.size_push ..)) (by rw [aG,fS];omega)));exact aO ⟨rfl,k,c2,hc2,k2 _ c2 s1 hc2⟩
 ·obtain ⟨ks,e,hk',hl,j⟩:=hd
  try dsimp only
  refine ah (listItems_at hk' rfl ?_);exact h ks e t hl j hk'
theorem collect_range {r:ai}{a c:Int}{t u v:Tok}{Q:List ae→aq→Prop}(hh:A.handled=none)(hr:IsRange s.heap r a b c t u v)(hsmall:gN a b c=true)(hn:dM a b c=n)(hlen:n≤2 ^ 24)
  (h:∀ h' tk acc,(∀ b o,s.heap.get? b=some o→h'.get? b=some o)→s.heap.objs.size<h'.objs.size→ItemsOf (fun i v=>∃ t,v= .int (a+i * c) t) acc n→Q acc.toList { s with heap:=h',toks:=tk }) :
  aX (br prog w) A (collect (.ref r)) Q E s:=by
 unfold collect;refine ah (wpAny_runValue (jS entry_proto_collect' ?_));show aX _ _ (do again (.builtin "list.__iadd__" ⟨[←newList [],.ref r],[]⟩)) _ _ s;refine ah (wpAny_newList (aO ⟨Code.quiet_builtin _ (by trivial),jS entry_list_iadd' ?_⟩));have key:=wpAny_extend_range (prog:=prog) (w:=w) (A:=A) (s:={ s with heap:=s.heap.push (bJ "list" #[] 0) }) (R:=fun r s'=>match r with
   | .ok (.ret v)=>aX (br prog w) A (match v with
    | .ref a=>do
     let o ← load a
     match o.data with
     | .seq xs _=>fH xs.toList
     | _=>unsupported "internal:collect"
    | _=>unsupported "internal:collect") Q E s'
   | .ok _=>False
   | .error e=>E e s') hh (ar _ hr) hsmall hn hlen s.heap.objs.size (.ref s.heap.objs.size) 0 (aZ _ rfl) (fun h' tk acc c' hk hS hacc=>by
  show aX (br prog w) A (do
    let o ← load s.heap.objs.size
    match o.data with
    | .seq xs _=>fH xs.toList
    | _=>unsupported "internal:collect") Q E { s with heap:=h',toks:=tk }
  refine ah (wpAny_load hS ?_);exact aO (h h' tk acc (fun b o e=>hk b o (bI (aL e)) (ar _ e)) (aL hS) hacc))
 exact key
def KeyDo (prog:aW)(w:bx)(B:bS)(f:ae)(vs:List ae)(kS D:ai)(e1:Nat)(Q:aq→Prop)(s1:aq):Prop :=
 ∃ J:List ae→aq→Prop,J [] s1 ∧
  (∀ ks x e (t:aq),vs[ks.length]? =some x→J ks t→t.heap.get? kS=some (bJ "list" ks.toArray e) →
   aX (br prog w) B (call f [x]) (fun k t'=>t'.heap.get? kS=some (bJ "list" ks.toArray e)∧∀ h' c,dA kS t'.heap h'→h'.get? kS=some (bJ "list" (ks++[k]).toArray c)→J (ks++[k]) { t' with heap:=h' }) (fun _ _=>False) t) ∧
  ∀ ks (t:aq),ks.length=vs.length→J ks t→t.heap.get? D=some (bJ "list" #[] e1)∧∃ κ lt,Ord lt vs.length ∧
   (2≤vs.length→∀ Q:SortKind→aq→Prop,Q κ t→aX (br prog w) B (keyKind' ks.toArray) Q (fun _ _=>False) t) ∧
   (∀ i j C,i<vs.length→j<vs.length→C (lt i j) t→kas_ask prog w B κ ks i j C t) ∧
   ∀ p:Array Nat,Pm vs.length p→SoA lt p vs.length→Q { t with heap:=om t.heap kS D (p.toList.map fun i=>vs.getD i ae.none) }
theorem zip_snd:∀ (ks vs:List ae),ks.length=vs.length→(ks.zip vs).map (·.2)=vs
 | [],[],_=>rfl
 | [],_::_,h=>by cases h
 | _::_,[],h=>by cases h
 | _::ks,v::vs,h=>by
  show v::(ks.zip vs).map (·.2)=v::vs;rw [zip_snd ks vs (by simpa using h)]
theorem key_end_few {kS:ai}{ks:List ae}{e e1:Nat}{P:PySem.Fin→aq→Prop}(hl:ks.length=vs.length)(h2:vs.length<2)
  (hk:s.heap.get? kS=some (bJ "list" ks.toArray e)) (ha:s.heap.get? a=some (bJ "list" #[] e1)) (hne:kS≠a)
  (h:P (.done (.ret .none)) { s with heap:=om s.heap kS a vs }) :
  aX (br prog w) A (ksk_end a false vs.toArray e1 (.ref kS) ks.toArray) P E s:=by
 have hn2:vs.toArray.size<2:=by rw [aG];omega
 unfold ksk_end
 try dsimp only
 rw [oZ (by decide),o4 hn2,o4 hn2,oZ (by decide)];refine ah (aO ?_);rw [StateT.run_pure];refine ah (aO ?_)
 try dsimp only
 refine key_tail (out:=vs) ?_ (by omega) (by omega) rfl hk ha hne h;show (ks.toArray.zip vs.toArray).map (·.2)=vs.toArray
 apply Array.toList_inj.mp
 rw [Array.toList_map,Array.toList_zip];exact zip_snd ks vs hl
theorem range_getD (vs:List ae):((aR vs.length).map fun i=>vs.getD i ae.none)=vs:=by
 refine List.ext_getElem? fun i=>?_
 rw [ay]
 by_cases hi:i<vs.length
 ·rw [gp hi]
  show some (vs.getD i ae.none)=_;rw [ag,gE hi];rfl
 ·rw [List.getElem?_eq_none (by rw [bt];omega),List.getElem?_eq_none (by omega)];rfl
theorem key_tree {q:ai}{P:PySem.Fin→aq→Prop}(ho:s.heap.get? a=some (bJ "list" vs.toArray n))(h64:vs.length<64)
  (h:∀ e1,(jK s.heap a vs).get? a=some (bJ "list" #[] e1)→(jK s.heap a vs).get? (s.heap.objs.size+1)=some (bJ "list" #[] 0)→KeyDo prog w A (.ref q) vs (s.heap.objs.size+1) a e1 (fun t=>P (.done (.ret .none)) t) { s with heap:=jK s.heap a vs }) :
  aX (br prog w) A (ksk_tree a (.ref q) false) P E s:=by
 obtain ⟨e1,ho1⟩:∃ e1,(s.heap.update a (cA fun _=>(#[]:Array ae))).get? a=some (bJ "list" #[] e1):=⟨_,gh ho fun _=> #[]⟩;have ha:a<s.heap.objs.size:=aL ho;have ho6:(jK s.heap a vs).get? a=some (bJ "list" #[] e1):=ar _ (ar _ ho1);have hkS:((s.heap.update a (cA fun _=>(#[]:Array ae))).push (bJ "tuple" vs.toArray 0)).objs.size=s.heap.objs.size+1:=by rw [size_push',bL.size_update]
 have hk0:(jK s.heap a vs).get? (s.heap.objs.size+1)=some (bJ "list" #[] 0):=by
  unfold jK;rw [←hkS];exact aZ _ rfl
 obtain ⟨J,j0,jc,je⟩:=h e1 ho6 hk0;unfold ksk_tree;refine ah (listItems_at ho rfl ?_);refine ah (listUpdate_at ho rfl ?_ (by rw [aG,fS];omega) (bK _));refine ah (seqEpoch_at ho1 rfl ?_);refine ah (wpAny_newTuple ?_ (by show vs.length≤_;rw [fS];omega));refine ah (wpAny_newList ?_ (bK _));refine d7 ?_;show aX (br prog w) A (ksk_rest a (.ref q) false vs.toArray e1 (.ref ((s.heap.update a (cA fun _=>(#[]:Array ae))).push (bJ "tuple" vs.toArray 0)).objs.size)) P E { s with heap:=jK s.heap a vs };rw [hkS];refine key_rest J h64 hk0 j0 jc fun ks e t hl j hk=>?_
 obtain ⟨ha',κ,lt,O,hkk,hc,hP⟩:=je ks t hl j
 by_cases h2:vs.length<2
 ·have hh:=hP (aR vs.length).toArray (by show (aR vs.length).toArray.toList.Perm _;rw [eO]) (fun i j x y=>o6 y (by omega))
  rw [eO,range_getD] at hh;exact key_end_few hl h2 hk ha' (cR (gU ha)) hh
 ·exact key_end hl (by omega) h64 O hk ha' (cR (gU ha)) (hkk (by omega)) hc hP
theorem sorted_keyR {r q:ai}{a c:Int}{t u v:Tok}(hh:A.handled=none)(hr:IsRange s.heap r a b c t u v)(hsmall:gN a b c=true)(hn:dM a b c=n)(h64:n<64)
  (h:∀ (vs:List ae) (h1:bL) (tk:Nat) (D kS:ai) (e1:Nat),vs.length=n→(∀ (i:Nat) x,vs[i]? =some x→∃ t,x= .int (a+i * c) t)→(∀ b o,s.heap.get? b=some o→h1.get? b=some o)→s.heap.objs.size≤D→D<kS→h1.get? D=some (bJ "list" #[] e1)→h1.get? kS=some (bJ "list" #[] 0) →
   KeyDo prog w A.in1.in1 (.ref q) vs kS D e1 (fun t'=>Q (.ref D) t') { s with heap:=h1,toks:=tk }) :
  aX (br prog w) A (call (.builtin "sorted") [.ref r] [(cT "key",.ref q)]) Q E s:=by
 refine call_function_entry_kw kind_sorted plain_sorted entry_sorted (ksk_s1 _ _) ?_;unfold eN.«sorted»;refine ah (m:=checkCount "sorted" 1 1 _) (aO ?_);refine ah (collect_range hh hr hsmall hn (by omega) fun h' tk acc hk hlt hi=>?_);have hl:acc.toList.length=n:=by rw [cX];exact hi.1
 refine ah (wpAny_newList ?_ (by rw [hl,fS];omega));have hoL:(h'.push (bJ "list" acc.toList.toArray 0)).get? h'.objs.size=some (bJ "list" acc.toList.toArray 0):=aZ _ rfl;show aX _ _ _ _ _ { s with heap:=h'.push (bJ "list" acc.toList.toArray 0),toks:=tk };refine ah (d7 (wpAny_call_entry_kw slot_list_sort ⟨_,hoL,rfl⟩ entry_list_sort ?body (ksk_l1 _ _)))
 case body =>
  show aX (br prog w) A.in1.in1 (eN.«list.sort» ⟨[.ref h'.objs.size],[(cT "key",.ref q)]⟩) _ _ _;rw [ksk_t1];refine key_tree (s:={ s with heap:=h'.push (bJ "list" acc.toList.toArray 0),toks:=tk }) hoL (by omega) fun e1 g1 g2=>?_
  have K:=h acc.toList (jK (h'.push (bJ "list" acc.toList.toArray 0)) h'.objs.size acc.toList) tk h'.objs.size ((h'.push (bJ "list" acc.toList.toArray 0)).objs.size+1) e1 hl ?_ ?_ (il hlt) (by rw [size_push'];exact gU (jv _)) g1 g2
  ·obtain ⟨J,j0,jc,je⟩:=K
   refine ⟨J,j0,jc,fun ks t' x1 x2=>?_⟩;obtain ⟨y1,κ,lt,y2,y3,y4,y5⟩:=je ks t' x1 x2;exact ⟨y1,κ,lt,y2,y3,y4,fun p p1 p2=>⟨_,rfl,aO ⟨_,rfl,y5 p p1 p2⟩⟩⟩
  ·intro i x hx
   rw [Array.getElem?_toList] at hx;exact hi.2 i x hx
  ·exact fun b o e=>mid_keep (bI (jf (aL e) hlt)) (ar _ (hk b o e))
section
variable {σ:List (Option V)}
theorem Inv.take {D:ai}(I:Inv X aN σ H s)(hn:H D=none)(hs0:X.s₀.heap.objs.size≤D)(hL:D≠X.env.locals)(hC:∀ x c,X.env.cells.lookup x=some c→c≠D)(hP:∀ p∈X.pn++aN,p.1≠D)(new:ObjOk X.prog X.w (upd H D o) s.heap D o):Inv X aN σ (upd H D o) s where
 ok:=I.ok
 os:=I.os
 bare:=I.bare
 base :=
  {keep:=I.base.keep
   slot:=I.base.slot
   free:=fun b ob e nb hx=>by rw [bw (bI (aQ (aL e) hs0))];exact I.base.free b ob e nb hx
   there:=I.base.there
   tups:=fun b xs e=>by have q:=I.base.tups b xs e;rw [bw (bz q hn)];exact q
   frzs:=fun b o u e=>by have q:=I.base.frzs b o u e;rw [bw (bz q hn)];exact q
   tbls:=fun b ps e=>by obtain ⟨more,q⟩:=I.base.tbls b ps e;exact ⟨more,by rw [bw (bz q hn)];exact q⟩ }
 loc:=I.loc
 cell:=I.cell
 free:=by rw [bw hL.symm];exact I.free
 freeC:=fun x c e=>by rw [bw (hC x c e)];exact I.freeC x c e
 pin:=fun p hp=>by
  obtain ⟨a,b,c,d,e⟩:=I.pin p hp;exact ⟨a,by rw [bw (hP p hp)];exact b,c,d,e⟩
 hok:=I.hok.take hn new
 len:=I.len
theorem Inv.unpin {p0:ai×Obj}(I:Inv X (p0::aN) σ H s):Inv X aN σ H s:=I.pins_of fun p hp=>I.pin p (aw _ (au _ hp))
theorem Inv.repin {kS:ai}{o o':Obj}(I:Inv X ((kS,o)::aN) σ H s)(hs0:X.s₀.heap.objs.size≤kS)(hC:∀ x c,X.env.cells.lookup x=some c→c≠kS)(hP:∀ p∈X.pn++aN,p.1≠kS)(hsb:dA kS s.heap h')(ho':h'.get? kS=some o')(hd:∀ v,o'.data≠ .cell v):Inv X ((kS,o')::aN) σ H { s with heap:=h' }:=by
 obtain ⟨p1,p2,p3,p4,_⟩:=I.pin (kS,o) (aw _ (bp ..));have I2:=I.unpin.turned (t':=s.toks) (it:=kS) (h':=h') (fun b o hb e=>hsb.extBut b o hb e) p2 p3 (.inr hs0) hC hP;refine I2.pins_of fun p hp=>?_
 rcases az.mp hp with rfl | hp
 ·exact ⟨ho',p2,p3,p4,hd⟩
 ·exact I2.pin p (aw _ hp)
theorem prs_of {as:List ai}(I:Inv X aN σ H s)(hl:as.length=ks.length)(h:∀ (i:Nat) a k,as[i]? =some a→ks[i]? =some k→H a=some (.tup [.int k.1,.int k.2])):PrsAt s.heap (as.map ae.ref) ks:=by
 refine ⟨by rw [aa,hl],fun i v k e1 e2=>?_⟩;rw [ay] at e1;obtain ⟨a,ea,rfl⟩:=bB.mp e1;obtain ⟨tz,tts,tr,o,ho,hcl,_,nn,hdt⟩:=I.hok a _ (h i a k ea e2);cases tr with
 | cons r1 tr=>cases tr with
  | cons r2 tr =>
   cases tr;obtain ⟨t1,rfl⟩:=r1;obtain ⟨t2,rfl⟩:=r2;exact ⟨a,o,t1,t2,nn,rfl,ho,hcl,hdt⟩
theorem keyDo_of {B:bS}{f:ae}{num:Nat→Int}{key:Nat→Int×Int}{kS D:ai}{e1:Nat}{Q:aq→Prop}
  (I:Inv X ((kS,bJ "list" #[] 0)::(D,bJ "list" #[] e1)::aN) σ H s) (hl:vs.length=n) (h64:n<64) (hv:∀ (i:Nat) x,vs[i]? =some x→∃ t,x= .int (num i) t)
  (k0:X.s₀.heap.objs.size≤kS) (d0:X.s₀.heap.objs.size≤D) (kC:∀ x c,X.env.cells.lookup x=some c→c≠kS) (dC:∀ x c,X.env.cells.lookup x=some c→c≠D) (kP:∀ p∈X.pn++aN,p.1≠kS) (dP:∀ p∈X.pn++aN,p.1≠D) (hne:kS≠D)
  (hnd:((aR n).map key).Nodup)
  (hf:∀ (t:aq) (H':Hp) (pins':List (ai×Obj)) (i:Nat) (tk:Tok),i<n→Inv X pins' σ H' t→Same H H'→aX (br X.prog X.w) B (call f [.int (num i) tk]) (fun k t'=>∃ q H'',Inv X pins' σ H'' t'∧Same H' H''∧k= .ref q∧H'' q=some (.tup [.int (key i).1,.int (key i).2])) (fun _ _=>False) t)
  (fin:∀ (t:aq) (H':Hp) (π:List Nat),Same H H'→H' D=none→Inv X aN σ (upd H' D (.lst (π.map fun i=>V.int (num i)))) t→π.Perm (aR n)→π.Pairwise (fun i j=>ltP (key i) (key j)=true)→Q t) :
  KeyDo X.prog X.w B f vs kS D e1 Q s:=by
 have pK:∀ p∈X.pn++((D,bJ "list" #[] e1)::aN),p.1≠kS:=fun p hp=>by
  rcases aM.mp hp with hp | hp
  ·exact kP p (aE _ hp)
  ·rcases az.mp hp with rfl | hp
   ·exact cw hne
   ·exact kP p (aw _ hp)
 refine ⟨fun ks t=>∃ e H' as,Inv X ((kS,bJ "list" ks.toArray e)::(D,bJ "list" #[] e1)::aN) σ H' t∧Same H H'∧ks=as.map ae.ref∧∀ (i:Nat) a,as[i]? =some a→H' a=some (.tup [.int (key i).1,.int (key i).2]),⟨0,H,[],I,Same.refl H,rfl,fun i a e=>by simp at e⟩,?_,?_⟩
 ·rintro ks x e t hx ⟨e',H',as,I',S',rfl,has⟩ hk
  rw [aa] at hx;have hi:as.length<n:=by rw [←hl];exact (ao.mp hx).1
  obtain ⟨tk,rfl⟩:=hv _ x hx;refine b9 (hf t H' _ as.length tk hi I' S') (fun k t' hk'=>?_) fun _ _ z=>z
  obtain ⟨q,H'',I'',S'',rfl,hq⟩:=hk';have pk:=(I''.pin _ (aw _ (bp ..))).1;have pk0:=(I'.pin _ (aw _ (bp ..))).1;have pk0:t.heap.get? kS=some (bJ "list" (as.map ae.ref).toArray e'):=pk0;rw [hk] at pk0;have ee:e=e':=by cases pk0;rfl
  refine ⟨by rw [ee];exact pk,fun h' c hsb hg=>⟨c,H'',as++[q],I''.repin k0 kC pK hsb hg (fun v z=>by cases z),S'.trans S'',by rw [aA];rfl,fun i a ea=>?_⟩⟩
  by_cases hlt:i<as.length
  ·rw [fX hlt] at ea
   exact S'' _ _ (has i a ea)
  ·rw [bV (by omega)] at ea
   have hz:i=as.length:=by
    have:=(ao.mp ea).1;simp only [fR] at this;omega
   subst hz;rw [Nat.sub_self] at ea;cases ea;exact hq
 ·rintro ks t hks ⟨e',H',as,I',S',rfl,has⟩
  rw [aa] at hks;obtain ⟨pd,nD,lD,fD,_⟩:=I'.pin (D,bJ "list" #[] e1) (aw _ (au _ (bp ..)));obtain ⟨pk,nK,lK,fK,_⟩:=I'.pin (kS,bJ "list" (as.map ae.ref).toArray e') (aw _ (bp ..));have pd:t.heap.get? D=some (bJ "list" #[] e1):=pd;have pk:t.heap.get? kS=some (bJ "list" (as.map ae.ref).toArray e'):=pk;have kat:∀ i,i<n→kyP ((aR n).map key) i=key i:=fun i hi=>by
   rw [kyP_at (by rw [aa,bt];exact hi),List.getElem_map,List.getElem_range]
  have PR:PrsAt t.heap (as.map ae.ref) ((aR n).map key):=prs_of I' (by rw [aa,bt];omega) fun i a k ea ek=>by
   rw [ay] at ek;obtain ⟨j,ej,rfl⟩:=bB.mp ek;have hi:i<n:=by have:=(ao.mp ej).1;rw [bt] at this;exact this
   rw [gp hi] at ej;cases ej;exact has i a ea
  have ln:((aR n).map key).length=n:=by rw [aa,bt]
  have O:=ord_of hnd;rw [ln] at O;refine ⟨pd,tuples' true,fun i j=>ltP (kyP ((aR n).map key) i) (kyP ((aR n).map key) j),by rw [hl];exact O,fun h2 Q' q'=>prs_kind (s:=t) PR (by rw [aa];omega) q',fun i j C hi hj c=>prs_ask (s:=t) PR (by rw [aa];omega) (by rw [aa];omega) c,fun p pm so=>?_⟩;rw [hl] at pm so;have s1:=fW t.heap kS (cA fun _=>(#[]:Array ae));obtain ⟨ck,hck⟩:∃ ck,(t.heap.update kS (cA fun _=>(#[]:Array ae))).get? kS=some (bJ "list" #[] ck):=⟨_,gh pk fun _=> #[]⟩;have I1:=I'.repin k0 kC pK s1 hck (fun v z=>by cases z);have I2:=I1.unpin;have hD1:(t.heap.update kS (cA fun _=>(#[]:Array ae))).get? D=some (bJ "list" #[] e1):=by rw [gq _ _ _ _ (cw hne)];exact pd
  have s2:=fW (t.heap.update kS (cA fun _=>(#[]:Array ae))) D (cA fun _=>iU (p.toList.map fun i=>vs.getD i ae.none));obtain ⟨cD,hcD⟩:∃ cD,(om t.heap kS D (p.toList.map fun i=>vs.getD i ae.none)).get? D=some (bJ "list" (iU (p.toList.map fun i=>vs.getD i ae.none)) cD):=⟨_,gh hD1 fun _=>iU (p.toList.map fun i=>vs.getD i ae.none)⟩;have I3:=(I2.repin d0 dC dP s2 hcD (fun v z=>by cases z)).unpin;refine fin _ H' p.toList S' nD (I3.take nD d0 lD dC dP ⟨?_,_,cD,?_,hcD⟩) pm ?_
  ·rw [aa,pm.length_eq,bt];exact aY (by omega:n≤1000) (by decide)
  ·refine vals_at (by rw [aa,aa]) fun i x hx=>?_
   rw [ay] at hx;obtain ⟨j,hj,rfl⟩:=bB.mp hx;have hjn:j<n:=bQ.mp (pm.mem_iff.mp (bh hj));obtain ⟨tk,ex⟩:=hv j vs[j] (gE (by omega));refine ⟨vs.getD j ae.none,by rw [ay,hj];rfl,?_⟩;rw [ag,gE (by omega)];exact ⟨tk,ex⟩
  ·refine List.pairwise_iff_getElem.mpr fun a b ha hb hab=>?_
   have sz:=Pm.size pm;rw [cX] at ha hb;have:=so a b hab (by omega);have ea:gA p a=p.toList[a]:=by rw [ky,eR ha];simp
   have eb:gA p b=p.toList[b]:=by rw [ky,eR hb];simp
   have la:p.toList[a]<n:=by rw [←ea];exact pm.lt (by omega)
   have lb:p.toList[b]<n:=by rw [←eb];exact pm.lt (by omega)
   have this:ltP (kyP ((aR n).map key) (gA p a)) (kyP ((aR n).map key) (gA p b))=true:=this;rw [ea,eb,kat _ la,kat _ lb] at this;exact this
end
end L2
namespace L2
open PySem PySem.W PySem.Spec PyProof.Rows
def BM (mg:Str→Option ae)(base:bL):Prop:=∃ bm ob,mg "__builtins__" =some (.ref bm)∧bm≠builtinsNs∧bm≠bO∧base.get? bm=some ob∧ob.cls= .type "module" ∧ob.dict=some builtinsNs∧ob.data= .plain
def CdK (q:Str)(H:Hp)(c:ai):Prop:=∃ oc vs t,H c=some (.frz oc (.own 0))∧oc.data= .fields vs∧vs[1]? =some (.str q t)
def LamT (P:ai)(pos:Pos)(q:Str)(H:Hp):Prop :=
 H P=some (.tbl #[])∨∃ c,H P=some (.tbl #[rawInt pos.line,rawInt pos.col,.ref c])∧CdK q H c
def Tb (P:ai)(H H':Hp):Prop:=∀ a o,a≠P→H a=some o→H' a=some o
theorem Tb.refl {P:ai}(H:Hp):Tb P H H:=fun _ _ _ e=>e
theorem Tb.trans {P:ai}{H2:Hp}(a:Tb P H H1)(b:Tb P H1 H2):Tb P H H2:=fun x o n e=>b x o n (a x o n e)
theorem Same.tb {P:ai}(a:Same H H'):Tb P H H':=fun x o _ e=>a x o e
theorem CdK.tb {P:ai}{c:ai}(a:Tb P H H')(hn:c≠P)(k:CdK q H c):CdK q H' c:=let ⟨oc,vs,t,e,r⟩:=k;⟨oc,vs,t,a _ _ hn e,r⟩
theorem LamT.same {P:ai}(a:Same H H')(k:LamT P pos q H):LamT P pos q H':=by
 rcases k with k | ⟨c,k,oc,vs,t,e,r⟩
 ·exact .inl (a _ _ k)
 ·exact .inr ⟨c,a _ _ k,oc,vs,t,a _ _ e,r⟩
def LamF (q:Str)(params:eX)(body:Expr)(scope:eZ)(cl:List (Str×ai))(f:ai)(H:Hp):Prop :=
 ∃ pm c ct,H f=some (.frz (kla_obj "<lambda>" q params body scope cl pm c ct) (.own 0))∧CdK q H c
theorem LamF.same (a:Same H H')(k:LamF q params body scope cl f H):LamF q params body scope cl f H' :=
 let ⟨pm,c,ct,e,oc,vs,t,e2,r⟩:=k;⟨pm,c,ct,a _ _ e,oc,vs,t,a _ _ e2,r⟩
section
variable {σ:List (Option V)}
theorem Inv.grown {P:ai}{ps more:Array ae}{tk:Nat}(I:Inv X aN σ H s)(hP:H P=some (.tbl ps))(hx:bL.ExtBut P s.heap h')(ht:h'.get? P=some (tabObj (ps++more))) :
  Inv X aN σ (upd H P (.tbl (ps++more))) { s with heap:=h',toks:=tk }:=by
 have neP:∀ b,H b=none→b≠P:=fun b e z=>by rw [z,hP] at e;cases e
 have neO:∀ b o,H b=some o→(∀ ps,o≠ .tbl ps)→b≠P:=fun b o e hn z=>by rw [z,hP] at e;exact hn ps (bZ e).symm
 refine I.step (g':=s.gens) (d':=s.drawn) (ch:=[]) (fun _ z=>nomatch z) (fun b o _ _ _ e n=>hx b o (neP b n) e) (fun b o _ _ _ e n=>⟨o.slots,hx b o (neP b n) e⟩) (fun b o _ _ n=>by rw [bw (neP b n)];exact n)
  (fun b o _ e=>?_) (fun b xs e=>by rw [bw (neO b _ e fun _ z=>by cases z)];exact e) (fun b o u e=>by rw [bw (neO b _ e fun _ z=>by cases z)];exact e) (fun b qs e=>?_) (fun m hn=>hn.extBut hx (neP _ I.free)) (fun b u e=>?_) I.bare
 ·by_cases hb:b=P
  ·exact ⟨_,hb ▸ ht⟩
  ·exact ⟨o,hx b o hb e⟩
 ·by_cases hb:b=P
  ·subst hb
   rw [hP] at e;cases e;exact ⟨more,aU⟩
  ·exact ⟨#[],by rw [bw hb,e];simp⟩
 ·by_cases hb:b=P
  ·subst hb
   rw [aU] at e;cases e;exact ht
  ·rw [bw hb] at e
   refine (I.hok b u e).stay (fun c v hc q=>hx c v ?_ q) (fun c q=>by rw [bw (neO c _ q fun _ z=>by cases z)];exact q) fun c xs q=>by rw [bw (neO c _ q fun _ z=>by cases z)];exact q
   rcases hc with rfl | hc
   ·exact hb
   ·exact neO c _ hc fun _ z=>by cases z
theorem lam_make {c P:ai}(I:Inv X aN σ H s)(hd:defaultsOf params X.env=([],[]))(k3:X.env.code= .ref c)(C:codeHdIn X.K c P=true)(B:BM X.mg X.base)
  (hfr:∀ y∈scope.names,y.2= .free→X.env.scope.names.lookup y.1=some .cell) (T:LamT P pos (X.env.qual ++ "<lambda>") H)
  (h:∀ f cl H' s',Inv X aN σ H' s'→Tb P H H'→LamT P pos (X.env.qual ++ "<lambda>") H'→LamF (X.env.qual ++ "<lambda>") params body scope cl f H'→(∀ x c,cl.lookup x=some c→X.env.cells.lookup x=some c)→(∀ y∈scope.names,y.2= .free→cl.lookup y.1=X.env.cells.lookup y.1)→Q (.ref f) s') :
  aX (br X.prog X.w) X.A (eu (.Lambda params body scope pos) X.env) Q X.xe s:=by
 obtain ⟨cl,hclos,c1,c2⟩:=k5 (scope:=scope) (env:=X.env) fun y hy hk=>I.ok.has _ (.inl (hfr y hy hk))
 refine kla_eval hd ?_;have hgs:s.heap.Ns bO X.mg:=I.mod.glob.keeps I.bk;obtain ⟨bm,ob,b1,b2,b3,b4,b5⟩:=B;have CH:CodeHd s.heap c P:=codeHd_of_K I.kIn C;obtain ⟨ps,hP⟩:∃ ps,H P=some (.tbl ps):=by
  rcases T with T | ⟨c',T,_⟩
  ·exact ⟨_,T⟩
  ·exact ⟨_,T⟩
 have hbP:bm≠P:=fun q=>by have z:=(I.bs bm ob b4).2;rw [q,hP] at z;cases z
 have hgP:bO≠P:=fun q=>by
  obtain ⟨o,es,ep,e,_⟩:=I.mod.glob;have z:=(I.bs _ o e).2;rw [q,hP] at z;cases z
 have hBA:s.heap.BuiltinsAt X.mg P:=⟨bm,ob,b1,b2,b3,hbP,I.bk _ _ b4,b5⟩;have fin:∀ (H1:Hp) (h1:bL) (tk:Nat) (c':ai) (ctv:ae),Inv X aN σ H1 { s with heap:=h1,toks:=tk }→Tb P H H1→LamT P pos (X.env.qual ++ "<lambda>") H1→CdK (X.env.qual ++ "<lambda>") H1 c' →
   Q (.ref h1.objs.size) { s with heap:=h1.push (kla_obj "<lambda>" (X.env.qual ++ "<lambda>") params body scope cl ((X.mg "__name__").getD .none) c' ctv),toks:=tk }:=fun H1 h1 tk c' ctv I1 t1 T1 K1=>by
  have fr:H1 h1.objs.size=none:=I1.hok.fresh (aB _);have S:Same H1 (upd H1 h1.objs.size (.frz (kla_obj "<lambda>" (X.env.qual ++ "<lambda>") params body scope cl ((X.mg "__name__").getD .none) c' ctv) (.own 0))):=fun a o e=>by rw [bw (bz e fr)];exact e
  have I2:=I1.laid (t':=tk) (a:=h1.objs.size) (o:= .frz (kla_obj "<lambda>" (X.env.qual ++ "<lambda>") params body scope cl ((X.mg "__name__").getD .none) c' ctv) (.own 0)) (h':=h1.push (kla_obj "<lambda>" (X.env.qual ++ "<lambda>") params body scope cl ((X.mg "__name__").getD .none) c' ctv)) (fun b u e=>ar _ e) (aB _) ⟨aZ _ rfl,_,aZ _ rfl⟩;obtain ⟨oc,vs,t,e,r⟩:=K1;exact h _ cl _ _ I2 (t1.trans S.tb) (T1.same S) ⟨_,c',ctv,aU,oc,vs,t,S _ _ e,r⟩ c1 c2
 rcases T with T | ⟨c',T,K⟩
 ·rw [T] at hP;cases hP
  have hPh:s.heap.get? P=some (tabObj #[]):=I.hok P _ T;refine kla_makeFunction (mg:=X.mg) hclos I.ok.glob hgs k3 CH hPh trivial rfl hgP hBA fun c' ctv h' tk hx hge hlt hrec htb=>?_
  have I1:=I.grown (tk:=tk) T hx htb;obtain ⟨c2',oc,vs,t,e2,hoc,hdd,hv⟩:=hrec;cases e2;have Plt:P<s.heap.objs.size:=aL hPh;have ncP:c'≠P:=cR (aQ Plt hge);have frc:H c'=none:=I.hok.fresh hge;have hn1:(upd H P (.tbl (#[]++ #[rawInt pos.line,rawInt pos.col,.ref c']))) c'=none:=by rw [bw ncP];exact frc
  have old:∀ b o,s.heap.get? b=some o→b≠c':=fun b o e=>bI (aQ (aL e) hge)
  have I2:=I1.take (D:=c') (o:= .frz oc (.own 0)) hn1 (aY I.sz hge) (cR (aQ I.lt hge)) (fun x d e=>by obtain ⟨v,o,ho,_⟩:=I.cell x d e;exact old d o ho) (fun p hp=>old _ _ (I.pin p hp).1) ⟨hoc,_,hoc⟩;refine fin _ h' tk c' ctv I2 (fun a o hn e=>?_) (.inr ⟨c',?_,oc,vs,t,aU,hdd,hv⟩) ⟨oc,vs,t,aU,hdd,hv⟩
  ·rw [bw (bz e frc),bw hn];exact e
  ·rw [bw (cw ncP),aU];rfl
 ·rw [T] at hP;cases hP
  have hPh:s.heap.get? P=some (tabObj #[rawInt pos.line,rawInt pos.col,.ref c']):=I.hok P _ T;refine kla_makeFunctionHit (cv:= .ref c') (mg:=X.mg) hclos I.ok.glob hgs k3 CH hPh trivial (codeAmong_snoc [] trivial rfl) hBA fun ctv h' tk hk hsz=>?_
  exact fin H h' tk c' ctv (I.kept hk) (Tb.refl H) (.inr ⟨c',T,K⟩) K
def cxLam (X:Cx)(q:Str)(scope:eZ)(cl:List (Str×ai))(L f:ai)(cd:ae)(N:List Str)(s:aq)(H:Hp):Cx :=
 { X with A:=X.A.in1.in1.deeper (envX q scope L f cd cl),N:=N,s₀:=s,H₀:=H,env:=envX q scope L f cd cl,outer:=X.stack,stack:=envX q scope L f cd cl::X.stack,ex:=[],calm:=true,fn:=fun _=>false,pn:=[],xe:=fun _ _=>False }
theorem lam_call {Q:VK}(I:Inv X aN σ H s)(hc:X.calm=true)(hr:X.A.depth<jr)(F:LamF q params body scope cl f H)(ru:RelV v u)
  (hbind:∀ pm cdv ct,bindArgs (kla_fn "<lambda>" q params body scope cl pm cdv ct) ⟨[u],[]⟩=fH [(x,u)])
  (hk:scope.kind= .function) (hco:scope.isCoroutine=false) (hgen:scope.isGenerator=false) (ij:∀ y∈scope.names,y.2≠ .cell) (hx:scope.names.lookup x=some .local) (hfx:x ∉ fr)
  (c1:∀ x c,cl.lookup x=some c→X.env.cells.lookup x=some c) (c2:∀ y∈scope.names,y.2= .free→cl.lookup y.1=X.env.cells.lookup y.1)
  (hfr:∀ y∈scope.names,y.2= .free→X.env.scope.names.lookup y.1=some .cell) (hjs:js.map (fun j=>X.N[j]?)=fr.map some) (hfv:∀ y∈fr,scope.names.lookup y=some .free)
  (hb:∀ L cd s' H',PE (cxLam X q scope cl L f cd (x::fr) s' H') body te) (ht:te (some v::cV σ js) H Q) :
  aX (br X.prog X.w) X.A.in1.in1 (call (.ref f) [u]) (EP X aN σ Q) (fun _ _=>False) s:=by
 obtain ⟨pm,cd,ct,e,oc,vs,t,ec,hdc,hvc⟩:=F;have ho:s.heap.get? f=some (kla_obj "<lambda>" q params body scope cl pm cd ct):=(I.hok f _ e).1;have hoc:s.heap.get? cd=some oc:=(I.hok cd _ ec).1;refine wpAny_call (kla_callFunE hr ho rfl hco hgen rfl ⟨cd,oc,vs,t,rfl,hoc,hdc,hvc⟩ ?_);rw [hbind];refine aO (wpAny_newFunctionEnv ij (fun y hy=>?_) (fun h₁ hns hsb=>⟨I.nolimit.fresh _ hsb,?_⟩) hk)
 ·rw [ax.mp hy];exact hx
 show iT _ _ (.expr body (envX q scope s.heap.objs.size f (.ref cd) cl)) _ _;have old:∀ b o,s.heap.get? b=some o→h₁.get? b=some o:=fun b o e=>hsb.extBut b o (bI (aL e)) (ar _ e)
 refine kla_codeExpr ?_;have ok':(cxLam X q scope cl s.heap.objs.size f (.ref cd) (x::fr) s H).Ok:=by
  refine ⟨I.ok.mod,hk,rfl,rfl,aB _,fun a b c e1 e2=>I.ok.inj a b c (c1 a c e1) (c1 b c e2),fun y hy=>?_,fun _ _ z=>o6 z (by intro q;cases q),fun _=>I.ok.hd hc,bS.frames_deeper I.ok.frames,.inr ⟨rfl,rfl⟩,fun b hb=>o6 (show b∈([]:List ai) from hb) (by simp),I.bs,aY I.ok.bsz I.sz,fun b o e hb=>o6 (show b∈([]:List ai) from hb) (by simp),fun b hb=>o6 (show b∈([]:List ai) from hb) (by simp),I.stack,I.stkFree⟩;have hy:scope.names.lookup y=some .cell∨scope.names.lookup y=some .free:=hy
  rcases hy with hy | hy
  ·exact o6 rfl (ij _ (cf hy))
  ·have hm:=cf hy
   obtain ⟨c,e⟩:=I.ok.has y (.inl (hfr _ hm rfl));exact ⟨c,(c2 _ hm rfl).trans e⟩
 have lenB:(cV σ js).length=fr.length:=by
  have e:=pf List.length hjs;rw [aa,aa] at e;unfold cV;rw [aa];exact e
 have I1:Inv (cxLam X q scope cl s.heap.objs.size f (.ref cd) (x::fr) s H) [] (some v::cV σ js) H { s with heap:=h₁,toks:=s.toks+1 }:=by
  refine ⟨ok',rfl,I.bare,Un.kept old,⟨_,hns,fun i y v' e1 e2 e3=>?_⟩,fun y c e=>?_,I.hok.fresh (aB _),fun y c e=>I.freeC y c (c1 y c e),fun p hp=>o6 (show p∈([]:List (ai×Obj)) from hp) (by simp),I.hok.kept old,?_⟩
  ·cases i with
   | zero =>
    have e1:some x=some y:=e1;have e2:some (some v)=some (some v'):=e2;cases e1;cases e2;exact ⟨u,ru,.inl ⟨hx,by show d8 x [(x,u)]=_;rw [cW,beq_self_eq_true]⟩⟩
   | succ i =>
    have e1:fr[i]? =some y:=e1;have e2:(cV σ js)[i]? =some (some v'):=e2;unfold cV at e2;rw [ay] at e2;obtain ⟨j,ej,e2⟩:=bB.mp e2;have hN:X.N[j]? =some y:=by
     have q:=pf (fun l=>l[i]?) hjs;simp only [ay,ej,e1,fV] at q;exact bZ q
    have hσ:σ[j]? =some (some v'):=by
     cases z:σ[j]? with
     | none=>rw [z] at e2;cases e2
     | some w=>rw [z] at e2;exact pf some e2
    have hfree:=hfv y (bh e1);have hm:=cf hfree;have hce:X.env.scope.names.lookup y=some .cell:=hfr _ hm rfl;obtain ⟨m,_,hl⟩:=I.loc;obtain ⟨u',ru',look⟩:=hl j y v' hN hσ (.inr (.inl hce));refine ⟨u',ru',.inr ⟨.inr hfree,?_⟩⟩
    rcases look with ⟨k,_⟩ | ⟨_,c,ec,ho⟩
    ·have k:X.env.scope.names.lookup y=some .local:=k
     rw [hce] at k;cases k
    ·obtain ⟨o,ho,hd⟩:=ho
     exact ⟨c,(c2 _ hm rfl).trans ec,o,old c o ho,hd⟩
  ·obtain ⟨v',o,ho,hd⟩:=I.cell y c (c1 y c e)
   exact ⟨v',o,old c o ho,hd⟩
  ·show (some v::cV σ js).length=(x::fr).length
   rw [aS,aS,lenB]
 refine b9 (hb _ _ s H [] _ _ H Q I1 ht) (fun w s' hs=>?_) fun _ _ z=>z.elim
 obtain ⟨v',H',J,rv,qv⟩:=hs;exact I.after ⟨v',H',J.os,J.bare,J.base,J.hok,rv,qv⟩
end
def SortQ (P:ai)(lp:Pos)(lq:Str)(js:List Nat)(te:TE)(σ:St)(Q:VK)(v:V)(H1:Hp):Prop:=∃ (r:ai) (n:Nat) (key:Nat→Int×Int),v= .ref r∧H1 r=some (.rng 0 n)∧n<64∧LamT P lp lq H1∧((aR n).map key).Nodup ∧
 (∀ i:Nat,i<n→∀ H2,Tb P H1 H2→te (some (.int i)::cV σ js) H2 fun u H3=>Same H2 H3∧∃ a,u= .ref a∧H3 a=some (.tup [.int (key i).1,.int (key i).2])) ∧
 ∀ (D:ai) (H4:Hp) (π:List Nat),Tb P H1 H4→LamT P lp lq H4→H4 D=none→π.Perm (aR n)→π.Pairwise (fun i j=>ltP (key i) (key j)=true)→Q (.ref D) (upd H4 D (.lst (π.map fun (i:Nat)=>V.int i)))
def tSortL (P:ai)(lp:Pos)(lq:Str)(tr:TE)(js:List Nat)(te:TE):TE:=fun σ H Q=>tr σ H fun v H1=>SortQ P lp lq js te σ Q v H1
def SortQ1 (P:ai)(lp:Pos)(lq:Str)(js:List Nat)(te:TE)(σ:St)(Q:VK):List V→Hp→Prop
 | [v],H1=>SortQ P lp lq js te σ Q v H1
 | _,_=>False
theorem rng_size0:dM 0 (n:Int) 1=n:=by
 unfold dM;rw [o4 (by decide)]
 by_cases h0:(0:Int)<n
 ·rw [o4 h0,Int.ediv_one];omega
 ·rw [oZ h0];omega
theorem rng_small0 (h:n<64):gN 0 (n:Int) 1=true:=by unfold gN;rw [rng_size0];unfold eN.Range.rangeFitsLong;simp;omega
theorem pe_sortL {re:Expr}{tr:TE}{p kp:Pos}{c P:ai}(hc:X.calm=true)(hrm:X.A.depth<jr)(hg:Gl X "sorted")(hm:X.mg "sorted" =none)(hi:PE X re tr)
  (hd:defaultsOf params X.env=([],[])) (k3:X.env.code= .ref c) (C:codeHdIn X.K c P=true) (B:BM X.mg X.base)
  (hbind:∀ q cl pm cdv ct (u:ae),bindArgs (kla_fn "<lambda>" q params body scope cl pm cdv ct) ⟨[u],[]⟩=fH [(x,u)])
  (hk:scope.kind= .function) (hco:scope.isCoroutine=false) (hgen:scope.isGenerator=false) (ij:∀ y∈scope.names,y.2≠ .cell) (hx:scope.names.lookup x=some .local) (hfx:x ∉ fr)
  (hfr:∀ y∈scope.names,y.2= .free→X.env.scope.names.lookup y.1=some .cell) (hjs:js.map (fun j=>X.N[j]?)=fr.map some) (hfv:∀ y∈fr,scope.names.lookup y=some .free)
  (hb:∀ cl L f cd s' H',PE (cxLam X (X.env.qual ++ "<lambda>") scope cl L f cd (x::fr) s' H') body te)
  (he:gw pos (bE [re] X.env)=(false,eu re X.env)::gw pos (bE [] X.env):=by rfl)
  (hs:bE [re] X.env=(false,eu re X.env)::bE [] X.env:=by rfl) (hpl:(gw pos (bE [re] X.env)).any (·.1)=false:=by rfl) :
  PE X (.Call (.Name "sorted" p) [re] [⟨some "key",.Lambda params body scope lp,kp⟩] pos) (tSortL P lp (X.env.qual ++ "<lambda>") tr js te):=by
 intro aN s σ H Q I h;refine eC (kq I hg hm (u:= .builtin "sorted") (by trivial) ?_);refine callWith_kw (kws:=[⟨some "key",.Lambda params body scope lp,kp⟩]) (thn ((af hi aC hs) pos aN s σ H (SortQ1 P lp (X.env.qual ++ "<lambda>") js te σ Q) I h) fun us s1 ⟨vs,H1,I1,r1,q0⟩=>?_) he hpl;refine kws_cons ?_;obtain ⟨v,rfl⟩:∃ v,vs=[v]:=by
  cases vs with
  | nil=>exact q0.elim
  | cons v r=>cases r with
   | nil=>exact ⟨v,rfl⟩
   | cons _ _=>exact q0.elim
 have q1:SortQ P lp (X.env.qual ++ "<lambda>") js te σ Q v H1:=q0;obtain ⟨r,n,key,rfl,hr,h64,T,hnd,hkey,hQ⟩:=q1;obtain rfl:us=[.ref r]:=by
  cases r1 with
  | cons ru rs =>
   cases rs;exact pf (fun z=>[z]) ru
 refine lam_make (body:=body) I1 hd k3 C B hfr T fun f cl H2 s2 I2 tb T2 F2 c1 c2=>?_
 refine kws_nil ?_;show aX _ _ (call (.builtin "sorted") [.ref r] [(cT "key",.ref f)]) _ _ _;have rP:r≠P:=fun z=>by
  rcases T with T | ⟨_,T,_⟩ <;> rw [←z,hr] at T <;> cases T
 obtain ⟨t1,t2,t3,e3⟩:=I2.hok r _ (tb r _ rP hr);have hr3:IsRange s2.heap r 0 n 1 t1 t2 t3:=by first | exact e3 | exact ⟨_,e3,rfl,rfl⟩
 refine sorted_keyR (I2.ok.hd hc) hr3 (rng_small0 h64) rng_size0 h64 fun ws h1 tk D kS e1 hl hw hkeep hD hDk gD gK=>?_
 have I3:Inv X aN σ H2 { s2 with heap:=h1,toks:=tk }:=I2.kept hkeep;have old:∀ b o,s2.heap.get? b=some o→b≠D∧b≠kS:=fun b o e=>⟨bI (aQ (aL e) hD),bI (jf (aQ (aL e) hD) hDk)⟩
 have hDs:=aL gD;have hKs:=aL gK;have frD:H2 D=none:=I2.hok.fresh hD;have frK:H2 kS=none:=I2.hok.fresh (il (bR hD hDk));have cc:∀ y d,X.env.cells.lookup y=some d→d≠D∧d≠kS:=fun y d e=>by obtain ⟨v,o,ho,_⟩:=I2.cell y d e;exact old d o ho
 have pp:∀ z∈X.pn++aN,z.1≠D∧z.1≠kS:=fun z hz=>old _ _ (I2.pin z hz).1
 have nl:s2.heap.objs.size≤kS:=il (bR hD hDk);have I4:Inv X ((kS,bJ "list" #[] 0)::(D,bJ "list" #[] e1)::aN) σ H2 { s2 with heap:=h1,toks:=tk }:=I3.pins_of fun z hz=>by
  rcases az.mp hz with rfl | hz
  ·exact ⟨gK,frK,cR (aQ I2.lt nl),I2.nofs nl,fun v z=>by cases z⟩
  ·rcases az.mp hz with rfl | hz
   ·exact ⟨gD,frD,cR (aQ I2.lt hD),I2.nofs hD,fun v z=>by cases z⟩
   ·exact I3.pin z (aw _ hz)
 refine keyDo_of (num:=fun i=>(i:Int)) (key:=key) I4 hl h64 (fun i x e=>by obtain ⟨t,q⟩:=hw i x e;exact ⟨t,by rw [q];congr 1;omega⟩) (aY I2.sz nl) (aY I2.sz hD) (fun y d e=>(cc y d e).2) (fun y d e=>(cc y d e).1) (fun z hz=>(pp z hz).2) (fun z hz=>(pp z hz).1) (cR hDk) hnd ?_ ?_
 ·intro t H' pins' i tk hi' I' S'
  refine b9 (lam_call (v:= .int i) I' hc hrm (F2.same S') ⟨_,rfl⟩ (fun pm cdv ct=>hbind _ _ _ _ _ _) hk hco hgen ij hx hfx c1 c2 hfr hjs hfv (fun L cd s' H'=>hb cl L f cd s' H') (hkey i hi' H' (tb.trans S'.tb))) (fun k t' ⟨v,H'',I'',rv,S'',a,ev,ea⟩=>?_) fun _ _ z=>z
  subst ev;obtain rfl:k= .ref a:=rv;exact ⟨a,H'',I'',S'',rfl,ea⟩
 ·intro t H' π S' hD' I' pm pw
  exact ⟨.ref D,_,I',rfl,hQ D H' π (tb.trans S'.tb) (T2.same S') hD' pm pw⟩
end L2
namespace HN
open PySem L2 PyProof.Rows
def z0:Sn:=⟨0,0,0,0,0⟩
def sAt (sp:List Sn)(i:Nat):Sn:=sp.getD i z0
theorem iP (h:i<sp.length):sp[i]? =some (sAt sp i):=by
 unfold sAt;rw [ag,gE h];rfl
theorem dG (h:i<sp.length):sAt sp i∈sp:=bh (iP h)
def wkey (sp:List Sn)(i:Nat):Int×Int:=((sAt sp i).o - (sAt sp i).l,(i:Int))
def Ordd (sp:List Sn)(π:List Nat):Prop:=π.Perm (aR sp.length)∧π.Pairwise fun i j=>ltP (wkey sp i) (wkey sp j)=true
theorem wkey_nodup (sp:List Sn)(n:Nat):((aR n).map (wkey sp)).Nodup:=by
 rw [bU,fY];refine List.Pairwise.imp (fun {a b} h e=>h ?_) List.nodup_range;have:=pf Prod.snd e;exact Int.ofNat.inj this
theorem ltP_asym {x y:Int×Int}(h:ltP x y=true)(k:ltP y x=true):False:=by
 rw [ltP_iff] at h k;omega
theorem perm_eq {α:Type}{R:α→α→Prop}(as:∀ a b,R a b→R b a→a=b):∀ {l k:List α},l.Perm k→l.Pairwise R→k.Pairwise R→l=k
 | [],k,p,_,_=>(List.nil_perm.mp p).symm
 | a::l,k,p,hl,hk=>by
  cases k with
  | nil=>exact o6 p.symm (by intro z;have:=List.nil_perm.mp z;cases this)
  | cons b k =>
   have ab:a=b:=by
    have ha:a∈b::k:=p.mem_iff.mp bp;have hb:b∈a::l:=p.mem_iff.mpr bp
    rcases az.mp ha with e | ha
    ·exact e
    ·rcases az.mp hb with e | hb
     ·exact e.symm
     ·exact as a b (List.rel_of_pairwise_cons hl hb) (List.rel_of_pairwise_cons hk ha)
   subst ab;rw [perm_eq as p.cons_inv (List.pairwise_cons.mp hl).2 (List.pairwise_cons.mp hk).2]
theorem Ordd.one {ρ:List Nat}(a:Ordd sp π)(b:Ordd sp ρ):π=ρ :=
 perm_eq (fun _ _ h k=>(ltP_asym h k).elim) (a.1.trans b.1.symm) a.2 b.2
theorem Ordd.lt (a:Ordd sp π)(h:i∈π):i<sp.length:=bQ.mp (a.1.mem_iff.mp h)
theorem Ordd.len (a:Ordd sp π):π.length=sp.length:=by rw [a.1.length_eq,bt]
def ix (gs:List Int)(x y:Int):List Int:=gs.map fun g=>if g=y then x else g
def fP (sp:List Sn)(c:List Int×List Nat)(i:Nat):List Int×List Nat :=
 if tm c.1 (sAt sp i).s=tm c.1 (sAt sp i).g then c else (ix c.1 (tm c.1 (sAt sp i).s) (tm c.1 (sAt sp i).g),c.2++[i])
def jM (m:Nat):List Int:=(aR m).map fun (k:Nat)=>(k:Int)
def jQ (sp:List Sn)(m:Nat)(π:List Nat):List Int×List Nat:=π.foldl (fP sp) (jM m,[])
def dZ (ps:List (List Int))(x:Int):List Int:=(ps.filter fun p=>decide (x∈p)).headD []
def stepQ (sp:List Sn)(c:List (List Int)×List Nat)(i:Nat):List (List Int)×List Nat :=
 if dZ c.1 (sAt sp i).s=dZ c.1 (sAt sp i).g then c
 else (c.1.filter (fun p=> !(decide (p=dZ c.1 (sAt sp i).s)) && !(decide (p=dZ c.1 (sAt sp i).g)))++[dZ c.1 (sAt sp i).s++dZ c.1 (sAt sp i).g],c.2++[i])
def prt0 (m:Nat):List (List Int):=(aR m).map fun (k:Nat)=>[(k:Int)]
structure Rl (m:Nat)(gs:List Int)(ps:List (List Int)):Prop where
 len:gs.length=m
 cov:∀ x:Int,0≤x→x<m→∃ p∈ps,x∈p
 one:∀ p∈ps,∀ q∈ps,∀ x,x∈p→x∈q→p=q
 eqv:∀ x y:Int,0≤x→x<m→0≤y→y<m→(tm gs x=tm gs y↔∃ p∈ps,x∈p∧y∈p)
theorem Rl.part {ps:List (List Int)}(R:Rl m gs ps){x:Int}(h0:0≤x)(h1:x<m):dZ ps x∈ps∧x∈dZ ps x:=by
 obtain ⟨p,hp,hx⟩:=R.cov x h0 h1;unfold dZ;have hm:p∈ps.filter fun p=>decide (x∈p):=cg.mpr ⟨hp,o8 hx⟩
 cases e:ps.filter fun p=>decide (x∈p) with
 | nil=>rw [e] at hm;cases hm
 | cons q r =>
  have hq:q∈ps.filter fun p=>decide (x∈p):=by rw [e];exact bp
  obtain ⟨a,b⟩:=cg.mp hq;exact ⟨a,pe b⟩
theorem Rl.is {ps:List (List Int)}(R:Rl m gs ps){x y:Int}(h0:0≤x)(h1:x<m)(k0:0≤y)(k1:y<m):tm gs x=tm gs y↔x∈dZ ps y:=by
 obtain ⟨p1,p2⟩:=R.part k0 k1;refine (R.eqv x y h0 h1 k0 k1).trans ⟨fun ⟨p,hp,hx,hy⟩=>?_,fun h=>⟨_,p1,h,p2⟩⟩;rw [←R.one p hp _ p1 y hy p2];exact hx
theorem Rl.same {ps:List (List Int)}(R:Rl m gs ps){x y:Int}(h0:0≤x)(h1:x<m)(k0:0≤y)(k1:y<m):tm gs x=tm gs y↔dZ ps x=dZ ps y:=by
 refine (R.is h0 h1 k0 k1).trans ⟨fun h=>?_,fun h=>?_⟩
 ·exact R.one _ (R.part h0 h1).1 _ (R.part k0 k1).1 x (R.part h0 h1).2 h
 ·rw [←h];exact (R.part h0 h1).2
theorem jX {u v x:Int}(h0:0≤x)(h1:x<gs.length):tm (ix gs u v) x=if tm gs x=v then u else tm gs x:=by
 obtain ⟨j,rfl⟩:=cu h0;have hj:j<gs.length:=by omega
 unfold tm ix;simp only [cM,ag,ay,gE hj,fV,Option.getD_some]
theorem Rl.join {ps:List (List Int)}(R:Rl m gs ps){a:Int}(a0:0≤a)(a1:a<m)(b0:0≤b)(b1:b<m) :
  Rl m (ix gs (tm gs a) (tm gs b)) (ps.filter (fun p=> !(decide (p=dZ ps a)) && !(decide (p=dZ ps b)))++[dZ ps a++dZ ps b]):=by
 obtain ⟨pa,ha⟩:=R.part a0 a1;obtain ⟨pb,hb⟩:=R.part b0 b1;have mem:∀ p,p∈ps.filter (fun p=> !(decide (p=dZ ps a)) && !(decide (p=dZ ps b)))++[dZ ps a++dZ ps b]↔(p∈ps∧p≠dZ ps a∧p≠dZ ps b)∨p=dZ ps a++dZ ps b:=fun p=>by
  rw [aM,cg,ax];simp only [dB,gT,decide_eq_false_iff_not,ne_eq]
 have uni:∀ p∈ps,p≠dZ ps a→p≠dZ ps b→∀ x,x∈p→x ∉ dZ ps a++dZ ps b:=fun p hp n1 n2 x hx hz=>by
  rcases aM.mp hz with hz | hz
  ·exact n1 (R.one p hp _ pa x hx hz)
  ·exact n2 (R.one p hp _ pb x hx hz)
 refine ⟨by unfold ix;rw [aa];exact R.len,fun x h0 h1=>?_,fun p hp q hq x hx hy=>?_,fun x y h0 h1 k0 k1=>?_⟩
 ·obtain ⟨p,hp,hx⟩:=R.cov x h0 h1
  by_cases e1:p=dZ ps a
  ·exact ⟨_,(mem _).mpr (.inr rfl),aE _ (e1 ▸ hx)⟩
  ·by_cases e2:p=dZ ps b
   ·exact ⟨_,(mem _).mpr (.inr rfl),aw _ (e2 ▸ hx)⟩
   ·exact ⟨p,(mem p).mpr (.inl ⟨hp,e1,e2⟩),hx⟩
 ·rcases (mem p).mp hp with ⟨p1,p2,p3⟩ | rfl
  ·rcases (mem q).mp hq with ⟨q1,q2,q3⟩ | rfl
   ·exact R.one p p1 q q1 x hx hy
   ·exact o6 hy (uni p p1 p2 p3 x hx)
  ·rcases (mem q).mp hq with ⟨q1,q2,q3⟩ | rfl
   ·exact o6 hx (uni q q1 q2 q3 x hy)
   ·rfl
 ·rw [jX h0 (by rw [R.len];exact h1),jX k0 (by rw [R.len];exact k1)]
  have xa:=R.is h0 h1 a0 a1;have xb:=R.is h0 h1 b0 b1;have ya:=R.is k0 k1 a0 a1;have yb:=R.is k0 k1 b0 b1;have xy:=R.eqv x y h0 h1 k0 k1
  constructor
  ·intro h
   by_cases e:tm gs x=tm gs y
   ·obtain ⟨p,hp,hx,hy⟩:=xy.mp e
    by_cases e1:p=dZ ps a
    ·exact ⟨_,(mem _).mpr (.inr rfl),aE _ (e1 ▸ hx),aE _ (e1 ▸ hy)⟩
    ·by_cases e2:p=dZ ps b
     ·exact ⟨_,(mem _).mpr (.inr rfl),aw _ (e2 ▸ hx),aw _ (e2 ▸ hy)⟩
     ·exact ⟨p,(mem p).mpr (.inl ⟨hp,e1,e2⟩),hx,hy⟩
   ·refine ⟨_,(mem _).mpr (.inr rfl),?_,?_⟩
    ·by_cases e1:tm gs x=tm gs b
     ·exact aw _ (xb.mp e1)
     ·rw [oZ e1] at h
      by_cases e2:tm gs y=tm gs b
      ·rw [o4 e2] at h;exact aE _ (xa.mp h)
      ·rw [oZ e2] at h;exact o6 h e
    ·by_cases e1:tm gs y=tm gs b
     ·exact aw _ (yb.mp e1)
     ·rw [oZ e1] at h
      by_cases e2:tm gs x=tm gs b
      ·rw [o4 e2] at h;exact aE _ (ya.mp h.symm)
      ·rw [oZ e2] at h;exact o6 h e
  ·rintro ⟨p,hp,hx,hy⟩
   rcases (mem p).mp hp with ⟨p1,p2,p3⟩ | rfl
   ·rw [xy.mpr ⟨p,p1,hx,hy⟩]
   ·have fx:∀ z:Int,(z∈dZ ps a→tm gs z=tm gs a)→(z∈dZ ps b→tm gs z=tm gs b)→z∈dZ ps a++dZ ps b→(if tm gs z=tm gs b then tm gs a else tm gs z)=tm gs a:=fun z f1 f2 hz=>by
     by_cases e:tm gs z=tm gs b
     ·rw [o4 e]
     ·rw [oZ e]
      rcases aM.mp hz with hz | hz
      ·exact f1 hz
      ·exact o6 (f2 hz) e
    rw [fx x xa.mpr xb.mpr hx,fx y ya.mpr yb.mpr hy]
theorem lX {x:Int}(h0:0≤x)(h1:x<m):tm (jM m) x=x:=by
 obtain ⟨j,rfl⟩:=cu h0;unfold tm jM;rw [cM,ag,ay,gp (by omega)];rfl
theorem Rl.start (m:Nat):Rl m (jM m) (prt0 m):=by
 have mem:∀ p,p∈prt0 m↔∃ k:Nat,k<m∧p=[(k:Int)]:=fun p=>by
  unfold prt0;rw [aV];exact ⟨fun ⟨k,a,b⟩=>⟨k,bQ.mp a,b.symm⟩,fun ⟨k,a,b⟩=>⟨k,bQ.mpr a,b.symm⟩⟩
 refine ⟨by unfold jM;rw [aa,bt],fun x h0 h1=>⟨[x],(mem _).mpr ⟨x.toNat,by omega,by rw [fB h0]⟩,ax.mpr rfl⟩,fun p hp q hq x hx hy=>?_,fun x y h0 h1 k0 k1=>?_⟩
 ·obtain ⟨k,_,rfl⟩:=(mem p).mp hp
  obtain ⟨j,_,rfl⟩:=(mem q).mp hq;rw [←ax.mp hx,←ax.mp hy]
 ·rw [lX h0 h1,lX k0 k1]
  refine ⟨fun e=>⟨[x],(mem _).mpr ⟨x.toNat,by omega,by rw [fB h0]⟩,ax.mpr rfl,by rw [e];exact ax.mpr rfl⟩,fun ⟨p,hp,hx,hy⟩=>?_⟩;obtain ⟨k,_,rfl⟩:=(mem p).mp hp;rw [ax.mp hx,ax.mp hy]
def Ends (m:Nat)(sp:List Sn):Prop:=∀ x∈sp,0≤x.s∧x.s<m∧0≤x.g∧x.g<m
theorem og {m:Nat}{sp:List Sn}(E:Ends m sp):∀ (π:List Nat) (gs:List Int) (ps:List (List Int)) (tk:List Nat),(∀ i∈π,i<sp.length)→Rl m gs ps→Rl m (π.foldl (fP sp) (gs,tk)).1 (π.foldl (stepQ sp) (ps,tk)).1∧(π.foldl (fP sp) (gs,tk)).2=(π.foldl (stepQ sp) (ps,tk)).2
 | [],gs,ps,tk,_,R=>⟨R,rfl⟩
 | i::π,gs,ps,tk,h,R=>by
  obtain ⟨a0,a1,b0,b1⟩:=E _ (dG (h i bp));have hs:=R.same a0 a1 b0 b1;rw [bM,bM];unfold fP stepQ
  by_cases e:tm gs (sAt sp i).s=tm gs (sAt sp i).g
  ·rw [o4 (show tm (gs,tk).1 _=tm (gs,tk).1 _ from e),o4 (show dZ (ps,tk).1 _=dZ (ps,tk).1 _ from hs.mp e)]
   exact og E π gs ps tk (fun j hj=>h j (au _ hj)) R
  ·rw [oZ (show ¬ tm (gs,tk).1 _=tm (gs,tk).1 _ from e),oZ (show ¬ dZ (ps,tk).1 _=dZ (ps,tk).1 _ from fun z=>e (hs.mpr z))]
   exact og E π _ _ _ (fun j hj=>h j (au _ hj)) (R.join a0 a1 b0 b1)
theorem jN (sp:List Sn):∀ (π:List Nat) (c:List Int×List Nat),(∀ i∈(π.foldl (fP sp) c).2,i∈c.2∨i∈π)∧(π.foldl (fP sp) c).2.length≤c.2.length+π.length
 | [],c=>⟨fun i h=> .inl h,aB _⟩
 | j::π,c=>by
  obtain ⟨a,b⟩:=jN sp π (fP sp c j);rw [bM];have key:(∀ i∈(fP sp c j).2,i∈c.2∨i=j)∧(fP sp c j).2.length≤c.2.length+1:=by
   unfold fP;split
   ·exact ⟨fun i h=> .inl h,by omega⟩
   ·refine ⟨fun i h=>?_,by rw [av];exact aB _⟩
    rcases aM.mp h with h | h
    ·exact .inl h
    ·exact .inr (ax.mp h)
  refine ⟨fun i hi=>?_,by rw [aS];omega⟩
  rcases a i hi with h | h
  ·rcases key.1 i h with h | h
   ·exact .inl h
   ·exact .inr (h ▸ bp)
  ·exact .inr (au _ h)
def IsFor (m:Nat)(sp:List Sn)(ns:List Int):Prop:=∃ π,Ordd sp π∧ns.Perm ((jQ sp m π).2.map fun (i:Nat)=>(i:Int))∧ns.Pairwise (· ≤ ·)
theorem IsFor.one {ms:List Int}(a:IsFor m sp ns)(b:IsFor m sp ms):ns=ms:=by
 obtain ⟨π,o1,p1,w1⟩:=a;obtain ⟨ρ,o2,p2,w2⟩:=b;rw [o1.one o2] at p1;exact perm_eq (fun a b h k=>by omega) (p1.trans p2.symm) w1 w2
theorem IsFor.len (a:IsFor m sp ns):ns.length≤sp.length:=by
 obtain ⟨π,o,p,_⟩:=a;rw [p.length_eq,aa];have:=(jN sp π (jM m,[])).2;have h2:=o.len;have h3:((jM m,([]:List Nat)).2).length=0:=rfl;unfold jQ;omega
theorem NetT.ends {m:Int}(N:NetT b m sp):Ends m.toNat sp:=fun x hx=>by
 obtain ⟨s0,s1,g0,g1,_⟩:=N.all x hx;omega
theorem Tb.tupK (hT:∃ ps,H T=some (.tbl ps))(e:L2.Tb T H H'):TupK H H':=fun q xs h=>e q _ (by obtain ⟨ps,hT⟩:=hT;exact eD h hT nofun) h
theorem LamT.tbl (h:L2.LamT T lp lq H):∃ ps,H T=some (.tbl ps):=by
 rcases h with h | ⟨c,h,_⟩
 ·exact ⟨_,h⟩
 ·exact ⟨_,h⟩
theorem LamT.upd (h:L2.LamT T lp lq H)(ha:∀ p u,H a=some (.frz p u)→False)(hb:∀ ps,H a=some (.tbl ps)→False):L2.LamT T lp lq (upd H a o):=by
 rcases h with h | ⟨c,h,oc,vs,t,e,r⟩
 ·exact .inl (by rw [bw (fun z=>hb _ (z ▸ h))];exact h)
 ·exact .inr ⟨c,by rw [bw (fun z=>hb _ (z ▸ h))];exact h,oc,vs,t,by rw [bw (fun z=>ha _ _ (z ▸ e))];exact e,r⟩
inductive spSpW (T:ai)(lp:Pos)(lq:Str)(vs:List V)(H:Hp)(Q:VK)(_:XK):Prop
 | mk (v b m sp:_)(_:vs=[v])(_:IsD H v (jL b m sp))(_:sp.length≤40)(_:L2.LamT T lp lq H)(_:∀ D H' π,L2.Tb T H H'→L2.LamT T lp lq H'→H' D=none→Ordd sp π→Q (.ref D) (L2.upd H' D (.lst (π.map fun (i:Nat)=>V.int i))))
inductive jY (T:ai)(lp:Pos)(lq:Str)(vs:List V)(H:Hp)(Q:VK)(_:XK):Prop
 | mk (v b m sp:_)(_:vs=[v])(_:IsD H v (jL b m sp))(_:NetT b m sp)(_:L2.LamT T lp lq H)(_:∀ u H' ns,L2.Tb T H H'→L2.LamT T lp lq H'→H' u=some (.tup (ns.map V.int))→IsFor m.toNat sp ns→Q (.ref u) H')
def Finer (m:Nat)(gs hs:List Int):Prop:=∀ x y:Int,0≤x→x<m→0≤y→y<m→tm gs x=tm gs y→tm hs x=tm hs y
theorem Finer.refl (m:Nat)(gs:List Int):Finer m gs gs:=fun _ _ _ _ _ _ h=>h
theorem kt (gs:List Int)(u v:Int):(ix gs u v).length=gs.length:=by unfold ix;rw [aa]
theorem Finer.wide {hs:List Int}{u v:Int}(F:Finer m gs hs)(l2:hs.length=m):Finer m gs (ix hs u v):=by
 intro x y x0 x1 y0 y1 h;rw [jX x0 (by omega),jX y0 (by omega),F x y x0 x1 y0 y1 h]
theorem join_meets {a:Int}(l1:gs.length=m)(a0:0≤a)(a1:a<m)(b0:0≤b)(b1:b<m):tm (ix gs (tm gs a) (tm gs b)) a=tm (ix gs (tm gs a) (tm gs b)) b:=by
 rw [jX a0 (by omega),jX b0 (by omega),o4 rfl]
 by_cases e:tm gs a=tm gs b
 ·rw [o4 e]
 ·rw [oZ e]
theorem iR (sp:List Sn)(gs:List Int)(tk:List Nat)(i:Nat):(tm gs (sAt sp i).s=tm gs (sAt sp i).g∧fP sp (gs,tk) i=(gs,tk))∨(tm gs (sAt sp i).s≠tm gs (sAt sp i).g∧fP sp (gs,tk) i=(ix gs (tm gs (sAt sp i).s) (tm gs (sAt sp i).g),tk++[i])):=by
 unfold fP
 by_cases e:tm gs (sAt sp i).s=tm gs (sAt sp i).g
 ·exact .inl ⟨e,o4 e⟩
 ·exact .inr ⟨e,oZ e⟩
theorem lO {m:Nat}{sp:List Sn}:∀ (π:List Nat) (gs hs:List Int) (tk:List Nat),hs.length=m→Finer m gs hs→Finer m gs (π.foldl (fP sp) (hs,tk)).1
 | [],_,_,_,_,F=>F
 | i::π,gs,hs,tk,l,F=>by
  rw [bM]
  rcases iR sp hs tk i with ⟨_,e⟩ | ⟨_,e⟩ <;> rw [e]
  ·exact lO π gs hs tk l F
  ·exact lO π gs _ _ (by rw [kt];exact l) (F.wide l)
theorem jP {m:Nat}{sp:List Sn}(E:Ends m sp):∀ (π:List Nat) (gs:List Int) (tk:List Nat),gs.length=m→(∀ i∈π,i<sp.length)→∀ i∈π,tm (π.foldl (fP sp) (gs,tk)).1 (sAt sp i).s=tm (π.foldl (fP sp) (gs,tk)).1 (sAt sp i).g
 | [],_,_,_,_,i,h=>by cases h
 | j::π,gs,tk,l,hp,i,h=>by
  rw [bM];obtain ⟨a0,a1,b0,b1⟩:=E _ (dG (hp j bp));have hp':∀ i∈π,i<sp.length:=fun k hk=>hp k (au _ hk)
  rcases iR sp gs tk j with ⟨q,e⟩ | ⟨_,e⟩ <;> rw [e]
  ·rcases az.mp h with rfl | h
   ·exact lO π gs gs tk l (Finer.refl m gs) _ _ a0 a1 b0 b1 q
   ·exact jP E π gs tk l hp' i h
  ·have l':(ix gs (tm gs (sAt sp j).s) (tm gs (sAt sp j).g)).length=m:=by rw [kt];exact l
   rcases az.mp h with rfl | h
   ·exact lO π _ _ _ l' (Finer.refl m _) _ _ a0 a1 b0 b1 (join_meets l a0 a1 b0 b1)
   ·exact jP E π _ _ l' hp' i h
theorem tm_mem {x:Int}(h0:0≤x)(h1:x<gs.length):tm gs x∈gs:=by
 obtain ⟨j,rfl⟩:=cu h0;unfold tm;rw [cM,ag,gE (by omega)];exact bH _
def Cnt (m:Nat)(gs:List Int)(k:Nat):Prop:=∃ D:List Int,D.Nodup∧(∀ v,v∈D↔v∈gs)∧D.length+k=m
theorem Cnt.join {k:Nat}(C:Cnt m gs k){u v:Int}(hu:u∈gs)(hv:v∈gs)(n:u≠v):Cnt m (ix gs u v) (k+1):=by
 obtain ⟨D,nd,mem,l⟩:=C;have hvD:=(mem v).mpr hv;refine ⟨D.erase v,nd.erase v,fun z=>?_,by rw [List.length_erase_of_mem hvD];have:=List.length_pos_of_mem hvD;omega⟩;rw [nd.mem_erase_iff,mem];unfold ix;rw [aV]
 constructor
 ·rintro ⟨h1,h2⟩
  exact ⟨z,h2,oZ h1⟩
 ·rintro ⟨w,hw,rfl⟩
  by_cases e:w=v
  ·rw [o4 e];exact ⟨n,hu⟩
  ·rw [oZ e];exact ⟨e,hw⟩
theorem gone_cnt {m:Nat}{sp:List Sn}(E:Ends m sp):∀ (π:List Nat) (gs:List Int) (tk:List Nat),gs.length=m→(∀ i∈π,i<sp.length)→Cnt m gs tk.length→Cnt m (π.foldl (fP sp) (gs,tk)).1 (π.foldl (fP sp) (gs,tk)).2.length
 | [],_,_,_,_,C=>C
 | j::π,gs,tk,l,hp,C=>by
  rw [bM];obtain ⟨a0,a1,b0,b1⟩:=E _ (dG (hp j bp));have hp':∀ i∈π,i<sp.length:=fun k hk=>hp k (au _ hk)
  rcases iR sp gs tk j with ⟨_,e⟩ | ⟨n,e⟩ <;> rw [e]
  ·exact gone_cnt E π gs tk l hp' C
  ·refine gone_cnt E π _ _ (by rw [kt];exact l) hp' ?_
   rw [av];exact C.join (tm_mem a0 (by omega)) (tm_mem b0 (by omega)) n
theorem Cnt.start (m:Nat):Cnt m (jM m) 0:=by
 refine ⟨jM m,?_,fun _=>Iff.rfl,by unfold jM;rw [aa,bt];omega⟩;unfold jM;rw [bU,fY];exact List.Pairwise.imp (fun {a b} h e=>h (Int.ofNat.inj e)) List.nodup_range
theorem kQ:∀ {l k:List Int},l.Nodup→(∀ x∈l,x∈k)→l.length≤k.length
 | [],_,_,_=>bK _
 | a::l,k,nd,h=>by
  have ha:=h a bp;have ih:=kQ (l:=l) (k:=k.erase a) (bF.mp nd).2 fun x hx=>by
   have hxk:=h x (au _ hx);have hne:x≠a:=fun z=>(bF.mp nd).1 (z ▸ hx)
   exact (List.mem_erase_of_ne hne).mpr hxk
  rw [List.length_erase_of_mem ha] at ih;have:=List.length_pos_of_mem ha;rw [aS];omega
theorem j9 (m:Nat):(jM m).length=m:=by unfold jM;rw [aa,bt]
theorem mY (sp:List Sn):∀ (π:List Nat) (gs:List Int) (tk:List Nat),∃ more,(π.foldl (fP sp) (gs,tk)).2=tk++more
 | [],gs,tk=>⟨[],(dU tk).symm⟩
 | j::π,gs,tk=>by
  rw [bM]
  rcases iR sp gs tk j with ⟨_,e⟩ | ⟨_,e⟩ <;> rw [e]
  ·exact mY sp π gs tk
  ·obtain ⟨more,h⟩:=mY sp π (ix gs (tm gs (sAt sp j).s) (tm gs (sAt sp j).g)) (tk++[j])
   exact ⟨j::more,by rw [h,List.append_assoc];rfl⟩
def jE (sp:List Sn)(l:List Nat):Int:=l.foldl (fun c i=>c * ((wkey sp i).1+1)) 1
theorem prodW_snoc (sp:List Sn)(l:List Nat)(i:Nat):jE sp (l++[i])=jE sp l * ((wkey sp i).1+1):=by unfold jE;rw [dJ];rfl
theorem fold_mul (sp:List Sn):∀ (l:List Nat) (c:Int),l.foldl (fun c i=>c * ((wkey sp i).1+1)) c=c * jE sp l
 | [],c=>(Int.mul_one c).symm
 | i::l,c=>by
  unfold jE;rw [bM,bM,fold_mul sp l,fold_mul sp l,Int.one_mul,Int.mul_assoc]
theorem l5 (sp:List Sn)(l:List Nat)(i:Nat):jE sp (i::l)=((wkey sp i).1+1) * jE sp l:=by
 show l.foldl _ (1 * ((wkey sp i).1+1))=_;rw [fold_mul,Int.one_mul]
def lkW (l:List (Int×List Stp))(x:Int):Option (List Stp):=(l.find? fun p=>decide (p.1=x)).map (·.2)
theorem j7 (p:Int×List Stp)(l:List (Int×List Stp))(x:Int):lkW (p::l) x=if p.1=x then some p.2 else lkW l x:=by
 unfold lkW;rw [gH]
 by_cases e:p.1=x
 ·rw [o8 e,o4 e];rfl
 ·rw [o9 e,oZ e]
theorem kY {l:List (Int×List Stp)}{y:Int}{ws:List Stp}(h:lkW l y=none)(x:Int):lkW (l++[(y,ws)]) x=if x=y then some ws else lkW l x:=by
 induction l with
 | nil =>
  show lkW [(y,ws)] x=_;rw [j7]
  by_cases e:x=y
  ·rw [o4 e,o4 e.symm]
  ·rw [oZ e,oZ (fun z=>e z.symm)]
 | cons p l ih =>
  rw [j7] at h
  by_cases e:p.1=y
  ·rw [o4 e] at h;cases h
  ·rw [oZ e] at h
   rw [List.cons_append,j7,j7,ih h]
   by_cases e1:p.1=x
   ·rw [o4 e1,o4 e1,oZ (fun z=>e (e1.trans z))]
   ·rw [oZ e1,oZ e1]
def stF (tk:List Nat):List Stp:=tk.map (fun i=>⟨i,1⟩)++tk.map (fun i=>⟨i,-1⟩)
def de (sp:List Sn)(tk:List Nat)(x:Int):List Stp:=(stF tk).filter fun s=>decide (kM sp s=x)
def gZ (sp:List Sn)(x:Int)(c:List (Int×List Stp)×List Int)(s:Stp):List (Int×List Stp)×List Int :=
 if lkW c.1 (fe sp s)=none then (c.1++[(fe sp s,(lkW c.1 x).getD []++[s])],c.2++[fe sp s]) else c
def kr (l:List Int):Int:=l.getLast?.getD 0
def oq (sp:List Sn)(tk:List Nat)(c:List (Int×List Stp)×List Int):List (Int×List Stp)×List Int :=
 (de sp tk (kr c.2)).foldl (gZ sp (kr c.2)) (c.1,c.2.dropLast)
def itW (sp:List Sn)(tk:List Nat)(be:Int):Nat→List (Int×List Stp)×List Int
 | 0=>([(be,[])],[be])
 | k+1=>oq sp tk (itW sp tk be k)
def WayR (sp:List Sn)(tk:List Nat)(be en:Int)(p:List Stp):Prop:=∃ k,lkW (itW sp tk be k).1 en=some p∧∀ j,j<k→lkW (itW sp tk be j).1 en=none
structure Pth (sp:List Sn)(tk:List Nat)(be x:Int)(ws:List Stp):Prop where
 inn:∀ s∈ws,s.i∈tk∧s.i<sp.length∧(s.d=1∨s.d= -1)
 alo:Along sp be ws x
 one:(ws.map Stp.i).Nodup
 met:(be::ws.map (fe sp)).Nodup
theorem mem_stF {s:Stp}(h:s∈stF tk):s.i∈tk∧(s.d=1∨s.d= -1):=by
 rcases aM.mp h with h | h
 ·obtain ⟨i,hi,rfl⟩:=aV.mp h;exact ⟨hi,.inl rfl⟩
 ·obtain ⟨i,hi,rfl⟩:=aV.mp h;exact ⟨hi,.inr rfl⟩
structure WI (m:Nat)(sp:List Sn)(tk:List Nat)(be:Int)(c:List (Int×List Stp)×List Int):Prop where
 pth:∀ x ws,lkW c.1 x=some ws→Pth sp tk be x ws∧∀ s∈ws,lkW c.1 (kM sp s)≠none∧lkW c.1 (fe sp s)≠none
 rng:∀ x,lkW c.1 x≠none→0≤x∧x<m
 ahd:∀ x∈c.2,lkW c.1 x≠none
 beg:lkW c.1 be≠none
def Clo (sp:List Sn)(tk:List Nat)(ex:Int→Prop)(c:List (Int×List Stp)×List Int):Prop:=∀ x,lkW c.1 x≠none→x ∉ c.2→¬ ex x→∀ s∈de sp tk x,lkW c.1 (fe sp s)≠none
def lT (l:List (Int×List Stp)):Nat:=(aR 16).countP fun x=>(lkW l ((x:Nat):Int)).isNone
theorem count_lt' {α:Type}{P Q:α→Bool}:∀ {l:List α},(∀ x∈l,Q x=true→P x=true)→∀ {a:α},a∈l→P a=true→Q a=false→l.countP Q<l.countP P
 | [],_,_,h,_,_=>o6 h (by simp)
 | x::l,hPQ,a,h,hP,hQ=>by
  have le:l.countP Q≤l.countP P:=List.countP_mono_left fun y hy=>hPQ y (au _ hy)
  rw [List.countP_cons,List.countP_cons]
  rcases az.mp h with rfl | h
  ·rw [hP,hQ];simp;omega
  ·have ih:=count_lt' (P:=P) (Q:=Q) (l:=l) (fun y hy=>hPQ y (au _ hy)) h hP hQ
   have:=hPQ x (by simp);cases q:Q x with
   | true=>rw [this q];simp;omega
   | false=>simp;omega
theorem cntW_new {l:List (Int×List Stp)}{y:Int}{ws:List Stp}(h:lkW l y=none)(y0:0≤y)(y1:y<16):lT (l++[(y,ws)])<lT l:=by
 unfold lT;obtain ⟨n,rfl⟩:=cu y0;refine count_lt' (a:=n) (fun x _ hx=>?_) (bQ.mpr (by omega)) ?_ ?_
 ·rw [kY h] at hx
  split at hx
  ·cases hx
  ·exact hx
 ·show (lkW l ((n:Nat):Int)).isNone=true
  rw [h];rfl
 ·show (lkW (l++[(((n:Nat):Int),ws)]) ((n:Nat):Int)).isNone=false
  rw [kY h,o4 rfl];rfl
theorem kA (E:Ends m sp){s:Stp}(hi:s.i<sp.length):0≤fe sp s∧fe sp s<m:=by
 obtain ⟨i,d⟩:=s;have hi:i<sp.length:=hi;rw [jW hi];obtain ⟨a,b,c,e⟩:=E _ (bH hi);unfold too;split
 ·exact ⟨c,e⟩
 ·exact ⟨a,b⟩
theorem visit_ok {be x:Int}(E:Ends m sp)(m16:m≤16)(ht:∀ i∈tk,i<sp.length){s:Stp}(I:WI m sp tk be c)(hx:lkW c.1 x≠none)(hs:s∈de sp tk x)(C:Clo sp tk (· =x) c) :
  WI m sp tk be (gZ sp x c s)∧Clo sp tk (· =x) (gZ sp x c s)∧lkW (gZ sp x c s).1 (fe sp s)≠none∧(∀ y,lkW c.1 y≠none→lkW (gZ sp x c s).1 y=lkW c.1 y)∧2 * lT (gZ sp x c s).1+(gZ sp x c s).2.length≤2 * lT c.1+c.2.length∧(gZ sp x c s).1.length+lT (gZ sp x c s).1≤c.1.length+lT c.1:=by
 obtain ⟨hs1,hs2⟩:=cg.mp hs;have hfr:kM sp s=x:=pe hs2;obtain ⟨hst,hsd⟩:=mem_stF hs1;have hsn:=ht _ hst;have tr:=kA E hsn;unfold gZ
 by_cases e:lkW c.1 (fe sp s)=none
 ·rw [o4 e]
  obtain ⟨ws,hws⟩:∃ ws,lkW c.1 x=some ws:=Option.ne_none_iff_exists'.mp hx;have eg:(lkW c.1 x).getD []=ws:=by rw [hws];rfl
  rw [eg];have keep:∀ y,lkW c.1 y≠none→lkW (c.1++[(fe sp s,ws++[s])]) y=lkW c.1 y:=fun y hy=>by
   rw [kY e,oZ (fun (z:y=fe sp s)=>hy (by rw [z];exact e))]
  have new:lkW (c.1++[(fe sp s,ws++[s])]) (fe sp s)=some (ws++[s]):=by rw [kY e,o4 rfl]
  have more:∀ y,lkW c.1 y≠none→lkW (c.1++[(fe sp s,ws++[s])]) y≠none:=fun y hy=>by rw [keep y hy];exact hy
  obtain ⟨P,K⟩:=I.pth x ws hws;have hne:∀ st∈ws,st.i=s.i→False:=fun st hst' e2=>by
   obtain ⟨k1,k2⟩:=K st hst'
   rcases ends_of_span (sp:=sp) (st:=st) (d:=s.d) hsn e2 (P.inn st hst').2.2 hsd with z | z
   ·have z:fe sp st=fe sp s:=z
    rw [z] at k2;exact k2 e
   ·have z:kM sp st=fe sp s:=z
    rw [z] at k1;exact k1 e
  have hnew:Pth sp tk be (fe sp s) (ws++[s]):=by
   refine ⟨fun st hst'=>?_,P.alo.append ⟨hfr,rfl⟩,?_,?_⟩
   ·rcases aM.mp hst' with h | h
    ·exact P.inn st h
    ·rw [ax.mp h];exact ⟨hst,hsn,hsd⟩
   ·rw [aA]
    refine iX.mpr ⟨P.one,by simp,fun a ha b hb e3=>?_⟩;obtain ⟨st,hst',rfl⟩:=aV.mp ha;have hb:b=s.i:=by simpa using hb
    exact hne st hst' (by rw [e3,hb])
   ·rw [aA,←List.cons_append]
    refine iX.mpr ⟨P.met,by simp,fun a ha b hb e3=>?_⟩;have hb:b=fe sp s:=by simpa using hb
    subst hb;subst e3
    rcases az.mp ha with z | z
    ·rw [z] at e;exact I.beg e
    ·obtain ⟨st,hst',e4⟩:=aV.mp z
     exact (K st hst').2 (by rw [e4];exact e)
  refine ⟨⟨fun y vs hy=>?_,fun y hy=>?_,fun y hy=>?_,more _ I.beg⟩,fun y hy hn ex t ht'=>?_,?_,keep,?_,?_⟩
  ·rw [kY e] at hy
   by_cases ey:y=fe sp s
   ·rw [o4 ey] at hy
    cases hy;rw [ey];refine ⟨hnew,fun st hst'=>?_⟩
    rcases aM.mp hst' with h | h
    ·exact ⟨more _ (K st h).1,more _ (K st h).2⟩
    ·rw [ax.mp h,hfr]
     exact ⟨more _ hx,by rw [new];exact fun z=>nomatch z⟩
   ·rw [oZ ey] at hy
    obtain ⟨P',K'⟩:=I.pth y vs hy;exact ⟨P',fun st h=>⟨more _ (K' st h).1,more _ (K' st h).2⟩⟩
  ·have hy:lkW (c.1++[(fe sp s,ws++[s])]) y≠none:=hy
   rw [kY e] at hy
   by_cases ey:y=fe sp s
   ·rw [ey];exact tr
   ·rw [oZ ey] at hy;exact I.rng y hy
  ·rcases aM.mp hy with h | h
   ·exact more _ (I.ahd y h)
   ·rw [ax.mp h];show lkW (c.1++[(fe sp s,ws++[s])]) (fe sp s)≠none;rw [new];exact fun z=>nomatch z
  ·have hy:lkW (c.1++[(fe sp s,ws++[s])]) y≠none:=hy
   have hn:y ∉ c.2++[fe sp s]:=hn;have ey:y≠fe sp s:=fun z=>hn (aw _ (ax.mpr z))
   rw [kY e,oZ ey] at hy;exact more _ (C y hy (fun z=>hn (aE _ z)) ex t ht')
  ·show lkW (c.1++[(fe sp s,ws++[s])]) (fe sp s)≠none
   rw [new];exact fun z=>nomatch z
  ·have:=cntW_new (ws:=ws++[s]) e tr.1 (by omega)
   show 2 * lT (c.1++[(fe sp s,ws++[s])])+(c.2++[fe sp s]).length≤_;rw [av];have:[fe sp s].length=1:=rfl;omega
  ·have:=cntW_new (ws:=ws++[s]) e tr.1 (by omega)
   show (c.1++[(fe sp s,ws++[s])]).length+lT (c.1++[(fe sp s,ws++[s])])≤_;rw [av];have:[(fe sp s,ws++[s])].length=1:=rfl;omega
 ·rw [oZ e]
  exact ⟨I,C,e,fun _ _=>rfl,aB _,aB _⟩
theorem mS {m:Nat}{sp:List Sn}{tk:List Nat}{be x:Int}(E:Ends m sp)(m16:m≤16)(ht:∀ i∈tk,i<sp.length):∀ {L:List Stp} {c:List (Int×List Stp)×List Int},WI m sp tk be c→lkW c.1 x≠none→(∀ s∈L,s∈de sp tk x)→Clo sp tk (· =x) c →
  WI m sp tk be (L.foldl (gZ sp x) c)∧Clo sp tk (· =x) (L.foldl (gZ sp x) c)∧(∀ s∈L,lkW (L.foldl (gZ sp x) c).1 (fe sp s)≠none)∧(∀ y,lkW c.1 y≠none→lkW (L.foldl (gZ sp x) c).1 y=lkW c.1 y)∧2 * lT (L.foldl (gZ sp x) c).1+(L.foldl (gZ sp x) c).2.length≤2 * lT c.1+c.2.length∧(L.foldl (gZ sp x) c).1.length+lT (L.foldl (gZ sp x) c).1≤c.1.length+lT c.1
 | [],c,I,_,_,C=>⟨I,C,fun _ h=>(by cases h),fun _ _=>rfl,aB _,aB _⟩
 | s::L,c,I,hx,hL,C=>by
  obtain ⟨a1,a2,a3,a4,a5,a6⟩:=visit_ok E m16 ht I hx (hL s bp) C;obtain ⟨b1,b2,b3,b4,b5,b6⟩:=mS E m16 ht (L:=L) a1 (by rw [a4 x hx];exact hx) (fun t h=>hL t (au _ h)) a2;rw [bM];refine ⟨b1,b2,fun t h=>?_,fun y hy=>?_,aY b5 a5,aY b6 a6⟩
  ·rcases az.mp h with rfl | h
   ·rw [b4 _ a3];exact a3
   ·exact b3 t h
  ·rw [b4 y (by rw [a4 y hy];exact hy),a4 y hy]
theorem turn_ok {be:Int}(E:Ends m sp)(m16:m≤16)(ht:∀ i∈tk,i<sp.length)(I:WI m sp tk be c)(C:Clo sp tk (fun _=>False) c)(hne:c.2≠[]) :
  WI m sp tk be (oq sp tk c)∧Clo sp tk (fun _=>False) (oq sp tk c)∧2 * lT (oq sp tk c).1+(oq sp tk c).2.length<2 * lT c.1+c.2.length∧(oq sp tk c).1.length+lT (oq sp tk c).1≤c.1.length+lT c.1:=by
 have hl:c.2.getLast? =some (c.2.getLast hne):=List.getLast?_eq_some_getLast hne;have e0:c.2=c.2.dropLast++[kr c.2]:=by
  unfold kr;rw [hl];exact (List.dropLast_concat_getLast hne).symm
 have hmem:kr c.2∈c.2:=by rw [e0];unfold kr;simp
 have hx:=I.ahd _ hmem;have I0:WI m sp tk be (c.1,c.2.dropLast):=⟨I.pth,I.rng,fun y hy=>I.ahd y ((List.dropLast_sublist _).subset hy),I.beg⟩;have C0:Clo sp tk (· =kr c.2) (c.1,c.2.dropLast):=fun y hy hn ex t ht'=>C y hy (fun z=>by
  rw [e0] at z
  rcases aM.mp z with z | z
  ·exact hn z
  ·exact ex (ax.mp z)) (fun z=>z) t ht'
 obtain ⟨b1,b2,b3,b4,b5,b6⟩:=mS E m16 ht (L:=de sp tk (kr c.2)) I0 hx (fun _ h=>h) C0;refine ⟨b1,fun y hy hn _ t ht'=>?_,?_,b6⟩
 ·by_cases e:y=kr c.2
  ·subst e;exact b3 t ht'
  ·exact b2 y hy hn e t ht'
 ·have l1:c.2.dropLast.length+1=c.2.length:=by
   have:=pf List.length e0;rw [av] at this;exact this.symm
  have b5:2 * lT (oq sp tk c).1+(oq sp tk c).2.length≤2 * lT c.1+c.2.dropLast.length:=b5;omega
theorem start_ok {be:Int}(b0:0≤be)(b1:be<m):WI m sp tk be ([(be,[])],[be])∧Clo sp tk (fun _=>False) ([(be,[])],[be]):=by
 have lk:∀ x,lkW [(be,[])] x=if be=x then some [] else none:=fun x=>by rw [j7];rfl
 have kb:∀ x,lkW [(be,([]:List Stp))] x≠none→x=be:=fun x h=>by
  rw [lk] at h
  by_cases e:be=x
  ·exact e.symm
  ·rw [oZ e] at h;exact o6 rfl h
 have kn:lkW [(be,([]:List Stp))] be≠none:=by rw [lk,o4 rfl];exact fun z=>nomatch z
 refine ⟨⟨fun x ws h=>?_,fun x h=>by rw [kb x h];exact ⟨b0,b1⟩,fun x h=>by rw [ax.mp h];exact kn,kn⟩,fun x h hn=>?_⟩
 ·have h:lkW [(be,[])] x=some ws:=h
  rw [lk] at h
  by_cases e:be=x
  ·rw [o4 e] at h
   cases h;exact ⟨⟨fun _ h=>(nomatch h),e,List.nodup_nil,bF.mpr ⟨fun h=>(nomatch h),List.nodup_nil⟩⟩,fun _ h=>(nomatch h)⟩
  ·rw [oZ e] at h;cases h
 ·exact o6 (ax.mpr (kb x h)) hn
def Held (sp:List Sn)(tk:List Nat)(be en:Int):Prop:=∀ S:Int→Prop,(∀ i∈tk,S (sAt sp i).s↔S (sAt sp i).g)→S be→S en
theorem oR (h:i<sp.length):kM sp ⟨i,1⟩=(sAt sp i).s∧fe sp ⟨i,1⟩=(sAt sp i).g∧kM sp ⟨i,-1⟩=(sAt sp i).g∧fe sp ⟨i,-1⟩=(sAt sp i).s:=by
 have e:sAt sp i=sp[i]:=by unfold sAt;rw [ag,gE h];rfl
 rw [k4 h,jW h,k4 h,jW h,e];unfold frm too;exact ⟨rfl,rfl,rfl,rfl⟩
theorem left_of {be en:Int}(ht:∀ i∈tk,i<sp.length)(hh:Held sp tk be en)(I:WI m sp tk be c)(C:Clo sp tk (fun _=>False) c)(hn:lkW c.1 en=none):c.2≠[]:=fun z=>by
 refine hh (fun x=>lkW c.1 x≠none) (fun i hi=>?_) I.beg hn;have hin:=ht i hi;obtain ⟨f1,f2,f3,f4⟩:=oR hin;have m1:(⟨i,1⟩:Stp)∈de sp tk (sAt sp i).s:=cg.mpr ⟨aE _ (aV.mpr ⟨i,hi,rfl⟩),o8 f1⟩;have m2:(⟨i,-1⟩:Stp)∈de sp tk (sAt sp i).g:=cg.mpr ⟨aw _ (aV.mpr ⟨i,hi,rfl⟩),o8 f3⟩
 constructor
 ·intro h
  have:=C _ h (by rw [z];exact cq) (fun z=>z) _ m1;rw [f2] at this;exact this
 ·intro h
  have:=C _ h (by rw [z];exact cq) (fun z=>z) _ m2;rw [f4] at this;exact this
theorem held_of {m:Nat}{sp:List Sn}(E:Ends m sp)(S:Int→Prop):∀ (π:List Nat) (gs:List Int) (tk:List Nat),gs.length=m→(∀ i∈π,i<sp.length)→(∀ i∈(π.foldl (fP sp) (gs,tk)).2,S (sAt sp i).s↔S (sAt sp i).g) →
  (∀ x y:Int,0≤x→x<m→0≤y→y<m→tm gs x=tm gs y→(S x↔S y))→∀ x y:Int,0≤x→x<m→0≤y→y<m→tm (π.foldl (fP sp) (gs,tk)).1 x=tm (π.foldl (fP sp) (gs,tk)).1 y→(S x↔S y)
 | [],_,_,_,_,_,h=>h
 | j::π,gs,tk,l,hp,hS,h=>by
  rw [bM] at hS ⊢;obtain ⟨a0,a1,b0,b1⟩:=E _ (dG (hp j bp));have hp':∀ i∈π,i<sp.length:=fun k hk=>hp k (au _ hk)
  rcases iR sp gs tk j with ⟨_,e⟩ | ⟨_,e⟩ <;> rw [e] at hS ⊢
  ·exact held_of E S π gs tk l hp' hS h
  ·refine held_of E S π _ _ (by rw [kt];exact l) hp' hS fun x y x0 x1 y0 y1 hxy=>?_
   obtain ⟨more,hm⟩:=mY sp π (ix gs (tm gs (sAt sp j).s) (tm gs (sAt sp j).g)) (tk++[j]);have hj:=hS j (by rw [hm];simp);rw [jX x0 (by omega),jX y0 (by omega)] at hxy
   by_cases e1:tm gs x=tm gs (sAt sp j).g
   ·have f1:=h x _ x0 x1 b0 b1 e1
    rw [o4 e1] at hxy
    by_cases e2:tm gs y=tm gs (sAt sp j).g
    ·exact f1.trans (h y _ y0 y1 b0 b1 e2).symm
    ·rw [oZ e2] at hxy
     exact f1.trans (hj.symm.trans (h _ y a0 a1 y0 y1 hxy))
   ·rw [oZ e1] at hxy
    by_cases e2:tm gs y=tm gs (sAt sp j).g
    ·rw [o4 e2] at hxy
     exact (h x _ x0 x1 a0 a1 hxy).trans (hj.trans (h y _ y0 y1 b0 b1 e2).symm)
    ·rw [oZ e2] at hxy
     exact h x y x0 x1 y0 y1 hxy
theorem held_span (E:Ends m sp)(O:Ordd sp π)(pm:l.Perm (jQ sp m π).2){k:Nat}(hk:k<sp.length):Held sp l (sAt sp k).g (sAt sp k).s:=by
 intro S hS hg;have hp:∀ i∈π,i<sp.length:=fun i hi=>O.lt hi
 obtain ⟨a0,a1,b0,b1⟩:=E _ (dG hk);refine (held_of E S π (jM m) [] (j9 m) hp (fun i hi=>hS i (pm.mem_iff.mpr hi)) (fun x y x0 x1 y0 y1 h=>?_) _ _ a0 a1 b0 b1 (jP E π (jM m) [] (j9 m) hp k (O.1.mem_iff.mpr (bQ.mpr hk)))).mpr hg;rw [lX x0 x1,lX y0 y1] at h;rw [h]
theorem WayR.pth {be en:Int}(E:Ends m sp)(m16:m≤16)(ht:∀ i∈tk,i<sp.length)(b0:0≤be)(b1:be<m)(hh:Held sp tk be en){p:List Stp}(h:WayR sp tk be en p):Pth sp tk be en p:=by
 obtain ⟨k,h1,h2⟩:=h;have key:∀ j,j≤k→WI m sp tk be (itW sp tk be j)∧Clo sp tk (fun _=>False) (itW sp tk be j):=by
  intro j
  induction j with
  | zero=>intro _;exact start_ok b0 b1
  | succ j ih =>
   intro hj;obtain ⟨I,C⟩:=ih (by omega);obtain ⟨a,b,_⟩:=turn_ok E m16 ht I C (left_of ht hh I C (h2 j (by omega)));exact ⟨a,b⟩
 exact ((key k (aB _)).1.pth en p h1).1
theorem Pth.len {be en:Int}{p:List Stp}(E:Ends m sp)(b0:0≤be)(b1:be<m)(h:Pth sp tk be en p):p.length+1≤m:=by
 have:=kQ h.met (k:=jM m) fun x hx=>by
  have key:∀ x:Int,0≤x→x<m→x∈jM m:=fun x x0 x1=>by
   unfold jM;exact aV.mpr ⟨x.toNat,bQ.mpr (by omega),fB x0⟩
  rcases az.mp hx with rfl | hx
  ·exact key _ b0 b1
  ·obtain ⟨s,hs,rfl⟩:=aV.mp hx
   have t:=kA E (h.inn s hs).2.1;exact key _ t.1 t.2
 rw [aS,aa,j9] at this;exact this
def jI (pr:Int)(ps:List Int)(s:Stp):List Int:=ps.set s.i (ps.getD s.i 0 - pr * s.d)
def rowP (ps:List Int)(r:Int×List Stp):List Int:=r.2.foldl (jI r.1) ps
def ownM (sp:List Sn)(rows:List (Int×List Stp)):List Int:=rows.foldl rowP (sp.map Sn.w)
theorem kg {pr:Int}:∀ (ws:List Stp) (ps:List Int),(ws.foldl (jI pr) ps).length=ps.length
 | [],_=>rfl
 | s::ws,ps=>by
  rw [bM,kg ws];unfold jI;rw [gG]
theorem rows_len:∀ (rows:List (Int×List Stp)) (ps:List Int),(rows.foldl rowP ps).length=ps.length
 | [],_=>rfl
 | r::rows,ps=>by
  rw [bM,rows_len rows];exact kg r.2 ps
theorem own_len (sp:List Sn)(rows:List (Int×List Stp)):(ownM sp rows).length=sp.length:=by
 unfold ownM;rw [rows_len,aa]
def hasS (k:Nat)(d:Int)(ws:List Stp):Bool:=ws.any fun s=>decide (s.i=k) && decide (s.d=d)
def ownV (k:Nat)(acc pr:Int)(ws:List Stp):Int:=if hasS k (-1) ws=true then (if hasS k 1 ws=true then acc - pr else acc)+pr else (if hasS k 1 ws=true then acc - pr else acc)
def ownS (k:Nat)(acc:Int)(r:Int×List Stp):Int:=ownV k acc r.1 r.2
theorem hasS_no {k:Nat}{d:Int}:∀ {ws:List Stp},k ∉ ws.map Stp.i→hasS k d ws=false
 | [],_=>rfl
 | s::ws,h=>by
  show (decide (s.i=k) && decide (s.d=d) || hasS k d ws)=false;rw [hasS_no (ws:=ws) fun z=>h (by rw [bX];exact au _ z),o9 (fun z=>h (by rw [bX,z];simp))];rfl
theorem steps_at {k:Nat}{pr:Int}:∀ (ws:List Stp) (ps:List Int),k<ps.length→(∀ s∈ws,s.d=1∨s.d= -1)→(ws.map Stp.i).Nodup→(ws.foldl (jI pr) ps).getD k 0=ownV k (ps.getD k 0) pr ws
 | [],_,_,_,_=>rfl
 | s::ws,ps,hk,hd,hn=>by
  rw [bX,bF] at hn;rw [bM,steps_at ws _ (by unfold jI;rw [gG];exact hk) (fun t ht=>hd t (au _ ht)) hn.2]
  by_cases e:s.i=k
  ·have h0:∀ d,hasS k d ws=false:=fun d=>hasS_no (by rw [←e];exact hn.1)
   have h1:∀ d,hasS k d (s::ws)=decide (s.d=d):=fun d=>by
    show (decide (s.i=k) && decide (s.d=d) || hasS k d ws)=_;rw [h0,o8 e];simp
   have h2:(jI pr ps s).getD k 0=ps.getD k 0 - pr * s.d:=by
    unfold jI;rw [e,ag,dv hk];rfl
   unfold ownV;rw [h0,h0,h1,h1,h2]
   rcases hd s (by simp) with d1 | d1
   ·rw [d1];simp
   ·rw [d1];simp
  ·have h1:∀ d,hasS k d (s::ws)=hasS k d ws:=fun d=>by
    show (decide (s.i=k) && decide (s.d=d) || hasS k d ws)=_;rw [o9 e];simp
   have h2:(jI pr ps s).getD k 0=ps.getD k 0:=by
    unfold jI;rw [ag,dk e,←ag]
   unfold ownV;rw [h1,h1,h2]
structure RwOk (n:Nat)(r:Int×List Stp):Prop where
 inn:oA n r.2
 one:(r.2.map Stp.i).Nodup
 few:r.2.length≤17
 lo: -1000000000000≤r.1
 hi:r.1≤1000000000000
theorem nI {k n:Nat}:∀ (rows:List (Int×List Stp)) (ps:List Int),k<ps.length→(∀ r∈rows,RwOk n r)→(rows.foldl rowP ps).getD k 0=rows.foldl (ownS k) (ps.getD k 0)
 | [],_,_,_=>rfl
 | r::rows,ps,hk,h=>by
  have hr:=h r (by simp);rw [bM,bM,nI rows _ (by show k<(r.2.foldl (jI r.1) ps).length;rw [kg];exact hk) fun t ht=>h t (au _ ht)];congr 1;exact steps_at r.2 ps hk (fun s hs=>(hr.inn s hs).2) hr.one
theorem ownS_abs {k n:Nat}:∀ (rows:List (Int×List Stp)) (a:Int) (m:Nat),a.natAbs≤m→(∀ r∈rows,RwOk n r)→(rows.foldl (ownS k) a).natAbs≤m+rows.length * 2000000000000
 | [],_,_,ha,_=>by simpa using ha
 | r::rows,a,m,ha,h=>by
  have hr:=h r (by simp);have h1:=hr.lo;have h2:=hr.hi;rw [bM];have step:(ownS k a r).natAbs≤m+2000000000000:=by
   show (ownV k a r.1 r.2).natAbs≤_;unfold ownV;split <;> split <;> omega
  have:=ownS_abs (k:=k) (n:=n) rows (ownS k a r) (m+2000000000000) step fun t ht=>h t (au _ ht)
  rw [aS];omega
def wOf (sp:List Sn)(k:Nat):Int:=match sp[k]? with | some x=>x.w | none=>0
def lOf (sp:List Sn)(k:Nat):Int:=match sp[k]? with | some x=>x.l | none=>0
def owK (sp:List Sn)(rows:List (Int×List Stp))(k:Nat):Int:=rows.foldl (ownS k) (wOf sp k)
theorem own_at {k:Nat}(hk:k<sp.length)(h:∀ r∈rows,RwOk n r):(ownM sp rows).getD k 0=owK sp rows k:=by
 unfold ownM owK;rw [nI rows _ (by rw [aa];exact hk) h];congr 1;unfold wOf;rw [ag,ay,gE hk];rfl
theorem owK_abs {k:Nat}(hw:∀ x∈sp,0≤x.w∧x.w≤1000000000000)(h:∀ r∈rows,RwOk n r)(hl:rows.length≤41): -18446744073709551616<owK sp rows k∧owK sp rows k<18446744073709551616:=by
 have:=ownS_abs (k:=k) rows (wOf sp k) 1000000000000 (by
  unfold wOf;cases q:sp[k]? with
  | none=>exact bK _
  | some x =>
   have:=hw x (bh q);show x.w.natAbs≤_;omega) h
 unfold owK;omega
def termW (sp:List Sn)(bs:List (Int×Int))(rows:List (Int×List Stp))(k:Nat):Int:=owK sp rows k * (if owK sp rows k<0 then (bs.getD k (0,0)).2 else (bs.getD k (0,0)).1) - wOf sp k * lOf sp k
def my (b:Int)(bs:List (Int×Int))(rows:List (Int×List Stp)):Int:=(rows.map fun r=>r.1 * upB b (fg bs r.2) * b).sum
def kf (b:Int)(sp:List Sn)(bs:List (Int×Int))(rows:List (Int×List Stp)):Int:=my b bs rows+((aR sp.length).map (termW sp bs rows)).sum
theorem div_absW {x:Int}(hb:0<b):(x / b).natAbs≤x.natAbs:=by
 have e:=fU x b;have r0:=cG x (by omega:b≠0);have r1:=cB x hb;generalize x / b=q at e;generalize x % b=r at e r0 r1
 rcases Int.lt_or_le q 0 with hq | hq
 ·have:b * (q+1)≤1 * (q+1):=Int.mul_le_mul_of_nonpos_right (by omega) (by omega)
  rw [Int.mul_add] at this;omega
 ·have:1 * q≤b * q:=Int.mul_le_mul_of_nonneg_right (by omega) hq
  omega
theorem oE {bs:List (Int×Int)}:∀ {ws:List Stp},BsU bs→(fg bs ws).natAbs≤ws.length * 10 ^ 60
 | [],_=>bK _
 | s::ws,h=>by
  have ih:=oE (ws:=ws) h;have k:(oP bs s).natAbs≤10 ^ 60:=by
   unfold oP;cases q:bs[s.i]? with
   | none=>exact bK _
   | some p =>
    obtain ⟨a,b,c⟩:=h p (bh q);have c:p.2<10 ^ 60:=c;show (if s.d=1 then p.1 else -p.2).natAbs≤_;split <;> omega
  have e:fg bs (s::ws)=oP bs s+fg bs ws:=rfl;rw [e,aS,Nat.add_mul];omega
theorem up_abs {bs:List (Int×Int)}{ws:List Stp}(hb:0<b)(h:BsU bs)(hl:ws.length≤17):(upB b (fg bs ws)).natAbs≤17 * 10 ^ 60:=by
 unfold upB;rw [Int.natAbs_neg];have h1:=div_absW (x:= -fg bs ws) hb;rw [Int.natAbs_neg] at h1;have h2:=oE (ws:=ws) h;have h3:ws.length * 10 ^ 60≤17 * 10 ^ 60:=Nat.mul_le_mul_right _ hl;omega
inductive spOwn (vs:List V)(H:Hp)(Q:VK)(_:XK):Prop
 | mk (v:V)(pr:ai)(b m:Int)(sp:List Sn)(rows:List (Int×List Stp))(_:vs=[v,.ref pr])(_:IsD H v (jL b m sp))(_:sp.length≤40)(_:IsD H (.ref pr) (.tup (rows.map rowD)))(_:(∀ r∈rows,RwOk sp.length r))(_:∀ L H',Same H H'→H' L=some (.lst ((ownM sp rows).map V.int))→Q (.ref L) H')
structure WoArgs (H:Hp)(v vb vl:V)(b m:Int)(sp:List Sn)(bs:List (Int×Int))(rows:List (Int×List Stp)):Prop where
 net:IsD H v (jL b m sp)
 bnd:IsD H vb (bndP bs)
 leaf:IsD H vl (leafP (.price rows))
 b0:0<b
 b61:b<10 ^ 61
 lb:bs.length=sp.length
 few:sp.length≤40
 bu:BsU bs
 ws:∀ x∈sp,0≤x.w∧x.w≤1000000000000
 rw':∀ r∈rows,RwOk sp.length r
 lr:rows.length≤41
inductive spWorth (vs:List V)(H:Hp)(Q:VK)(_:XK):Prop
 | mk (v vb vl:V)(b m:Int)(sp:List Sn)(bs:List (Int×Int))(rows:List (Int×List Stp))(_:vs=[v,vb,vl])(_:WoArgs H v vb vl b m sp bs rows)(_:∀ H',Same H H'→Q (.int (kf b sp bs rows)) H')
end HN
namespace L2
open PySem PySem.Spec PyProof.Rows
end L2
namespace HN
open PySem L2 PyProof.Rows
def kO (f:Nat→Int):Nat→Int
 | 0=>0
 | n+1=>kO f n+f n
theorem kD (f:Nat→Int):∀ n,((aR n).map f).sum=kO f n
 | 0=>rfl
 | n+1=>by
  rw [List.range_succ,aA,iL,kD f n];show kO f n+(f n+0)=kO f n+f n;omega
theorem mH (f g:Nat→Int):∀ n,kO (fun k=>f k+g k) n=kO f n+kO g n
 | 0=>rfl
 | n+1=>by
  show kO (fun k=>f k+g k) n+(f n+g n)=(kO f n+f n)+(kO g n+g n);rw [mH f g n];omega
theorem mG (c:Int)(f:Nat→Int):∀ n,kO (fun k=>c * f k) n=c * kO f n
 | 0=>(gf c).symm
 | n+1=>by
  show kO (fun k=>c * f k) n+c * f n=c * (kO f n+f n);rw [mG c f n,Int.mul_add]
theorem jz {f g:Nat→Int}:∀ n,(∀ k,k<n→f k=g k)→kO f n=kO g n
 | 0,_=>rfl
 | n+1,h=>by
  show kO f n+f n=kO g n+g n;rw [jz n fun k hk=>h k (by omega),h n (by omega)]
theorem sumN_none {i:Nat}{c:Int}{y:Nat→Int}:∀ n,n≤i→kO (fun k=>(if i=k then c else 0) * y k) n=0
 | 0,_=>rfl
 | n+1,h=>by
  show kO (fun k=>(if i=k then c else 0) * y k) n+(if i=n then c else 0) * y n=0;rw [sumN_none n (by omega),oZ (by omega),eP];rfl
theorem sumN_one {i:Nat}{c:Int}{y:Nat→Int}:∀ n,i<n→kO (fun k=>(if i=k then c else 0) * y k) n=c * y i
 | 0,h=>o6 h (by omega)
 | n+1,h=>by
  show kO (fun k=>(if i=k then c else 0) * y k) n+(if i=n then c else 0) * y n=c * y i
  by_cases e:i=n
  ·subst e
   rw [sumN_none i (aB _),o4 rfl,iq]
  ·rw [sumN_one n (by omega),oZ e,eP,Int.add_zero]
theorem sumN_list {α:Type}(f:α→Int)(xs:List α):∀ n,n≤xs.length→((xs.take n).map f).sum=kO (fun k=>match xs[k]? with | some x=>f x | none=>0) n
 | 0,_=>rfl
 | n+1,h=>by
  rw [bg,gE (by omega),aA,iL,sumN_list f xs n (by omega)];show _+(f xs[n]+0)=kO _ n+(match xs[n]? with | some x=>f x | none=>0);rw [gE (by omega)];show _+(f xs[n]+0)=_+f xs[n];omega
def sg (k:Nat):List Stp→Int
 | []=>0
 | s::ws=>(if s.i=k then s.d else 0)+sg k ws
def alg (y:Nat→Int):List Stp→Int
 | []=>0
 | s::ws=>s.d * y s.i+alg y ws
theorem fold_sg {k:Nat}{pr:Int}:∀ (ws:List Stp) (ps:List Int),k<ps.length→(ws.foldl (jI pr) ps).getD k 0=ps.getD k 0 - pr * sg k ws
 | [],ps,_=>by show ps.getD k 0=ps.getD k 0 - pr * 0;rw [gf,Int.sub_zero]
 | s::ws,ps,hk=>by
  rw [bM,fold_sg ws _ (by unfold jI;rw [gG];exact hk)];show _=ps.getD k 0 - pr * ((if s.i=k then s.d else 0)+sg k ws);rw [Int.mul_add]
  by_cases e:s.i=k
  ·have h2:(jI pr ps s).getD k 0=ps.getD k 0 - pr * s.d:=by
    unfold jI;rw [e,ag,dv hk];rfl
   rw [h2,o4 e];omega
  ·have h2:(jI pr ps s).getD k 0=ps.getD k 0:=by
    unfold jI;rw [ag,dk e,←ag]
   rw [h2,oZ e,gf];omega
def sgR (k:Nat):List (Int×List Stp)→Int
 | []=>0
 | r::rows=>r.1 * sg k r.2+sgR k rows
theorem rows_sg {k:Nat}:∀ (rows:List (Int×List Stp)) (ps:List Int),k<ps.length→(rows.foldl rowP ps).getD k 0=ps.getD k 0 - sgR k rows
 | [],ps,_=>by show ps.getD k 0=ps.getD k 0 - 0;rw [Int.sub_zero]
 | r::rows,ps,hk=>by
  rw [bM,rows_sg rows _ (by show k<(r.2.foldl (jI r.1) ps).length;rw [kg];exact hk)];show (r.2.foldl (jI r.1) ps).getD k 0 - sgR k rows=ps.getD k 0 - (r.1 * sg k r.2+sgR k rows);rw [fold_sg r.2 ps hk];omega
theorem owK_sg {k:Nat}(hk:k<sp.length)(h:∀ r∈rows,RwOk n r):owK sp rows k=wOf sp k - sgR k rows:=by
 rw [←own_at hk h];unfold ownM;rw [rows_sg rows _ (by rw [aa];exact hk)];congr 1;unfold wOf;rw [ag,ay,gE hk];rfl
theorem sum_sg {y:Nat→Int}{n:Nat}:∀ (ws:List Stp),(∀ s∈ws,s.i<n)→kO (fun k=>sg k ws * y k) n=alg y ws
 | [],_=>by
  show kO (fun k=>0 * y k) n=0;rw [jz (g:=fun _=>0 * 0) n fun k _=>by rw [eP,eP],mG 0 (fun _=>0) n,eP]
 | s::ws,h=>by
  show kO (fun k=>((if s.i=k then s.d else 0)+sg k ws) * y k) n=s.d * y s.i+alg y ws;rw [jz (g:=fun k=>(if s.i=k then s.d else 0) * y k+sg k ws * y k) n fun k _=>Int.add_mul ..,mH,sumN_one n (h s (by simp)),sum_sg ws fun t ht=>h t (au _ ht)]
def algR (y:Nat→Int):List (Int×List Stp)→Int
 | []=>0
 | r::rows=>r.1 * alg y r.2+algR y rows
theorem sum_sgR {y:Nat→Int}{n:Nat}:∀ (rows:List (Int×List Stp)),(∀ r∈rows,∀ s∈r.2,s.i<n)→kO (fun k=>sgR k rows * y k) n=algR y rows
 | [],_=>by
  show kO (fun k=>0 * y k) n=0;rw [jz (g:=fun _=>0 * 0) n fun k _=>by rw [eP,eP],mG 0 (fun _=>0) n,eP]
 | r::rows,h=>by
  show kO (fun k=>(r.1 * sg k r.2+sgR k rows) * y k) n=r.1 * alg y r.2+algR y rows;rw [jz (g:=fun k=>r.1 * (sg k r.2 * y k)+sgR k rows * y k) n fun k _=>by rw [Int.add_mul,Int.mul_assoc],mH,mG,sum_sg r.2 (h r (by simp)),sum_sgR rows fun t ht=>h t (au _ ht)]
def ig (b:Int)(ts:List Int)(sp:List Sn)(k:Nat):Int:=match sp[k]? with | some x=>x.l+fb b ts x | none=>0
def InB (y:Nat→Int)(bs:List (Int×Int)):Prop:=∀ k,k<bs.length→(bs.getD k (0,0)).1≤y k∧y k≤(bs.getD k (0,0)).2
theorem lay_in (hb:0<b)(hf:g9 b ts sp=true):InB (ig b ts sp) (sp.map fun x=>(x.l,x.o)):=fun k hk=>by
 rw [aa] at hk;have e:(sp.map fun x=>(x.l,x.o)).getD k (0,0)=(sp[k].l,sp[k].o):=by
  rw [ag,ay,gE hk];rfl
 have e2:ig b ts sp k=sp[k].l+fb b ts sp[k]:=by
  unfold ig;rw [gE hk]
 rw [e,e2];have h0:0≤fb b ts sp[k]:=by unfold fb;exact cG _ (by omega)
 have h1:¬ (sp[k].o - sp[k].l<fb b ts sp[k]):=by
  unfold g9 at hf;rw [gT,iY] at hf;have:=hf sp[k] (bH hk);unfold brk at this
  simpa using this
 exact ⟨by show sp[k].l≤_;omega,by show _≤sp[k].o;omega⟩
theorem inB_one {y:Nat→Int}{bs:List (Int×Int)}{k:Nat}{a:Int}(h:InB y bs)(ha:y k≤a):InB y (ko bs k a):=fun j hj=>by
 rw [one_len] at hj;have hh:=h j hj;unfold ko;rw [ag]
 by_cases e:k=j
 ·subst e
  rw [dv hj];exact ⟨hh.1,ha⟩
 ·rw [dk e,←ag]
  exact hh
theorem inB_other {y:Nat→Int}{bs:List (Int×Int)}{k:Nat}{a:Int}(h:InB y bs)(ha:a+1≤y k):InB y (eY bs k a):=fun j hj=>by
 rw [other_len] at hj;have hh:=h j hj;unfold eY;rw [ag]
 by_cases e:k=j
 ·subst e
  rw [dv hj];exact ⟨ha,hh.2⟩
 ·rw [dk e,←ag]
  exact hh
theorem alg_way {b:Int}{ts:List Int}{sp:List Sn}:∀ (ws:List Stp) (x z:Int),oA sp.length ws→Along sp x ws z→∃ Z,alg (ig b ts sp) ws=tm ts z - tm ts x+b * Z
 | [],x,z,_,h=>by
  have h:x=z:=h;subst h;exact ⟨0,by show (0:Int)=_;rw [gf];omega⟩
 | s::ws,x,z,hw,h=>by
  obtain ⟨h1,h2⟩:=h;obtain ⟨Z,hZ⟩:=alg_way (b:=b) (ts:=ts) ws _ z (fun t ht=>hw t (au _ ht)) h2;obtain ⟨hs,hd⟩:=hw s (by simp);obtain ⟨i,d⟩:=s;have hs:i<sp.length:=hs;have hd:d=1∨d= -1:=hd;have e2:ig b ts sp i=sp[i].l+fb b ts sp[i]:=by
   unfold ig;rw [gE hs]
  have hm:=fU (tm ts sp[i].g - tm ts sp[i].s - sp[i].l) b;show ∃ Z,d * ig b ts sp i+alg (ig b ts sp) ws=_;rw [hZ,e2];unfold fb;rw [jW hs] at *;rw [k4 hs] at h1;unfold frm at h1;unfold too at *;generalize (tm ts sp[i].g - tm ts sp[i].s - sp[i].l) / b=q at hm;generalize (tm ts sp[i].g - tm ts sp[i].s - sp[i].l) % b=r at hm ⊢
  rcases hd with rfl | rfl
  ·rw [o4 rfl] at h1 ⊢
   subst h1;exact ⟨Z - q,by rw [Int.mul_sub];omega⟩
  ·rw [oZ (by decide)] at h1 ⊢
   subst h1;exact ⟨Z+q,by rw [Int.mul_add b Z q];omega⟩
theorem alg_lo {y:Nat→Int}{bs:List (Int×Int)}(h:InB y bs):∀ (ws:List Stp),oA bs.length ws→fg bs ws≤alg y ws∧alg y ws≤gY bs ws
 | [],_=>⟨fO _,fO _⟩
 | s::ws,hw=>by
  obtain ⟨i1,i2⟩:=alg_lo h ws fun t ht=>hw t (au _ ht)
  obtain ⟨hs,hd⟩:=hw s (by simp);obtain ⟨b1,b2⟩:=h s.i hs;have e:bs.getD s.i (0,0)=bs[s.i]:=by rw [ag,gE hs];rfl
  rw [e] at b1 b2;have e1:fg bs (s::ws)=oP bs s+fg bs ws:=rfl;have e2:gY bs (s::ws)=kx bs s+gY bs ws:=rfl;have f1:oP bs s=if s.d=1 then bs[s.i].1 else -bs[s.i].2:=by unfold oP;rw [gE hs]
  have f2:kx bs s=if s.d=1 then bs[s.i].2 else -bs[s.i].1:=by unfold kx;rw [gE hs]
  rw [e1,e2,f1,f2];show _≤s.d * y s.i+alg y ws∧s.d * y s.i+alg y ws≤_
  rcases hd with d1 | d1
  ·rw [d1,o4 rfl,o4 rfl];omega
  ·rw [d1,oZ (by decide),oZ (by decide)];omega
theorem ring_in {bs:List (Int×Int)}{ws:List Stp}(hb:0<b)(hl:bs.length=sp.length)(h:InB (ig b ts sp) bs)(hr:Rg sp ws) :
  ∃ Z,alg (ig b ts sp) ws=b * Z∧upB b (fg bs ws)≤Z∧Z≤gY bs ws / b:=by
 obtain ⟨x,hx⟩:=hr.rnd;obtain ⟨Z,hZ⟩:=alg_way (b:=b) (ts:=ts) ws x x hr.inn hx;obtain ⟨l1,l2⟩:=alg_lo h ws (by rw [hl];exact hr.inn);have e:alg (ig b ts sp) ws=b * Z:=by omega
 rw [e] at l1 l2;refine ⟨Z,e,?_,?_⟩
 ·unfold upB
  have: -Z≤ -fg bs ws / b:=by
   rw [Int.le_ediv_iff_mul_le hb,Int.neg_mul,Int.mul_comm Z b];omega
  omega
 ·rw [Int.le_ediv_iff_mul_le hb,Int.mul_comm Z b];exact l2
theorem wait_sum:dW b ts sp=kO (fun k=>wOf sp k * ig b ts sp k - wOf sp k * lOf sp k) sp.length:=by
 unfold dW;have:=sumN_list (fun x:Sn=>x.w * fb b ts x) sp sp.length (aB _);rw [bf] at this;rw [this];refine jz _ fun k hk=>?_
 unfold wOf ig lOf;rw [gE hk];show sp[k].w * fb b ts sp[k]=sp[k].w * (sp[k].l+fb b ts sp[k]) - sp[k].w * sp[k].l;rw [Int.mul_add];omega
theorem rows_in {b:Int}{ts:List Int}{sp:List Sn}{bs:List (Int×Int)}(hb:0<b)(hl:bs.length=sp.length)(h:InB (ig b ts sp) bs):∀ (rows:List (Int×List Stp)),(∀ r∈rows,RowOk b sp bs r)→algR (ig b ts sp) rows=my b bs rows
 | [],_=>rfl
 | r::rows,hr=>by
  obtain ⟨h1,h2,_⟩:=hr r (by simp);obtain ⟨Z,e,z1,z2⟩:=ring_in hb hl h h1;have h2:=pe h2;have ez:Z=upB b (fg bs r.2):=by omega
  have ih:=rows_in hb hl h rows fun t ht=>hr t (au _ ht)
  have e3:my b bs (r::rows)=r.1 * upB b (fg bs r.2) * b+my b bs rows:=rfl;show r.1 * alg (ig b ts sp) r.2+algR (ig b ts sp) rows=_;rw [e3,ih,e,ez,Int.mul_comm b,Int.mul_assoc]
def longer (b:Nat)(tt:List (List Int)):List (List Int):=tt.flatMap fun t=>(aR b).map fun c:Nat=>t++[(0:Int)+(c:Nat)]
def allT (b:Nat):Nat→List (List Int)
 | 0=>[[]]
 | n+1=>longer b (allT b n)
theorem Held.more {tk':List Nat}{x y:Int}(h:∀ i∈tk,i∈tk')(k:Held sp tk x y):Held sp tk' x y:=fun S hS=>k S fun i hi=>hS i (h i hi)
theorem Held.trans {x y z:Int}(a:Held sp tk x y)(c:Held sp tk y z):Held sp tk x z:=fun S hS h=>c S hS (a S hS h)
theorem Held.symm {x y:Int}(a:Held sp tk x y):Held sp tk y x:=fun S hS h=>eM fun n=>a (fun z=>¬ S z) (fun i hi=>not_congr (hS i hi)) n h
inductive Acy (sp:List Sn):List Nat→Prop where
 | nil:Acy sp []
 | snoc {tk:List Nat} {k:Nat} (h:Acy sp tk) (hk:k<sp.length) (s:∃ S:Int→Prop,(∀ i∈tk,S (sAt sp i).s↔S (sAt sp i).g)∧S (sAt sp k).s∧¬ S (sAt sp k).g):Acy sp (tk++[k])
theorem Acy.pot (h:Acy sp tk)(y:Nat→Int):∃ π:Int→Int,∀ i∈tk,π (sAt sp i).g - π (sAt sp i).s=y i:=by
 induction h with
 | nil=>exact ⟨fun _=>0,fun _ h=>o6 h (by simp)⟩
 | snoc h hk s ih =>
  rename_i tk k;obtain ⟨π,hπ⟩:=ih;obtain ⟨S,hS,s1,s2⟩:=s;have dec:∀ x,Decidable (S x):=fun x=>Classical.propDecidable _
  refine ⟨fun x=>if S x then π x else π x+(y k - (π (sAt sp k).g - π (sAt sp k).s)),fun i hi=>?_⟩
  rcases aM.mp hi with hi | hi
  ·have e:=hπ i hi
   have f:=hS i hi;show (if S (sAt sp i).g then _ else _) - (if S (sAt sp i).s then _ else _)=_
   by_cases c:S (sAt sp i).s
   ·rw [o4 c,o4 (f.mp c)];exact e
   ·rw [oZ c,oZ (fun z=>c (f.mpr z))];omega
  ·rw [ax.mp hi]
   show (if S (sAt sp k).g then _ else _) - (if S (sAt sp k).s then _ else _)=_;rw [oZ s2,o4 s1];omega
theorem Acy.nodup (h:Acy sp tk):tk.Nodup∧∀ i∈tk,i<sp.length:=by
 induction h with
 | nil=>exact ⟨List.nodup_nil,fun _ h=>o6 h (by simp)⟩
 | snoc h hk s ih =>
  rename_i tk k;obtain ⟨S,hS,s1,s2⟩:=s;refine ⟨iX.mpr ⟨ih.1,by simp,fun a ha c hc e=>?_⟩,fun i hi=>?_⟩
  ·rw [ax.mp hc] at e
   subst e;exact s2 ((hS _ ha).mp s1)
  ·rcases aM.mp hi with hi | hi
   ·exact ih.2 i hi
   ·rw [ax.mp hi];exact hk
structure Pots (sp:List Sn)(tk:List Nat):Prop where
 nodup:tk.Nodup∧∀ i∈tk,i<sp.length
 pot:∀ y:Nat→Int,∃ π:Int→Int,∀ i∈tk,π (sAt sp i).g - π (sAt sp i).s=y i
theorem Acy.pots (h:Acy sp tk):Pots sp tk:=⟨h.nodup,h.pot⟩
theorem Pots.perm (h:Pots sp tk)(p:l.Perm tk):Pots sp l :=
 ⟨⟨p.nodup_iff.mpr h.nodup.1,fun i hi=>h.nodup.2 i (p.mem_iff.mp hi)⟩,fun y=>let ⟨π,k⟩:=h.pot y;⟨π,fun i hi=>k i (p.mem_iff.mp hi)⟩⟩
structure Gd (m:Nat)(sp:List Sn)(gs:List Int)(tk:List Nat):Prop where
 len:gs.length=m
 eq:∀ i∈tk,tm gs (sAt sp i).s=tm gs (sAt sp i).g
 held:∀ x y:Int,0≤x→x<m→0≤y→y<m→tm gs x=tm gs y→Held sp tk x y
 acy:Acy sp tk
 cnt:Cnt m gs tk.length
theorem Gd.start (m:Nat)(sp:List Sn):Gd m sp (jM m) []:=by
 refine ⟨j9 m,fun _ h=>o6 h (by simp),fun x y x0 x1 y0 y1 e=>?_,.nil,Cnt.start m⟩;rw [lX x0 x1,lX y0 y1] at e;subst e;exact fun S _ h=>h
theorem Gd.step (E:Ends m sp)(g:Gd m sp gs tk)(hi:i<sp.length):Gd m sp (fP sp (gs,tk) i).1 (fP sp (gs,tk) i).2:=by
 obtain ⟨s0,s1,g0,g1⟩:=E _ (dG hi);unfold fP
 by_cases e:tm gs (sAt sp i).s=tm gs (sAt sp i).g
 ·rw [o4 e];exact g
 ·rw [oZ e]
  have l:=g.len;have old:∀ j∈tk,j<sp.length:=g.acy.nodup.2;have jt:∀ x:Int,0≤x→x<m→tm (ix gs (tm gs (sAt sp i).s) (tm gs (sAt sp i).g)) x=if tm gs x=tm gs (sAt sp i).g then tm gs (sAt sp i).s else tm gs x:=fun x x0 x1=>jX x0 (by omega)
  have up:∀ {x y:Int},Held sp tk x y→Held sp (tk++[i]) x y:=fun h=>h.more fun j hj=>aE _ hj
  have ed:Held sp (tk++[i]) (sAt sp i).s (sAt sp i).g:=fun S hS h=>(hS i (aw _ (ax.mpr rfl))).mp h
  refine ⟨by show (ix _ _ _).length=m;rw [kt];exact l,fun j hj=>?_,fun x y x0 x1 y0 y1 h=>?_,.snoc g.acy hi ⟨fun x=>tm gs x=tm gs (sAt sp i).s,fun j hj=>by show tm gs _=_↔tm gs _=_;rw [g.eq j hj],rfl,fun z=>e z.symm⟩,?_⟩
  ·show tm (ix _ _ _) _=tm (ix _ _ _) _
   rcases aM.mp hj with hj | hj
   ·obtain ⟨a0,a1,b0,b1⟩:=E _ (dG (old j hj))
    rw [jt _ a0 a1,jt _ b0 b1,g.eq j hj]
   ·rw [ax.mp hj,jt _ s0 s1,jt _ g0 g1,o4 rfl,oZ e]
  ·have h:tm (ix _ _ _) x=tm (ix _ _ _) y:=h
   rw [jt x x0 x1,jt y y0 y1] at h;show Held sp (tk++[i]) x y
   by_cases c1:tm gs x=tm gs (sAt sp i).g
   ·by_cases c2:tm gs y=tm gs (sAt sp i).g
    ·exact up (g.held x y x0 x1 y0 y1 (c1.trans c2.symm))
    ·rw [o4 c1,oZ c2] at h
     exact (up (g.held x _ x0 x1 g0 g1 c1)).trans (ed.symm.trans (up (g.held _ y s0 s1 y0 y1 h)))
   ·by_cases c2:tm gs y=tm gs (sAt sp i).g
    ·rw [oZ c1,o4 c2] at h
     exact (up (g.held x _ x0 x1 s0 s1 h)).trans (ed.trans (up (g.held _ y g0 g1 y0 y1 c2.symm)))
    ·rw [oZ c1,oZ c2] at h
     exact up (g.held x y x0 x1 y0 y1 h)
  ·show Cnt m (ix _ _ _) (tk++[i]).length
   rw [av];exact g.cnt.join (tm_mem s0 (by omega)) (tm_mem g0 (by omega)) e
theorem Gd.fold {m:Nat}{sp:List Sn}(E:Ends m sp):∀ (π:List Nat) (gs:List Int) (tk:List Nat),(∀ i∈π,i<sp.length)→Gd m sp gs tk→Gd m sp (π.foldl (fP sp) (gs,tk)).1 (π.foldl (fP sp) (gs,tk)).2
 | [],_,_,_,g=>g
 | i::π,gs,tk,h,g=>by
  rw [bM];exact Gd.fold E π _ _ (fun j hj=>h j (au _ hj)) (g.step E (h i (by simp)))
theorem Gd.few (g:Gd m sp gs tk)(h:0<m):tk.length<m:=by
 obtain ⟨D,_,mem,l⟩:=g.cnt;have:D≠[]:=fun z=>by
  have h0:tm gs 0∈gs:=tm_mem (fO 0) (by rw [g.len];omega);have:=(mem _).mpr h0;rw [z] at this;cases this
 have:=List.length_pos_iff.mpr this;omega
structure RK (sp:List Sn)(tk:List Nat)(q:Nat×List Stp):Prop where
 lt:q.1<sp.length
 out:q.1 ∉ tk
 way:∃ p,q.2=⟨q.1,1⟩::p∧Pth sp tk (sAt sp q.1).g (sAt sp q.1).s p
theorem RK.rg {m:Int}{q:Nat×List Stp}(N:NetT b m sp)(h:RK sp tk q)(hl:tk.length≤15):Rg sp q.2:=by
 obtain ⟨p,e,P⟩:=h.way;have hk:=h.lt;have eA:sAt sp q.1=sp[q.1]:=by unfold sAt;rw [ag,gE hk];rfl
 rw [e];refine Bk.ring hk (N.all _ (bH hk)).ne ⟨fun s hs=>(P.inn s hs).2,by rw [←eA];exact P.alo,P.one,fun s hs z=>?_⟩ ?_
 ·have z:s.i=q.1:=by omega
  exact h.out (z ▸ (P.inn s hs).1)
 ·have hn:((p.map Stp.i).map fun n:Nat=>(n:Int)).Nodup:=by
   rw [bU,fY];exact (bU.mp P.one).imp fun hh e=>hh (by omega)
  have:=kQ (l:=(p.map Stp.i).map fun n:Nat=>(n:Int)) (k:=tk.map fun n:Nat=>(n:Int)) hn fun x hx=>by
   obtain ⟨i,hi,rfl⟩:=aV.mp hx;obtain ⟨s,hs,rfl⟩:=aV.mp hi;exact aV.mpr ⟨_,(P.inn s hs).1,rfl⟩
  rw [aa,aa,aa] at this;omega
structure OB (sp:List Sn)(tk:List Nat)(bs:List (Int×Int)):Prop where
 len:bs.length=sp.length
 out:∀ k,k<sp.length→k ∉ tk→bs.getD k (0,0)=((sAt sp k).l,(sAt sp k).o)
 lo:∀ k,k<sp.length→(sAt sp k).l≤(bs.getD k (0,0)).1∧(bs.getD k (0,0)).1≤(bs.getD k (0,0)).2∧(bs.getD k (0,0)).2≤(sAt sp k).o
theorem hX {bs:List (Int×Int)}{k:Nat}{x:Int×Int}(hj:j<bs.length):(bs.set k x).getD j (0,0)=if k=j then x else bs.getD j (0,0):=by
 rw [ag]
 by_cases e:k=j
 ·subst e
  rw [dv hj,o4 rfl];rfl
 ·rw [dk e,oZ e,←ag]
theorem OB.one {bs:List (Int×Int)}{k:Nat}{a:Int}(h:OB sp tk bs)(hk:k∈tk)(hn:k<sp.length)(h1:(bs.getD k (0,0)).1≤a)(h2:a<(bs.getD k (0,0)).2):OB sp tk (ko bs k a):=by
 have l:=h.len;refine ⟨by rw [one_len];exact l,fun j hj hjn=>?_,fun j hj=>?_⟩
 ·unfold ko
  rw [hX (by omega),oZ (fun (z:k=j)=>hjn (z ▸ hk))];exact h.out j hj hjn
 ·unfold ko
  rw [hX (by omega)];have:=h.lo j hj
  by_cases e:k=j
  ·rw [o4 e]
   subst e;exact ⟨this.1,h1,by show a≤_;omega⟩
  ·rw [oZ e];exact this
theorem OB.other {bs:List (Int×Int)}{k:Nat}{a:Int}(h:OB sp tk bs)(hk:k∈tk)(hn:k<sp.length)(h1:(bs.getD k (0,0)).1≤a)(h2:a<(bs.getD k (0,0)).2):OB sp tk (eY bs k a):=by
 have l:=h.len;refine ⟨by rw [other_len];exact l,fun j hj hjn=>?_,fun j hj=>?_⟩
 ·unfold eY
  rw [hX (by omega),oZ (fun (z:k=j)=>hjn (z ▸ hk))];exact h.out j hj hjn
 ·unfold eY
  rw [hX (by omega)];have:=h.lo j hj
  by_cases e:k=j
  ·rw [o4 e]
   subst e;exact ⟨by show _≤a+1;omega,by show a+1≤(bs.getD k (0,0)).2;omega,this.2.2⟩
  ·rw [oZ e];exact this
theorem OB.first {m:Int}(N:NetT b m sp)(tk:List Nat):OB sp tk (sp.map fun x=>(x.l,x.o)):=by
 have e:∀ k,k<sp.length→(sp.map fun x=>(x.l,x.o)).getD k (0,0)=((sAt sp k).l,(sAt sp k).o):=fun k hk=>by
  rw [ag,ay,iP hk];rfl
 refine ⟨aa ..,fun k hk _=>e k hk,fun k hk=>?_⟩;rw [e k hk];have:=N.all _ (dG hk);exact ⟨fO _,this.lo,fO _⟩
def j4 (sp:List Sn)(rg:List (Nat×List Stp)):List (Int×List Stp):=rg.map fun q=>((sAt sp q.1).w,q.2)
structure Fx (b:Int)(tk:List Nat)(rg:List (Nat×List Stp))(bs:List (Int×Int)):Prop where
 fix:∀ k∈tk,(bs.getD k (0,0)).1=(bs.getD k (0,0)).2
 alive:∀ q∈rg,i9 b bs q.2=false
structure FF (m:Int)(sp:List Sn)(tk:List Nat)(rg:List (Nat×List Stp)):Prop where
 acy:Pots sp tk
 few:(tk.length:Int)<m
 rk:∀ q∈rg,RK sp tk q
 all:∀ k,k<sp.length→k ∉ tk→∃ r,(k,r)∈rg
 one:(rg.map (·.1)).Nodup
theorem low_fix {bs:List (Int×Int)}{tk:List Nat}(h:∀ k∈tk,k<bs.length∧(bs.getD k (0,0)).1=(bs.getD k (0,0)).2):∀ (p:List Stp),(∀ s∈p,s.i∈tk∧(s.d=1∨s.d= -1))→fg bs p=alg (fun k=>(bs.getD k (0,0)).1) p∧gY bs p=alg (fun k=>(bs.getD k (0,0)).1) p
 | [],_=>⟨rfl,rfl⟩
 | s::p,hp=>by
  obtain ⟨i1,i2⟩:=low_fix h p fun t ht=>hp t (au _ ht)
  obtain ⟨h1,h2⟩:=hp s (by simp);obtain ⟨h3,h4⟩:=h s.i h1;have e:bs.getD s.i (0,0)=bs[s.i]:=by rw [ag,gE h3];rfl
  have e1:fg bs (s::p)=oP bs s+fg bs p:=rfl;have e2:gY bs (s::p)=kx bs s+gY bs p:=rfl;have f1:oP bs s=if s.d=1 then bs[s.i].1 else -bs[s.i].2:=by unfold oP;rw [gE h3]
  have f2:kx bs s=if s.d=1 then bs[s.i].2 else -bs[s.i].1:=by unfold kx;rw [gE h3]
  rw [e] at h4;rw [e1,e2,f1,f2,i1,i2];show _=s.d * (bs.getD s.i (0,0)).1+_∧_=s.d * (bs.getD s.i (0,0)).1+_;rw [e]
  rcases h2 with d1 | d1
  ·rw [d1,o4 rfl,o4 rfl];omega
  ·rw [d1,oZ (by decide),oZ (by decide)];omega
theorem mW {bs:List (Int×Int)}{q:Nat×List Stp}(h:RK sp tk q)(O:OB sp tk bs)(fix:∀ k∈tk,(bs.getD k (0,0)).1=(bs.getD k (0,0)).2) :
  ∃ p,q.2=⟨q.1,1⟩::p∧Pth sp tk (sAt sp q.1).g (sAt sp q.1).s p∧fg bs q.2=(sAt sp q.1).l+alg (fun k=>(bs.getD k (0,0)).1) p∧gY bs q.2=(sAt sp q.1).o+alg (fun k=>(bs.getD k (0,0)).1) p:=by
 obtain ⟨p,e,P⟩:=h.way;have hk:=h.lt;have l:=O.len;obtain ⟨a1,a2⟩:=low_fix (bs:=bs) (tk:=p.map Stp.i) (fun k hk'=>by
  obtain ⟨s,hs,rfl⟩:=aV.mp hk';exact ⟨by rw [l];exact (P.inn s hs).2.1,fix _ (P.inn s hs).1⟩) p fun s hs=>⟨aV.mpr ⟨s,hs,rfl⟩,(P.inn s hs).2.2⟩
 have eb:=O.out q.1 hk h.out;have hb:q.1<bs.length:=by omega
 have e0:bs.getD q.1 (0,0)=bs[q.1]:=by rw [ag,gE hb];rfl
 refine ⟨p,e,P,?_,?_⟩
 ·rw [e,show fg bs (⟨q.1,1⟩::p)=oP bs ⟨q.1,1⟩+fg bs p from rfl,a1]
  congr 1;unfold oP;show (match bs[q.1]? with | some p=>if (1:Int)=1 then p.1 else -p.2 | none=>0)=_;rw [gE hb];show (if (1:Int)=1 then bs[q.1].1 else _)=_;rw [o4 rfl,←e0,eb]
 ·rw [e,show gY bs (⟨q.1,1⟩::p)=kx bs ⟨q.1,1⟩+gY bs p from rfl,a2]
  congr 1;unfold kx;show (match bs[q.1]? with | some p=>if (1:Int)=1 then p.2 else -p.1 | none=>0)=_;rw [gE hb];show (if (1:Int)=1 then bs[q.1].2 else _)=_;rw [o4 rfl,←e0,eb]
theorem beat_one {lo hi:Int}(hb:0<b)(h:upB b lo≤hi / b)(hw:hi - lo<b):upB b lo=hi / b∧lo≤b * upB b lo∧b * upB b lo≤hi:=by
 have e:=fU (-lo) b;have r0:=cG (-lo) (by omega:b≠0);have r1:=cB (-lo) hb;have e':=fU hi b;have r0':=cG hi (by omega:b≠0);have r1':=cB hi hb;unfold upB at h ⊢;generalize -lo / b=u at *;generalize hi / b=v at *;have m1:b * -u= -(b * u):=Int.mul_neg ..;have h2:b * -u≤b * v:=gC h (by omega);refine ⟨?_,by omega,by omega⟩
 rcases Int.lt_or_le (-u) v with c | c
 ·have:b * (-u+1)≤b * v:=gC (by omega) (by omega)
  rw [Int.mul_add,Int.mul_one] at this;omega
 ·omega
theorem fx_sure {m:Int}{rg:List (Nat×List Stp)}{bs:List (Int×Int)}(N:NetT b m sp)(f:FF m sp tk rg)(O:OB sp tk bs)(x:Fx b tk rg bs):LfOk b sp bs (.price (j4 sp rg)):=by
 have m2:=N.m2;have fw:=f.few;have tl:tk.length≤15:=by omega
 refine ⟨?_,fun r hr=>?_⟩
 ·show (rg.map _).length≤40
  rw [aa];have hn:((rg.map (·.1)).map fun n:Nat=>(n:Int)).Nodup:=by
   rw [bU,fY];exact (bU.mp f.one).imp fun hh e=>hh (by omega)
  have:=kQ (l:=(rg.map (·.1)).map fun n:Nat=>(n:Int)) (k:=(aR sp.length).map fun n:Nat=>(n:Int)) hn fun z hz=>by
   obtain ⟨i,hi,rfl⟩:=aV.mp hz;obtain ⟨q,hq,rfl⟩:=aV.mp hi;exact aV.mpr ⟨_,bQ.mpr (f.rk q hq).lt,rfl⟩
  rw [aa,aa,aa,bt] at this;have:=N.few;omega
 ·obtain ⟨q,hq,rfl⟩:=aV.mp hr
  have K:=f.rk q hq;have sn:=N.all _ (dG K.lt);refine ⟨K.rg N tl,?_,by have:=sn.w0;show -1000000000000≤(sAt sp q.1).w;omega,sn.w1⟩;obtain ⟨p,e,P,e1,e2⟩:=mW K O x.fix;have al:=x.alive q hq;have al:¬ (upB b (fg bs q.2) > gY bs q.2 / b):=by
   unfold i9 at al
   simpa using al
  show decide (upB b (fg bs q.2)=gY bs q.2 / b)=true;refine o8 (beat_one (by have:=N.b1;omega) (by omega) ?_).1;have:=sn.ob;rw [e1,e2];omega
theorem alg_pot {sp:List Sn}{tk:List Nat}{y:Nat→Int}{π:Int→Int}(ht:∀ i∈tk,i<sp.length)(hπ:∀ i∈tk,π (sAt sp i).g - π (sAt sp i).s=y i):∀ (p:List Stp) (u z:Int),(∀ s∈p,s.i∈tk∧(s.d=1∨s.d= -1))→Along sp u p z→alg y p=π z - π u
 | [],u,z,_,a=>by
  have a:u=z:=a;subst a;show (0:Int)=_;omega
 | s::p,u,z,hp,a=>by
  obtain ⟨a1,a2⟩:=a;have ih:=alg_pot ht hπ p _ z (fun t h=>hp t (au _ h)) a2;obtain ⟨h1,h2⟩:=hp s (by simp);obtain ⟨f1,f2,f3,f4⟩:=oR (ht s.i h1);have e:=hπ s.i h1;obtain ⟨i,d⟩:=s
  dsimp only at e f1 f2 f3 f4
  have h2:d=1∨d= -1:=h2;show d * y i+alg y p=_;rw [ih,←a1]
  rcases h2 with rfl | rfl
  ·rw [f1,f2];show 1 * y i+_=_;omega
  ·rw [f3,f4];show -1 * y i+_=_;omega
def potT (b:Int)(π:Int→Int)(m:Nat):List Int:=(aR m).map fun x:Nat=>(π (x:Nat) - π 0) % b
theorem potT_at {π:Int→Int}{x:Int}(h0:0≤x)(h1:x<m):tm (potT b π m) x=(π x - π 0) % b:=by
 obtain ⟨n,rfl⟩:=cu h0;unfold tm potT;rw [cM,ag,ay,gp (by omega)];rfl
theorem wait_pot {π:Int→Int}{x:Sn}(s0:0≤x.s)(s1:x.s<m)(g0:0≤x.g)(g1:x.g<m):fb b (potT b π m) x=(π x.g - π x.s - x.l) % b:=by
 unfold fb;rw [potT_at s0 s1,potT_at g0 g1,rest_two];congr 1;omega
theorem rest_in {Y l Z:Int}(h0:l≤Y)(h1:Y<l+b):(Y - b * Z - l) % b=Y - l:=by
 rw [show Y - b * Z - l=(Y - l)+b * (-Z) by rw [Int.mul_neg];omega,Int.add_mul_emod_self_left];exact Int.emod_eq_of_lt (by omega) (by omega)
theorem sg_no {k:Nat}:∀ (p:List Stp),(∀ s∈p,s.i≠k)→sg k p=0
 | [],_=>rfl
 | s::p,h=>by
  show (if s.i=k then s.d else 0)+sg k p=0;rw [oZ (h s (by simp)),sg_no p fun t ht=>h t (au _ ht)];rfl
theorem sgR_no {sp:List Sn}{tk:List Nat}{k:Nat}(hk:k ∉ tk):∀ (rg:List (Nat×List Stp)),(∀ q∈rg,RK sp tk q)→k ∉ rg.map (·.1)→sgR k (j4 sp rg)=0
 | [],_,_=>rfl
 | q::rg,h,hn=>by
  have ih:=sgR_no hk rg (fun t ht=>h t (au _ ht)) fun z=>hn (au _ z)
  show (sAt sp q.1).w * sg k q.2+sgR k (j4 sp rg)=0;obtain ⟨p,e,P⟩:=(h q (by simp)).way;rw [ih,e,sg_no _ fun s hs=>?_,gf];rfl
  rcases az.mp hs with rfl | hs
  ·exact fun z=>hn (by show k∈q.1::_;rw [show k=q.1 from z.symm];simp)
  ·exact fun z=>hk (z ▸ (P.inn s hs).1)
theorem sgR_own {sp:List Sn}{tk:List Nat}{k:Nat}(hk:k ∉ tk):∀ (rg:List (Nat×List Stp)),(∀ q∈rg,RK sp tk q)→(rg.map (·.1)).Nodup→k∈rg.map (·.1)→sgR k (j4 sp rg)=(sAt sp k).w
 | [],_,_,h=>o6 h (by simp)
 | q::rg,h,hn,hm=>by
  rw [bX,bF] at hn;show (sAt sp q.1).w * sg k q.2+sgR k (j4 sp rg)=_;obtain ⟨p,e,P⟩:=(h q (by simp)).way;have hp:∀ s∈p,s.i≠k:=fun s hs z=>hk (z ▸ (P.inn s hs).1)
  have e2:sg k q.2=if q.1=k then 1 else 0:=by
   rw [e];show (if q.1=k then (1:Int) else 0)+sg k p=_;rw [sg_no p hp,Int.add_zero]
  rw [e2]
  by_cases c:q.1=k
  ·rw [o4 c,c,Int.mul_one,sgR_no hk rg (fun t ht=>h t (au _ ht)) (c ▸ hn.1),Int.add_zero]
  ·rw [oZ c,gf,iq]
   exact sgR_own hk rg (fun t ht=>h t (au _ ht)) hn.2 ((az.mp hm).resolve_left fun z=>c z.symm)
theorem mem_allT {b:Nat}:∀ (n:Nat) (ts:List Int),ts.length=n→(∀ x∈ts,0≤x∧x<(b:Int))→ts∈allT b n
 | 0,ts,h,_=>by rw [iN.mp h];exact ax.mpr rfl
 | n+1,ts,h,hx=>by
  have hne:ts≠[]:=fun z=>by rw [z] at h;cases h
  have e:=List.dropLast_concat_getLast hne;have hd:ts.dropLast∈allT b n:=mem_allT n _ (by rw [List.length_dropLast];omega) fun x h'=>hx x ((List.dropLast_sublist _).subset h')
  obtain ⟨l0,l1⟩:=hx _ (List.getLast_mem hne);obtain ⟨c,hc⟩:=cu l0;refine List.mem_flatMap.mpr ⟨ts.dropLast,hd,aV.mpr ⟨c,bQ.mpr (by omega),?_⟩⟩;rw [iq];show ts.dropLast++[((c:Nat):Int)]=ts;rw [show ((c:Nat):Int)=ts.getLast hne from hc.symm];exact e
theorem tight {m:Int}{rg:List (Nat×List Stp)}{bs:List (Int×Int)}(N:NetT b m sp)(f:FF m sp tk rg)(O:OB sp tk bs)(x:Fx b tk rg bs) :
  ∃ ts∈allT b.toNat m.toNat,ts.getD 0 0=0∧g9 b ts sp=true∧dW b ts sp=kf b sp bs (j4 sp rg):=by
 have hb:0<b:=by have:=N.b1;omega
 have m1:=N.m1;obtain ⟨ht1,ht2⟩:=f.acy.nodup;obtain ⟨π,hπ⟩:=f.acy.pot fun k=>(bs.getD k (0,0)).1
 have eW:∀ k,k<sp.length→fb b (potT b π m.toNat) (sAt sp k)=(π (sAt sp k).g - π (sAt sp k).s - (sAt sp k).l) % b:=fun k hk=>by
  have s:=N.all _ (dG hk);exact wait_pot s.s0 (by have:=s.s1;omega) s.g0 (by have:=s.g1;omega)
 have key:∀ k,k<sp.length→∃ Y,fb b (potT b π m.toNat) (sAt sp k)=Y - (sAt sp k).l∧(bs.getD k (0,0)).1≤Y∧Y≤(bs.getD k (0,0)).2:=fun k hk=>by
  have s:=N.all _ (dG hk);have lo:=O.lo k hk
  by_cases c:k∈tk
  ·have e:=hπ k c
   have fx:=x.fix k c;refine ⟨(bs.getD k (0,0)).1,?_,fO _,by omega⟩;rw [eW k hk,show π (sAt sp k).g - π (sAt sp k).s - (sAt sp k).l=(bs.getD k (0,0)).1 - b * 0 - (sAt sp k).l by rw [gf];omega];exact rest_in lo.1 (by have:=s.ob;omega)
  ·obtain ⟨r,hr⟩:=f.all k hk c
   have K:=f.rk _ hr;obtain ⟨p,e,P,e1,e2⟩:=mW K O x.fix;have al:=x.alive _ hr;have al:¬ (upB b (fg bs r) > gY bs r / b):=by unfold i9 at al;simpa using al
   obtain ⟨_,z1,z2⟩:=beat_one hb (lo:=fg bs r) (hi:=gY bs r) (by omega) (by
    have e1:fg bs r=_:=e1;have e2:gY bs r=_:=e2;have:=s.ob;rw [e1,e2];show (sAt sp k).o+_ - ((sAt sp k).l+_)<b;omega)
   have ea:=alg_pot ht2 hπ p _ _ (fun s hs=>⟨(P.inn s hs).1,(P.inn s hs).2.2⟩) P.alo;have e1:fg bs r=(sAt sp k).l+alg (fun k=>(bs.getD k (0,0)).1) p:=e1;have e2:gY bs r=(sAt sp k).o+alg (fun k=>(bs.getD k (0,0)).1) p:=e2;have ea:alg (fun k=>(bs.getD k (0,0)).1) p=π (sAt sp k).s - π (sAt sp k).g:=ea;have eo:=O.out k hk c;rw [eo];refine ⟨b * upB b (fg bs r) - alg (fun k=>(bs.getD k (0,0)).1) p,?_,by show (sAt sp k).l≤_;omega,by show _≤(sAt sp k).o;omega⟩;rw [eW k hk];have hs:=s.ob;have:=rest_in (b:=b) (Y:=b * upB b (fg bs r) - alg (fun k=>(bs.getD k (0,0)).1) p) (l:=(sAt sp k).l) (Z:=upB b (fg bs r)) (by omega) (by omega);rw [←this];congr 1;omega
 have lay:∀ k,k<sp.length→ig b (potT b π m.toNat) sp k=(sAt sp k).l+fb b (potT b π m.toNat) (sAt sp k):=fun k hk=>by
  unfold ig;rw [iP hk]
 have hin:InB (ig b (potT b π m.toNat) sp) bs:=fun k hk=>by
  have hk:k<sp.length:=by rw [←O.len];exact hk
  obtain ⟨Y,e,y1,y2⟩:=key k hk;rw [lay k hk,e]
  constructor <;> omega
 refine ⟨potT b π m.toNat,mem_allT _ _ (by unfold potT;rw [aa,bt]) (fun z hz=>?_),?_,?_,?_⟩
 ·obtain ⟨i,_,rfl⟩:=aV.mp hz
  have h0:=cG (π (i:Nat) - π 0) (by omega:b≠0);have h1:=cB (π (i:Nat) - π 0) hb;exact ⟨h0,by omega⟩
 ·have:=potT_at (b:=b) (π:=π) (m:=m.toNat) (x:=0) (fO 0) (by omega)
  rw [Int.sub_self,Int.zero_emod] at this;exact this
 ·unfold g9
  rw [gT,iY];intro s hs;obtain ⟨k,hk,rfl⟩:=List.getElem_of_mem hs;have eA:sAt sp k=sp[k]:=by unfold sAt;rw [ag,gE hk];rfl
  obtain ⟨Y,e,y1,y2⟩:=key k hk;have:=(O.lo k hk).2.2;rw [eA] at e this;unfold brk;rw [o9 (by omega)];exact aP
 ·have rok:∀ r∈j4 sp rg,RowOk b sp bs r:=(fx_sure N f O x).2
  have rw1:∀ r∈j4 sp rg,RwOk sp.length r:=fun r hh=>by
   have q:=rok r hh;exact ⟨q.1.inn,q.1.one,q.1.few,q.2.2.1,q.2.2.2⟩
  have e1:=rows_in hb O.len hin _ rok;have e2:=sum_sgR (y:=ig b (potT b π m.toNat) sp) (n:=sp.length) (j4 sp rg) fun r hh s hs=>((rw1 r hh).inn s hs).1
  unfold kf;rw [kD,←e1,←e2,wait_sum,←mH];refine jz _ fun k hk=>?_
  unfold termW;have eo:=owK_sg hk rw1;have hl:=hin k (by rw [O.len];exact hk);have ew:wOf sp k=(sAt sp k).w:=by unfold wOf;rw [iP hk]
  have keyo:owK sp (j4 sp rg) k * (if owK sp (j4 sp rg) k<0 then (bs.getD k (0,0)).2 else (bs.getD k (0,0)).1)=owK sp (j4 sp rg) k * ig b (potT b π m.toNat) sp k:=by
   by_cases c:k∈tk
   ·have fx:=x.fix k c
    have e:ig b (potT b π m.toNat) sp k=(bs.getD k (0,0)).1:=by omega
    rw [e];split
    ·rw [←fx]
    ·rfl
   ·have z:owK sp (j4 sp rg) k=0:=by
     obtain ⟨r,hr⟩:=f.all k hk c;rw [eo,ew,sgR_own c rg f.rk f.one (aV.mpr ⟨_,hr,rfl⟩),Int.sub_self]
    rw [z,eP,eP]
  have ex:owK sp (j4 sp rg) k * ig b (potT b π m.toNat) sp k=wOf sp k * ig b (potT b π m.toNat) sp k - sgR k (j4 sp rg) * ig b (potT b π m.toNat) sp k:=by rw [eo,Int.sub_mul]
  omega
def FrstL (m:Nat)(sp:List Sn)(l:List Nat):Prop:=IsFor m sp (l.map fun (i:Nat)=>(i:Int))∧∃ π,Ordd sp π∧l.Perm (jQ sp m π).2
theorem nW:∀ {l k:List Nat},l.map (fun (i:Nat)=>(i:Int))=k.map (fun (i:Nat)=>(i:Int))→l=k
 | [],[],_=>rfl
 | [],_::_,h=>by cases h
 | _::_,[],h=>by cases h
 | a::l,b::k,h=>by
  rw [bX,bX] at h;injection h with h1 h2
  have h1:a=b:=by omega
  rw [h1,nW h2]
theorem FrstL.one {k:List Nat}(a:FrstL m sp l)(b:FrstL m sp k):l=k:=nW (IsFor.one a.1 b.1)
theorem FrstL.gd (E:Ends m sp)(a:FrstL m sp l):∃ gs tk,Gd m sp gs tk∧l.Perm tk∧∀ i,i<sp.length→tm gs (sAt sp i).s=tm gs (sAt sp i).g:=by
 obtain ⟨_,π,O,pm⟩:=a;refine ⟨(jQ sp m π).1,(jQ sp m π).2,Gd.fold E π _ _ (fun i hi=>O.lt hi) (Gd.start m sp),pm,fun i hi=>?_⟩;exact jP E π (jM m) [] (j9 _) (fun i hi=>O.lt hi) i (O.1.mem_iff.mpr (bQ.mpr hi))
theorem FrstL.pots (E:Ends m sp)(a:FrstL m sp l):Pots sp l:=by
 obtain ⟨gs,tk,g,p,_⟩:=a.gd E;exact g.acy.pots.perm p
theorem FrstL.few (E:Ends m sp)(h:0<m)(a:FrstL m sp l):l.length<m:=by
 obtain ⟨gs,tk,g,p,_⟩:=a.gd E;rw [p.length_eq];exact g.few h
theorem FrstL.held (E:Ends m sp)(a:FrstL m sp l){k:Nat}(hk:k<sp.length):Held sp l (sAt sp k).s (sAt sp k).g:=by
 obtain ⟨gs,tk,g,p,me⟩:=a.gd E;obtain ⟨s0,s1,g0,g1⟩:=E _ (dG hk);exact (g.held _ _ s0 s1 g0 g1 (me k hk)).more fun i hi=>p.mem_iff.mpr hi
def nL (sp:List Sn)(tk:List Nat):List Nat:=(aR sp.length).filter fun k=> !(decide (k∈tk))
structure FR (m:Int)(sp:List Sn)(l:List Nat)(rg:List (Nat×List Stp)):Prop where
 fr:FrstL m.toNat sp l
 rk:∀ q∈rg,RK sp l q
 ks:rg.map (·.1)=nL sp l
theorem FR.ff {m:Int}{rg:List (Nat×List Stp)}(N:NetT b m sp)(a:FR m sp l rg):FF m sp l rg:=by
 have m1:=N.m1;refine ⟨a.fr.pots N.ends,by have:=a.fr.few N.ends (by omega);omega,a.rk,fun k hk hn=>?_,?_⟩
 ·have:k∈rg.map (·.1):=by
   rw [a.ks];exact cg.mpr ⟨bQ.mpr hk,by rw [o9 hn];rfl⟩
  obtain ⟨q,hq,rfl⟩:=aV.mp this;exact ⟨q.2,hq⟩
 ·rw [a.ks]
  exact List.nodup_range.filter _
def wayQ (q:Nat×List Stp):Dt:=mf q.2
def g6 (k:Nat)(q:Nat×List Stp):Bool:=decide (k∈q.2.map Stp.i)
theorem Tb.lamT (h:L2.LamT T lp lq H)(e:L2.Tb T H H'):TupK H H':=Tb.tupK (LamT.tbl h) e
inductive mJ (T:ai)(lp:Pos)(lq:Str)(vs:List V)(H:Hp)(Q:VK)(_:XK):Prop
 | mk (v:V)(b m:Int)(sp:List Sn)(_:vs=[v])(_:IsD H v (jL b m sp))(_:NetT b m sp)(_:L2.LamT T lp lq H)(_:∀ (L:ai) (rl:List V) (l:List Nat) (rg:List (Nat×List Stp)) (H':Hp),L2.Tb T H H'→L2.LamT T lp lq H'→H L=none→H' L=some (.lst rl)→IsDs H' rl (rg.map wayQ)→FR m sp l rg→Q (.ref L) H')
inductive spOverR (vs:List V)(H:Hp)(Q:VK)(_:XK):Prop
 | mk (u:ai)(k:Nat)(rl:List V)(rg:List (Nat×List Stp))(_:vs=[.ref u,.int (k:Nat)])(_:H u=some (.lst rl))(_:IsDs H rl (rg.map wayQ))(_:rg.length≤40)(_:(∀ q∈rg,q.2.length≤1000))(_:∀ (L:ai) (rl':List V) (H':Hp),Same H H'→H L=none→H' L=some (.lst rl')→IsDs H' rl' ((rg.filter (g6 k)).map wayQ)→Q (.ref L) H')
structure CsD (H:Hp)(c:ai)(bs:List (Int×Int))(rs:List (Nat×List Stp)):Prop where
 ex:∃ vb u rl,H c=some (.tup [vb,.ref u])∧IsD H vb (bndP bs)∧H u=some (.lst rl)∧IsDs H rl (rs.map wayQ)
theorem CsD.same {c:ai}{bs:List (Int×Int)}(a:CsD H c bs rs)(e:Same H H'):CsD H' c bs rs:=by
 obtain ⟨vb,u,rl,h1,h2,h3,h4⟩:=a.ex;exact ⟨vb,u,rl,e _ _ h1,h2.same e,e _ _ h3,h4.same e⟩
inductive spMid (vs:List V)(H:Hp)(Q:VK)(_:XK):Prop
 | mk (c:ai)(k:Nat)(bs:List (Int×Int))(rs:List (Nat×List Stp))(_:vs=[.ref c,.int (k:Nat)])(_:CsD H c bs rs)(_:k<bs.length)(_:Q (.int (((bs.getD k (0,0)).1+(bs.getD k (0,0)).2) / 2)) H)
inductive nc (vs:List V)(H:Hp)(Q:VK)(_:XK):Prop
 | mk (v:V)(c:ai)(b m:Int)(sp:List Sn)(bs:List (Int×Int))(rs:List (Nat×List Stp))(_:vs=[v,.ref c])(_:IsD H v (jL b m sp))(_:0<b)(_:b<10 ^ 61)(_:CsD H c bs rs)(_:rs.length≤40)(_:(∀ q∈rs,oA bs.length q.2))(_:∀ r H',Same H H'→((r= .non∧∀ q∈rs,i9 b bs q.2=false)∨∃ q∈rs,IsD H' r (leafP (.ring q.2))∧i9 b bs q.2=true)→Q r H')
inductive Spr (sp:List Sn):List Stp→Prop where
 | nil:Spr sp []
 | snoc {S:List Stp} {s:Stp} (h:Spr sp S) (n:fe sp s≠kM sp s) (o:∀ t∈S,fe sp s≠fe sp t∧fe sp s≠kM sp t):Spr sp (S++[s])
structure SI (m:Nat)(sp:List Sn)(tk:List Nat)(ex:Int→Prop)(R A:List Int)(S:List Stp):Prop where
 rng:∀ r∈R,0≤r∧r<(m:Int)
 nd:R.Nodup
 ahd:∀ a∈A,a∈R
 inn:∀ s∈S,s.i∈tk∧(s.d=1∨s.d= -1)∧kM sp s∈R∧fe sp s∈R
 spr:Spr sp S
 len:S.length≤R.length
 clo:∀ z∈R,z ∉ A→¬ ex z→∀ s∈de sp tk z,s.i∈S.map Stp.i
 con:∀ π:Int→Int,(∀ s∈S,π (kM sp s)=π (fe sp s))→∀ a c,(a∈A∨ex a)→(c∈A∨ex c)→π a=π c
def exN:Int→Prop:=fun _=>False
section
variable {R A:List Int}
theorem SI.start:SI m sp tk exN [] [] [] :=
 ⟨fun _ h=>(by cases h),List.nodup_nil,fun _ h=>(by cases h),fun _ h=>(by cases h),.nil,aB _,fun _ h=>(by cases h),fun _ _ a c h=>(by rcases h with h | h;cases h;cases h)⟩
theorem SI.root {x:Int}(h:SI m sp tk exN R [] S)(hx:x ∉ R)(x0:0≤x)(x1:x<(m:Int)):SI m sp tk exN (R++[x]) [x] S:=by
 refine ⟨fun r hr=>?_,iX.mpr ⟨h.nd,by simp,fun a ha c hc e=>?_⟩,fun a ha=>aw _ ha,fun s hs=>?_,h.spr,by rw [av];exact Nat.le_succ_of_le h.len,fun z hz hn ex=>?_,fun π _ a c ha hc=>?_⟩
 ·rcases aM.mp hr with z | z
  ·exact h.rng r z
  ·rw [ax.mp z];exact ⟨x0,x1⟩
 ·rw [ax.mp hc] at e
  exact hx (e ▸ ha)
 ·obtain ⟨a,b,c,d⟩:=h.inn s hs
  exact ⟨a,b,aE _ c,aE _ d⟩
 ·rcases aM.mp hz with y | y
  ·exact h.clo z y (by simp) ex
  ·exact o6 y hn
 ·rcases ha with ha | ha
  ·rcases hc with hc | hc
   ·rw [ax.mp ha,ax.mp hc]
   ·exact hc.elim
  ·exact ha.elim
theorem SI.pop {x:Int}(h:SI m sp tk exN R (A++[x]) S):SI m sp tk (· =x) R A S∧x∈R:=by
 refine ⟨⟨h.rng,h.nd,fun a ha=>h.ahd a (aE _ ha),h.inn,h.spr,h.len,fun z hz hn ex=>?_,fun π hπ a c ha hc=>?_⟩,h.ahd x (by simp)⟩
 ·refine h.clo z hz (fun y=>?_) id
  rcases aM.mp y with y | y
  ·exact hn y
  ·exact ex (ax.mp y)
 ·have up:∀ a:Int,(a∈A∨a=x)→a∈A++[x]∨exN a:=fun a ha=> .inl (ha.elim (fun z=>aE _ z) fun z=>by rw [z];simp)
  exact h.con π hπ a c (up a ha) (up c hc)
theorem lY {x:Int}{s:Stp}(h:s∈de sp tk x):(s.i∈tk∧(s.d=1∨s.d= -1))∧kM sp s=x :=
 ⟨mem_stF (cg.mp h).1,pe (cg.mp h).2⟩
theorem mX {x:Int}{d:Int}(h:i∈tk)(hd:d=1∨d= -1)(e:kM sp ⟨i,d⟩=x):(⟨i,d⟩:Stp)∈de sp tk x:=by
 refine cg.mpr ⟨?_,o8 e⟩;unfold stF
 rcases hd with rfl | rfl
 ·exact aE _ (aV.mpr ⟨i,h,rfl⟩)
 ·exact aw _ (aV.mpr ⟨i,h,rfl⟩)
theorem SI.add {x:Int}{s:Stp}(E:Ends m sp)(ht:∀ i∈tk,i<sp.length)(h:SI m sp tk (· =x) R A S)(hx:x∈R)(hs:s∈de sp tk x)(hn:fe sp s ∉ R):SI m sp tk (· =x) (R++[fe sp s]) (A++[fe sp s]) (S++[s]):=by
 obtain ⟨⟨h1,h2⟩,h3⟩:=lY hs;refine ⟨fun r hr=>?_,iX.mpr ⟨h.nd,by simp,fun a ha c hc e=>?_⟩,fun a ha=>?_,fun t hT=>?_,.snoc h.spr (fun z=>hn (by rw [z,h3];exact hx)) (fun t hT=>⟨fun z=>hn (by rw [z];exact (h.inn t hT).2.2.2),fun z=>hn (by rw [z];exact (h.inn t hT).2.2.1)⟩),by rw [av,av];exact Nat.succ_le_succ h.len,fun z hz hz' ex t hT=>?_,fun π hπ=>?_⟩
 ·rcases aM.mp hr with z | z
  ·exact h.rng r z
  ·rw [ax.mp z];exact kA E (ht _ h1)
 ·rw [ax.mp hc] at e
  exact hn (e ▸ ha)
 ·rcases aM.mp ha with z | z
  ·exact aE _ (h.ahd a z)
  ·exact aw _ z
 ·rcases aM.mp hT with z | z
  ·obtain ⟨a,b,c,d⟩:=h.inn t z
   exact ⟨a,b,aE _ c,aE _ d⟩
  ·rw [ax.mp z]
   exact ⟨h1,h2,aE _ (h3 ▸ hx),by simp⟩
 ·rw [aA]
  refine aE _ ?_
  rcases aM.mp hz with y | y
  ·exact h.clo z y (fun y'=>hz' (aE _ y')) ex t hT
  ·exact o6 (aw _ y) hz'
 ·have old:∀ t∈S,π (kM sp t)=π (fe sp t):=fun t hT=>hπ t (aE _ hT)
  have new:π (fe sp s)=π x:=by rw [←hπ s (by simp),h3]
  have one:∀ a:Int,(a∈A++[fe sp s]∨a=x)→π a=π x:=fun a ha=>by
   rcases ha with ha | ha
   ·rcases aM.mp ha with z | z
    ·exact h.con π old a x (.inl z) (.inr rfl)
    ·rw [ax.mp z,new]
   ·rw [ha]
  exact fun a c ha hc=>(one a ha).trans (one c hc).symm
theorem SI.has {x:Int}{s:Stp}(P:Pots sp tk)(ne:∀ i∈tk,(sAt sp i).s≠(sAt sp i).g)(h:SI m sp tk (· =x) R A S)(hs:s∈de sp tk x)(hn:fe sp s∈R):s.i∈S.map Stp.i:=by
 obtain ⟨⟨h1,h2⟩,h3⟩:=lY hs;have lt:=P.nodup.2 _ h1;obtain ⟨f1,f2,f3,f4⟩:=oR lt;have hne:=ne _ h1;obtain ⟨i,d⟩:=s;have h2:d=1∨d= -1:=h2;show i∈_;have h1:i∈tk:=h1;have f1:kM sp ⟨i,1⟩=(sAt sp i).s:=f1;have f2:fe sp ⟨i,1⟩=(sAt sp i).g:=f2;have f3:kM sp ⟨i,-1⟩=(sAt sp i).g:=f3;have f4:fe sp ⟨i,-1⟩=(sAt sp i).s:=f4;have hne:(sAt sp i).s≠(sAt sp i).g:=hne
 by_cases c:fe sp ⟨i,d⟩∈A
 ·refine eM fun no=>?_
  obtain ⟨π,hπ⟩:=P.pot fun k=>if k=i then 1 else 0
  have e:=h.con π (fun t hT=>by
   obtain ⟨t1,t2,_⟩:=h.inn t hT;have e:=hπ _ t1;rw [oZ (fun z=>no (aV.mpr ⟨t,hT,z⟩))] at e;obtain ⟨g1,g2,g3,g4⟩:=oR (P.nodup.2 _ t1);obtain ⟨j,dj⟩:=t;have t2:dj=1∨dj= -1:=t2
   dsimp only at e g1 g2 g3 g4
   rcases t2 with rfl | rfl
   ·rw [g1,g2];omega
   ·rw [g3,g4];omega) _ x (.inl c) (.inr rfl)
  have y:=hπ i h1;rw [o4 rfl] at y;rw [←h3] at e
  rcases h2 with rfl | rfl
  ·rw [f1,f2] at e
   dsimp only at e y
   omega
  ·rw [f3,f4] at e
   dsimp only at e y
   omega
 ·rcases h2 with rfl | rfl
  ·rw [f2] at hn c
   exact h.clo _ hn c (fun z=>hne (by rw [←f1,h3];exact z.symm)) ⟨i,-1⟩ (mX h1 (.inr rfl) f3)
  ·rw [f4] at hn c
   exact h.clo _ hn c (fun z=>hne (by rw [←f3,h3];exact z)) ⟨i,1⟩ (mX h1 (.inl rfl) f1)
theorem SI.done {x:Int}(h:SI m sp tk (· =x) R A S)(a:∀ s∈de sp tk x,s.i∈S.map Stp.i):SI m sp tk exN R A S:=by
 refine ⟨h.rng,h.nd,h.ahd,h.inn,h.spr,h.len,fun z hz hn _=>?_,fun π hπ a c ha hc=>h.con π hπ a c (.inl (ha.elim id cN)) (.inl (hc.elim id cN))⟩
 by_cases e:z=x
 ·rw [e];exact a
 ·exact h.clo z hz hn e
theorem SI.few (h:SI m sp tk exN R A S):R.length≤m:=by
 have:=kQ (k:=(aR m).map fun i:Nat=>(i:Int)) h.nd fun x hx=>by
  obtain ⟨a,b⟩:=h.rng x hx;exact aV.mpr ⟨x.toNat,bQ.mpr (by omega),by omega⟩
 rwa [aa,bt] at this
theorem SI.fewX {x:Int}(h:SI m sp tk (· =x) R A S):R.length≤m:=by
 have:=kQ (k:=(aR m).map fun i:Nat=>(i:Int)) h.nd fun x hx=>by
  obtain ⟨a,b⟩:=h.rng x hx;exact aV.mpr ⟨x.toNat,bQ.mpr (by omega),by omega⟩
 rwa [aa,bt] at this
end
structure SprOk (m:Nat)(sp:List Sn)(tk:List Nat)(S:List Stp):Prop where
 spr:Spr sp S
 inn:∀ s∈S,s.i∈tk∧(s.d=1∨s.d= -1)
 all:∀ i∈tk,i∈S.map Stp.i
 len:S.length≤m
theorem SI.ok {R:List Int}(E:Ends m sp)(ht:∀ i∈tk,i<sp.length)(h:SI m sp tk exN R [] S)(a:∀ x:Nat,x<m→(x:Int)∈R):SprOk m sp tk S:=by
 refine ⟨h.spr,fun s hs=>⟨(h.inn s hs).1,(h.inn s hs).2.1⟩,fun i hi=>?_,aY h.len h.few⟩;obtain ⟨s0,s1,_,_⟩:=E _ (dG (ht i hi));obtain ⟨f1,_⟩:=oR (ht i hi);have:=a (sAt sp i).s.toNat (by omega);rw [show (((sAt sp i).s.toNat:Nat):Int)=(sAt sp i).s by omega] at this;exact h.clo _ this (by simp) id ⟨i,1⟩ (mX hi (.inl rfl) f1)
def setT (sp:List Sn)(y:Nat→Int)(ts:List Int)(s:Stp):List Int:=ts.set (fe sp s).toNat (tm ts (kM sp s)+s.d * y s.i)
def jy (sp:List Sn)(y:Nat→Int)(m:Nat)(S:List Stp):List Int:=S.foldl (setT sp y) (bP m 0)
theorem kB {sp:List Sn}{y:Nat→Int}{m:Nat}:∀ (S:List Stp) (ts:List Int),(S.foldl (setT sp y) ts).length=ts.length
 | [],_=>rfl
 | s::S,ts=>by
  rw [bM,kB (m:=m) S];exact gG
theorem tm_set {x z v:Int}(x0:0≤x)(x1:x<ts.length)(z0:0≤z):tm (ts.set x.toNat v) z=if z=x then v else tm ts z:=by
 unfold tm;rw [ag,ag]
 by_cases e:z=x
 ·rw [o4 e,e,dv (by omega)];rfl
 ·rw [oZ e,dk (by omega)]
theorem tooS_sAt0 {s:Stp}(h:s.i<sp.length):too (sAt sp s.i) s.d=fe sp s∧frm (sAt sp s.i) s.d=kM sp s:=by
 have e:sAt sp s.i=sp[s.i]:=by unfold sAt;rw [ag,gE h];rfl
 rw [e];exact ⟨(jW h).symm,(k4 h).symm⟩
theorem timesS_ok {y:Nat→Int}(E:Ends m sp)(h:Spr sp S):(∀ s∈S,s.i<sp.length)→∀ s∈S,tm (jy sp y m S) (fe sp s)=tm (jy sp y m S) (kM sp s)+s.d * y s.i:=by
 induction h with
 | nil=>exact fun _ s hs=>by cases hs
 | snoc h n o ih =>
  rename_i S s;intro hl t ht;have hl':∀ t∈S,t.i<sp.length:=fun t h'=>hl t (aE _ h')
  have frm_rng:∀ t:Stp,t.i<sp.length→0≤kM sp t:=fun t h'=>by
   have e:=(tooS_sAt0 h').2;obtain ⟨a,b,c,d⟩:=E _ (dG h');rw [←e];unfold frm;split <;> omega
  have e:jy sp y m (S++[s])=setT sp y (jy sp y m S) s:=by unfold jy;rw [dJ];rfl
  have hs:s.i<sp.length:=hl s (by simp);obtain ⟨x0,x1⟩:=kA E hs;have len:(jy sp y m S).length=m:=by unfold jy;rw [kB (m:=m),gO]
  rw [e];unfold setT
  rcases aM.mp ht with z | z
  ·rw [tm_set x0 (by omega) (kA E (hl' t z)).1,tm_set x0 (by omega) (frm_rng t (hl' t z)),oZ (fun q=>(o t z).1 q.symm),oZ (fun q=>(o t z).2 q.symm)]
   exact ih hl' t z
  ·rw [ax.mp z,tm_set x0 (by omega) x0,tm_set x0 (by omega) (frm_rng s hs),o4 rfl,oZ (fun q=>n q.symm)]
theorem SprOk.pot (E:Ends m sp)(ht:∀ i∈tk,i<sp.length)(h:SprOk m sp tk S)(y:Nat→Int):∀ i∈tk,tm (jy sp y m S) (sAt sp i).g - tm (jy sp y m S) (sAt sp i).s=y i:=fun i hi=>by
 obtain ⟨s,hs,rfl⟩:=aV.mp (h.all i hi);have e:=timesS_ok (y:=y) E h.spr (fun t hT=>ht _ (h.inn t hT).1) s hs;obtain ⟨f1,f2,f3,f4⟩:=oR (ht _ hi);have hd:=(h.inn s hs).2;obtain ⟨i,d⟩:=s
 dsimp only at e f1 f2 f3 f4 hd ⊢
 rcases hd with rfl | rfl
 ·rw [f1,f2] at e;omega
 ·rw [f3,f4] at e;omega
def lowB (bs:List (Int×Int))(k:Nat):Int:=(bs.getD k (0,0)).1
def tabOf (b:Int)(sp:List Sn)(bs:List (Int×Int))(m:Nat)(S:List Stp):List Int:=(jy sp (lowB bs) m S).map (· % b)
abbrev Cse:=List (Int×Int)×List (Nat×List Stp)
def wdB (bs:List (Int×Int))(k:Nat):Nat:=((bs.getD k (0,0)).2 - (bs.getD k (0,0)).1+1).toNat
def prdN:List Nat→Nat
 | []=>1
 | x::l=>x * prdN l
def fc (bs:List (Int×Int))(l:List Nat):Nat:=prdN (l.map (wdB bs))
theorem lH {f g:Nat→Nat}:∀ (l:List Nat),(∀ j∈l,f j=g j)→prdN (l.map f)=prdN (l.map g)
 | [],_=>rfl
 | j::l,h=>by
  show f j * _=g j * _;rw [h j (by simp),lH l fun i hi=>h i (au _ hi)]
theorem oK {f g h:Nat→Nat}{k:Nat}(e:f k=g k+h k):∀ (l:List Nat),l.Nodup→k∈l→(∀ j∈l,j≠k→f j=g j∧f j=h j)→prdN (l.map f)=prdN (l.map g)+prdN (l.map h)
 | [],_,hk,_=>o6 hk (by simp)
 | j::l,nd,hk,hh=>by
  rw [bF] at nd;show f j * _=g j * _+h j * _
  by_cases c:j=k
  ·subst c
   have ne:∀ i∈l,i≠j:=fun i hi z=>nd.1 (z ▸ hi)
   rw [←lH (f:=f) (g:=g) l fun i hi=>(hh i (au _ hi) (ne i hi)).1,←lH (f:=f) (g:=h) l fun i hi=>(hh i (au _ hi) (ne i hi)).2,e,Nat.add_mul]
  ·obtain ⟨a1,a2⟩:=hh j (by simp) c
   rw [oK e l nd.2 ((az.mp hk).resolve_left fun z=>c z.symm) fun i hi=>hh i (au _ hi),Nat.mul_add,←a1,←a2]
theorem prdN_pos {f:Nat→Nat}:∀ (l:List Nat),(∀ j∈l,0<f j)→0<prdN (l.map f)
 | [],_=>Nat.one_pos
 | j::l,h=>Nat.mul_pos (h j (by simp)) (prdN_pos l fun i hi=>h i (au _ hi))
theorem iF {bs:List (Int×Int)}(O:OB sp l bs)(hl:∀ k∈l,k<sp.length):0<fc bs l:=prdN_pos l fun j hj=>by
 have:=O.lo j (hl j hj);unfold wdB;omega
theorem kT {bs:List (Int×Int)}{k:Nat}{a:Int}(O:OB sp l bs)(nd:l.Nodup)(hl:∀ k∈l,k<sp.length)(hk:k∈l)(h1:(bs.getD k (0,0)).1≤a)(h2:a<(bs.getD k (0,0)).2):fc bs l=fc (ko bs k a) l+fc (eY bs k a) l:=by
 have hb:=O.len;have hkl:=hl k hk;refine oK ?_ l nd hk fun j hj hn=>?_
 ·unfold wdB ko eY
  rw [hX (by omega),hX (by omega),o4 rfl,o4 rfl];show _=(a - _+1).toNat+(_ - (a+1)+1).toNat;omega
 ·have hjl:=hl j hj
  unfold wdB ko eY;rw [hX (by omega),hX (by omega),oZ (cw hn),oZ (cw hn)];exact ⟨rfl,rfl⟩
theorem j5 {sp:List Sn}:∀ (l:List Nat),(∀ k∈l,k<sp.length)→(∀ x∈sp,x.l≤x.o)→((fc (sp.map fun x=>(x.l,x.o)) l:Nat):Int)=jE sp l
 | [],_,_=>rfl
 | k::l,h,p=>by
  have ih:=j5 l (fun j hj=>h j (au _ hj)) p;rw [l5,←ih];show ((wdB _ k * fc _ l:Nat):Int)=_;have hk:=h k (by simp);have e:(sp.map fun x=>(x.l,x.o)).getD k (0,0)=((sAt sp k).l,(sAt sp k).o):=by rw [ag,ay,iP hk];rfl
  have q:=p _ (dG hk);have e2:((wdB (sp.map fun x=>(x.l,x.o)) k:Nat):Int)=(wkey sp k).1+1:=by
   unfold wdB;rw [e];show (((sAt sp k).o - (sAt sp k).l+1).toNat:Int)=(sAt sp k).o - (sAt sp k).l+1;omega
  rw [←e2];exact Int.natCast_mul _ _
structure CaseOk (b:Int)(sp:List Sn)(l:List Nat)(rg:List (Nat×List Stp))(c:Cse):Prop where
 ob:OB sp l c.1
 sub:∀ q∈c.2,q∈rg
 few:c.2.length≤40
 alive:∀ q∈rg,q ∉ c.2→i9 b c.1 q.2=false
theorem low_set {bs:List (Int×Int)}{k:Nat}{x:Int×Int}:∀ (ws:List Stp),k ∉ ws.map Stp.i→fg (bs.set k x) ws=fg bs ws∧gY (bs.set k x) ws=gY bs ws
 | [],_=>⟨rfl,rfl⟩
 | s::ws,h=>by
  obtain ⟨i1,i2⟩:=low_set (x:=x) ws fun z=>h (au _ z)
  have hs:k≠s.i:=fun z=>h (by rw [z];simp)
  have e:(bs.set k x)[s.i]? =bs[s.i]? := dk hs
  constructor
  ·show oP _ s+fg _ ws=oP _ s+fg _ ws
   rw [i1];congr 1;unfold oP;rw [e]
  ·show kx _ s+gY _ ws=kx _ s+gY _ ws
   rw [i2];congr 1;unfold kx;rw [e]
theorem dead_set {bs:List (Int×Int)}{k:Nat}{x:Int×Int}{q:Nat×List Stp}(h:g6 k q=false):i9 b (bs.set k x) q.2=i9 b bs q.2:=by
 obtain ⟨a1,a2⟩:=low_set (bs:=bs) (x:=x) q.2 (of_decide_eq_false h);unfold i9;rw [a1,a2]
theorem CaseOk.cut {rg:List (Nat×List Stp)}{c:Cse}(C:CaseOk b sp l rg c)(lrg:rg.length≤40)(hl:∀ k∈l,k<sp.length)(al:∀ q∈c.2,i9 b c.1 q.2=false){k:Nat}{a:Int}(hk:k∈l)(h1:(c.1.getD k (0,0)).1≤a)(h2:a<(c.1.getD k (0,0)).2) :
  CaseOk b sp l rg (eY c.1 k a,rg.filter (g6 k))∧CaseOk b sp l rg (ko c.1 k a,rg.filter (g6 k)):=by
 have sub:∀ q∈rg.filter (g6 k),q∈rg:=fun q hq=>(cg.mp hq).1
 have few:(rg.filter (g6 k)).length≤40:=aY (eV _ _) lrg;have all:∀ q∈rg,i9 b c.1 q.2=false:=fun q hq=>by
  by_cases z:q∈c.2
  ·exact al q z
  ·exact C.alive q hq z
 have out:∀ q∈rg,q ∉ rg.filter (g6 k)→g6 k q=false:=fun q hq hn=>i3.mpr fun z=>hn (cg.mpr ⟨hq,z⟩)
 exact ⟨⟨C.ob.other hk (hl k hk) h1 h2,sub,few,fun q hq hn=>(dead_set (out q hq hn)).trans (all q hq)⟩,⟨C.ob.one hk (hl k hk) h1 h2,sub,few,fun q hq hn=>(dead_set (out q hq hn)).trans (all q hq)⟩⟩
theorem dead_none {bs:List (Int×Int)}{ws:List Stp}(hb:0<b)(hl:bs.length=sp.length)(h:InB (ig b ts sp) bs)(hr:Rg sp ws):i9 b bs ws=false:=by
 obtain ⟨Z,_,z1,z2⟩:=ring_in hb hl h hr;unfold i9;exact o9 (by omega)
theorem key_pot {m:Int}{rg:List (Nat×List Stp)}{bs:List (Int×Int)}(N:NetT b m sp)(f:FF m sp tk rg)(O:OB sp tk bs)(x:Fx b tk rg bs){π:Int→Int}(hπ:∀ i∈tk,π (sAt sp i).g - π (sAt sp i).s=(bs.getD i (0,0)).1)
  (eW:∀ k,k<sp.length→fb b ts (sAt sp k)=(π (sAt sp k).g - π (sAt sp k).s - (sAt sp k).l) % b):∀ k,k<sp.length→(bs.getD k (0,0)).1≤ig b ts sp k∧ig b ts sp k≤(bs.getD k (0,0)).2:=fun k hk=>by
 have hb:0<b:=by have:=N.b1;omega
 obtain ⟨ht1,ht2⟩:=f.acy.nodup;have s:=N.all _ (dG hk);have lo:=O.lo k hk;have lay:ig b ts sp k=(sAt sp k).l+fb b ts (sAt sp k):=by unfold ig;rw [iP hk]
 rw [lay];have fin:∀ Y,fb b ts (sAt sp k)=Y - (sAt sp k).l→(bs.getD k (0,0)).1≤Y→Y≤(bs.getD k (0,0)).2→(bs.getD k (0,0)).1≤(sAt sp k).l+fb b ts (sAt sp k)∧(sAt sp k).l+fb b ts (sAt sp k)≤(bs.getD k (0,0)).2:=fun Y e y1 y2=>by omega
 by_cases c:k∈tk
 ·have e:=hπ k c
  have fx:=x.fix k c;refine fin (bs.getD k (0,0)).1 ?_ (fO _) (by omega);rw [eW k hk,show π (sAt sp k).g - π (sAt sp k).s - (sAt sp k).l=(bs.getD k (0,0)).1 - b * 0 - (sAt sp k).l by rw [gf];omega];exact rest_in lo.1 (by have:=s.ob;omega)
 ·obtain ⟨r,hr⟩:=f.all k hk c
  have K:=f.rk _ hr;obtain ⟨p,e,P,e1,e2⟩:=mW K O x.fix;have al:=x.alive _ hr;have al:¬ (upB b (fg bs r) > gY bs r / b):=by unfold i9 at al;simpa using al
  obtain ⟨_,z1,z2⟩:=beat_one hb (lo:=fg bs r) (hi:=gY bs r) (by omega) (by
   have e1:fg bs r=_:=e1;have e2:gY bs r=_:=e2;have:=s.ob;rw [e1,e2];show (sAt sp k).o+_ - ((sAt sp k).l+_)<b;omega)
  have ea:=alg_pot ht2 hπ p _ _ (fun s hs=>⟨(P.inn s hs).1,(P.inn s hs).2.2⟩) P.alo;have e1:fg bs r=(sAt sp k).l+alg (fun k=>(bs.getD k (0,0)).1) p:=e1;have e2:gY bs r=(sAt sp k).o+alg (fun k=>(bs.getD k (0,0)).1) p:=e2;have ea:alg (fun k=>(bs.getD k (0,0)).1) p=π (sAt sp k).s - π (sAt sp k).g:=ea;have eo:=O.out k hk c;rw [eo] at fin ⊢;refine fin (b * upB b (fg bs r) - alg (fun k=>(bs.getD k (0,0)).1) p) ?_ (by show (sAt sp k).l≤_;omega) (by show _≤(sAt sp k).o;omega);rw [eW k hk];have hs:=s.ob;have:=rest_in (b:=b) (Y:=b * upB b (fg bs r) - alg (fun k=>(bs.getD k (0,0)).1) p) (l:=(sAt sp k).l) (Z:=upB b (fg bs r)) (by omega) (by omega);rw [←this];congr 1;omega
theorem fits_lay {m:Int}(h:∀ k,k<sp.length→ig b ts sp k≤(sAt sp k).o):g9 b ts sp=true:=by
 unfold g9;rw [gT,iY];intro s hs;obtain ⟨k,hk,rfl⟩:=List.getElem_of_mem hs;have eA:sAt sp k=sp[k]:=by unfold sAt;rw [ag,gE hk];rfl
 have:=h k hk;have lay:ig b ts sp k=(sAt sp k).l+fb b ts (sAt sp k):=by unfold ig;rw [iP hk]
 rw [lay,eA] at this;unfold brk;rw [o9 (by omega)];exact aP
structure Kp (H H':Hp):Prop where
 tup:TupK H H'
 lst:∀ q xs,H q=some (.lst xs)→H' q=some (.lst xs)
 frz:∀ q o xs,H q=some (.frz o (.lst xs))→H' q=some (.frz o (.lst xs))
theorem Same.kp (e:Same H H'):Kp H H':=⟨fun _ _ h=>e _ _ h,fun _ _ h=>e _ _ h,fun _ _ _ h=>e _ _ h⟩
theorem Kp.seq (e:Kp H H')(h:SqL K H a xs):SqL K H' a xs:=by
 rcases h with (h | ⟨o,h⟩) | h
 ·exact .inl (.inl (e.lst _ _ h))
 ·exact .inl (.inr ⟨o,e.frz _ _ _ h⟩)
 ·exact .inr h
theorem Kp.trans {H2:Hp}(a:Kp H H1)(b:Kp H1 H2):Kp H H2:=⟨fun _ _ h=>b.tup _ _ (a.tup _ _ h),fun _ _ h=>b.lst _ _ (a.lst _ _ h),fun _ _ _ h=>b.frz _ _ _ (a.frz _ _ _ h)⟩
theorem Tb.kp (h:L2.LamT T lp lq H)(e:L2.Tb T H H'):Kp H H':=by
 obtain ⟨ps,hT⟩:=LamT.tbl h;exact ⟨fun q _ h=>e q _ (eD h hT nofun) h,fun q _ h=>e q _ (eD h hT nofun) h,fun q _ _ h=>e q _ (eD h hT nofun) h⟩
theorem Kp.upd {x dx:ai}{fs:List (Str×V)}(h:H x=some (.ins C dx fs)):Kp H (upd H x o) :=
 ⟨fun q _ hq=>by rw [bw (eD hq h nofun)];exact hq,fun q _ hq=>by rw [bw (eD hq h nofun)];exact hq,fun q _ _ hq=>by rw [bw (eD hq h nofun)];exact hq⟩
theorem LamT.ntb {U:ai}{lp':Pos}{lq':Str}(h:L2.LamT T lp lq H)(hU:L2.LamT U lp' lq' H)(ne:T≠U)(e:L2.Tb U H H'):L2.LamT T lp lq H':=by
 obtain ⟨ps,hT⟩:=LamT.tbl hU
 rcases h with h | ⟨c,h,oc,vs,t,e1,r⟩
 ·exact .inl (e _ _ ne h)
 ·exact .inr ⟨c,e _ _ ne h,oc,vs,t,e _ _ (eD e1 hT nofun) e1,r⟩
theorem kI {x dx:ai}{fs:List (Str×V)}(h:L2.LamT T lp lq H)(hx:H x=some (.ins C dx fs)):L2.LamT T lp lq (L2.upd H x o):=LamT.upd h (fun p u z=>by rw [hx] at z;cases z) (fun ps z=>by rw [hx] at z;cases z)
theorem wayQ_kp {rl:List V}(e:Kp H H')(h:IsDs H rl (rs.map wayQ)):IsDs H' rl (rs.map wayQ):=IsDs.keepP e.tup h (j6 rs fun q _=>kU _ _)
theorem CsD.kp {c:ai}{bs:List (Int×Int)}(a:CsD H c bs rs)(e:Kp H H'):CsD H' c bs rs:=by
 obtain ⟨vb,u,rl,h1,h2,h3,h4⟩:=a.ex;exact ⟨vb,u,rl,e.tup _ _ h1,IsD.keepP e.tup h2 (kU _ _),e.lst _ _ h3,wayQ_kp e h4⟩
structure TchD (H:Hp)(tl:ai)(n:Nat)(rg:List (Nat×List Stp)):Prop where
 ex:∃ tv,H tl=some (.lst tv)∧tv.length=n∧∀ k,k<n→∃ u rl,tv[k]? =some (.ref u)∧H u=some (.lst rl)∧IsDs H rl ((rg.filter (g6 k)).map wayQ)
theorem TchD.kp {tl:ai}{rg:List (Nat×List Stp)}(a:TchD H tl n rg)(e:Kp H H'):TchD H' tl n rg:=by
 obtain ⟨tv,h1,h2,h3⟩:=a.ex;refine ⟨tv,e.lst _ _ h1,h2,fun k hk=>?_⟩;obtain ⟨u,rl,a1,a2,a3⟩:=h3 k hk;exact ⟨u,rl,a1,e.lst _ _ a2,wayQ_kp e a3⟩
structure CutD (H:Hp)(C x:ai)(sp:List Sn)(l:List Nat)(rg:List (Nat×List Stp)):Prop where
 ex:∃ (dx c0 tl ol:ai) (ord:List Nat),H x=some (.ins C dx [("first_case",.ref c0),("touched",.ref tl),("order",.ref ol)])∧CsD H c0 (sp.map fun z=>(z.l,z.o)) rg∧TchD H tl sp.length rg∧H ol=some (.lst (ord.map fun (i:Nat)=>V.int i))∧ord.Perm l
theorem CutD.same {x:ai}{rg:List (Nat×List Stp)}(a:CutD H C x sp l rg)(e:Same H H'):CutD H' C x sp l rg:=by
 obtain ⟨dx,c0,tl,ol,ord,h1,h2,h3,h4,h5⟩:=a.ex;exact ⟨dx,c0,tl,ol,ord,e _ _ h1,h2.same e,h3.kp (Same.kp e),e _ _ h4,h5⟩
structure CsE (Hb H:Hp)(c:ai)(bs:List (Int×Int))(rs:List (Nat×List Stp)):Prop where
 ex:∃ vb u rl,H c=some (.tup [vb,.ref u])∧IsD H vb (bndP bs)∧Hb u=some (.lst rl)∧IsDs Hb rl (rs.map wayQ)
theorem CsE.dn {Hb:Hp}{c:ai}{bs:List (Int×Int)}(a:CsE Hb H c bs rs)(e:Same Hb H):CsD H c bs rs:=by
 obtain ⟨vb,u,rl,h1,h2,h3,h4⟩:=a.ex;exact ⟨vb,u,rl,h1,h2,e _ _ h3,h4.same e⟩
theorem CsE.keep {Hb:Hp}{c:ai}{bs:List (Int×Int)}(a:CsE Hb H c bs rs)(e:TupK H H'):CsE Hb H' c bs rs:=by
 obtain ⟨vb,u,rl,h1,h2,h3,h4⟩:=a.ex;exact ⟨vb,u,rl,e _ _ h1,IsD.keepP e h2 (kU _ _),h3,h4⟩
inductive spInitC (T0:ai)(p0:Pos)(q0:Str)(T1:ai)(p1:Pos)(q1:Str)(C:ai)(vs:List V)(H:Hp)(Q:VK)(_:XK):Prop
 | mk (x dx:ai)(v:V)(b m:Int)(sp:List Sn)(_:vs=[.ref x,v])(_:H x=some (.ins C dx []))(_:IsD H v (jL b m sp))(_:NetT b m sp)(_:L2.LamT T0 p0 q0 H)(_:L2.LamT T1 p1 q1 H)(_:∀ (l:List Nat) (rg:List (Nat×List Stp)) (H':Hp),(∀ a o,a≠T0→a≠T1→a≠x→H a=some o→H' a=some o)→Kp H H'→L2.LamT T0 p0 q0 H'→L2.LamT T1 p1 q1 H'→FR m sp l rg→CutD H' C x sp l rg→Q .non H')
inductive spSpanC (C:ai)(vs:List V)(H:Hp)(Q:VK)(_:XK):Prop
 | mk (x c:ai)(sp:List Sn)(l:List Nat)(rg rs:List (Nat×List Stp))(bs:List (Int×Int))(_:vs=[.ref x,.ref c])(_:CutD H C x sp l rg)(_:CsD H c bs rs)(_:(∀ k∈l,k<bs.length))(_:l.length≤40)(_:((∀ k∈l,¬ ((bs.getD k (0,0)).1<(bs.getD k (0,0)).2))→Q .non H))(_:∀ k∈l,(bs.getD k (0,0)).1<(bs.getD k (0,0)).2→Q (.int (k:Nat)) H)
inductive spSidesC (C:ai)(vs:List V)(H:Hp)(Q:VK)(_:XK):Prop
 | mk (Hb:Hp)(x c:ai)(k:Nat)(a:Int)(sp:List Sn)(l:List Nat)(rg rs:List (Nat×List Stp))(bs:List (Int×Int))(_:vs=[.ref x,.ref c,.int (k:Nat),.int a])(_:Same Hb H)(_:CutD Hb C x sp l rg)(_:CsD H c bs rs)(_:k<bs.length)(_:bs.length=sp.length)(_:bs.length≤40)(_:∀ (L q1 q2:ai) (H':Hp),Same H H'→H L=none→H' L=some (.lst [.ref q1,.ref q2])→CsE Hb H' q1 (eY bs k a) (rg.filter (g6 k))→CsE Hb H' q2 (ko bs k a) (rg.filter (g6 k))→Q (.ref L) H')
theorem ord_perm (h:π.Perm (aR l.length)):(π.map fun i=>l.getD i 0).Perm l:=by
 have e:(aR l.length).map (fun i=>l.getD i 0)=l:=by
  refine List.ext_getElem (by rw [aa,bt]) fun i h1 h2=>?_
  rw [List.getElem_map,List.getElem_range,ag,gE h2];rfl
 have:=h.map (fun i=>l.getD i 0)
 rwa [e] at this
theorem tm_mod {x:Int}:tm (ts.map (· % b)) x=tm ts x % b:=by
 unfold tm;rw [ag,ag,ay];cases ts[x.toNat]? with
 | none=>exact (Int.zero_emod b).symm
 | some y=>rfl
def TabOk (b m:Int)(sp:List Sn)(t:List Int):Prop:=t.length=m.toNat∧(∀ x∈t,0≤x∧x<b)∧g9 b t sp=true
theorem tab_ok {m:Int}{rg:List (Nat×List Stp)}{bs:List (Int×Int)}(N:NetT b m sp)(f:FF m sp l rg)(O:OB sp l bs)(x:Fx b l rg bs)(h:SprOk m.toNat sp l S) :
  TabOk b m sp (tabOf b sp bs m.toNat S)∧∀ k,k<sp.length→(bs.getD k (0,0)).1≤ig b (tabOf b sp bs m.toNat S) sp k∧ig b (tabOf b sp bs m.toNat S) sp k≤(bs.getD k (0,0)).2:=by
 have hb:0<b:=by have:=N.b1;omega
 have ht2:=f.acy.nodup.2;have key:=key_pot N f O x (ts:=tabOf b sp bs m.toNat S) (π:=tm (jy sp (lowB bs) m.toNat S)) (fun i hi=>h.pot N.ends ht2 (lowB bs) i hi) fun k hk=>by
  unfold fb tabOf;rw [tm_mod,tm_mod,rest_two]
 refine ⟨⟨?_,fun y hy=>?_,fits_lay (m:=m) fun k hk=>?_⟩,key⟩
 ·unfold tabOf jy
  rw [aa,kB (m:=0),gO]
 ·obtain ⟨z,_,rfl⟩:=aV.mp hy
  exact ⟨cG _ (by omega),cB _ hb⟩
 ·have:=key k hk
  have:=(O.lo k hk).2.2;omega
def psC (l:List Nat):List Cse→Nat
 | []=>0
 | c::cs=>fc c.1 l+psC l cs
theorem nR (l:List Nat):∀ (cs ds:List Cse),psC l (cs++ds)=psC l cs+psC l ds
 | [],ds=>(Nat.zero_add _).symm
 | c::cs,ds=>by
  show _+psC l (cs++ds)=_+psC l cs+psC l ds;rw [nR l cs ds];omega
structure SrcI (b m:Int)(sp:List Sn)(l:List Nat)(rg:List (Nat×List Stp))(cs:List Cse)(Ts:List (List Int)):Prop where
 ok:∀ c∈cs,CaseOk b sp l rg c
 tabs:∀ t∈Ts,TabOk b m sp t
 hold:∀ T,g9 b T sp=true→(∃ t∈Ts,∀ k∈l,ig b t sp k=ig b T sp k)∨∃ c∈cs,InB (ig b T sp) c.1
 cnt:Ts.length+psC l cs≤fc (sp.map fun x=>(x.l,x.o)) l
def szC (l:List Nat):List Cse→Nat
 | []=>0
 | c::cs=>(2 * fc c.1 l - 1)+szC l cs
theorem kN (l:List Nat):∀ (cs ds:List Cse),szC l (cs++ds)=szC l cs+szC l ds
 | [],ds=>(Nat.zero_add _).symm
 | c::cs,ds=>by
  show _+szC l (cs++ds)=_+szC l cs+szC l ds;rw [kN l cs ds];omega
section
variable {m:Int}{rg:List (Nat×List Stp)}{cs:List Cse}{Ts:List (List Int)}{c:Cse}
theorem szC_len (hl:∀ k∈l,k<sp.length):∀ (cs:List Cse),(∀ c∈cs,CaseOk b sp l rg c)→cs.length≤szC l cs
 | [],_=>aB _
 | c::cs,h=>by
  have ih:=szC_len hl cs fun d hd=>h d (au _ hd)
  have:=iF (h c (by simp)).ob hl;show cs.length+1≤2 * fc c.1 l - 1+szC l cs;omega
theorem SrcI.start (N:NetT b m sp)(hl:rg.length≤40):SrcI b m sp l rg [(sp.map fun x=>(x.l,x.o),rg)] []:=by
 have hb:0<b:=by have:=N.b1;omega
 refine ⟨fun c hc=>?_,fun t h=>o6 h (by simp),fun T hT=> .inr ⟨_,ax.mpr rfl,lay_in hb hT⟩,by show 0+(fc (sp.map fun x=>(x.l,x.o)) l+0)≤_;omega⟩;rw [ax.mp hc];exact ⟨OB.first N l,fun q hq=>hq,hl,fun q hq hn=>o6 hq hn⟩
theorem SrcI.dead (N:NetT b m sp)(f:FF m sp l rg)(I:SrcI b m sp l rg (cs++[c]) Ts){q:Nat×List Stp}(hq:q∈c.2)(hd:i9 b c.1 q.2=true):SrcI b m sp l rg cs Ts:=by
 have hb:0<b:=by have:=N.b1;omega
 have C:=I.ok c (by simp);refine ⟨fun d hd=>I.ok d (aE _ hd),I.tabs,fun T hT=>?_,by have:=I.cnt;rw [nR] at this;omega⟩
 rcases I.hold T hT with h | ⟨d,h1,h2⟩
 ·exact .inl h
 ·rcases aM.mp h1 with z | z
  ·exact .inr ⟨d,z,h2⟩
  ·rw [ax.mp z] at h2
   have:=f.few;have m2:=N.m2;rw [dead_none hb C.ob.len h2 ((f.rk q (C.sub q hq)).rg N (by omega))] at hd;cases hd
theorem CaseOk.all (C:CaseOk b sp l rg c)(al:∀ q∈c.2,i9 b c.1 q.2=false):∀ q∈rg,i9 b c.1 q.2=false:=fun q hq=>by
 by_cases z:q∈c.2
 ·exact al q z
 ·exact C.alive q hq z
theorem SrcI.leaf (N:NetT b m sp)(f:FF m sp l rg)(h:SprOk m.toNat sp l S)(I:SrcI b m sp l rg (cs++[c]) Ts)(al:∀ q∈c.2,i9 b c.1 q.2=false)(fx:∀ k∈l,¬ ((c.1.getD k (0,0)).1<(c.1.getD k (0,0)).2)):SrcI b m sp l rg cs (Ts++[tabOf b sp c.1 m.toNat S]):=by
 have C:=I.ok c (by simp);have ht2:=f.acy.nodup.2;have fix:∀ k∈l,(c.1.getD k (0,0)).1=(c.1.getD k (0,0)).2:=fun k hk=>by
  have:=(C.ob.lo k (ht2 k hk)).2.1;have:=fx k hk;omega
 obtain ⟨t1,t2⟩:=tab_ok N f C.ob ⟨fix,C.all al⟩ h;have pc:=iF C.ob ht2;refine ⟨fun d hd=>I.ok d (aE _ hd),fun t ht=>?_,fun T hT=>?_,by have:=I.cnt;rw [nR] at this;have e:psC l [c]=fc c.1 l+0:=rfl;rw [av];show Ts.length+1+_≤_;omega⟩
 ·rcases aM.mp ht with z | z
  ·exact I.tabs t z
  ·rw [ax.mp z];exact t1
 ·rcases I.hold T hT with ⟨t,h1,h2⟩ | ⟨d,h1,h2⟩
  ·exact .inl ⟨t,aE _ h1,h2⟩
  ·rcases aM.mp h1 with z | z
   ·exact .inr ⟨d,z,h2⟩
   ·rw [ax.mp z] at h2
    refine .inl ⟨_,aw _ (ax.mpr rfl),fun k hk=>?_⟩;have a1:=t2 k (ht2 k hk);have a2:=h2 k (by rw [C.ob.len];exact ht2 k hk);have a3:=fix k hk;omega
theorem SrcI.cut (N:NetT b m sp)(f:FF m sp l rg)(lrg:rg.length≤40)(I:SrcI b m sp l rg (cs++[c]) Ts)(al:∀ q∈c.2,i9 b c.1 q.2=false){k:Nat}{a:Int}(hk:k∈l)(h1:(c.1.getD k (0,0)).1≤a)(h2:a<(c.1.getD k (0,0)).2) :
  SrcI b m sp l rg (cs++[(eY c.1 k a,rg.filter (g6 k)),(ko c.1 k a,rg.filter (g6 k))]) Ts∧szC l (cs++[(eY c.1 k a,rg.filter (g6 k)),(ko c.1 k a,rg.filter (g6 k))])<szC l (cs++[c]):=by
 have C:=I.ok c (by simp);have ht2:=f.acy.nodup.2;obtain ⟨o1,o2⟩:=C.cut lrg ht2 al hk h1 h2;refine ⟨⟨fun d hd=>?_,I.tabs,fun T hT=>?_,?_⟩,?_⟩
 ·rcases aM.mp hd with z | z
  ·exact I.ok d (aE _ z)
  ·rcases az.mp z with rfl | z
   ·exact o1
   ·rw [ax.mp z];exact o2
 ·rcases I.hold T hT with h | ⟨d,d1,d2⟩
  ·exact .inl h
  ·rcases aM.mp d1 with z | z
   ·exact .inr ⟨d,aE _ z,d2⟩
   ·rw [ax.mp z] at d2
    by_cases e:ig b T sp k≤a
    ·exact .inr ⟨(ko c.1 k a,rg.filter (g6 k)),by simp,inB_one d2 e⟩
    ·exact .inr ⟨(eY c.1 k a,rg.filter (g6 k)),by simp,inB_other d2 (by omega)⟩
 ·have h0:=I.cnt
  rw [nR] at h0 ⊢;have e:=kT C.ob f.acy.nodup.1 ht2 hk h1 h2;have e1:psC l [c]=fc c.1 l+0:=rfl;have e2:psC l [(eY c.1 k a,rg.filter (g6 k)),(ko c.1 k a,rg.filter (g6 k))]=fc (eY c.1 k a) l+(fc (ko c.1 k a) l+0):=rfl;omega
 ·rw [kN,kN]
  show _+((2 * fc (eY c.1 k a) l - 1)+((2 * fc (ko c.1 k a) l - 1)+0))<_+((2 * fc c.1 l - 1)+0);have p1:=iF o1.ob ht2;have p2:=iF o2.ob ht2;have e:=kT C.ob f.acy.nodup.1 ht2 hk h1 h2;have p1:0<fc (eY c.1 k a) l:=p1;have p2:0<fc (ko c.1 k a) l:=p2;omega
theorem SrcI.less (f:FF m sp l rg)(I:SrcI b m sp l rg (cs++[c]) Ts):szC l cs<szC l (cs++[c]):=by
 have:=iF (I.ok c (by simp)).ob f.acy.nodup.2;rw [kN];show _<_+((2 * fc c.1 l - 1)+0);omega
end
def CsL (Hb Hc:Hp):List V→List Cse→Prop:=ju fun v c=>∃ q,v= .ref q∧CsE Hb Hc q c.1 c.2
theorem CsL.keep {Hb Hc Hd:Hp}(e:TupK Hc Hd){zs:List V}{cs:List Cse}(h:CsL Hb Hc zs cs):CsL Hb Hd zs cs:=L2.Paired.mapP h fun _ _ ⟨q,a,b⟩=>⟨q,a,b.keep e⟩
theorem Paired.app {α β:Type}{R:α→β→Prop}:∀ {xs:List α} {ys:List β} {us:List α} {vs:List β},ju R xs ys→ju R us vs→ju R (xs++us) (ys++vs)
 | _,_,_,_,.nil,h=>h
 | _,_,_,_,.cons r t,h=> .cons r (Paired.app t h)
theorem Paired.len {α β:Type}{R:α→β→Prop}:∀ {xs:List α} {ys:List β},ju R xs ys→xs.length=ys.length
 | _,_,.nil=>rfl
 | _,_,.cons _ t=>pf (· + 1) (Paired.len t)
theorem Paired.snoc_of {α β:Type}{R:α→β→Prop}:∀ {ys:List β} {zs:List α} {y:β},ju R zs (ys++[y])→∃ xs x,zs=xs++[x]∧ju R xs ys∧R x y
 | [],_,_,.cons r .nil=>⟨[],_,rfl,.nil,r⟩
 | _::_,_,_,.cons r t=>by
  obtain ⟨xs,x,rfl,a,b⟩:=Paired.snoc_of t;exact ⟨_::xs,x,rfl,.cons r a,b⟩
inductive spTabF (T0:ai)(p0:Pos)(q0:Str)(T1:ai)(p1:Pos)(q1:Str)(vs:List V)(H:Hp)(Q:VK)(_:XK):Prop
 | mk (v:V)(b m:Int)(sp:List Sn)(most:Nat)(_:vs=[v,.int (most:Nat)])(_:IsD H v (jL b m sp))(_:NetT b m sp)(_:most≤4096)(_:(∀ l,FrstL m.toNat sp l→jE sp l≤4096))(_:L2.LamT T0 p0 q0 H)(_:L2.LamT T1 p1 q1 H)(_:∀ (L:ai) (tv:List V) (l:List Nat) (rg:List (Nat×List Stp)) (Ts:List (List Int)) (H':Hp),(∀ a o,a≠T0→a≠T1→H a=some o→H' a=some o)→Kp H H'→L2.LamT T0 p0 q0 H'→L2.LamT T1 p1 q1 H'→H' L=some (.lst tv)→IsDs H' tv (eQ id Ts)→FR m sp l rg→(∀ t∈Ts,TabOk b m sp t)→Ts.length≤most→(Ts.length<most∨most=4096→∀ T,g9 b T sp=true→∃ t∈Ts,∀ k∈l,ig b t sp k=ig b T sp k)→Q (.ref L) H')
inductive Mrk where
 | leaf (d:Dt)
 | cut (k:Nat) (a:Int)
def mrkD:Mrk→Dt
 | .leaf d=>d
 | .cut k a=> .tup [.str "cut",.int (k:Nat),.int a]
def pre:Tq→List Mrk
 | .leaf d=>[.leaf d]
 | .cut k a x y=> .cut k a::(pre x++pre y)
def stpT:Option (List Tq)→Mrk→Option (List Tq)
 | some s,.leaf d=>some (.leaf d::s)
 | some (x::y::s),.cut k a=>some (.cut k a x y::s)
 | _,_=>none
theorem stp_none:∀ (l:List Mrk),l.foldl stpT none=none
 | []=>rfl
 | .leaf _::l=>stp_none l
 | .cut _ _::l=>stp_none l
theorem stp_pre:∀ (t:Tq) (s:List Tq),(pre t).reverse.foldl stpT (some s)=some (t::s)
 | .leaf d,s=>rfl
 | .cut k a x y,s=>by
  show (Mrk.cut k a::(pre x++pre y)).reverse.foldl stpT (some s)=_;rw [iW,List.reverse_append,dJ,dJ,stp_pre y,stp_pre x];rfl
theorem stp_at {l:List Mrk}{r:List Tq}(h:l.foldl stpT (some [])=some r){m:Mrk}{s:List Tq}(hm:l[i]? =some m)(hs:(l.take i).foldl stpT (some [])=some s):∃ s',stpT (some s) m=some s'∧(l.take (i+1)).foldl stpT (some [])=some s':=by
 have hi:=(ao.mp hm).1;have e:(l.take (i+1)).foldl stpT (some [])=stpT (some s) m:=by
  rw [bg,hm,dJ,hs];rfl
 cases q:stpT (some s) m with
 | some s'=>exact ⟨s',rfl,by rw [e,q]⟩
 | none =>
  exfalso;rw [←List.take_append_drop (i+1) l,dJ,e,q,stp_none] at h;cases h
def LeafW (d:Dt):Prop:=pl d=true∧∃ w x,d= .tup [.str w,x]∧w ≠ "cut"
theorem pl_cut {k:Nat}{a:Int}{x y:Tq}(hx:pl (jV x)=true)(hy:pl (jV y)=true):pl (jV (.cut k a x y))=true:=by
 show pl (.tup [.str "cut",.int (k:Nat),.int a,jV x,jV y])=true;simp [pl,pls,hx,hy]
theorem IsDs.snocD {H:Hp}:∀ {ds:List Dt} {zs:List V} {d:Dt},IsDs H zs (ds++[d])→∃ zs' z,zs=zs'++[z]∧IsDs H zs' ds∧IsD H z d
 | [],_,_,.cons h .nil=>⟨[],_,rfl,.nil,h⟩
 | _::_,_,_,.cons h t=>by
  obtain ⟨zs',z,rfl,a,b⟩:=IsDs.snocD t;exact ⟨_::zs',z,rfl,.cons h a,b⟩
def GoodT (R:List (Int×Int)→Dt→Prop):Tq→List (Int×Int)→Nat→Prop
 | .leaf d,bs,_=>R bs d
 | .cut _ _ _ _,_,0=>False
 | .cut k a x y,bs,n+1=>k<bs.length∧(bs.getD k (0,0)).1≤a∧a<(bs.getD k (0,0)).2∧GoodT R x (ko bs k a) n∧GoodT R y (eY bs k a) n
def GoodC (R:List (Int×Int)→Dt→Prop)(l:List Nat)(c:Cse)(t:Tq):Prop:=∀ n,2 ^ n * fc c.1 l≤3 ^ n→GoodT R t c.1 n
theorem l7 {f g:Nat→Nat}{k:Nat}:∀ (l:List Nat),l.Nodup→k∈l→(∀ j∈l,j≠k→f j=g j)→prdN (l.map g) * f k=prdN (l.map f) * g k
 | [],_,hk,_=>o6 hk (by simp)
 | j::l,nd,hk,hh=>by
  rw [bF] at nd;show g j * _ * f k=f j * _ * g k
  by_cases c:j=k
  ·subst c
   have ne:∀ i∈l,i≠j:=fun i hi z=>nd.1 (z ▸ hi)
   rw [←lH (f:=f) (g:=g) l fun i hi=>hh i (au _ hi) (ne i hi),jd (g j),jd (f j),gg,gg,jd (g j)]
  ·rw [hh j (by simp) c,gg,gg,l7 l nd.2 ((az.mp hk).resolve_left fun z=>c z.symm) fun i hi=>hh i (au _ hi)]
theorem scale_le {F G f g:Nat}(e:G * f=F * g)(h:3 * g≤2 * f)(hf:0<f):3 * G≤2 * F:=by
 have h1:3 * G * f≤2 * F * f:=by
  rw [gg,e,jd F g,←gg,gg 2 F f,jd F f,←gg];exact Nat.mul_le_mul_right F h
 exact Nat.le_of_mul_le_mul_right h1 hf
theorem prodC_mid {bs:List (Int×Int)}{k:Nat}{a:Int}(O:OB sp l bs)(nd:l.Nodup)(hl:∀ k∈l,k<sp.length)(hk:k∈l)(h:(bs.getD k (0,0)).1<(bs.getD k (0,0)).2)(ha:a=((bs.getD k (0,0)).1+(bs.getD k (0,0)).2) / 2) :
  3 * fc (ko bs k a) l≤2 * fc bs l∧3 * fc (eY bs k a) l≤2 * fc bs l:=by
 have hb:=O.len;have hkl:=hl k hk;have wk1:wdB (ko bs k a) k=(a - (bs.getD k (0,0)).1+1).toNat:=by unfold wdB ko;rw [hX (by omega),o4 rfl]
 have wk2:wdB (eY bs k a) k=((bs.getD k (0,0)).2 - (a+1)+1).toNat:=by unfold wdB eY;rw [hX (by omega),o4 rfl]
 have w0:wdB bs k=((bs.getD k (0,0)).2 - (bs.getD k (0,0)).1+1).toNat:=rfl
 constructor
 ·refine scale_le (l7 (f:=wdB bs) (g:=wdB (ko bs k a)) (k:=k) l nd hk fun j hj hn=>?_) (by rw [wk1,w0];omega) (by rw [w0];omega)
  have hjl:=hl j hj;unfold wdB ko;rw [hX (by omega),oZ (cw hn)]
 ·refine scale_le (l7 (f:=wdB bs) (g:=wdB (eY bs k a)) (k:=k) l nd hk fun j hj hn=>?_) (by rw [wk2,w0];omega) (by rw [w0];omega)
  have hjl:=hl j hj;unfold wdB eY;rw [hX (by omega),oZ (cw hn)]
section
variable {R:List (Int×Int)→Dt→Prop}{c c0:Cse}{k:Nat}{a:Int}{x y:Tq}{ms:List Mrk}{cr:List Cse}{d:Dt}{rs':List (Nat×List Stp)}
theorem GoodC.leaf (h:R c.1 d):GoodC R l c (.leaf d):=fun n _=>by
 cases n <;> exact h
theorem GoodC.cut (hk:k<c.1.length)(h1:(c.1.getD k (0,0)).1≤a)(h2:a<(c.1.getD k (0,0)).2)(p2:2≤fc c.1 l)(m1:3 * fc (ko c.1 k a) l≤2 * fc c.1 l)(m2:3 * fc (eY c.1 k a) l≤2 * fc c.1 l)
  (gx:GoodC R l (ko c.1 k a,rs) x) (gy:GoodC R l (eY c.1 k a,rs') y):GoodC R l c (.cut k a x y):=fun n hn=>by
 cases n with
 | zero=>simp at hn;omega
 | succ n =>
  have key:∀ p,3 * p≤2 * fc c.1 l→2 ^ n * p≤3 ^ n:=fun p hp=>by
   have h3:2 ^ n * (3 * p)≤2 ^ n * (2 * fc c.1 l):=Nat.mul_le_mul_left _ hp;rw [Nat.pow_succ,Nat.pow_succ,gg] at hn;rw [Nat.mul_left_comm] at h3;omega
  exact ⟨hk,h1,h2,gx n (key _ m1),gy n (key _ m2)⟩
def Wn (R:List (Int×Int)→Dt→Prop)(l:List Nat)(c0:Cse)(ms:List Mrk)(cr:List Cse):Prop:=∀ F:List Tq,ju (GoodC R l) cr F→∃ t,ms++F.flatMap pre=pre t∧GoodC R l c0 t
theorem Wn.start:Wn R l c0 [] [c0]:=fun F h=>by
 cases h with
 | cons g r=>cases r;exact ⟨_,by simp,g⟩
theorem Wn.leaf (h:Wn R l c0 ms (c::cr))(r:R c.1 d):Wn R l c0 (ms++[.leaf d]) cr:=fun F hF=>by
 obtain ⟨t,e,g⟩:=h (.leaf d::F) (.cons (GoodC.leaf r) hF);exact ⟨t,by rw [←e];simp [pre],g⟩
theorem Wn.cut (h:Wn R l c0 ms (c::cr))(hk:k<c.1.length)(h1:(c.1.getD k (0,0)).1≤a)(h2:a<(c.1.getD k (0,0)).2)(p2:2≤fc c.1 l)(m1:3 * fc (ko c.1 k a) l≤2 * fc c.1 l)(m2:3 * fc (eY c.1 k a) l≤2 * fc c.1 l):Wn R l c0 (ms++[.cut k a]) ((ko c.1 k a,rs)::(eY c.1 k a,rs')::cr):=fun F hF=>by
 cases hF with
 | cons gx r =>
  cases r with
  | cons gy r =>
   rename_i x y F;obtain ⟨t,e,g⟩:=h (.cut k a x y::F) (.cons (GoodC.cut hk h1 h2 p2 m1 m2 gx gy) r);exact ⟨t,by rw [←e];simp [pre],g⟩
theorem Wn.fin (h:Wn R l c0 ms []):∃ t,ms=pre t∧GoodC R l c0 t:=by
 obtain ⟨t,e,g⟩:=h [] .nil;exact ⟨t,by rw [←e];simp,g⟩
end
inductive spTreeF (vs:List V)(H:Hp)(Q:VK)(_:XK):Prop
 | mk (L:ai)(ys:List V)(ms:List Mrk)(t:Tq)(_:vs=[.ref L])(_:H L=some (.lst ys))(_:IsDs H ys (ms.map mrkD))(_:ms=pre t)(_:(∀ d,Mrk.leaf d∈ms→LeafW d))(_:ms.length≤10000)(_:∀ u H',Same H H'→IsD H' u (jV t)→Q u H')
end HN
namespace L2
open PySem PySem.W PySem.Spec PyProof.Rows
theorem law_callTs {mb:Str→Option ae}{CX:CXT}{k:Nat}{fa:ai}{Ts:List ai}{sp:Sp}{s₁:aq}
  (KX:K.In s₁.heap) (hns:s₁.heap.Ns bO mg) (hb:s₁.heap.Ns builtinsNs mb) (hbb:∀ x:Str,x ≠ "__name__" →mb x=bootBuiltins x) (hlim:s₁.heap.NoLimit) (hg:s₁.gens= #[])
  (hbm:BM mg s₁.heap) (hT:∀ T∈Ts,s₁.heap.get? T=some (tabObj #[])) (C:∀ T∈Ts,∃ c,codeHdIn K c T=true) (nt:noTabs K=true)
  (ha:s₁.heap.get? a=some { cls:= .type "list",data:= .seq vs.toArray }) (hi:IntsAre vs ns) (hl:ns.length≤bj) (hr:Room k callerA)
  (F:∀ base:bL,K.In base→base.Ns bO mg→BM mg base→cS P w K mg base CX k fa fd [x] sp) (hbind:∀ (s:aq) (u:ae),BindsTo s fd ⟨[u],[]⟩ [(x,u)])
  (hsp:∀ H:Hp,(∀ T∈Ts,H T=some (.tbl #[]))→SqL K H a (ns.map V.int)→sp [.ref a] H (fun v _=>v= .bl true) fun _ _ _=>False)
  (hCX:∀ H e s',CX [] H s₁ (fun _ _ _=>False) e s'→False) :
  iT (br P w) callerA (.call (.ref fa) ⟨[.ref a],[]⟩) (fun r s'=>r= .ok (.ret (.bool true))∧OldK s₁.heap s'.heap∧s'.os=s₁.os∧AllBare s'.gens) s₁:=by
 have rv:=mU hi;have lenV:=hi.length;have hTK:∀ T∈Ts,K.lookup T=none:=fun T mT=>by
  cases q:K.lookup T with
  | none=>rfl
  | some o =>
   have e:=KX T o q;rw [hT T mT] at e;cases e;have z:=List.all_eq_true.mp nt (T,tabObj #[]) (mem_of_lookupK q);cases z
 have aT:a ∉ Ts:=fun z=>by rw [hT a z] at ha;cases ha
 have isT:∀ T∈Ts,isCodeTable s₁.heap T:=fun T mT=>by obtain ⟨c,C⟩:=C T mT;exact ((codeHd_of_K KX C).tab (hT T mT)).isCodeTable
 have core:∀ H:Hp,SqL K H a (ns.map V.int)→HOk P w H s₁.heap→(∀ T∈Ts,H T=some (.tbl #[]))→(∀ b,H b≠none→b ∉ Ts→b=a∧∃ o xs,H b=some (.frz o (.lst xs)))→(H a≠none→K.lookup a=none) →
   iT (br P w) callerA (.call (.ref fa) ⟨[.ref a],[]⟩) (fun r s'=>r= .ok (.ret (.bool true))∧OldK s₁.heap s'.heap∧s'.os=s₁.os∧AllBare s'.gens) s₁:=by
  intro H hS hok hHT hA hK;have base_of:∀ {b:ai} {o:Obj},s₁.heap.get? b=some o→H b=none→(hidT s₁.heap H).get? b=some o:=fun e n=>hidT_get e n
  have no2:∀ {b:ai} {o:Obj},s₁.heap.get? b=some o→o≠tabObj #[]→o≠{ cls:= .type "list",data:= .seq vs.toArray }→H b=none:=fun {b o} e d1 d2=>by
   cases q:H b with
   | none=>rfl
   | some u =>
    by_cases hbT:b∈Ts
    ·rw [hT b hbT] at e;cases e;exact o6 rfl d1
    ·have e':b=a:=(hA b (by rw [q];simp) hbT).1
     subst e';rw [ha] at e;cases e;exact o6 rfl d2
  have nsK:∀ {b:ai} {m:Str→Option ae},s₁.heap.Ns b m→(hidT s₁.heap H).Ns b m:=fun {b m} ⟨o,es,ep,e,d,r⟩=>⟨o,es,ep,base_of e (no2 e (fun z=>by subst z;cases d) (fun z=>by subst z;cases d)),d,r⟩
  have hKb:K.In (hidT s₁.heap H):=fun b o e=>base_of (KX b o e) (by
   cases q:H b with
   | none=>rfl
   | some u =>
    by_cases hbT:b∈Ts
    ·rw [hTK b hbT] at e;cases e
    ·have e':b=a:=(hA b (by rw [q];simp) hbT).1
     subst e';rw [hK (by rw [q];simp)] at e;cases e)
  have hM:Mod K mg (hidT s₁.heap H):=⟨hKb,nsK hns,⟨mb,nsK hb,hbb⟩,let ⟨mc,h1,h2⟩:=hlim;⟨mc,nsK h1,h2⟩⟩;have hBM:BM mg (hidT s₁.heap H):=by
   obtain ⟨bm,ob,b1,b2,b3,b4,b5,b6,b7⟩:=hbm;exact ⟨bm,ob,b1,b2,b3,base_of b4 (no2 b4 (fun z=>by subst z;cases b5) (fun z=>by subst z;cases b7)),b5,b6,b7⟩
  have e0:Env0 P w K mg (hidT s₁.heap H) callerA [] s₁ H:=⟨rfl,hM,fun b o e=>of_hidT e,Nat.le_of_eq (hidT_size _ _),trivial,fun b hb=>o6 (show b∈([]:List ai) from hb) (by simp),hok,.of_eq hg⟩;refine codeAny_mono ((F _ hKb (nsK hns) hBM).run callerA [] s₁ H ⟨[.ref a],[]⟩ [.ref a] [.ref a] _ _ hr e0 (hbind s₁ (.ref a)) (.cons rfl .nil) (hsp H hHT hS)) fun r s' h=>?_
  cases r with
  | error e=>exact (hCX H e s' h).elim
  | ok fl =>
   cases fl with
   | next=>exact cN h
   | brk=>exact cN h
   | cont=>exact cN h
   | ret u =>
    obtain ⟨v,H',os,bare,un,hok',r',q⟩:=h;have q':v= .bl true:=q;subst q';obtain rfl:u=ae.bool true:=r';have tT:∀ T∈Ts,∃ more,s'.heap.get? T=some (tabObj (#[]++more)):=fun T mT=>by
     obtain ⟨more,eT⟩:=un.tbls T _ (hHT T mT);exact ⟨more,hok' T _ eT⟩
    have stay:∀ b o,s₁.heap.get? b=some o→b ∉ Ts→s'.heap.get? b=some o:=fun b o e hbT=>by
     cases q:H b with
     | none=>exact un.keep b o e q (by intro z;exact o6 (show b∈([]:List ai) from z) (by simp)) (by simp)
     | some u =>
      obtain ⟨_,ob,xs,z⟩:=hA b (by rw [q];simp) hbT;have z2:=un.frzs b ob _ z;obtain ⟨e1,_⟩:=hok b _ z;obtain ⟨e2,_⟩:=hok' b _ z2;rw [e] at e1;cases e1;exact e2
    refine ⟨rfl,⟨fun b o e=>?_,fun b o e=>?_⟩,os,bare⟩
    ·by_cases hbT:b∈Ts
     ·rw [hT b hbT] at e;cases e
      obtain ⟨more,tb⟩:=tT b hbT;exact .inr (.inl ⟨isT b hbT,rfl,#[],more,rfl,tb⟩)
     ·exact .inl (stay b o e hbT)
    ·by_cases hbT:b∈Ts
     ·obtain ⟨more,tb⟩:=tT b hbT;exact ⟨_,tb⟩
     ·exact ⟨o,stay b o e hbT⟩
 cases hk:K.lookup a with
 | some o =>
  have e:=KX a o hk;rw [ha] at e;cases e;refine core (fun b=>if b∈Ts then some (.tbl #[]) else none) (.inr ⟨_,vs.toArray,_,hk,rfl,rfl,rfl,by rw [aG,lenV];exact hl,by simpa using rv⟩) (fun b u z=>?_) (fun T mT=>o4 mT) (fun b z hb=>o6 (oZ hb) z) fun z=>o6 (oZ aT) z
  by_cases hb:b∈Ts
  ·have z':=(o4 hb).symm.trans z
   cases z';exact hT b hb
  ·have z':=(oZ hb).symm.trans z
   cases z'
 | none =>
  refine core (fun b=>if b∈Ts then some (.tbl #[]) else if b=a then some (.frz { cls:= .type "list",data:= .seq vs.toArray } (.lst (ns.map V.int))) else none) (.inl (.inr ⟨{ cls:= .type "list",data:= .seq vs.toArray },(oZ aT).trans (o4 rfl)⟩)) (fun b u z=>?_) (fun T mT=>o4 mT) (fun b z hb=>?_) fun _=>hk
  ·by_cases hb:b∈Ts
   ·have z':=(o4 hb).symm.trans z
    cases z';exact hT b hb
   ·have z:=(oZ hb).symm.trans z
    by_cases hb:b=a
    ·have z':=(o4 hb).symm.trans z
     cases z';subst hb;exact ⟨ha,by rw [aa];exact hl,vs,_,rv,ha⟩
    ·have z':=(oZ hb).symm.trans z
     cases z'
  ·by_cases hba:b=a
   ·exact ⟨hba,_,_,(oZ hb).trans (o4 hba)⟩
   ·exact o6 ((oZ hb).trans (oZ hba)) z
theorem walk_ofTs {l:PySem.W.OpenLaw}{k:Nat}{q:aW}{loose:List Str}{YP:bx→bL→Prop}{d:DefRec}{K:Params→ak}{CX:bx→CXT}{sp:bx→Sp}{Ts:List ai}
  (hn:l.most=some n) (hn2:n≤bj) (hdf:d.params.defaults=[]) (hr:Room k callerA)
  (hY:∀ (w:bx) (h:bL),YP w h→(K w.params).In h∧∀ T∈Ts,h.get? T=some (tabObj #[])) (C:∀ w:bx,∀ T∈Ts,∃ c,codeHdIn (K w.params) c T=true) (nt:∀ w:bx,noTabs (K w.params)=true)
  (F:∀ (w:bx) (mg:Str→Option ae) (fa:ai) (h:bL),(K w.params).In h→h.Ns bO mg→mg d.name=some (.ref fa) →
   ∃ fd:bq,(∀ (s:aq) (u:ae),BindsTo s fd ⟨[u],[]⟩ [(x,u)]) ∧
    ∀ base:bL,(K w.params).In base→base.Ns bO mg→BM mg base→cS l.prog w (K w.params) mg base (CX w) k fa fd [x] (sp w))
  (hsp:∀ (w:bx) (H:Hp) (a:ai) (ns:List Int),ns.length≤n→(∀ T∈Ts,H T=some (.tbl #[]))→SqL (K w.params) H a (ns.map V.int)→sp w [.ref a] H (fun v _=>v= .bl true) fun _ _ _=>False)
  (hCX:∀ (w:bx) (H:Hp) (s:aq) (e:ae) (s':aq),CX w [] H s (fun _ _ _=>False) e s'→False) :
  PySem.W.WalkO q loose XP YP l.row.toRowW d [] (fun f vs=>PySem.call f vs):=by
 refine Att.attach_call hn hdf fun w s₀ s₁ mg mb fa o pm cd doc a vs ns G Y ho hd hcd hmg hobj hints hlen hg=>?_
 obtain ⟨KX,hT⟩:=hY w _ Y;obtain ⟨fd,hb,hF⟩:=F w mg fa _ KX G.T.g hmg;have hbm:BM mg s₁.heap:=by
  obtain ⟨bm,ob,b1,b2,b3,b4,b5,b6⟩:=G.T.bmain;refine ⟨bm,ob,b1,b2,fun q=>?_,b3,b4,b5,b6⟩;obtain ⟨o,es,ep,e,hd,_⟩:=G.T.g;rw [q,e] at b3;cases b3;rw [hd] at b6;cases b6
 exact law_callTs KX G.T.g G.T.b G.T.builtins G.T.nolimit hg hbm hT (C w) (nt w) hobj hints (aY hlen hn2) hr hF hb (fun H hO hS=>hsp w H a ns hlen hO hS) fun H e s'=>hCX w H s₁ e s'
theorem sorted_keyT {r q:ai}{ws:List ae}(hl0:IsTup s.heap r ws.toArray)(h64:ws.length<64)
  (h:∀ (g h1:bL) (D kS:ai) (e1:Nat),(∀ b o,s.heap.get? b=some o→g.get? b=some o)→(∀ b o,g.get? b=some o→h1.get? b=some o)→g.objs.size≤D→D<kS→h1.get? D=some (bJ "list" #[] e1)→h1.get? kS=some (bJ "list" #[] 0) →
   KeyDo prog w A.in1.in1 (.ref q) ws kS D e1 (fun t'=>Q (.ref D) t') { s with heap:=h1 }) :
  aX (br prog w) A (call (.builtin "sorted") [.ref r] [(cT "key",.ref q)]) Q E s:=by
 obtain ⟨ob,ho,hc,n,hd⟩:=hl0;refine call_function_entry_kw kind_sorted plain_sorted entry_sorted (ksk_s1 _ _) ?_;unfold eN.«sorted»;refine ah (m:=checkCount "sorted" 1 1 _) (aO ?_);refine ah (wpAny_collect_seq r (.inr rfl) ho hc hd (fun h' hk=>?_) (by rw [aG,fS];omega));rw [show ws.toArray.toList=ws by simp];refine ah (wpAny_newList ?_ (by rw [fS];omega));have hoL:(h'.push (bJ "list" ws.toArray 0)).get? h'.objs.size=some (bJ "list" ws.toArray 0):=aZ _ rfl;show aX _ _ _ _ _ { s with heap:=h'.push (bJ "list" ws.toArray 0) };refine ah (d7 (wpAny_call_entry_kw slot_list_sort ⟨_,hoL,rfl⟩ entry_list_sort ?body (ksk_l1 _ _)))
 case body =>
  show aX (br prog w) A.in1.in1 (eN.«list.sort» ⟨[.ref h'.objs.size],[(cT "key",.ref q)]⟩) _ _ _;rw [ksk_t1];refine key_tree (s:={ s with heap:=h'.push (bJ "list" ws.toArray 0) }) hoL (by omega) fun e1 g1 g2=>?_
  have K:=h h' (jK (h'.push (bJ "list" ws.toArray 0)) h'.objs.size ws) h'.objs.size ((h'.push (bJ "list" ws.toArray 0)).objs.size+1) e1 hk ?_ (aB _) (by rw [size_push'];exact gU (jv _)) g1 g2
  ·obtain ⟨J,j0,jc,je⟩:=K
   refine ⟨J,j0,jc,fun ks t' x1 x2=>?_⟩;obtain ⟨y1,κ,lt,y2,y3,y4,y5⟩:=je ks t' x1 x2;exact ⟨y1,κ,lt,y2,y3,y4,fun p p1 p2=>⟨_,rfl,aO ⟨_,rfl,y5 p p1 p2⟩⟩⟩
  ·exact fun b o e=>mid_keep (bI (aL e)) (ar _ e)
theorem its_at:∀ {ns:List Int} {its:List ae} {i:Nat} {x:ae},Vals (ns.map V.int) its→its[i]? =some x→∃ t,x= .int (ns.getD i 0) t
 | [],_,_,_,.nil,e=>by simp at e
 | n::ns,_,0,_,.cons r _,e=>by
  cases e;exact r
 | n::ns,_,i+1,_,.cons _ rs,e=>its_at (ns:=ns) (i:=i) rs e
def SortTQ (P:ai)(lp:Pos)(lq:Str)(js:List Nat)(te:TE)(σ:St)(Q:VK)(v:V)(H1:Hp):Prop:=∃ (r:ai) (ns:List Int) (key:Nat→Int×Int),v= .ref r∧H1 r=some (.tup (ns.map V.int))∧ns.length<64∧LamT P lp lq H1∧((aR ns.length).map key).Nodup ∧
 (∀ i:Nat,i<ns.length→∀ H2,Tb P H1 H2→te (some (.int (ns.getD i 0))::cV σ js) H2 fun u H3=>Same H2 H3∧∃ a,u= .ref a∧H3 a=some (.tup [.int (key i).1,.int (key i).2])) ∧
 ∀ (D:ai) (H4:Hp) (π:List Nat),Tb P H1 H4→LamT P lp lq H4→H4 D=none→π.Perm (aR ns.length)→π.Pairwise (fun i j=>ltP (key i) (key j)=true)→Q (.ref D) (upd H4 D (.lst (π.map fun (i:Nat)=>V.int (ns.getD i 0))))
def tSortT (P:ai)(lp:Pos)(lq:Str)(tr:TE)(js:List Nat)(te:TE):TE:=fun σ H Q=>tr σ H fun v H1=>SortTQ P lp lq js te σ Q v H1
def SortT1 (P:ai)(lp:Pos)(lq:Str)(js:List Nat)(te:TE)(σ:St)(Q:VK):List V→Hp→Prop
 | [v],H1=>SortTQ P lp lq js te σ Q v H1
 | _,_=>False
theorem pe_sortT {re:Expr}{tr:TE}{p kp:Pos}{c P:ai}(hc:X.calm=true)(hrm:X.A.depth<jr)(hg:Gl X "sorted")(hm:X.mg "sorted" =none)(hi:PE X re tr)
  (hd:defaultsOf params X.env=([],[])) (k3:X.env.code= .ref c) (C:codeHdIn X.K c P=true) (B:BM X.mg X.base)
  (hbind:∀ q cl pm cdv ct (u:ae),bindArgs (kla_fn "<lambda>" q params body scope cl pm cdv ct) ⟨[u],[]⟩=fH [(x,u)])
  (hk:scope.kind= .function) (hco:scope.isCoroutine=false) (hgen:scope.isGenerator=false) (ij:∀ y∈scope.names,y.2≠ .cell) (hx:scope.names.lookup x=some .local) (hfx:x ∉ fr)
  (hfr:∀ y∈scope.names,y.2= .free→X.env.scope.names.lookup y.1=some .cell) (hjs:js.map (fun j=>X.N[j]?)=fr.map some) (hfv:∀ y∈fr,scope.names.lookup y=some .free)
  (hb:∀ cl L f cd s' H',PE (cxLam X (X.env.qual ++ "<lambda>") scope cl L f cd (x::fr) s' H') body te)
  (he:gw pos (bE [re] X.env)=(false,eu re X.env)::gw pos (bE [] X.env):=by rfl)
  (hs:bE [re] X.env=(false,eu re X.env)::bE [] X.env:=by rfl) (hpl:(gw pos (bE [re] X.env)).any (·.1)=false:=by rfl) :
  PE X (.Call (.Name "sorted" p) [re] [⟨some "key",.Lambda params body scope lp,kp⟩] pos) (tSortT P lp (X.env.qual ++ "<lambda>") tr js te):=by
 intro aN s σ H Q I h;refine eC (kq I hg hm (u:= .builtin "sorted") (by trivial) ?_);refine callWith_kw (kws:=[⟨some "key",.Lambda params body scope lp,kp⟩]) (thn ((af hi aC hs) pos aN s σ H (SortT1 P lp (X.env.qual ++ "<lambda>") js te σ Q) I h) fun us s1 ⟨vs,H1,I1,r1,q0⟩=>?_) he hpl;refine kws_cons ?_;obtain ⟨v,rfl⟩:∃ v,vs=[v]:=by
  cases vs with
  | nil=>exact q0.elim
  | cons v r=>cases r with
   | nil=>exact ⟨v,rfl⟩
   | cons _ _=>exact q0.elim
 have q1:SortTQ P lp (X.env.qual ++ "<lambda>") js te σ Q v H1:=q0;obtain ⟨r,ns,key,rfl,hr,h64,T,hnd,hkey,hQ⟩:=q1;obtain rfl:us=[.ref r]:=by
  cases r1 with
  | cons ru rs =>
   cases rs;exact pf (fun z=>[z]) ru
 refine lam_make (body:=body) I1 hd k3 C B hfr T fun f cl H2 s2 I2 tb T2 F2 c1 c2=>?_
 refine kws_nil ?_;show aX _ _ (call (.builtin "sorted") [.ref r] [(cT "key",.ref f)]) _ _ _;have rP:r≠P:=fun z=>by
  rcases T with T | ⟨_,T,_⟩ <;> rw [←z,hr] at T <;> cases T
 obtain ⟨its,rv,ht,_⟩:=I2.tuple (SqT.of (K:=X.K) (tb r _ rP hr));have lits:its.length=ns.length:=by rw [←rv.length,aa]
 refine sorted_keyT ht (by omega) fun g h1 D kS e1 hg hkeep hD hDk gD gK=>?_
 have I2:Inv X aN σ H2 { s2 with heap:=g }:=I2.kept (t':=s2.toks) hg;have I3:Inv X aN σ H2 { s2 with heap:=h1 }:=I2.kept (t':=s2.toks) hkeep;have old:∀ b o,g.get? b=some o→b≠D∧b≠kS:=fun b o e=>⟨bI (aQ (aL e) hD),bI (jf (aQ (aL e) hD) hDk)⟩
 have hDs:=aL gD;have hKs:=aL gK;have frD:H2 D=none:=I2.hok.fresh hD;have frK:H2 kS=none:=I2.hok.fresh (il (bR hD hDk));have cc:∀ y d,X.env.cells.lookup y=some d→d≠D∧d≠kS:=fun y d e=>by obtain ⟨v,o,ho,_⟩:=I2.cell y d e;exact old d o ho
 have pp:∀ z∈X.pn++aN,z.1≠D∧z.1≠kS:=fun z hz=>old _ _ (I2.pin z hz).1
 have nl:g.objs.size≤kS:=il (bR hD hDk);have I4:Inv X ((kS,bJ "list" #[] 0)::(D,bJ "list" #[] e1)::aN) σ H2 { s2 with heap:=h1 }:=I3.pins_of fun z hz=>by
  rcases az.mp hz with rfl | hz
  ·exact ⟨gK,frK,cR (aQ I2.lt nl),I2.nofs nl,fun v z=>by cases z⟩
  ·rcases az.mp hz with rfl | hz
   ·exact ⟨gD,frD,cR (aQ I2.lt hD),I2.nofs hD,fun v z=>by cases z⟩
   ·exact I3.pin z (aw _ hz)
 refine keyDo_of (num:=fun i=>ns.getD i 0) (key:=key) I4 lits h64 (fun i x e=>its_at rv e) (aY I2.sz nl) (aY I2.sz hD) (fun y d e=>(cc y d e).2) (fun y d e=>(cc y d e).1) (fun z hz=>(pp z hz).2) (fun z hz=>(pp z hz).1) (cR hDk) hnd ?_ ?_
 ·intro t H' pins' i tk hi' I' S'
  refine b9 (lam_call (v:= .int (ns.getD i 0)) I' hc hrm (F2.same S') ⟨_,rfl⟩ (fun pm cdv ct=>hbind _ _ _ _ _ _) hk hco hgen ij hx hfx c1 c2 hfr hjs hfv (fun L cd s' H'=>hb cl L f cd s' H') (hkey i hi' H' (tb.trans S'.tb))) (fun k t' ⟨v,H'',I'',rv,S'',a,ev,ea⟩=>?_) fun _ _ z=>z
  subst ev;obtain rfl:k= .ref a:=rv;exact ⟨a,H'',I'',S'',rfl,ea⟩
 ·intro t H' π S' hD' I' pm pw
  exact ⟨.ref D,_,I',rfl,hQ D H' π (tb.trans S'.tb) (T2.same S') hD' pm pw⟩
def ptF (H:Hp)(fz:ai→Option Obj):Hp:=fun b=>match fz b with | some o=>some (.frz o (.own 0)) | none=>H b
def ctF (H:Hp)(fz:ai→Option Obj):Hp:=fun b=>match fz b with | some _=>none | none=>H b
def Fz (fz:ai→Option Obj)(H:Hp):Prop:=∀ b o,fz b=some o→H b=some (.frz o (.own 0))
section
variable {b:ai}{o:Obj}{fs:List ai}
theorem nP (e:fz b=some o):ptF H fz b=some (.frz o (.own 0)):=by unfold ptF;rw [e]
theorem gL (e:fz b=none):ptF H fz b=H b:=by unfold ptF;rw [e]
theorem oT (e:fz b=some o):ctF H fz b=none:=by unfold ctF;rw [e]
theorem gM (e:fz b=none):ctF H fz b=H b:=by unfold ctF;rw [e]
theorem Fz.out (F:Fz fz H){u:HO}(e:H b=some u)(n:∀ o,u≠ .frz o (.own 0)):fz b=none:=by
 cases q:fz b with
 | none=>rfl
 | some o=>rw [F b o q] at e;cases e;exact o6 rfl (n o)
theorem Fz.cut (F:Fz fz H){u:HO}(e:H b=some u)(n:∀ o,u≠ .frz o (.own 0)):ctF H fz b=some u:=by rw [gM (F.out e n)];exact e
theorem HOk.cut (hok:HOk P w H h)(F:Fz fz H):HOk P w (ctF H fz) h:=fun a o e=>by
 cases q:fz a with
 | some o'=>rw [oT q] at e;cases e
 | none =>
  rw [gM q] at e;exact (hok a o e).stay (fun _ _ _ e=>e) (fun b e'=>F.cut e' (fun _ z=>by cases z)) fun b xs e'=>F.cut e' (fun _ z=>by cases z)
theorem HOk.ptF (hok:HOk P w H h)(N:∀ b o,fz b=some o→H b=none)(G:∀ b o,fz b=some o→h.get? b=some o):HOk P w (ptF H fz) h:=fun a o e=>by
 cases q:fz a with
 | some o' =>
  rw [nP q] at e;cases e;exact ⟨G a o' q,_,G a o' q⟩
 | none =>
  rw [gL q] at e;have out:∀ b u,H b=some u→fz b=none:=fun b u e'=>by
   cases q':fz b with
   | none=>rfl
   | some o'=>rw [N b o' q'] at e';cases e'
  exact (hok a o e).stay (fun _ _ _ e=>e) (fun b e'=>by rw [gL (out b _ e')];exact e') fun b xs e'=>by rw [gL (out b _ e')];exact e'
theorem Un.thaw (u:Un fs [] (ptF H fz) H' h h')(N:∀ b o,fz b=some o→H b=none)(hok:HOk P w H' h')(G:∀ b o,fz b=some o→h.get? b=some o):Un fs [] H (ctF H' fz) h h':=by
 have F:Fz fz H':=fun b o e=>u.frzs b o _ (nP e)
 have out:∀ b u,H b=some u→fz b=none:=fun b u e'=>by
  cases q':fz b with
  | none=>rfl
  | some o'=>rw [N b o' q'] at e';cases e'
 have same:∀ b o ob,fz b=some o→h.get? b=some ob→h'.get? b=some ob:=fun b o ob q e=>by
  have e1:=G b o q;rw [e] at e1;cases e1;exact (hok b _ (F b _ q)).1
 refine ⟨fun b o e n hf hx=>?_,fun b o e n hf hx=>?_,fun b o e n hx=>?_,u.there,fun b xs e=>?_,fun b o x e=>?_,fun b ps e=>?_⟩
 ·cases q:fz b with
  | some o'=>exact same b o' o q e
  | none=>exact u.keep b o e (by rw [gL q];exact n) hf hx
 ·cases q:fz b with
  | some o'=>exact ⟨o.slots,same b o' o q e⟩
  | none=>exact u.slot b o e (by rw [gL q];exact n) hf hx
 ·cases q:fz b with
  | some o'=>exact oT q
  | none=>rw [gM q];exact u.free b o e (by rw [gL q];exact n) hx
 ·have q:=out b _ e
  rw [gM q];exact u.tups b xs (by rw [gL q];exact e)
 ·have q:=out b _ e
  rw [gM q];exact u.frzs b o x (by rw [gL q];exact e)
 ·have q:=out b _ e
  rw [gM q];exact u.tbls b ps (by rw [gL q];exact e)
theorem Un.froze (u:Un fs [] (ctF H fz) H' h h')(F:Fz fz H):Un fs [] H (ptF H' fz) h h':=by
 have out:∀ b,H b=none→fz b=none:=fun b n=>by
  cases q:fz b with
  | none=>rfl
  | some o=>rw [F b o q] at n;cases n
 refine ⟨fun b o e n hf hx=>u.keep b o e (by rw [gM (out b n)];exact n) hf hx,fun b o e n hf hx=>u.slot b o e (by rw [gM (out b n)];exact n) hf hx,fun b o e n hx=>?_,u.there,fun b xs e=>?_,fun b o x e=>?_,fun b ps e=>?_⟩
 ·rw [gL (out b n)];exact u.free b o e (by rw [gM (out b n)];exact n) hx
 ·have q:=F.out e (fun _ z=>by cases z)
  rw [gL q];exact u.tups b xs (by rw [gM q];exact e)
 ·cases q:fz b with
  | some o'=>rw [F b o' q] at e;cases e;exact nP q
  | none=>rw [gL q];exact u.frzs b o x (by rw [gM q];exact e)
 ·have q:=F.out e (fun _ z=>by cases z)
  rw [gL q];exact u.tbls b ps (by rw [gM q];exact e)
end
structure Clo (cl:List (Str×ai))(fz:ai→Option Obj)(fr:List Str)(ws:List V):Prop where
 all:∀ x c,cl.lookup x=some c→∃ o,fz c=some o
 cell:∀ c o,fz c=some o→∃ v,o.data= .cell v
 inj:∀ a b c,cl.lookup a=some c→cl.lookup b=some c→a=b
 val:∀ (i:Nat) y v,fr[i]? =some y→ws[i]? =some v→∃ c o u,cl.lookup y=some c∧fz c=some o∧o.data= .cell (some u)∧RelV v u
 len:ws.length=fr.length
structure LmOk (P:aW)(w:bx)(K:ak)(mg:Str→Option ae)(base:bL)(k:Nat)(f:ai)(Hf:Hp→Prop)(sp:Sp):Prop where
 isFn:∀ H h,Hf H→HOk P w H h→FnAt f h
 run:∀ (A:bS) (outer:List Env) (s:aq) (H:Hp) (u:ae) (v:V) (Q:VK),Room k A→Env0 P w K mg base A outer s H→Hf H→RelV v u→sp [v] H Q E0→iT (br P w) A (.call (.ref f) ⟨[u],[]⟩) (CR CX0 outer P w H s Q E0) s
def cxLm (P:aW)(w:bx)(K:ak)(mg:Str→Option ae)(base:bL)(q:Str)(scope:eZ)(cl:List (Str×ai))(L f:ai)(cd:ae)(N:List Str)(A:bS)(outer:List Env)(s:aq)(H:Hp):Cx :=
 { prog:=P,w:=w,K:=K,mg:=mg,base:=base,A:=A.deeper (envX q scope L f cd cl),N:=N,s₀:=s,H₀:=H,env:=envX q scope L f cd cl,outer:=outer,stack:=envX q scope L f cd cl::outer,ex:=[],calm:=true,fn:=fun _=>false,pn:=[],xe:=fun _ _=>False }
theorem lam_run {k:Nat}{ws:List V}{sp:Sp}
  (hbind:∀ u pm cdv ct,bindArgs (kla_fn "<lambda>" q params body scope cl pm cdv ct) ⟨[u],[]⟩=fH [(x,u)])
  (hk:scope.kind= .function) (hco:scope.isCoroutine=false) (hgen:scope.isGenerator=false) (ij:∀ y∈scope.names,y.2≠ .cell) (hx:scope.names.lookup x=some .local) (hfx:x ∉ fr)
  (C:Clo cl fz fr ws) (hcl:∀ y∈scope.names,y.2= .free→∃ c,cl.lookup y.1=some c) (hfv:∀ y∈fr,scope.names.lookup y=some .free)
  (hb:∀ L cd A outer s' H',Room k (A.deeper (envX q scope L f cd cl))→PE (cxLm P w K mg base q scope cl L f cd (x::fr) A outer s' H') body te)
  (ht:∀ v H Q,LamF q params body scope cl f H→Fz fz H→sp [v] H Q E0→te (some v::ws.map some) (ctF H fz) (fun y H'=>(∀ b o,fz b=some o→H' b=none)→Q y (ptF H' fz))) :
  LmOk P w K mg base (k+1) f (fun H=>LamF q params body scope cl f H∧Fz fz H) sp:=by
 refine ⟨fun H h ⟨⟨pm,cd,ct,e,_⟩,_⟩ hok=>⟨_,_,_,_,(hok f _ e).1⟩,fun A outer s H u v Q hr e0 ⟨F,Z⟩ ru hsp=>?_⟩;have ht:=ht v H Q F Z hsp;obtain ⟨pm,cd,ct,e,oc,vs,t,ec,hdc,hvc⟩:=F;have ho:s.heap.get? f=some (kla_obj "<lambda>" q params body scope cl pm cd ct):=(e0.hok f _ e).1;have hoc:s.heap.get? cd=some oc:=(e0.hok cd _ ec).1;refine kla_callFunE (by have:=hr.dp;omega) ho rfl hco hgen rfl ⟨cd,oc,vs,t,rfl,hoc,hdc,hvc⟩ ?_;rw [hbind];refine aO (wpAny_newFunctionEnv ij (fun y hy=>?_) (fun h₁ hns hsb=>⟨?nl,?_⟩) hk)
 ·rw [ax.mp hy];exact hx
 case nl=>exact (e0.mod.nolimit.keeps (fun b o e=>(e0.bs b o e).1)).fresh _ hsb
 show iT _ _ (.expr body (envX q scope s.heap.objs.size f (.ref cd) cl)) _ _;have old:∀ b o,s.heap.get? b=some o→h₁.get? b=some o:=fun b o e=>hsb.extBut b o (bI (aL e)) (ar _ e)
 refine kla_codeExpr ?_;have hokc:=HOk.cut e0.hok Z;have cutN:∀ b,H b=none→ctF H fz b=none:=fun b n=>by
  cases z:fz b with
  | some o=>exact oT z
  | none=>rw [gM z];exact n
 have ok':(cxLm P w K mg base q scope cl s.heap.objs.size f (.ref cd) (x::fr) A outer s (ctF H fz)).Ok:=by
  refine ⟨e0.mod,hk,rfl,rfl,aB _,C.inj,fun y hy=>?_,fun _ _ z=>o6 z (by intro q;cases q),fun _=>hr.hd,bS.frames_deeper e0.frames,.inr ⟨rfl,rfl⟩,fun b hb=>o6 (show b∈([]:List ai) from hb) (by simp),fun b o e=>⟨(e0.bs b o e).1,cutN b (e0.bs b o e).2⟩,e0.bsz,fun b o e hb=>o6 (show b∈([]:List ai) from hb) (by simp),fun b hb=>o6 (show b∈([]:List ai) from hb) (by simp),e0.funs,fun b hb=>cutN b (e0.frf b hb)⟩;have hy:scope.names.lookup y=some .cell∨scope.names.lookup y=some .free:=hy
  rcases hy with hy | hy
  ·exact o6 rfl (ij _ (cf hy))
  ·exact hcl _ (cf hy) rfl
 have cellAt:∀ c o,fz c=some o→h₁.get? c=some o:=fun c o z=>old _ _ (e0.hok c _ (Z c o z)).1
 have I1:Inv (cxLm P w K mg base q scope cl s.heap.objs.size f (.ref cd) (x::fr) A outer s (ctF H fz)) [] (some v::ws.map some) (ctF H fz) { s with heap:=h₁,toks:=s.toks+1 }:=by
  refine ⟨ok',rfl,e0.bare,Un.kept old,⟨_,hns,fun i y v' e1 e2 e3=>?_⟩,fun y c e=>?_,hokc.fresh (aB _),fun y c e=>?_,fun p hp=>o6 (show p∈([]:List (ai×Obj)) from hp) (by simp),hokc.kept old,?_⟩
  ·cases i with
   | zero =>
    have e1:some x=some y:=e1;have e2:some (some v)=some (some v'):=e2;cases e1;cases e2;exact ⟨u,ru,.inl ⟨hx,by show d8 x [(x,u)]=_;rw [cW,beq_self_eq_true]⟩⟩
   | succ i =>
    have e1:fr[i]? =some y:=e1;have e2:(ws.map some)[i]? =some (some v'):=e2;rw [ay] at e2;obtain ⟨v2,e2,e4⟩:=bB.mp e2;cases e4;obtain ⟨c,o,u',z1,z2,z3,z4⟩:=C.val i y v' e1 e2;exact ⟨u',z4,.inr ⟨.inr (hfv y (bh e1)),c,z1,o,cellAt c o z2,z3⟩⟩
  ·obtain ⟨o,z⟩:=C.all y c e
   obtain ⟨v',hv'⟩:=C.cell c o z;exact ⟨v',o,cellAt c o z,hv'⟩
  ·obtain ⟨o,z⟩:=C.all y c e
   exact oT z
  ·show (some v::ws.map some).length=(x::fr).length
   rw [aS,aS,aa,C.len]
 refine b9 (hb _ _ A outer s (ctF H fz) (hr.deeper _) [] _ _ (ctF H fz) _ I1 ht) (fun y s' hs=>?_) fun _ _ z=>z.elim
 obtain ⟨v',H',J,rv,qv⟩:=hs;have JB:Un (frs outer) [] (ctF H fz) H' s.heap s'.heap:=J.base;have heapAt:∀ b o,fz b=some o→s'.heap.get? b=some o:=fun b o z=>JB.keep b o (e0.hok b _ (Z b o z)).1 (oT z) (fun hb=>by have:=e0.frf b hb;rw [Z b o z] at this;cases this) (by simp)
 have freeAt:∀ b o,fz b=some o→H' b=none:=fun b o z=>JB.free b o (e0.hok b _ (Z b o z)).1 (oT z) (by simp)
 exact ⟨v',ptF H' fz,J.os,J.bare,Un.froze JB Z,HOk.ptF J.hok freeAt heapAt,rv,qv freeAt⟩
def tLam (i:Nat)(f:ai)(Hf:Hp→Prop)(sp:Sp)(t:TE):TE:=fun σ H Q=>σ[i]? =some (some (.ref f))∧Hf H∧t σ H fun v H1=>Hf H1∧sp [v] H1 Q E0
theorem pe_callV {k:Nat}{p:Pos}{t:TE}{Hf:Hp→Prop}{sp:Sp}(L:LmOk X.prog X.w X.K X.mg X.base k f Hf sp)(hr:Room k X.A)(ha:PE X e t)(hN:X.N[i]? =some x:=by rfl)(hv:Vis X.env.scope x:=by first | exact Or.inl rfl | exact Or.inr (.inl rfl) | exact Or.inr (.inr rfl))
  (hd:(x == ("__debug__" :Str))=false:=by decide) (hcd:(x == ("__classdict__" :Str))=false:=by decide) (he:bE [e] X.env=[(false,eu e X.env)]:=by rfl):PE X (.Call (.Name x p) [e] [] pos) (tLam i f Hf sp t):=by
 intro aN s σ H Q I ⟨h1,h2,h3⟩;refine eC (thn (pe_var hN hv hd hcd aN s σ H (fun v H1=>v= .ref f∧H1=H) I ⟨_,h1,rfl,rfl⟩) fun u s1 ⟨v,H1,I1,r1,e1,e2⟩=>?_);subst e1;subst e2;cases r1;refine callWith_F (L.isFn _ _ h2 I1.hok) (thn ((af ha aC he) pos aN s1 σ H1 (fun vs H2=>match vs with | [v]=>Hf H2∧sp [v] H2 Q E0 | _=>False) I1 h3) fun us s2 ⟨vs,H2,I2,r2,q2⟩=>?_) he rfl
 ·obtain _ | ⟨v,_ | ⟨v',vs⟩⟩:=vs
  ·exact q2.elim
  rotate_left
  ·exact q2.elim
  obtain ⟨h4,h5⟩:=q2;obtain ⟨u,rfl,ru⟩:=r2.one;refine ⟨L.isFn _ _ h4 I2.hok,wpAny_call (codeAny_mono (L.run X.A X.stack s2 H2 u v Q hr I2.env0 h4 ru h5) fun r s' hq=>?_)⟩;cases r with
  | error e=>exact cN hq
  | ok fl =>
   cases fl with
   | ret u=>exact I2.after hq
   | next=>exact cN hq
   | brk=>exact cN hq
   | cont=>exact cN hq
def LamE (env:Env)(scope:eZ)(cl:List (Str×ai)):Prop:=(∀ x c,cl.lookup x=some c→env.cells.lookup x=some c)∧∀ y∈scope.names,y.2= .free→cl.lookup y.1=env.cells.lookup y.1
def tLamb (env:Env)(T:ai)(lp:Pos)(params:eX)(body:Expr)(scope:eZ):TE:=fun _ H Q=>LamT T lp (env.qual ++ "<lambda>") H∧∀ g cl H',Tb T H H'→LamT T lp (env.qual ++ "<lambda>") H'→LamF (env.qual ++ "<lambda>") params body scope cl g H'→LamE env scope cl→Q (.ref g) H'
def tCallZ (env:Env)(scope:eZ)(fr:List Str)(js:List Nat)(sp:Sp)(t:TA):TE:=fun σ H Q=>t σ H fun vs H1=>∃ cl ws,LamE env scope cl∧cV σ js=ws.map some∧∀ fz,Clo cl fz fr ws→(∀ b o,fz b=some o→H1 b=none)→sp vs (ptF H1 fz) (fun y H'=>Fz fz H'→Q y (ctF H' fz)) E0
open Classical in
def md (cl:List (Str×ai))(h:bL):ai→Option Obj:=fun b=>if ∃ x,cl.lookup x=some b then h.get? b else none
section
variable {σ:List (Option V)}
theorem pe_lam {c:ai}(hd:defaultsOf params X.env=([],[]))(k3:X.env.code= .ref c)(C:codeHdIn X.K c T=true)(B:BM X.mg X.base)
  (hfr:∀ y∈scope.names,y.2= .free→X.env.scope.names.lookup y.1=some .cell):PE X (.Lambda params body scope pos) (tLamb X.env T pos params body scope):=fun _ _ _ _ _ I ⟨L,h⟩ =>
 lam_make I hd k3 C B hfr L fun f cl H' _ I' t1 T1 F c1 c2=>⟨.ref f,H',I',rfl,h f cl H' t1 T1 F ⟨c1,c2⟩⟩
theorem lP {b:ai}{o:Obj}(e:md cl h b=some o):(∃ x,cl.lookup x=some b)∧h.get? b=some o:=by
 unfold md at e;split at e
 ·rename_i z;exact ⟨z,e⟩
 ·cases e
theorem frzOf_of {b:ai}{o:Obj}(z:cl.lookup x=some b)(e:h.get? b=some o):md cl h b=some o:=by
 unfold md;rw [o4 ⟨x,z⟩];exact e
theorem Inv.clo {ws:List V}(I:Inv X aN σ H s)(E:LamE X.env scope cl)(hws:cV σ js=ws.map some)(hjs:js.map (fun j=>X.N[j]?)=fr.map some)(hfv:∀ y∈fr,scope.names.lookup y=some .free)
  (hfr:∀ y∈scope.names,y.2= .free→X.env.scope.names.lookup y.1=some .cell):Clo cl (md cl s.heap) fr ws:=by
 have lens:ws.length=fr.length:=by
  have e:=pf List.length hws;have e2:=pf List.length hjs;unfold cV at e;rw [aa,aa] at e e2;omega
 refine ⟨fun x c e=>?_,fun c o e=>?_,fun a b c e1 e2=>I.ok.inj a b c (E.1 a c e1) (E.1 b c e2),fun i y v e1 e2=>?_,lens⟩
 ·obtain ⟨v,o,ho,_⟩:=I.cell x c (E.1 x c e)
  exact ⟨o,frzOf_of e ho⟩
 ·obtain ⟨⟨x,hx⟩,ho⟩:=lP e
  obtain ⟨v,o',ho',hd⟩:=I.cell x c (E.1 x c hx);rw [ho] at ho';cases ho';exact ⟨v,hd⟩
 ·have e3:(cV σ js)[i]? =some (some v):=by rw [hws,ay,e2];rfl
  unfold cV at e3;rw [ay] at e3;obtain ⟨j,ej,e3⟩:=bB.mp e3;have hN:X.N[j]? =some y:=by
   have q:=pf (fun l=>l[i]?) hjs;simp only [ay,ej,e1,fV] at q;exact bZ q
  have hσ:σ[j]? =some (some v):=by
   cases z:σ[j]? with
   | none=>rw [z] at e3;cases e3
   | some w=>rw [z] at e3;exact pf some e3
  have hm:=cf (hfv y (bh e1));have hce:X.env.scope.names.lookup y=some .cell:=hfr _ hm rfl;obtain ⟨m,_,hl⟩:=I.loc;obtain ⟨u',ru',look⟩:=hl j y v hN hσ (.inr (.inl hce))
  rcases look with ⟨k,_⟩ | ⟨_,c,ec,o,ho,hd⟩
  ·have k:X.env.scope.names.lookup y=some .local:=k
   rw [hce] at k;cases k
  ·have ecl:cl.lookup y=some c:=(E.2 _ hm rfl).trans ec
   exact ⟨c,o,u',ecl,frzOf_of ecl ho,hd,ru'⟩
theorem pe_callZ {p:Pos}{k:Nat}{sp:Sp}(F:cS X.prog X.w X.K X.mg X.base CX0 k f fd ps sp)(hr:Room k X.A)(hfn:∀ x,X.fn x=true)(hg:Gl X x)(hm:X.mg x=some (.ref f))(hk:eE X.K (.ref f)=true)(hb:Binds X.K fd ps [])
  (hjs:js.map (fun j=>X.N[j]?)=fr.map some) (hfv:∀ y∈fr,scope.names.lookup y=some .free) (hfr:∀ y∈scope.names,y.2= .free→X.env.scope.names.lookup y.1=some .cell)
  (ha:PA X (e::es) t) (hdb:(x == ("__debug__" :Str))=false:=by decide) (he:bE (e::es) X.env=(false,eu e X.env)::bE es X.env:=by rfl) (hpl:(gw pos (bE es X.env)).any (·.1)=false:=by rfl) :
  PE X (.Call (.Name x p) (e::es) [] pos) (tCallZ X.env scope fr js sp t):=by
 intro aN s σ H Q I h;refine eC (ld_glob I hg hm ?_ hdb);refine jF (h₀:=X.base) I.ok.mod.kin hk (thn (ha pos aN s σ H _ I h) fun us s1 ⟨vs,H1,I1,r,q⟩=>⟨I1.kIn,?_⟩) he hpl;obtain ⟨cl,ws,LE,hws,q⟩:=q;have C:=I1.clo LE hws hjs hfv hfr;have N:∀ b o,md cl s1.heap b=some o→H1 b=none:=fun b o e=>by
  obtain ⟨⟨x,hx⟩,_⟩:=lP e;exact I1.freeC x b (LE.1 x b hx)
 have G:∀ b o,md cl s1.heap b=some o→s1.heap.get? b=some o:=fun b o e=>(lP e).2
 have up:∀ b o,md cl s1.heap b=some o→X.s₀.heap.objs.size≤b:=fun b o e=>by
  obtain ⟨⟨x,hx⟩,_⟩:=lP e;exact I1.ok.cab x b (hfn x) (LE.1 x b hx)
 have q:=q _ C N;have hl:us.length=ps.length:=by rw [←r.length];exact F.len _ _ _ _ q
 have e0:Env0 X.prog X.w X.K X.mg X.base X.A X.stack s1 (ptF H1 (md cl s1.heap)):=by
  have e:=I1.env0;refine ⟨e.frames,e.mod,fun b o eb=>⟨(e.bs b o eb).1,?_⟩,e.bsz,e.funs,fun b hb=>?_,HOk.ptF e.hok N G,e.bare⟩
  ·cases z:md cl s1.heap b with
   | none=>rw [gL z];exact (e.bs b o eb).2
   | some o' =>
    have h1:=up b o' z;have h2:=aL eb;have h3:=I1.ok.bsz;exact o6 (aQ h2 (aY h3 h1)) (fN _)
  ·cases z:md cl s1.heap b with
   | none=>rw [gL z];exact e.frf b hb
   | some o' =>
    exfalso
    rcases az.mp (I1.stkSub b hb) with el | hb'
    ·obtain ⟨v,hv⟩:=C.cell b o' z
     obtain ⟨m,⟨o2,es2,ep2,ho2,hd2,_⟩,_⟩:=I1.loc;have e1:=G b o' z;rw [el,ho2] at e1;cases e1;rw [hd2] at hv;cases hv
    ·obtain ⟨_,o2,ho2,_⟩:=I1.ok.funs.mem hb'
     have h1:=up b o' z;have h2:=aL ho2;exact o6 (aQ h2 h1) (fN _)
 refine wpAny_call (codeAny_mono (F.run X.A X.stack s1 _ ⟨us,[]⟩ us vs _ E0 hr e0 (by have:=hb s1 us I1.kIn (by rw [dU];exact hl);rw [dU] at this;exact this) r q) fun r' s' hq=>?_);cases r' with
 | error e=>exact cN hq
 | ok fl =>
  cases fl with
  | ret u =>
   obtain ⟨v,H',os,bare,un,hok,rv,qv⟩:=hq;have Z:Fz (md cl s1.heap) H':=fun b o e=>un.frzs b o _ (nP e)
   exact I1.after ⟨v,ctF H' (md cl s1.heap),os,bare,Un.thaw un N hok G,HOk.cut hok Z,rv,qv Z⟩
  | next=>exact cN hq
  | brk=>exact cN hq
  | cont=>exact cN hq
end
end L2
namespace HN
open PySem L2 PyProof.Rows
def TiedBy (sp:List Sn)(L k:Int):Prop:=∃ x∈sp,x.o - x.l≤L∧((x.s=k∧0≤x.g∧x.g<k)∨(x.g=k∧0≤x.s∧x.s<k))
def kz (m:Int)(sp:List Sn)(L:Int):Prop:=(∀ x∈sp,x.o - x.l≤L)∨∀ k,1≤k→k<m→TiedBy sp L k
theorem taken_at {sp:List Sn}{i:Nat}:∀ (π:List Nat) (c:List Int×List Nat),i∈(π.foldl (fP sp) c).2→i∈c.2∨∃ π1 π2,π=π1++i::π2∧tm (π1.foldl (fP sp) c).1 (sAt sp i).s≠tm (π1.foldl (fP sp) c).1 (sAt sp i).g
 | [],c,h=> .inl h
 | j::π,c,h=>by
  rw [bM] at h
  rcases taken_at π _ h with h | ⟨π1,π2,rfl,hne⟩
  ·obtain ⟨gs,tk⟩:=c
   rcases iR sp gs tk j with ⟨_,e⟩ | ⟨n,e⟩ <;> rw [e] at h
   ·exact .inl h
   ·rcases aM.mp h with h | h
    ·exact .inl h
    ·rw [ax.mp h]
     exact .inr ⟨[],π,rfl,n⟩
  ·exact .inr ⟨j::π1,π2,rfl,hne⟩
theorem all_met {m:Nat}{sp:List Sn}{L:Int}{gs:List Int}(E:Ends m sp)(meets:∀ x∈sp,x.o - x.l≤L→tm gs x.s=tm gs x.g)(ti:∀ k:Int,1≤k→k<m→TiedBy sp L k):∀ (n:Nat) (k:Int),0≤k→k<m→k.toNat≤n→tm gs k=tm gs 0
 | n,k,k0,k1,kn=>by
  by_cases z:k=0
  ·rw [z]
  ·obtain ⟨x,hx,hw,h⟩:=ti k (by omega) k1
   have e:=meets x hx hw
   rcases h with ⟨h1,h2,h3⟩ | ⟨h1,h2,h3⟩
   ·cases n with
    | zero=>omega
    | succ n =>
     rw [h1] at e;rw [e];exact all_met E meets ti n x.g h2 (by omega) (by omega)
   ·cases n with
    | zero=>omega
    | succ n =>
     rw [h1] at e;rw [←e];exact all_met E meets ti n x.s h2 (by omega) (by omega)
theorem oh {L:Int}(E:Ends m sp)(N:kz (m:Int) sp L)(F:FrstL m sp l):∀ i∈l,i<sp.length∧(wkey sp i).1≤L:=by
 obtain ⟨_,π,O,pm⟩:=F;intro i hi;have hi:=pm.mem_iff.mp hi
 rcases taken_at π (jM m,[]) hi with h | ⟨π1,π2,e,h⟩
 ·cases h
 have hil:i<sp.length:=O.lt (by rw [e];simp);refine ⟨hil,?_⟩
 rcases N with N | N
 ·exact N _ (dG hil)
 ·by_cases w:(wkey sp i).1≤L
  ·exact w
  exfalso;have w:L<(sAt sp i).o - (sAt sp i).l:=by
   have:¬ ((sAt sp i).o - (sAt sp i).l≤L):=w;omega
  have p1:∀ j∈π1,j<sp.length:=fun j hj=>O.lt (by rw [e];simp [hj])
  have meets:∀ x∈sp,x.o - x.l≤L→tm (π1.foldl (fP sp) (jM m,[])).1 x.s=tm (π1.foldl (fP sp) (jM m,[])).1 x.g:=by
   intro x hx hw;obtain ⟨j,hj,ej⟩:=List.getElem_of_mem hx;have ej:sAt sp j=x:=by
    unfold sAt;rw [ag,gE hj];exact ej
   have hjπ:j∈π:=O.1.mem_iff.mpr (bQ.mpr hj);have hj1:j∈π1:=by
    rw [e] at hjπ
    rcases aM.mp hjπ with z | z
    ·exact z
    ·exfalso
     rcases az.mp z with z | z
     ·rw [z] at ej;rw [ej] at w;omega
     ·have pw:=O.2
      rw [e] at pw;have:=(List.pairwise_cons.mp (List.pairwise_append.mp pw).2.1).1 j z;rw [ltP_iff] at this;unfold wkey at this;rw [ej] at this;omega
   have:=jP E π1 (jM m) [] (j9 m) p1 j hj1;rw [ej] at this;exact this
  obtain ⟨a0,a1,b0,b1⟩:=E _ (dG hil);refine h ?_;rw [all_met E meets N _ _ a0 a1 (aB _),all_met E meets N _ _ b0 b1 (aB _)]
theorem nS {sp:List Sn}{L:Int}:∀ (l:List Nat),(∀ i∈l,0≤(wkey sp i).1∧(wkey sp i).1≤L)→1≤jE sp l∧jE sp l≤(L+1) ^ l.length
 | [],_=>⟨(fO 1:(1:Int)≤1),by show (1:Int)≤(L+1) ^ 0;rw [Int.pow_zero];exact fO 1⟩
 | i::l,h=>by
  obtain ⟨a,b⟩:=h i (by simp);obtain ⟨c,d⟩:=nS l fun j hj=>h j (au _ hj)
  rw [l5,aS,Int.pow_succ,Int.mul_comm ((L+1) ^ l.length)];refine ⟨?_,Int.mul_le_mul (by omega) d (by omega) (by omega)⟩;have:1 * 1≤((wkey sp i).1+1) * jE sp l:=Int.mul_le_mul (by omega) c (by decide) (by omega);omega
def ie (m:Int):Int:=([1,1,40,7,4,3,2,2,2]:List Int).getD m.toNat 0
theorem limOf_pos {m:Int}(h0:1≤m)(h1:m≤8):1≤ie m∧ie m≤40:=by
 obtain ⟨n,rfl⟩:=cu (by omega:0≤m);exact (by decide:∀ n∈aR 9,1≤ie (n:Nat)∧ie (n:Nat)≤40) n (bQ.mpr (by omega))
theorem limOf_pow {k:Nat}(h0:1≤m)(h1:m≤8)(hk:k<m):ie m ^ k≤4096 :=
 (by trivial:∀ m∈aR 9,∀ k∈aR m,ie (m:Nat) ^ k≤4096) m (bQ.mpr (by omega)) k (bQ.mpr hk)
theorem oj {m:Int}(N:NetT b m sp)(m8:m≤8)(na:kz m sp (ie m - 1)):∀ l,FrstL m.toNat sp l→jE sp l≤4096:=by
 intro l F;have m1:=N.m1;have em:((m.toNat:Nat):Int)=m:=fB (by omega);have E:=N.ends;have nar:=oh E (by rw [em];exact na) F;have few:=F.few E (by omega);have:=(nS (sp:=sp) (L:=ie m - 1) l fun i hi=>by
  obtain ⟨a,c⟩:=nar i hi;refine ⟨?_,c⟩;have:=(N.all _ (dG a)).lo;show 0≤(sAt sp i).o - (sAt sp i).l;omega).2
 rw [show ie m - 1+1=ie m by omega] at this;have p:=limOf_pow (m:=m.toNat) (k:=l.length) (by omega) (by omega) few;rw [em] at p;omega
structure HidN (b m:Int)(ts:List Int)(L:Int)(kept tied:Bool)(n:Int)(sp:List Sn):Prop where
 all:∀ x∈sp,SnOk b m x
 fit:kept=true→∀ x∈sp,fb b ts x≤x.o - x.l
 nar:tied=false→∀ x∈sp,x.o - x.l≤L
 tie:tied=true→∀ k,1≤k→k<n→TiedBy sp L k
section
variable {m L n:Int}{kept tied:Bool}{x:Sn}
theorem HidN.nil:HidN b m ts L kept tied 1 []:=⟨fun _ h=>o6 h (by simp),fun _ _ h=>o6 h (by simp),fun _ _ h=>o6 h (by simp),fun _ k h1 h2=>by omega⟩
theorem HidN.put (h:HidN b m ts L kept tied n sp)(ok:SnOk b m x)(f:kept=true→fb b ts x≤x.o - x.l)(na:tied=false→x.o - x.l≤L)(j:Nat):HidN b m ts L kept tied n (sp.take j++x::sp.drop j):=by
 have mem:∀ y,y∈sp.take j++x::sp.drop j→y=x∨y∈sp:=fun y hy=>by
  rcases aM.mp hy with z | z
  ·exact .inr (jx z)
  ·rcases az.mp z with z | z
   ·exact .inl z
   ·exact .inr (List.mem_of_mem_drop z)
 have back:∀ y∈sp,y∈sp.take j++x::sp.drop j:=fun y hy=>by
  rw [←List.take_append_drop j sp] at hy
  rcases aM.mp hy with z | z
  ·exact aE _ z
  ·exact aw _ (au _ z)
 refine ⟨fun y hy=>?_,fun k y hy=>?_,fun t y hy=>?_,fun t k k1 k2=>?_⟩
 ·rcases mem y hy with rfl | z
  ·exact ok
  ·exact h.all y z
 ·rcases mem y hy with rfl | z
  ·exact f k
  ·exact h.fit k y z
 ·rcases mem y hy with rfl | z
  ·exact na t
  ·exact h.nar t y z
 ·obtain ⟨y,hy,w,r⟩:=h.tie t k k1 k2
  exact ⟨y,back y hy,w,r⟩
theorem HidN.more (h:HidN b m ts L kept tied n sp)(n1:1≤n)(ok:SnOk b m x)(f:kept=true→fb b ts x≤x.o - x.l)(na:x.o - x.l≤L)(e:(x.s=n∧0≤x.g∧x.g<n)∨(x.g=n∧0≤x.s∧x.s<n)):HidN b m ts L kept tied (n+1) (sp++[x]):=by
 have p:=h.put ok f (fun _=>na) sp.length;rw [bf,List.drop_length] at p;refine ⟨p.all,p.fit,p.nar,fun t k k1 k2=>?_⟩
 by_cases z:k=n
 ·exact ⟨x,by simp,na,by rw [z];exact e⟩
 ·exact p.tie t k k1 (by omega)
theorem HidN.skip (h:HidN b m ts L kept false n sp)(n':Int):HidN b m ts L kept false n' sp:=⟨h.all,h.fit,h.nar,fun t=>by cases t⟩
theorem HidN.narrow (h:HidN b m ts L kept tied m sp):kz m sp L:=by
 cases tied with
 | false=>exact .inl (h.nar rfl)
 | true=>exact .inr (h.tie rfl)
theorem HidN.fits (h:HidN b m ts L kept tied n sp)(k:kept=true):g9 b ts sp=true:=by
 unfold g9;rw [gT,iY];intro x hx;have:=h.fit k x hx;unfold brk;simp only [decide_eq_true_eq];omega
end
theorem kept_wait {j r l wd:Int}{x:Sn}(hb:1≤b)(w0:0≤wd)(w1:wd<b)(e:l=(tm ts x.g - tm ts x.s - r % (wd+1)) % b+b * j)(el:x.l=l):fb b ts x≤wd:=by
 have r0:=cG r (by omega:wd+1≠0);have r1:=cB r (by omega:0<wd+1);unfold fb;rw [el,e];generalize r % (wd+1)=q at r0 r1 ⊢;have:(tm ts x.g - tm ts x.s - ((tm ts x.g - tm ts x.s - q) % b+b * j)) % b=q:=by
  rw [show tm ts x.g - tm ts x.s - ((tm ts x.g - tm ts x.s - q) % b+b * j)=(tm ts x.g - tm ts x.s - (tm ts x.g - tm ts x.s - q) % b) - b * j by omega,Int.sub_mul_emod_self_left];rw [Int.sub_emod,Int.emod_emod,←Int.sub_emod,show tm ts x.g - tm ts x.s - (tm ts x.g - tm ts x.s - q)=q by omega,Int.emod_eq_of_lt r0 (by omega)]
 omega
end HN
namespace L2
open PySem PySem.W PySem.Spec PyProof.Rows
def CGrt (i j:Int):Prop:=i.natAbs<10 ^ 1000∧j.natAbs<10 ^ 1000
theorem bits_grt {x:Int}(h:x.natAbs<10 ^ 1000):jg x≤2 ^ 20:=by
 unfold jg;split
 ·exact bK _
 ·rename_i hx
  have h0 : x.natAbs ≠ 0 := fun z => hx (by have e : x = 0 := by omega
                                            rw [e];rfl)
  have h2:=(Nat.log2_lt h0).mpr (jf h (by trivial:10 ^ 1000<2 ^ 10000));have h3:(10000:Nat)+1≤2 ^ 20:=by decide
  omega
theorem ip_mulG:PIp X .Mult (fun x y H Q=>∃ i j,x= .int i∧y= .int j∧CGrt i j∧Q (.int (i * j)) H):=by
 intro aN s σ H x y v u Q I r1 r2 h;obtain ⟨i,j,e1,e2,hc,q⟩:=h;subst e1;subst e2;obtain ⟨t,rfl⟩:=r1;obtain ⟨t',rfl⟩:=r2;exact imul_int ⟨.int _,H,I.tok _,⟨_,rfl⟩,q⟩ (IntMulOk.of_bits (bits_grt hc.1) (bits_grt hc.2))
end L2
namespace L2
open PySem PySem.Spec PyProof.Rows
def Itvl (K:ak)(a:ai)(n:Nat):It :=
 ⟨fun i H=>∃ xs x,SqL K H a xs∧xs.length=n∧xs.reverse[i]? =some x,fun i H x H'=>H'=H∧∀ xs,SqL K H a xs→xs.reverse[i]? =some x,fun i _=>i=n⟩
theorem turn_revL (a it:ai)(n:Nat):Turn P w K tg (Itvl K a n) [it] it (fun i h=>h.IsRevIter it a ((n:Int) - 1 - (i:Nat))) where
 mem:=by simp
 obj:=fun i h st b hb=>by
  have e:b=it:=by simpa using hb
  subst e;obtain ⟨o,e,c,d⟩:=st;exact ⟨o,e,fun v z=>by rw [d] at z;cases z⟩
 keep:=fun i h h' st k=>st.at fun o e=>k it (by simp) o e
 item:=by
  intro X hP hw hK hc i aN s σ H E I hf st hg;subst hP hw hK;obtain ⟨xs,x,hq,hn,hx⟩:=hg;obtain ⟨its,rv,p,hz⟩:=I.list hq;have hi:i<xs.length:=by
   have:=(ao.mp hx).1;rw [gn] at this;exact this
  have hx2:=hx;rw [List.getElem?_reverse hi] at hx2;obtain ⟨u,hu,ru⟩:=rv.get hx2;obtain ⟨f0,f1,f2,f3,f4,f5⟩:=hf it (by simp);have e:(n:Int) - 1 - (i:Nat)=((xs.length - 1 - i:Nat):Int):=by omega
  rw [e] at st;refine wpAny_pyNext_rev_item st p.isList (x:=u) (by simpa using hu) fun h' st' sb=>?_
  have I1:Inv X aN σ H { s with heap:=h' }:=I.turned (t':=s.toks) (fun b o hb e=>(sb.2 b hb).trans e) f0 f1 f3 f4 f5;obtain ⟨o,e2,c,d⟩:=id st';have e3:((xs.length - 1 - i:Nat):Int) - 1=(n:Int) - 1 - ((i+1:Nat):Int):=by omega
  rw [e3] at st';exact ⟨u,rfl,go_of (s:={ s with heap:=h' }) e2 c d (by decide) ⟨x,H,I1,ru,⟨rfl,fun ys hy=>by rw [I.list_inj hy hq];exact hx⟩,st',fun b hb=>(hf b hb).1⟩⟩
 done:=by
  intro X hP hw hK hc i aN s σ H E I hf st hg;subst hP hw hK;obtain ⟨f0,f1,f2,f3,f4,f5⟩:=hf it (by simp);have hg:i=n:=hg;have e:(n:Int) - 1 - (i:Nat)= -1:=by omega
  rw [e] at st;exact wpAny_pyNext_rev_end (I.ok.hd hc) st fun h' eb=>⟨rfl,I.turned (t':=s.toks) (fun b o hb e=>eb b o hb e) f0 f1 f3 f4 f5⟩
 self:=fun _ _ _ _ _ st h=>wpAny_pyIter_revIter st h
def iRevL (K:ak)(ta:TA):TI:=fun σ H R=>ta σ H fun vs H1=>∃ a xs,vs=[.ref a]∧SqL K H1 a xs∧R (Itvl K a xs.length) H1
theorem pi_revL {ea:Expr}{ta:TA}{p:Pos}(hg:Gl X "reversed")(hm:X.mg "reversed" =none)(ha:PA X [ea] ta)(hs:bE [ea] X.env=[(false,eu ea X.env)]:=by rfl) :
  PI X tg (.Call (.Name "reversed" p) [ea] [] pos) (iRevL X.K ta):=by
 intro aN s σ H R I h;refine Call_ (kq I hg hm boot_reversed (dQ (thn (ha pos aN s σ H _ I h) fun us s1 z=>?_) hs rfl));obtain ⟨vs,H1,I1,r1,q1⟩:=z;obtain ⟨a,xs,e,hA,q⟩:=q1;subst e;obtain ⟨u1,rfl,r2⟩:=vals1 r1;cases (show u1=ae.ref a from r2);obtain ⟨its,rv,pt',hz⟩:=I1.list hA;have hl:=rv.length;refine call_reversed_list pt'.isList ?_;have z1:(s1.heap.push (revObj a ((its.toArray.size:Int) - 1))).IsRevIter s1.heap.objs.size a ((xs.length:Int) - 1 - ((0:Nat):Int)):=by
  refine ⟨_,aZ _ rfl,rfl,?_⟩;rw [aG,←hl,show (xs.length:Int) - 1 - ((0:Nat):Int)=(xs.length:Int) - 1 by omega];rfl
 refine wpAny_pyIter_revIter (s:={ s1 with heap:=s1.heap.push (revObj a ((its.toArray.size:Int) - 1)) }) z1 ⟨s1.heap.objs.size,[s1.heap.objs.size],_,Itvl X.K a xs.length,H1,rfl,I1.kept (t':=s1.toks) fun c o e=>ar _ e,turn_revL a _ _,z1,fun b hb=>?_,q⟩;have e:b=s1.heap.objs.size:=by simpa using hb
 subst e;exact I1.fpOk (aB _) (I1.hok.fresh (aB _))
theorem for_revL {tb:TS}{D:Ends}(Pv:Nat→St→Hp→Prop)(h0:Pv 0 σ H)(hl:∀ i σ H,i≤xs.length→Pv i σ H→SqL K H a xs)
  (hs:∀ i x σ H,xs.reverse[i]? =some x→Pv i σ H→g x σ H fun σ2 H2=>tb { D with nx:=Pv (i+1),ct:=Pv (i+1),bk:=D.nx } σ2 H2) (hd:∀ σ H,Pv xs.length σ H→D.nx σ H) :
  ∃ W:Nat→Nat→St→Hp→Prop,(∃ m,W 0 m σ H)∧∀ i m σ H,W i m σ H →
   ((Itvl K a xs.length).stop i H∧D.nx σ H)∨((Itvl K a xs.length).go i H∧∃ N:St→Hp→Prop,(∀ σ' H',N σ' H'→∃ m',m'<m∧W (i+1) m' σ' H')∧∀ x H',(Itvl K a xs.length).yld i H x H'→g x σ H' fun σ2 H2=>tb { D with nx:=N,ct:=N,bk:=D.nx } σ2 H2):=by
 refine ⟨fun i m σ H=>m=xs.length - i∧i≤xs.length∧Pv i σ H,⟨xs.length,by simp,bK _,h0⟩,?_⟩;rintro i m σ H ⟨rfl,hi,p⟩;have q:=hl i σ H hi p
 by_cases e:i=xs.length
 ·subst e
  exact .inl ⟨rfl,hd σ H p⟩
 ·have hlt:i<xs.length:=gF hi e
  refine .inr ⟨⟨xs,_,q,rfl,gE (by rw [gn];exact hlt)⟩,Pv (i+1),fun σ' H' p'=>⟨xs.length - (i+1),by omega,rfl,by omega,p'⟩,fun x H' hy=>?_⟩;obtain ⟨rfl,hx⟩:=hy;exact hs i x σ _ (hx xs q) p
theorem thou_le (h:n≤1001):n≤bj:=aY h (by decide)
def min3 (a b c:Int):Int:=if b<a then (if c<b then c else b) else (if c<a then c else a)
theorem min3_le (a b c:Int):min3 a b c≤a∧min3 a b c≤b∧min3 a b c≤c:=by
 unfold min3;split <;> split <;> omega
theorem min3_ge {a c z:Int}(h1:z≤a)(h2:z≤b)(h3:z≤c):z≤min3 a b c:=by
 unfold min3;split <;> split <;> omega
theorem call_min3 (hc:X.calm=true):CallR X (.builtin "min") (fun xs H Q=>∃ a b c,xs=[.int a,.int b,.int c]∧Q (.int (min3 a b c)) H):=by
 intro aN s σ H xs us Q I r h;obtain ⟨a,b,c,rfl,q⟩:=h;cases r with
 | cons r1 r =>
  obtain ⟨u,w',rfl,⟨t2,rfl⟩,⟨t3,rfl⟩⟩:=vals2 r;obtain ⟨t1,rfl⟩:=r1;refine min_three_ints (I.ok.hd hc) fun h' tk k=>⟨_,H,I.kept k,?_,q⟩
  unfold min3
  by_cases h1:b<a
  ·rw [o4 h1,o4 h1]
   by_cases h2:c<b
   ·rw [o4 h2,o4 h2];exact ⟨_,rfl⟩
   ·rw [oZ h2,oZ h2];exact ⟨_,rfl⟩
  ·rw [oZ h1,oZ h1]
   by_cases h2:c<a
   ·rw [o4 h2,o4 h2];exact ⟨_,rfl⟩
   ·rw [oZ h2,oZ h2];exact ⟨_,rfl⟩
inductive rInsert (x:V)(vs:List V)(H:Hp)(Q:VK):Prop
 | mk (l xs k y:_)(_:x= .ref l)(_:vs=[.int k,y])(_:H l=some (.lst xs))(_:xs.length≤1000)(_:0≤k)(_:k≤xs.length)(_:Q .non (upd H l (.lst (xs.take k.toNat++y::xs.drop k.toNat))))
theorem mt_insert:MtM X "list.insert" rInsert:=by
 intro aN s σ H x vs v us Q I rx rv h;obtain ⟨l,xs,k,y,rfl,rfl,hH,hz,k0,k1,q⟩:=h;cases rx;obtain ⟨u,w',rfl,⟨t,rfl⟩,ru⟩:=vals2 rv;obtain ⟨z,its,n,r,hl,e⟩:=I.lstM hH;have hlen:its.length=xs.length:=r.length.symm;have hs:its.toArray.size≤bj:=by rw [aG];exact thou_le (by omega)
 have hf:eN.List.listFitsIndex k=true:=by
  unfold eN.List.listFitsIndex;simp only [dB,decide_eq_true_eq]
  constructor <;> omega
 refine call_meets PySem.F.slot_list_insert ⟨_,e,rfl⟩ PySem.F.entry_list_insert (PySem.F.args_list_insert_3 _ _ _) (PySem.AutoSeq1.list_insert_list_int_val_1 l its.toArray n k t w' (by rw [hf];decide) hs) ⟨e,?_⟩;refine ⟨.non,_,I.lset (its':=its.take k.toNat++w'::its.drop k.toNat) hH e ?_ ((r.take _).append (.cons ru (r.drop _))) ?_,rfl,q⟩
 ·show (its.toArray.extract 0 (if k<0 then (k+(its.toArray.size:Int)).toNat else min k.toNat its.toArray.size)).push w'++its.toArray.extract (if k<0 then (k+(its.toArray.size:Int)).toNat else min k.toNat its.toArray.size)=(its.take k.toNat++w'::its.drop k.toNat).toArray
  rw [oZ (by omega),aG,Nat.min_eq_left (by omega)]
  apply Array.toList_inj.mp
  have ht:(its.drop k.toNat).take (its.length - k.toNat)=its.drop k.toNat:=iV (by rw [e8];omega);simp [ht]
 ·rw [av,aS,bG,e8]
  exact thou_le (by omega)
end L2
namespace HN
open PySem L2 PyProof.Rows
def Mv (p:ai)(H H':Hp):Prop:=(∀ b o,b≠p→H b=some o→H' b=some o)∧∃ n,H' p=some (.lst [.int n])
theorem Mv.trans {p:ai}{H2:Hp}(a:Mv p H H1)(b:Mv p H1 H2):Mv p H H2:=⟨fun c o hc e=>b.1 c o hc (a.1 c o hc e),b.2⟩
theorem Mv.new {p q:ai}(a:Mv p H H1)(hq:H1 q=none):Mv p H (upd H1 q o):=by
 obtain ⟨n,hn⟩:=a.2;exact ⟨fun c u hc e=>by rw [bw (bz (a.1 c u hc e) hq)];exact a.1 c u hc e,n,by rw [bw (bz hn hq)];exact hn⟩
theorem Mv.at {p q:ai}(a:Mv p H H1)(h:H q=some o)(hne:q≠p):H1 q=some o:=a.1 q o hne h
theorem Mv.then {p:ai}{H2:Hp}(a:Mv p H H1)(S:Same H1 H2):Mv p H H2:=⟨fun c o hc e=>S _ _ (a.1 c o hc e),by obtain ⟨n,hn⟩:=a.2;exact ⟨n,S _ _ hn⟩⟩
theorem Mv.of {p:ai}{n:Int}(S:Same H H1)(h:H1 p=some (.lst [.int n])):Mv p H H1:=⟨fun c o _ e=>S _ _ e,n,h⟩
theorem Mv.ne {p q:ai}(a:Mv p H H1)(hq:H1 q=none):q≠p:=fun z=>by obtain ⟨n,hn⟩:=a.2;rw [z,hn] at hq;cases hq
theorem Same.mv {p:ai}{H2:Hp}(e:Same H H1)(hp:H p=none)(m:Mv p H1 H2):Same H H2:=fun b o q=>m.1 b o (fun z=>by rw [z,hp] at q;cases q) (e b o q)
theorem Mv.tupK {p:ai}{n:Int}(h:H p=some (.lst [.int n]))(a:Mv p H H1):TupK H H1:=fun q xs e=>a.1 q _ (eD e h nofun) e
inductive mh (vs:List V)(H:Hp)(Q:VK)(_:XK):Prop
 | mk (p n m:_)(_:vs=[.ref p,.int m])(_:H p=some (.lst [.int n]))(_:0<m)(_:m<10 ^ 61)(_:∀ r H',0≤r→r<m→Mv p H H'→Q (.int r) H')
inductive spMix (vs:List V)(H:Hp)(Q:VK)(_:XK):Prop
 | mk (c k:_)(_:vs=[.int c,.int k])(_:0≤k)(_:k≤1000)(_:∀ n,Q (.int n) H)
inductive spPotT (K:ak)(vs:List V)(H:Hp)(Q:VK)(_:XK):Prop
 | mk (a:ai)(ns:List Int)(k:Int)(_:vs=[.ref a,.int k])(_:SqL K H a (ns.map V.int))(_:0≤k)(_:k≤100)(_:∀ n p,H p=none→Q (.ref p) (upd H p (.lst [.int n])))
abbrev sCell:cP:=top 47
abbrev sMix:cP:=top 48
abbrev sPotT:cP:=top 49
abbrev sTake:cP:=top 50
theorem scCell:cb pze pze (defScope sCell):=by trivial
theorem ok_cell (F:Fun K "_law_cell_at" "_law_cell_at" sCell f fd)(T:Nm mg):cS P w K mg base CX0 1 f fd pze (spCell K):=by
 refine F.ok scCell (by contradiction) (fun cdv A outer s H vs Q E hr h=>?_);obtain ⟨a,ns,j,rfl,ha,hj,k⟩:=h;refine ⟨_,mP (i7 (cU op_lt (pv 1) (eh cZ rfl T.len cQ (af (pv 0) aC)) (dN _)) (df (cz (d9 fA (pv 0) (pv 1) (fun _ _=>rfl)))) fv) (df (cz bo)),?_⟩;refine ⟨_,rfl,_,rfl,a,_,rfl,.inl ha,_,_,rfl,rfl,_,rfl,?_⟩;refine ite2 (fun h1=>?_) (fun h1=>?_)
 ·have h1:j<((ns.map V.int).length:Int):=pe h1
  obtain ⟨v,e1,e2⟩:=lU hj h1;obtain ⟨c,_,rfl⟩:=aV.mp e2;exact ⟨_,rfl,_,rfl,a,_,_,_,rfl,rfl,ha,e1,k c⟩
 ·exact k 0
theorem scTake:cb ["_law_pot_here","_law_most","_law_number"] pzc (defScope sTake):=by trivial
theorem kX (F:Fun K "_law_take" "_law_take" sTake f fd):cS P w K mg base CX0 1 f fd pzc mh:=by
 refine F.ok scTake (by contradiction) (fun cdv A outer s H vs Q E hr h=>?_);obtain ⟨p,n,m,rfl,hp,h0,h1,k⟩:=h;refine ⟨_,mP (bD (i:=2) scTake.nd rfl (.inl rfl) (cp jn (d9 fA (pv 0) bo (fun _ _=>rfl)) (pv 1)))
  (mP (ps_asg (cp op_fdivB (d9 fA (pv 0) bo (fun _ _=>rfl)) (pv 1)) (pg_sub (pv 0) bo set_list)) (df (cz (pv 2)))),?_⟩
 refine ⟨_,rfl,p,_,_,_,rfl,rfl,SqL.of hp,aJ (j:=0) rfl,_,rfl,_,_,rfl,rfl,h0,?_⟩;refine ⟨_,rfl,p,_,_,_,rfl,rfl,SqL.of hp,aJ (j:=0) rfl,_,rfl,_,_,rfl,rfl,log_ok h0 h1,?_⟩;refine ⟨_,rfl,p,_,_,0,rfl,rfl,hp,rfl,?_⟩;refine ⟨_,rfl,k _ _ (cG _ (by omega)) (cB _ h0) ⟨fun b o hb e=>by rw [bw hb];exact e,n / m,aU⟩⟩
theorem scMix:cb ["_law_cell","_law_k","_law_number"] pzu (defScope sMix):=by trivial
theorem ok_mix (F:Fun K "_law_mixed" "_law_mixed" sMix f fd):cS P w K mg base CX0 1 f fd pzu spMix:=by
 refine F.ok scMix (by contradiction) (fun cdv A outer s H vs Q E hr h=>?_);obtain ⟨c,j,rfl,j0,j1,k⟩:=h;refine ⟨_,PSl.h (bc ⟨(bD (i:=2) scMix.nd rfl (.inl rfl) (cp jn (cp iQ (cp fm (cp fm (cp jn (pv 0) bo) (cp iQ bo (pv 1))) bo) bo) bo))⟩
  (bc ⟨(bD (i:=2) scMix.nd rfl (.inl rfl) (cp jn (cp fm (cp fm (cp iQ (pv 2) (pv 2)) (cp iQ bo (pv 1))) bo) bo))⟩
  (dh ⟨(cz (cp jn (cp iQ (pv 2) bo) bo))⟩))),?_⟩
 refine ⟨_,rfl,_,_,rfl,rfl,(by show (0:Int)<2147483629;decide),_,rfl,_,_,rfl,rfl,.inl ⟨by decide,by decide⟩,_,_,rfl,rfl,_,_,rfl,rfl,_,_,rfl,rfl,.inr ⟨by decide,by decide⟩,_,_,rfl,rfl,(by show (0:Int)<2147483647;decide),?_⟩;refine ⟨_,rfl,_,rfl,_,_,rfl,rfl,.inl ?_,_,rfl,_,_,rfl,rfl,.inl ⟨by decide,by decide⟩,_,_,rfl,rfl,_,_,rfl,rfl,_,_,rfl,rfl,(by show (0:Int)<2147483587;decide),?_⟩
 ·have h1:=cG ((c % 2147483629+7919 * j+1) * 48271) (by decide:(2147483647:Int)≠0)
  have h2:=cB ((c % 2147483629+7919 * j+1) * 48271) (by decide:(0:Int)<2147483647);exact ⟨by omega,by omega⟩
 ·exact ⟨_,rfl,_,_,rfl,rfl,.inr ⟨by decide,by decide⟩,_,_,rfl,rfl,(by show (0:Int)<2147483629;decide),k _⟩
theorem scPotT:cb ["_law_script","_law_k","_law_cell","_law_number","_law_j"] pze (defScope sPotT):=by trivial
theorem ok_potT (F:Fun K "_law_pot" "_law_pot" sPotT f fd)(T:Nm mg)(T2:Nt mg)(G1:Fn K mg "_law_cell_at" sCell pze f1 fd1)(G2:Fn K mg "_law_mixed" sMix pzu f2 fd2):cS P w K mg base CX0 2 f fd pze (spPotT K):=by
 have F1:cS P w K mg base CX0 1 f1 fd1 pze (spCell K):=ok_cell G1.F T;have F2:cS P w K mg base CX0 1 f2 fd2 pzu spMix:=ok_mix G2.F;refine F.ok scPotT (by contradiction) (fun cdv A outer s H vs Q E hr h=>?_);obtain ⟨a,ns,j,rfl,ha,j0,j1,k⟩:=h;refine ⟨_,PSl.h (bc ⟨(bD (i:=2) scPotT.nd rfl (.inl rfl) (pc1 G1 F1 hr (af (pv 0) (af (pv 1) aC))))⟩
  (bc ⟨(i7 (cU mB (cp jn (pc1 G1 F1 hr (af (pv 0) (af bo aC))) bo) bo (dN _)) (df (cz (jk (af (pv 2) aC)))) fv)⟩
  (bc ⟨(bD (i:=3) scPotT.nd rfl (.inl rfl) bo)⟩
  (bc ⟨(i8 bT rfl (jB rfl T2.range (af bo aC)) (dX (i:=4) scPotT.nd rfl (.inl rfl)) (df (bD (i:=3) scPotT.nd rfl (.inl rfl) (cp fm (cp iQ (pv 3) bo) (pc1 G2 F2 hr (af (pv 2) (af (cp fm (pv 1) (cp iQ bo (pv 4))) aC)))))))⟩
  (dh ⟨(cz (jk (af (pv 3) aC)))⟩))))),?_⟩
 refine ⟨_,rfl,_,rfl,a,ns,j,rfl,ha,j0,fun c=>?_⟩;refine ⟨_,rfl,a,ns,0,rfl,ha,by decide,fun c0=>⟨_,_,rfl,rfl,(by show (0:Int)<2;decide),rfl,_,rfl,?_⟩⟩;refine ite2 (fun _=>?_) (fun _=>?_)
 ·exact ⟨_,rfl,szZ1,fun p hp=>k _ p hp⟩
 ·refine ⟨9,rfl,by decide,by decide,lQ (n:=9) (fun i σ H2=>H2=H∧∃ n vj,σ=[some (.ref a),some (.int j),some (.int c),some (.int n),vj]) ⟨rfl,0,none,rfl⟩ ?_ ?_⟩
  ·rintro i σ H2 hi ⟨rfl,n,vj,rfl⟩
   refine ⟨_,rfl,_,_,rfl,rfl,.inr ⟨by decide,by decide⟩,_,rfl,_,rfl,_,rfl,_,_,rfl,rfl,.inl ⟨by decide,by decide⟩,_,_,rfl,rfl,c,_,rfl,by omega,by omega,fun n2=>⟨_,_,rfl,rfl,?_⟩⟩;exact ⟨rfl,_,_,rfl⟩
  ·rintro σ H2 ⟨rfl,n,vj,rfl⟩
   exact ⟨_,rfl,szZ1,fun p hp=>k _ p hp⟩
inductive spSpanH (vs:List V)(H:Hp)(Q:VK)(_:XK):Prop
 | mk (p tq e:ai)(n b s g wd:Int)(ts:List Int)(kb:Bool)(_:vs=[.ref p,.ref tq,.int b,.ref e,.int wd,.bl kb])(_:H p=some (.lst [.int n]))(_:H tq=some (.lst (ts.map V.int)))(_:tq≠p)(_:H e=some (.tup [.int s,.int g]))(_:1≤b)(_:b≤10 ^ 40)(_:ts.length≤16)(_:0≤s)(_:s<ts.length)(_:0≤g)(_:g<ts.length)(_:s≠g)(_:0≤wd)(_:wd<b)(_:∀ (t:ai) (x:Sn) (H':Hp),H t=none→Mv p H H'→H' t=some (.tup [.int x.s,.int x.g,.int x.l,.int x.o,.int x.w])→SnOk b ts.length x→x.o - x.l=wd→(kb=true→fb b ts x≤x.o - x.l)→x.s=s→x.g=g→Q (.ref t) H')
abbrev oH:cP:=top 51
theorem iD:cb ["_law_pot_here","_law_times","_law_beat","_law_ends","_law_width","_law_kept","_law_start","_law_goal","_law_least","_law_weight"] pzi (defScope oH):=by trivial
theorem ok_spanH (F:Fun K "_law_span" "_law_span" oH f fd)(G1:Fn K mg "_law_take" sTake pzc f1 fd1):cS P w K mg base CX0 2 f fd pzi spSpanH:=by
 have F1:cS P w K mg base CX0 1 f1 fd1 pzc mh:=kX G1.F;refine F.ok iD (by contradiction) (fun cdv A outer st0 H vs Q E hr h=>?_);obtain ⟨p,tq,e,n,b,s,g,wd,ts,kb,rfl,hp,htq,ntp,he,b1,b2,few,s0,s1,g0,g1,sg,w0,w1,k⟩:=h;refine ⟨_,PSl.h (bc ⟨(ps_asg (pv 3) (pg_tup rfl (iG (dX (i:=6) iD.nd rfl (.inl rfl)) (iG (dX (i:=7) iD.nd rfl (.inl rfl)) nU))))⟩
  (bc ⟨(bD (i:=8) iD.nd rfl (.inl rfl) (pc1 G1 F1 hr (af (pv 0) (af (pv 2) aC))))⟩
  (bc ⟨(kR (i7 (pt_val (pv 5)) (df (bD (i:=8) iD.nd rfl (.inl rfl) (cp jn (cp iH (cp iH (d9 fA (pv 1) (pv 7) (fun _ _=>rfl)) (d9 fA (pv 1) (pv 6) (fun _ _=>rfl))) (cp jn (pv 8) (cp fm (pv 4) bo))) (pv 2)))) fv))⟩
  (bc ⟨(bD (i:=8) iD.nd rfl (.inl rfl) (cp fm (pv 8) (cp iQ (pv 2) (PEs.h (k_ix fA (mr (dI iw (dI iw (dI iw (dI ⟨pc1 G1 F1 hr (af (pv 0) (af (cp nV bo bo) aC))⟩ oz))))) ⟨pc1 G1 F1 hr (af (pv 0) (af bo aC))⟩ (fun _ _=>rfl))))))⟩
  (bc ⟨(bD (i:=9) iD.nd rfl (.inl rfl) (PEs.h (mr (dI iw (dI iw (dI ⟨pc1 G1 F1 hr (af (pv 0) (af bo aC))⟩ (dI ⟨pc1 G1 F1 hr (af (pv 0) (af (cp fm (cp nV bo bo) bo) aC))⟩ oz)))))))⟩
  (dh ⟨(cz (pe_tup (af (pv 6) (af (pv 7) (af (pv 8) (af (cp fm (pv 8) (pv 4)) (af (d9 fA (pv 9) (pc1 G1 F1 hr (af (pv 0) (af bo aC))) (fun _ _=>rfl)) aC)))))))⟩)))))),?_⟩
 refine ⟨_,rfl,e,_,rfl,SqT.of he,rfl,_,_,rfl,_,_,rfl,rfl,?_⟩;refine ⟨_,rfl,_,rfl,p,n,b,rfl,hp,by omega,by omega,fun r1 H1 a1 c1 M1=>?_⟩;have ht1:=M1.at htq ntp;refine ⟨fun σ' H'=>Mv p H H'∧∃ l,0≤l∧l<b∧(kb=true→∃ r,l=(tm ts g - tm ts s - r % (wd+1)) % b)∧σ'=[some (.ref p),some (.ref tq),some (.int b),some (.ref e),some (.int wd),some (.bl kb),some (.int s),some (.int g),some (.int l),none],?_,?_⟩
 rotate_left
 ·refine ⟨_,rfl,_,rfl,?_⟩
  refine ite2 (fun _=>?_) (fun hk=>⟨M1,r1,a1,c1,fun z=>o6 z hk,rfl⟩);refine ⟨_,rfl,_,rfl,tq,_,_,_,rfl,rfl,SqL.of ht1,ow g0 g1,_,rfl,_,rfl,tq,_,_,_,rfl,rfl,SqL.of ht1,ow s0 s1,_,_,rfl,rfl,_,rfl,_,rfl,_,_,rfl,rfl,_,_,rfl,rfl,(by show (0:Int)<wd+1;omega),_,_,rfl,rfl,_,rfl,_,_,rfl,rfl,(by show (0:Int)<b;omega),?_⟩;exact ⟨M1,_,cG _ (by omega),cB _ (by omega),fun _=>⟨r1,rfl⟩,rfl⟩
 rintro σ' HC ⟨MC,l,l0,l1,hkl,rfl⟩;obtain ⟨nC,hpC⟩:=MC.2;refine ⟨_,rfl,_,rfl,_,rfl,_,_,rfl,rfl,⟨by decide,by decide,by decide⟩,p,_,_,rfl,hpC,by decide,by decide,fun rD HD aD cD MD=>⟨szZ4,fun qE hqE=>?_⟩⟩;have MD:=MC.trans MD;have cD:rD<10 ^ 9:=cD;have nqE:=MD.ne hqE;have ME:=MD.new (o:= .lst [.int 0,.int 0,.int 1,.int rD]) hqE;have hE:(upd HD qE (.lst [.int 0,.int 0,.int 1,.int rD])) qE=some (.lst [.int 0,.int 0,.int 1,.int rD]):=aU;obtain ⟨nE,hpE⟩:=ME.2;refine ⟨_,rfl,p,_,4,rfl,hpE,by decide,by decide,fun rF HF aF cF MF=>?_⟩;have hF:=MF.at hE nqE;have MF:=ME.trans MF;clear ME hE hpE;obtain ⟨vF,eF,mF⟩:=lU (xs:=[V.int 0,V.int 0,V.int 1,V.int rD]) aF cF;obtain ⟨j,rfl,j0,j1⟩:∃ i,vF=V.int i∧0≤i∧i≤10 ^ 9:=by
  simp only [az,cq,or_false] at mF
  rcases mF with rfl | rfl | rfl | rfl
  ·exact ⟨_,rfl,by decide,by decide⟩
  ·exact ⟨_,rfl,by decide,by decide⟩
  ·exact ⟨_,rfl,by decide,by decide⟩
  ·exact ⟨_,rfl,by omega,by omega⟩
 refine ⟨qE,_,_,_,rfl,rfl,SqL.of hF,eF,_,_,rfl,rfl,.inr ⟨by omega,by omega⟩,_,_,rfl,rfl,?_⟩;have bn0:0≤b * j:=Int.mul_nonneg (by omega) j0;have bn1:b * j≤10 ^ 40 * 10 ^ 9:=Int.mul_le_mul b2 j1 j0 (by decide);obtain ⟨nF,hpF⟩:=MF.2;refine ⟨_,rfl,p,_,10,rfl,hpF,by decide,by decide,fun rH HH aH cH MH=>?_⟩;have MH:=MF.trans MH;obtain ⟨nH,hpH⟩:=MH.2;refine ⟨_,rfl,_,_,rfl,rfl,⟨by decide,by decide,by decide⟩,_,_,rfl,rfl,p,_,_,rfl,hpH,by decide,by decide,fun rI HI aI cI MI=>⟨szZ4,fun qJ hqJ=>?_⟩⟩;have MI:=MH.trans MI;have cI:rI<10 ^ 12+1:=cI;have nqJ:=MI.ne hqJ;have MJ:=MI.new (o:= .lst [.int 0,.int 1,.int rH,.int rI]) hqJ;have hJ:(upd HI qJ (.lst [.int 0,.int 1,.int rH,.int rI])) qJ=some (.lst [.int 0,.int 1,.int rH,.int rI]):=aU;obtain ⟨nJ,hpJ⟩:=MJ.2;refine ⟨_,rfl,_,rfl,_,rfl,_,rfl,_,rfl,_,_,rfl,rfl,_,rfl,_,rfl,p,_,4,rfl,hpJ,by decide,by decide,fun rK HK aK cK MK=>?_⟩;have hK:=MK.at hJ nqJ;have MK:=MJ.trans MK;clear MJ hJ hpJ;obtain ⟨vK,eK,mK⟩:=lU (xs:=[V.int 0,V.int 1,V.int rH,V.int rI]) aK cK;obtain ⟨wt,rfl,t0,t1⟩:∃ i,vK=V.int i∧0≤i∧i≤1000000000000:=by
  simp only [az,cq,or_false] at mK
  rcases mK with rfl | rfl | rfl | rfl
  ·exact ⟨_,rfl,by decide,by decide⟩
  ·exact ⟨_,rfl,by decide,by decide⟩
  ·exact ⟨_,rfl,by omega,by omega⟩
  ·exact ⟨_,rfl,by omega,by omega⟩
 refine ⟨qJ,_,_,_,rfl,rfl,SqL.of hK,eK,szZ5,fun t ht=>?_⟩;have ntp:=MK.ne ht;have htH:H t=none:=by
  cases z:H t with
  | none=>rfl
  | some o=>rw [MK.1 t o ntp z] at ht;cases ht
 refine k t ⟨s,g,l+b * j,l+b * j+wd,wt⟩ _ htH (MK.new ht) aU ⟨s0,s1,g0,g1,sg,by show 0≤l+b * j;omega,by show l+b * j≤l+b * j+wd;omega,by show l+b * j+wd<l+b * j+b;omega,by show l+b * j+wd<10 ^ 60;omega,t0,t1⟩ (by show l+b * j+wd - (l+b * j)=wd;omega) (fun z=>?_) rfl rfl;obtain ⟨r,hr'⟩:=hkl z;show fb b ts _≤l+b * j+wd - (l+b * j);rw [show l+b * j+wd - (l+b * j)=wd by omega];exact kept_wait (r:=r) (j:=j) b1 w0 w1 (by rw [hr']) rfl
inductive spTied (vs:List V)(H:Hp)(Q:VK)(_:XK):Prop
 | mk (p tq:ai)(n b j lim so:Int)(ts:List Int)(_:vs=[.ref p,.ref tq,.int b,.int j,.int lim,.int so])(_:H p=some (.lst [.int n]))(_:H tq=some (.lst (ts.map V.int)))(_:tq≠p)(_:1≤b)(_:b≤10 ^ 40)(_:ts.length≤16)(_:1≤j)(_:j<ts.length)(_:1≤lim)(_:lim≤1000)(_:∀ (t:ai) (x:Sn) (H':Hp),H t=none→t≠p→Mv p H H'→H' t=some (.tup [.int x.s,.int x.g,.int x.l,.int x.o,.int x.w])→SnOk b ts.length x→x.o - x.l≤lim - 1→(decide (so≤0)=true→fb b ts x≤x.o - x.l)→((x.s=j∧0≤x.g∧x.g<j)∨(x.g=j∧0≤x.s∧x.s<j))→Q (.ref t) H')
inductive spMore (vs:List V)(H:Hp)(Q:VK)(_:XK):Prop
 | mk (p tq:ai)(n b mo so:Int)(ts:List Int)(_:vs=[.ref p,.ref tq,.int b,.int mo,.int so])(_:H p=some (.lst [.int n]))(_:H tq=some (.lst (ts.map V.int)))(_:tq≠p)(_:1≤b)(_:b≤10 ^ 40)(_:ts.length≤16)(_:2≤ts.length)(_:0≤mo)(_:∀ (t:ai) (x:Sn) (H':Hp),H t=none→t≠p→Mv p H H'→H' t=some (.tup [.int x.s,.int x.g,.int x.l,.int x.o,.int x.w])→SnOk b ts.length x→x.o - x.l≤mo→(decide (so≤0)=true→fb b ts x≤x.o - x.l)→Q (.ref t) H')
theorem Mv.none {p t:ai}{H H1:Hp}(M:Mv p H H1)(ht:H1 t=none):H t=none∧t≠p:=by
 have ntp:=M.ne ht;refine ⟨?_,ntp⟩;cases z:H t with
 | none=>rfl
 | some o=>rw [M.1 t o ntp z] at ht;cases ht
abbrev sTied:cP:=top 52
abbrev sMore:cP:=top 53
theorem scTied:cb ["_law_pot_here","_law_times","_law_beat","_law_k","_law_lim","_law_spoils","_law_width","_law_other","_law_ends"] pzv (defScope sTied):=by trivial
theorem ok_tied (F:Fun K "_law_tied" "_law_tied" sTied f fd)(T:Nm mg)(G1:Fn K mg "_law_take" sTake pzc f1 fd1)(G2:Fn K mg "_law_span" oH pzi f2 fd2):cS P w K mg base CX0 3 f fd pzv spTied:=by
 have F1:cS P w K mg base CX0 1 f1 fd1 pzc mh:=kX G1.F;have F2:cS P w K mg base CX0 2 f2 fd2 pzi spSpanH:=ok_spanH G2.F G1;refine F.ok scTied (by contradiction) (fun cdv A outer st0 H vs Q E hr h=>?_);obtain ⟨p,tq,n,b,j,lim,so,ts,rfl,hp,htq,ntp,b1,b2,few,j1,j2,m1,m2,k⟩:=h;have hr1:Room 1 _:=hr.mono (by decide);refine ⟨_,PSl.h (bc ⟨(bD (i:=6) scTied.nd rfl (.inl rfl) (eh (call_min2 rfl) rfl T.min boot_min (af (pc1 G1 F1 hr1 (af (pv 0) (af (pv 4) aC))) (af (cp iH (pv 2) bo) aC))))⟩
  (bc ⟨(bD (i:=7) scTied.nd rfl (.inl rfl) (pc1 G1 F1 hr1 (af (pv 0) (af (pv 3) aC))))⟩
  (bc ⟨(bD (i:=8) scTied.nd rfl (.inl rfl) (PEs.h (k_ix fA (mr (dI ⟨dg (af (pv 7) (af (pv 3) aC))⟩ (dI ⟨dg (af (pv 3) (af (pv 7) aC))⟩ oz))) ⟨pc1 G1 F1 hr1 (af (pv 0) (af bo aC))⟩ (fun _ _=>rfl))))⟩
  (dh ⟨(cz (pc1 G2 F2 hr (af (pv 0) (af (pv 1) (af (pv 2) (af (pv 8) (af (pv 6) (af (kW op_ge (pc1 G1 F1 hr1 (af (pv 0) (af bo aC))) (pv 5) (dN _)) aC))))))))⟩)))),?_⟩
 refine ⟨_,rfl,_,rfl,p,n,lim,rfl,hp,by omega,by omega,fun r1 H1 a1 c1 M1=>⟨_,rfl,_,_,rfl,rfl,_,_,rfl,?_⟩⟩;obtain ⟨n1,hp1⟩:=M1.2;obtain ⟨wd,hwd,wd0,wd1,wd2⟩:∃ wd,wd=(if b - 1<r1 then b - 1 else r1)∧0≤wd∧wd<b∧wd≤lim - 1:=⟨_,rfl,by split <;> omega,by split <;> omega,by split <;> omega⟩;rw [←hwd];clear hwd;refine ⟨_,rfl,_,rfl,p,n1,j,rfl,hp1,by omega,by omega,fun r2 H2 a2 c2 M2=>?_⟩;have M2:=M1.trans M2;refine ⟨_,rfl,_,rfl,mx,fun t1 H3 S3 h3=>?_⟩;refine ⟨_,rfl,_,rfl,mx,fun t2 H4 S4 h4=>⟨mx,fun q hq=>?_⟩⟩;have M4:=M2.then (S3.trans S4);have h3:=S4 _ _ h3;have nqp:=M4.ne hq;have S5:Same H4 (upd H4 q (.lst [.ref t1,.ref t2])):=Same.put (Same.refl H4) hq;have h5:(upd H4 q (.lst [.ref t1,.ref t2])) q=some (.lst [.ref t1,.ref t2]):=aU;generalize upd H4 q (.lst [.ref t1,.ref t2])=H5 at S5 h5 ⊢;have M5:=M4.then S5;obtain ⟨n5,hp5⟩:=M5.2;refine ⟨_,rfl,p,n5,2,rfl,hp5,by decide,by decide,fun r6 H6 a6 c6 M6=>?_⟩;have h6:=M6.at h5 nqp;have h36:=Mv.tupK hp5 M6 _ _ (S5 _ _ h3);have h46:=Mv.tupK hp5 M6 _ _ (S5 _ _ h4);have M6:=M5.trans M6;have fin:∀ (e:ai) (s g:Int),H6 e=some (.tup [.int s,.int g])→0≤s→s<ts.length→0≤g→g<ts.length→s≠g→((s=j∧0≤g∧g<j)∨(g=j∧0≤s∧s<j))→∀ (r7:Int) (H7:Hp),Mv p H6 H7→0≤r7→∀ E',spSpanH [.ref p,.ref tq,.int b,.ref e,.int wd,.bl (decide (r7 ≥ so))] H7 Q E':=by
  intro e s g he s0 s1 g0 g1 sg sj r7 H7 M7 r70 _;obtain ⟨n6,hp6⟩:=M6.2;have he7:=Mv.tupK hp6 M7 _ _ he;have M7:=M6.trans M7;obtain ⟨n7,hp7⟩:=M7.2;refine ⟨p,tq,e,n7,b,s,g,wd,ts,_,rfl,hp7,M7.at htq ntp,ntp,he7,b1,b2,few,s0,s1,g0,g1,sg,wd0,wd1,fun t x H8 ht M8 h8 ok ew kw es eg=>?_⟩;obtain ⟨y1,y2⟩:=M7.none ht;refine k t x H8 y1 y2 (M7.trans M8) h8 ok (by omega) (fun z=>kw (o8 (by have:=pe z;omega))) ?_;rw [es,eg];exact sj
 have c6:r6<2:=c6;have r6e:r6=0∨r6=1:=by omega
 obtain ⟨n6,hp6⟩:=M6.2
 rcases r6e with rfl | rfl
 ·refine ⟨q,_,_,_,rfl,rfl,SqL.of h6,aJ (j:=0) rfl,?_⟩
  refine ⟨_,rfl,_,rfl,_,rfl,_,rfl,_,rfl,_,rfl,p,n6,16,rfl,hp6,by decide,by decide,fun r7 H7 a7 c7 M7=>⟨_,rfl,_,_,rfl,rfl,?_⟩⟩;exact fin t1 r2 j h36 a2 (by omega) (by omega) j2 (by omega) (.inr ⟨rfl,a2,c2⟩) r7 H7 M7 a7 E0
 ·refine ⟨q,_,_,_,rfl,rfl,SqL.of h6,aJ (j:=1) rfl,?_⟩
  refine ⟨_,rfl,_,rfl,_,rfl,_,rfl,_,rfl,_,rfl,p,n6,16,rfl,hp6,by decide,by decide,fun r7 H7 a7 c7 M7=>⟨_,rfl,_,_,rfl,rfl,?_⟩⟩;exact fin t2 j r2 h46 (by omega) j2 a2 (by omega) (by omega) (.inl ⟨rfl,a2,c2⟩) r7 H7 M7 a7 E0
theorem ke:cb ["_law_pot_here","_law_times","_law_beat","_law_most","_law_spoils","_law_many","_law_start","_law_goal","_law_width"] pzk (defScope sMore):=by trivial
theorem ok_more (F:Fun K "_law_more" "_law_more" sMore f fd)(T:Nm mg)(G1:Fn K mg "_law_take" sTake pzc f1 fd1)(G2:Fn K mg "_law_span" oH pzi f2 fd2):cS P w K mg base CX0 3 f fd pzk spMore:=by
 have F1:cS P w K mg base CX0 1 f1 fd1 pzc mh:=kX G1.F;have F2:cS P w K mg base CX0 2 f2 fd2 pzi spSpanH:=ok_spanH G2.F G1;refine F.ok ke (by contradiction) (fun cdv A outer st0 H vs Q E hr h=>?_);obtain ⟨p,tq,n,b,mo,so,ts,rfl,hp,htq,ntp,b1,b2,few,m2,mo0,k⟩:=h;have hr1:Room 1 _:=hr.mono (by decide);refine ⟨_,PSl.h (bc ⟨(bD (i:=5) ke.nd rfl (.inl rfl) (eh cZ rfl T.len cQ (af (pv 1) aC)))⟩
  (bc ⟨(bD (i:=6) ke.nd rfl (.inl rfl) (pc1 G1 F1 hr1 (af (pv 0) (af (pv 5) aC))))⟩
  (bc ⟨(bD (i:=7) ke.nd rfl (.inl rfl) (cp jn (cp fm (cp fm (pv 6) bo) (pc1 G1 F1 hr1 (af (pv 0) (af (cp iH (pv 5) bo) aC)))) (pv 5)))⟩
  (bc ⟨(bD (i:=8) ke.nd rfl (.inl rfl) (PEs.h (k_ix fA (mr (dI iw (dI ⟨pc1 G1 F1 hr1 (af (pv 0) (af bo aC))⟩ (dI ⟨pc1 G1 F1 hr1 (af (pv 0) (af (pv 2) aC))⟩ (dI (k_op iH ⟨pv 2⟩ iw) (dI ⟨pc1 G1 F1 hr1 (af (pv 0) (af bo aC))⟩ oz)))))) ⟨pc1 G1 F1 hr1 (af (pv 0) (af bo aC))⟩ (fun _ _=>rfl))))⟩
  (bc ⟨(bD (i:=8) ke.nd rfl (.inl rfl) (eh (call_min3 rfl) rfl T.min boot_min (af (pv 8) (af (pv 3) (af (cp iH (pv 2) bo) aC)))))⟩
  (dh ⟨(cz (pc1 G2 F2 hr (af (pv 0) (af (pv 1) (af (pv 2) (af (dg (af (pv 6) (af (pv 7) aC))) (af (pv 8) (af (kW op_ge (pc1 G1 F1 hr1 (af (pv 0) (af bo aC))) (pv 4) (dN _)) aC))))))))⟩)))))),?_⟩
 refine ⟨_,rfl,tq,_,rfl,.inl (SqL.of htq),?_⟩;rw [aa];obtain ⟨m,em⟩:∃ m:Int,m=(ts.length:Int):=⟨_,rfl⟩;rw [←em];refine ⟨_,rfl,_,rfl,p,n,m,rfl,hp,by omega,by omega,fun r1 H1 a1 c1 M1=>?_⟩;obtain ⟨n1,hp1⟩:=M1.2;refine ⟨_,rfl,_,_,rfl,rfl,_,rfl,_,rfl,_,_,rfl,rfl,p,n1,_,rfl,hp1,by omega,by omega,fun r2 H2 a2 c2 M2=>?_⟩;have M2:=M1.trans M2;obtain ⟨n2,hp2⟩:=M2.2;refine ⟨_,_,rfl,rfl,_,rfl,_,_,rfl,rfl,(by show (0:Int)<m;omega),?_⟩;obtain ⟨g0,g1,g2⟩:=goal_ok a1 c1 a2 c2;generalize hg:(r1+1+r2) % m=g at g0 g1 g2 ⊢;refine ⟨_,rfl,p,n2,4,rfl,hp2,by decide,by decide,fun r3 H3 a3 c3 M3=>?_⟩;have M3:=M2.trans M3;obtain ⟨n3,hp3⟩:=M3.2;refine ⟨_,rfl,_,rfl,p,n3,b,rfl,hp3,by omega,by omega,fun r4 H4 a4 c4 M4=>?_⟩;have M4:=M3.trans M4;obtain ⟨n4,hp4⟩:=M4.2;refine ⟨_,rfl,_,_,rfl,rfl,_,rfl,p,n4,2,rfl,hp4,by decide,by decide,fun r5 H5 a5 c5 M5=>⟨szZ5,fun q hq=>?_⟩⟩;have M5:=M4.trans M5;have nqp:=M5.ne hq;have S6:Same H5 (upd H5 q (.lst [.int 0,.int r3,.int r4,.int (b - 1),.int r5])):=Same.put (Same.refl H5) hq;have h6:(upd H5 q (.lst [.int 0,.int r3,.int r4,.int (b - 1),.int r5])) q=some (.lst [.int 0,.int r3,.int r4,.int (b - 1),.int r5]):=aU;generalize upd H5 q (.lst [.int 0,.int r3,.int r4,.int (b - 1),.int r5])=H6 at S6 h6 ⊢;have M6:=M5.then S6;obtain ⟨n6,hp6⟩:=M6.2;refine ⟨_,rfl,p,n6,5,rfl,hp6,by decide,by decide,fun r7 H7 a7 c7 M7=>?_⟩;have h7:=M7.at h6 nqp;have M7:=M6.trans M7;obtain ⟨v7,e7,m7⟩:=lU (xs:=[V.int 0,V.int r3,V.int r4,V.int (b - 1),V.int r5]) a7 c7;obtain ⟨w0,rfl,w00⟩:∃ i,v7=V.int i∧0≤i:=by
  simp only [az,cq,or_false] at m7
  rcases m7 with rfl | rfl | rfl | rfl | rfl
  ·exact ⟨_,rfl,by decide⟩
  ·exact ⟨_,rfl,a3⟩
  ·exact ⟨_,rfl,a4⟩
  ·exact ⟨_,rfl,by omega⟩
  ·exact ⟨_,rfl,a5⟩
 refine ⟨q,_,_,_,rfl,rfl,SqL.of h7,e7,?_⟩;refine ⟨_,rfl,_,rfl,_,rfl,_,_,rfl,rfl,_,_,_,rfl,?_⟩;have wl:=min3_le w0 mo (b - 1);have wg:=min3_ge (z:=0) w00 mo0 (by omega:(0:Int)≤b - 1);generalize min3 w0 mo (b - 1)=wd at wl wg ⊢;obtain ⟨n7,hp7⟩:=M7.2;refine ⟨_,rfl,_,rfl,_,rfl,_,rfl,_,rfl,mx,fun e H8 S8 h8=>?_⟩;have M8:=M7.then S8;obtain ⟨n8,hp8⟩:=M8.2;refine ⟨_,rfl,_,rfl,p,n8,16,rfl,hp8,by decide,by decide,fun r9 H9 a9 c9 M9=>⟨_,rfl,_,_,rfl,rfl,?_⟩⟩;have h9:H9 e=some (.tup [.int r1,.int g]):=Mv.tupK hp8 M9 _ _ h8;have M9:=M8.trans M9;obtain ⟨n9,hp9⟩:=M9.2;refine ⟨p,tq,e,n9,b,r1,g,wd,ts,_,rfl,hp9,M9.at htq ntp,ntp,h9,b1,b2,few,a1,by omega,g0,by omega,g2,wg,by omega,fun t x HA ht MA hA ok ew kw es eg=>?_⟩;obtain ⟨y1,y2⟩:=M9.none ht;exact k t x HA y1 y2 (M9.trans MA) hA ok (by omega) (fun z=>kw (o8 (by have:=pe z;omega)))
inductive spNetH (K:ak)(vs:List V)(H:Hp)(Q:VK)(_:XK):Prop
 | mk (a:ai)(ns:List Int)(mo ex so:Int)(_:vs=[.ref a,.int mo,.int ex,.int so])(_:SqL K H a (ns.map V.int))(_:1≤mo)(_:mo≤8)(_:0≤ex)(_:ex≤20)(_:∀ (q u:ai) (v:V) (b m:Int) (sp:List Sn) (ts:List Int) (H':Hp),Same H H'→H' q=some (.tup [v,.ref u])→IsD H' v (jL b m sp)→NetT b m sp→b≤10 ^ 40→m≤mo→H' u=some (.tup (ts.map V.int))→(ts.length:Int)=m→(∀ x∈ts,0≤x∧x<b)→(so≤0→g9 b ts sp=true)→kz m sp (ie m - 1)→(sp.length:Int)≤7+ex→Q (.ref q) H')
theorem lim_at {m:Int}(h0:1≤m)(h1:m≤8):atI [V.int 1,V.int 1,V.int 40,V.int 7,V.int 4,V.int 3,V.int 2,V.int 2,V.int 2] m=some (V.int (ie m)):=by
 obtain ⟨n,rfl⟩:=cu (by omega:0≤m);have:n=1∨n=2∨n=3∨n=4∨n=5∨n=6∨n=7∨n=8:=by omega
 rcases this with rfl | rfl | rfl | rfl | rfl | rfl | rfl | rfl <;> exact aJ rfl
abbrev sNetH:cP:=top 54
theorem i6:cb ["_law_script","_law_most","_law_extras","_law_spoils","_law_head","_law_many","_law_way","_law_beat","_law_apart","_law_count","_law_pot_here","_law_times","_law_lim","_law_spans","_law_k","_law_j","_law_place"] pzq (defScope sNetH):=by trivial
theorem ok_netH {f3 f4:ai}{fd3 fd4:bq}(F:Fun K "_law_net" "_law_net" sNetH f fd)(T:Nm mg)(T2:Nt mg)(G1:Fn K mg "_law_take" sTake pzc f1 fd1)(G2:Fn K mg "_law_pot" sPotT pze f2 fd2)(F2:cS P w K mg base CX0 2 f2 fd2 pze (spPotT K))
  (G3:Fn K mg "_law_tied" sTied pzv f3 fd3) (F3:cS P w K mg base CX0 3 f3 fd3 pzv spTied)
  (G4:Fn K mg "_law_more" sMore pzk f4 fd4) (F4:cS P w K mg base CX0 3 f4 fd4 pzk spMore):cS P w K mg base CX0 4 f fd pzq (spNetH K):=by
 have F1:cS P w K mg base CX0 1 f1 fd1 pzc mh:=kX G1.F;refine F.ok i6 (by contradiction) (fun cdv A outer st0 H vs Q E hr h=>?_);obtain ⟨a,ns,mo,ex,so,rfl,ha,mo1,mo2,ex1,ex2,k⟩:=h;have hr1:Room 1 _:=hr.mono (by decide);have hr2:Room 2 _:=hr.mono (by decide);refine ⟨_,PSl.h (bc ⟨(bD (i:=4) i6.nd rfl (.inl rfl) (pc1 G2 F2 hr2 (af (pv 0) (af bo aC))))⟩
  (bc ⟨(bD (i:=5) i6.nd rfl (.inl rfl) (cp fm bo (pc1 G1 F1 hr1 (af (pv 4) (af (pv 1) aC)))))⟩
  (bc ⟨(bD (i:=6) i6.nd rfl (.inl rfl) (pc1 G1 F1 hr1 (af (pv 4) (af bo aC))))⟩
  (bc ⟨(bD (i:=7) i6.nd rfl (.inr rfl) (PEs.h (k_ix fA (k_lst (dI (k_op fm iw ⟨pc1 G1 F1 hr1 (af (pv 4) (af bo aC))⟩) (dI (k_op fm iw ⟨pc1 G1 F1 hr1 (af (pv 4) (af bo aC))⟩) (dI iw (dI iw oz))))) ⟨pv 6⟩ (fun _ _=>rfl))))⟩
  (bc ⟨(kR (i7 (cU mB (pv 6) bo (dN _)) (df (bD (i:=7) i6.nd rfl (.inr rfl) (cp fm bo (pc1 G1 F1 hr1 (af (pv 4) (af (cp nV bo bo) aC)))))) fv))⟩
  (bc ⟨(bD (i:=8) i6.nd rfl (.inl rfl) (pc1 G1 F1 hr1 (af (pv 4) (af bo aC))))⟩
  (bc ⟨(bD (i:=9) i6.nd rfl (.inl rfl) (pc1 G1 F1 hr1 (af (pv 4) (af (cp fm (pv 2) bo) aC))))⟩
  (bc ⟨(bD (i:=10) i6.nd rfl (.inr rfl) (pc1 G2 F2 hr2 (af (pv 0) (af bo aC))))⟩
  (bc ⟨(l4 (iy:=11) (fr:=["_law_pot_here","_law_beat"]) (js:=[10,7]) i6.nd rfl (.inl rfl) rfl (jB rfl T2.range (af (pv 5) aC)) (by trivial) rfl (by trivial) rfl (by exists sNetH) (by trivial) rfl (by trivial) (fun _ _ _ _ _=>⟨(pc1 G1 F1 hr1 (af (pv 1) (af (pv 2) aC))),ia⟩))⟩
  (bc ⟨(bD (i:=12) i6.nd rfl (.inl rfl) (PEs.h (k_ix fA (k_lst (dI iw (dI iw (dI iw (dI iw (dI iw (dI iw (dI iw (dI iw (dI iw oz)))))))))) ⟨pv 5⟩ (fun _ _=>rfl))))⟩
  (bc ⟨(kR (bD (i:=13) i6.nd rfl (.inl rfl) (jk aC)))⟩
  (bc ⟨(i8 bT rfl (pi_range2 rfl T2.range (af bo (af (pv 5) aC))) (dX (i:=14) i6.nd rfl (.inl rfl)) (df (i7 (PW.pt (pw_or (cU op_ne (pv 8) bo (dN _)) (pw_or1 (cU mB (cp jn (pv 14) bo) bo (dN _))))) (df (jh (mz bC cL cJ iI (pv 13) (af (pc1 G3 F3 hr (af (pc1 G2 F2 hr2 (af (pv 0) (af (cp fm bo (pv 14)) aC))) (af (pv 11) (af (pv 7) (af (pv 14) (af (pv 12) (af (pv 3) aC))))))) aC)))) fv)))⟩
  (bc ⟨(kR (i7 (cU op_ne (pv 8) bo (dN _)) (df (bD (i:=12) i6.nd rfl (.inl rfl) (pv 7))) fv))⟩
  (bc ⟨(kR (i7 (cU op_gt (pv 5) bo (dN _)) (df (i8 bT rfl (jB rfl T2.range (af (pv 9) aC)) (dX (i:=15) i6.nd rfl (.inl rfl)) (PSl.h (bc ⟨(bD (i:=10) i6.nd rfl (.inr rfl) (pc1 G2 F2 hr2 (af (pv 0) (af (cp fm bo (pv 15)) aC))))⟩
  (bc ⟨(bD (i:=16) i6.nd rfl (.inl rfl) (pc1 G1 F1 hr1 (af (pv 10) (af (cp fm (eh cZ rfl T.len cQ (af (pv 13) aC)) bo) aC))))⟩
  (dh ⟨(jh (mz bC PySem.F.slot_list_insert PySem.F.type_list_insert mt_insert (pv 13) (af (pv 16) (af (pc1 G4 F4 hr (af (pv 10) (af (pv 11) (af (pv 7) (af (cp iH (pv 12) bo) (af (pv 3) aC)))))) aC))))⟩)))))) fv))⟩
  (dh ⟨(cz (dg (af (dg (af (pv 7) (af (pv 5) (af (gv iJ rfl T.ttup iA (af (pv 13) aC)) aC)))) (af (gv iJ rfl T.ttup iA (af (pv 11) aC)) aC))))⟩))))))))))))))),?_⟩
 refine ⟨_,rfl,a,ns,1,rfl,ha,by decide,by decide,fun n0 ph hph=>?_⟩;have S0:Same H (upd H ph (.lst [.int n0])):=Same.put (Same.refl H) hph;have h0:(upd H ph (.lst [.int n0])) ph=some (.lst [.int n0]):=aU;generalize upd H ph (.lst [.int n0])=H0 at S0 h0 ⊢;refine ⟨_,rfl,_,rfl,ph,n0,mo,rfl,h0,by omega,by omega,fun r1 H1 a1 c1 M1=>⟨_,_,rfl,rfl,?_⟩⟩;obtain ⟨n1,hp1⟩:=M1.2;refine ⟨_,rfl,ph,n1,4,rfl,hp1,by decide,by decide,fun wy H2 w0 w1 M2=>?_⟩;have M2:=M1.trans M2;obtain ⟨n2,hp2⟩:=M2.2;refine ⟨_,rfl,ph,n2,12,rfl,hp2,by decide,by decide,fun r3 H3 a3 c3 M3=>⟨_,_,rfl,rfl,?_⟩⟩;have M3:=M2.trans M3;obtain ⟨n3,hp3⟩:=M3.2;refine ⟨_,rfl,ph,n3,59,rfl,hp3,by decide,by decide,fun r4 H4 a4 c4 M4=>⟨_,_,rfl,rfl,szZ4,fun q5 H5 S5 h5=>?_⟩⟩;have M5:=(M3.trans M4).then S5;obtain ⟨v5,e5,m5⟩:=lU (xs:=[V.int (1+r3),V.int (2+r4),V.int 60,V.int 60]) w0 w1;obtain ⟨b0,rfl,b01,b02⟩:∃ i,v5=V.int i∧1≤i∧i≤10 ^ 40:=by
  simp only [az,cq,or_false] at m5
  rcases m5 with rfl | rfl | rfl | rfl
  ·exact ⟨_,rfl,by omega,by omega⟩
  ·exact ⟨_,rfl,by omega,by omega⟩
  ·exact ⟨_,rfl,by decide,by decide⟩
  ·exact ⟨_,rfl,by decide,by decide⟩
 refine ⟨_,rfl,q5,_,_,_,rfl,rfl,SqL.of h5,e5,?_⟩;refine ⟨fun σ' H'=>Mv ph H0 H'∧∃ b,1≤b∧b≤10 ^ 40∧σ'=[some (.ref a),some (.int mo),some (.int ex),some (.int so),some (.ref ph),some (.int (1+r1)),some (.int wy),some (.int b),none,none,none,none,none,none,none,none,none],?_,?_⟩
 rotate_left
 ·refine ⟨_,rfl,rfl,_,rfl,?_⟩
  refine ite2 (fun _=>?_) (fun _=>⟨M5,b0,b01,b02,rfl⟩);obtain ⟨n5,hp5⟩:=M5.2;refine ⟨_,rfl,_,_,rfl,rfl,⟨by decide,by decide,by decide⟩,ph,n5,_,rfl,hp5,by decide,by decide,fun r6 H6 a6 c6 M6=>⟨_,_,rfl,rfl,?_⟩⟩;have c6:r6<10 ^ 40:=c6;exact ⟨M5.trans M6,1+r6,by omega,by omega,rfl⟩
 clear M5 M4 M3 M2 M1 hp1 hp2 hp3 S5 h5 e5 m5 b01 b02 h0 a3 c3 a4 c4;rintro σ' H6 ⟨M6,b,b1,b2,rfl⟩;obtain ⟨m,em⟩:∃ m,m=1+r1:=⟨_,rfl⟩;have m1:1≤m:=by omega
 have m2:m≤mo:=by omega
 rw [←em];clear em;obtain ⟨n6,hp6⟩:=M6.2;refine ⟨_,rfl,ph,n6,8,rfl,hp6,by decide,by decide,fun ap H7 a7 c7 M7=>?_⟩;have M7:=M6.trans M7;obtain ⟨n7,hp7⟩:=M7.2;refine ⟨_,rfl,_,rfl,_,_,rfl,rfl,ph,n7,_,rfl,hp7,by omega,by omega,fun cn H8 a8 c8 M8=>?_⟩;have M8:=M7.trans M8;have S8:Same H H8:=Same.mv S0 hph M8;clear M6 M7 hp6 hp7;refine ⟨_,rfl,a,ns,2,rfl,S8.seq ha,by decide,by decide,fun n9 pp hpp=>?_⟩;have hppH:=S8.free hpp;have S9:Same H (upd H8 pp (.lst [.int n9])):=Same.put S8 hpp;have h9:(upd H8 pp (.lst [.int n9])) pp=some (.lst [.int n9]):=aU;generalize upd H8 pp (.lst [.int n9])=H9 at S9 h9 ⊢;refine ⟨_,rfl,m,rfl,by omega,by omega,?_⟩;refine kK (n:=m.toNat) (fun i zs HA=>Mv pp H9 HA∧∃ ts:List Int,zs=ts.map V.int∧ts.length=i∧∀ x∈ts,0≤x∧x<b) ⟨Mv.of (Same.refl H9) h9,[],rfl,rfl,fun _ h=>o6 h (by simp)⟩ (fun i zs HA _ ⟨_,ts,e,hl,_⟩=>by rw [e,aa,hl];exact aB _) (eU (by omega)) (fun i zs HA hi ⟨MA,ts,eA,lA,allA⟩=>?_) (fun zs HA ⟨MA,ts,eA,lA,allA⟩ tq htq=>?_)
 ·refine gB ?_
  obtain ⟨nA,hpA⟩:=MA.2;refine ⟨_,rfl,_,rfl,pp,nA,b,rfl,hpA,by omega,by omega,fun r HB rb0 rb1 MB=>⟨MA.trans MB,ts++[r],by rw [eA,aA];rfl,by rw [av,lA];rfl,fun x hx=>?_⟩⟩
  rcases aM.mp hx with hx | hx
  ·exact allA x hx
  ·rw [ax.mp hx];exact ⟨rb0,rb1⟩
 subst eA;have SA:Same H HA:=Same.mv S9 hppH MA;have htqH:=SA.free htq;have SB:Same H (upd HA tq (.lst (ts.map V.int))):=Same.put SA htq;have hB:(upd HA tq (.lst (ts.map V.int))) tq=some (.lst (ts.map V.int)):=aU;generalize upd HA tq (.lst (ts.map V.int))=HB at SB hB ⊢;have lt:(ts.length:Int)=m:=by omega
 clear SA MA S9 h9 htq;obtain ⟨l1,l2⟩:=limOf_pos m1 (by omega);refine ⟨(by show 9≤bj;decide),fun qC HC SC hC=>⟨_,rfl,qC,_,_,_,rfl,rfl,SqL.of hC,lim_at m1 (by omega),?_⟩⟩;have SC':=SB.trans SC;have htC:=SC _ _ hB;refine ⟨fun σ' H'=>Same H H'∧H' tq=some (.lst (ts.map V.int))∧∃ Ls,Ls≠tq∧H Ls=none∧H' Ls=some (.lst [])∧σ'=[some (.ref a),some (.int mo),some (.int ex),some (.int so),some (.ref ph),some (.int m),some (.int wy),some (.int b),some (.int ap),some (.int cn),some (.ref pp),some (.ref tq),some (.int (ie m)),some (.ref Ls),none,none,none],?_,?_⟩
 rotate_left
 ·refine ⟨bK _,fun Ls hLs=>?_⟩
  exact ⟨SC'.put hLs,by rw [bw (bz htC hLs)];exact htC,Ls,cw (bz htC hLs),SC'.free hLs,aU,rfl⟩
 clear SC' htC SC hC hB SB;rintro σ' HD ⟨SD,htD,Ls,nLt,hLsH,hLsD,rfl⟩;obtain ⟨kp,ekp⟩:∃ kp:Bool,kp=decide (so≤0):=⟨_,rfl⟩;obtain ⟨tie,etie⟩:∃ tie:Bool,tie= !decide (V.int ap=V.int 3):=⟨_,rfl⟩;refine ⟨_,rfl,1,m,rfl,⟨by decide,by decide,by omega,by omega⟩,?_⟩;refine lQ (lo:=1) (n:=(m - 1).toNat) (fun i σ H'=>Same H H'∧H' tq=some (.lst (ts.map V.int))∧∃ (vk:Option V) (zs:List V) (sp:List Sn),σ=[some (.ref a),some (.int mo),some (.int ex),some (.int so),some (.ref ph),some (.int m),some (.int wy),some (.int b),some (.int ap),some (.int cn),some (.ref pp),some (.ref tq),some (.int (ie m)),some (.ref Ls),vk,none,none]∧H' Ls=some (.lst zs)∧IsDs H' zs (eQ Sn.row sp)∧sp.length≤i∧HidN b m ts (ie m - 1) kp tie (1+i) sp) ⟨SD,htD,none,[],[],rfl,hLsD,.nil,aB _,HidN.nil⟩ ?_ ?_
 ·rintro i σ HE hi ⟨SE,htE,vk,zs,sp,rfl,hLsE,dE,lE,hidE⟩
  have lz:zs.length=sp.length:=by rw [dE.length];unfold eQ;rw [aa]
  have add:∀ (D:L2.Ends) (E':XK),(∀ σ' H',(Same H H'∧H' tq=some (.lst (ts.map V.int))∧∃ (vk:Option V) (zs:List V) (sp:List Sn),σ'=[some (.ref a),some (.int mo),some (.int ex),some (.int so),some (.ref ph),some (.int m),some (.int wy),some (.int b),some (.int ap),some (.int cn),some (.ref pp),some (.ref tq),some (.int (ie m)),some (.ref Ls),vk,none,none]∧H' Ls=some (.lst zs)∧IsDs H' zs (eQ Sn.row sp)∧sp.length≤i+1∧HidN b m ts (ie m - 1) kp tie (1+(i+1:Nat)) sp)→D.nx σ' H')→∀ (n p:_),HE p=none→spTied [.ref p,.ref tq,.int b,.int (1+(i:Int)),.int (ie m),.int so] (upd HE p (.lst [.int n])) (fun y H'=>rAppend (.ref Ls) [y] H' fun _ H''=>D.nx [some (.ref a),some (.int mo),some (.int ex),some (.int so),some (.ref ph),some (.int m),some (.int wy),some (.int b),some (.int ap),some (.int cn),some (.ref pp),some (.ref tq),some (.int (ie m)),some (.ref Ls),some (.int (1+(i:Int))),none,none] H'') E':=by
   intro D E' hD n p hp;have npt:=bz htE hp;have npL:=bz hLsE hp;refine ⟨p,tq,n,b,1+(i:Int),ie m,so,ts,rfl,aU,by rw [bw npt];exact htE,npt,b1,b2,by omega,by omega,by omega,l1,by omega,fun t x HF htF ntp MF hF okF wF kF eF=>?_⟩;have K1:TupK HE (upd HE p (.lst [.int n])):=fun q xs e=>by rw [bw (bz e hp)];exact e
   have K2:TupK HE HF:=K1.trans (Mv.tupK (n:=n) aU MF);have SF:Same H HF:=Same.mv (SE.put hp) (SE.free hp) MF;have htF':HF tq=some (.lst (ts.map V.int)):=MF.at (by rw [bw npt];exact htE) npt;have hLF:HF Ls=some (.lst zs):=MF.at (by rw [bw npL];exact hLsE) npL;refine ⟨Ls,zs,_,rfl,rfl,hLF,(aQ (by omega:zs.length<1000) (by decide:1000≤bj)),?_⟩;have KC:TupK HF (upd HF Ls (.lst (zs++[.ref t]))):=fF hLF;refine hD _ _ ⟨fun q o e=>?_,by rw [bw (cw nLt)];exact htF',_,zs++[.ref t],sp++[x],rfl,aU,?_,by rw [av];show sp.length+1≤i+1;omega,?_⟩
   ·rw [bw (fun z=>by rw [z,hLsH] at e;cases e)]
    exact SF q o e
   ·unfold eQ
    rw [aA];exact (fh (K2.trans KC) dE).append (.cons (.tup (KC _ _ hF) (IsDs.ints x.row)) .nil)
   ·have:=hidE.more (x:=x) (by omega) (by rw [←lt];exact okF) (fun z=>kF (by rw [←ekp];exact z)) wF eF
    rw [show (1:Int)+((i+1:Nat):Int)=1+(i:Int)+1 by omega];exact this
  refine ⟨_,rfl,rfl,_,rfl,?_⟩;refine ite2 (fun h1=>?_) (fun h1=>?_)
  ·refine ⟨_,rfl,.inl ⟨rfl,_,SqL.of hLsE⟩,_,rfl,_,rfl,_,_,rfl,rfl,a,ns,_,rfl,SE.seq ha,by omega,by omega,fun n p hp=>⟨_,rfl,_,rfl,_,rfl,_,rfl,_,rfl,?_⟩⟩
   exact add _ E0 (fun _ _ h=>h) n p hp
  ·refine ⟨_,rfl,_,_,rfl,rfl,(by show (0:Int)<2;decide),rfl,_,rfl,?_⟩
   refine ite2 (fun h2=>?_) (fun h2=>?_)
   ·refine ⟨_,rfl,.inl ⟨rfl,_,SqL.of hLsE⟩,_,rfl,_,rfl,_,_,rfl,rfl,a,ns,_,rfl,SE.seq ha,by omega,by omega,fun n p hp=>⟨_,rfl,_,rfl,_,rfl,_,rfl,_,rfl,?_⟩⟩
    exact add _ E0 (fun _ _ h=>h) n p hp
   ·have tf:tie=false:=by rw [etie];exact i3.mpr h1
    refine ⟨SE,htE,_,zs,sp,rfl,hLsE,dE,by omega,?_⟩;rw [tf] at hidE ⊢;exact hidE.skip _
 rintro σ HE ⟨SE,htE,vk,zs,sp,rfl,hLsE,dE,lE,hidE⟩;rw [show (1:Int)+((m - 1).toNat:Nat)=m by omega] at hidE;have lE7:(sp.length:Int)≤7:=by omega
 clear lE;refine ⟨fun σ' H'=>H'=HE∧∃ lim2,1≤lim2∧(tie=false→lim2=ie m)∧σ'=[some (.ref a),some (.int mo),some (.int ex),some (.int so),some (.ref ph),some (.int m),some (.int wy),some (.int b),some (.int ap),some (.int cn),some (.ref pp),some (.ref tq),some (.int lim2),some (.ref Ls),vk,none,none],?_,?_⟩
 rotate_left
 ·refine ⟨_,rfl,rfl,_,rfl,?_⟩
  refine ite2 (fun h1=>?_) (fun h1=>⟨rfl,ie m,l1,fun _=>rfl,rfl⟩);exact ⟨_,rfl,rfl,b,b1,(fun z=>by rw [etie,h1] at z;cases z),rfl⟩
 rintro σ' _ ⟨rfl,lim2,lim21,elim,rfl⟩;refine ⟨fun σ' H'=>Same H H'∧H' tq=some (.lst (ts.map V.int))∧∃ (v10 vj vp:Option V) (zs:List V) (sp:List Sn),σ'=[some (.ref a),some (.int mo),some (.int ex),some (.int so),some (.ref ph),some (.int m),some (.int wy),some (.int b),some (.int ap),some (.int cn),v10,some (.ref tq),some (.int lim2),some (.ref Ls),vk,vj,vp]∧H' Ls=some (.lst zs)∧IsDs H' zs (eQ Sn.row sp)∧(sp.length:Int)≤7+ex∧HidN b m ts (ie m - 1) kp tie m sp,?_,?_⟩
 rotate_left
 ·refine ⟨_,rfl,_,_,rfl,rfl,_,rfl,?_⟩
  refine ite2 (fun hm=>?_) (fun _=>⟨SE,htE,_,_,_,zs,sp,rfl,hLsE,dE,by omega,hidE⟩);have hm:m > 1:=pe hm;refine ⟨_,rfl,cn,rfl,by omega,by omega,?_⟩;refine lQ (n:=cn.toNat) (fun i σ H'=>Same H H'∧H' tq=some (.lst (ts.map V.int))∧∃ (v10 vj vp:Option V) (zs:List V) (sp:List Sn),σ=[some (.ref a),some (.int mo),some (.int ex),some (.int so),some (.ref ph),some (.int m),some (.int wy),some (.int b),some (.int ap),some (.int cn),v10,some (.ref tq),some (.int lim2),some (.ref Ls),vk,vj,vp]∧H' Ls=some (.lst zs)∧IsDs H' zs (eQ Sn.row sp)∧(sp.length:Int)≤7+i∧HidN b m ts (ie m - 1) kp tie m sp) ⟨SE,htE,_,_,_,zs,sp,rfl,hLsE,dE,by omega,hidE⟩ ?_ ?_
  ·clear hidE dE hLsE htE SE lE7 zs sp
   rintro i σ HE hi ⟨SE,htE,v10,vj,vp,zs,sp,rfl,hLsE,dE,lE,hidE⟩;have lz:zs.length=sp.length:=by rw [dE.length];unfold eQ;rw [aa]
   refine ⟨_,rfl,_,rfl,_,_,rfl,rfl,a,ns,_,rfl,SE.seq ha,by omega,by omega,fun n p hp=>?_⟩;have npt:=bz htE hp;have npL:=bz hLsE hp;have S1:Same HE (upd HE p (.lst [.int n])):=Same.put (Same.refl HE) hp;have hp1:(upd HE p (.lst [.int n])) p=some (.lst [.int n]):=aU;generalize upd HE p (.lst [.int n])=HF at S1 hp1 ⊢;refine ⟨_,rfl,_,rfl,Ls,_,rfl,.inl (SqL.of (S1 _ _ hLsE)),_,_,rfl,rfl,p,n,_,rfl,hp1,by omega,by omega,fun pl HG pl0 pl1 MG=>?_⟩;have MG:Mv p HF HG:=MG;have SG:Same H HG:=Same.mv (SE.trans S1) (SE.free hp) MG;have htG:=MG.at (S1 _ _ htE) npt;have hLG:=MG.at (S1 _ _ hLsE) npL;have KG:TupK HE HG:=fun q xs e=>Mv.tupK hp1 MG _ _ (S1 _ _ e)
   obtain ⟨nG,hpG⟩:=MG.2;refine ⟨_,rfl,.inl ⟨rfl,_,SqL.of hLG⟩,_,rfl,_,rfl,_,rfl,_,rfl,_,rfl,_,_,rfl,rfl,_,rfl,p,tq,nG,b,_,so,ts,rfl,hpG,htG,npt,b1,b2,by omega,by omega,(by show 0≤lim2 - 1;omega),fun t x HH htH ntp MH hH okH wH kH=>?_⟩;have SH:Same H HH:=Same.mv SG (SE.free hp) MH;have htH':=MH.at htG npt;have hLH:=MH.at hLG npL;have KH:TupK HE HH:=KG.trans (Mv.tupK hpG MH);refine ⟨Ls,zs,pl,.ref t,rfl,rfl,hLH,by omega,pl0,by omega,?_⟩;have KC:TupK HH (upd HH Ls (.lst (zs.take pl.toNat++ .ref t::zs.drop pl.toNat))):=fF hLH;refine ⟨fun q o e=>?_,by rw [bw (cw nLt)];exact htH',_,_,_,zs.take pl.toNat++ .ref t::zs.drop pl.toNat,sp.take pl.toNat++x::sp.drop pl.toNat,rfl,aU,?_,?_,?_⟩
   ·rw [bw (fun z=>by rw [z,hLsH] at e;cases e)]
    exact SH q o e
   ·have r:=fh (KH.trans KC) dE
    unfold eQ at r ⊢;rw [aA,bX,List.map_take,List.map_drop];exact (IsDs.takeN _ r).append (.cons (.tup (KC _ _ hH) (IsDs.ints x.row)) (IsDs.dropN _ r))
   ·rw [av,aS,bG,e8]
    omega
   ·exact hidE.put (by rw [←lt];exact okH) (fun z=>kH (by rw [←ekp];exact z)) (fun z=>by have:=elim z;omega) _
  ·rintro σ HF ⟨SF,htF,v10,vj,vp,zs,sp,rfl,hLF,dF,lF,hidF⟩
   exact ⟨SF,htF,v10,vj,vp,zs,sp,rfl,hLF,dF,by omega,hidF⟩
 clear hidE dE hLsE htE SE lE7 zs sp;rintro σ' HE ⟨SE,htE,v10,vj,vp,zs,sp,rfl,hLsE,dE,lE,hidE⟩;refine ⟨_,rfl,_,rfl,_,rfl,Ls,_,rfl,SqL.of hLsE,fun qB HB SB hB=>⟨(by show 3≤bj;decide),fun tC HC SC hC=>⟨_,rfl,tq,_,rfl,SqL.of (SC _ _ (SB _ _ htE)),fun qD HD SD hD=>⟨mx,fun tF HF SF hF=>?_⟩⟩⟩⟩;have SBF:=SB.trans (SC.trans (SD.trans SF));refine k tF qD (.ref tC) b m sp ts HF (SE.trans SBF) hF (.tup (SF _ _ (SD _ _ hC)) (.cons (.int b) (.cons (.int _) (.cons (.tup (SF _ _ (SD _ _ (SC _ _ hB))) (dE.same SBF)) .nil)))) ⟨b1,by omega,m1,by omega,by omega,hidE.all⟩ b2 m2 (SF _ _ hD) lt allA (fun z=>hidE.fits (by rw [ekp];exact o8 z)) hidE.narrow lE
inductive spSpanT (vs:List V)(H:Hp)(Q:VK)(_:XK):Prop
 | mk (p tq e:ai)(n b s g wd:Int)(ts:List Int)(kb:Bool)(_:vs=[.ref p,.ref tq,.int b,.ref e,.int wd,.bl kb])(_:H p=some (.lst [.int n]))(_:H tq=some (.tup (ts.map V.int)))(_:tq≠p)(_:H e=some (.tup [.int s,.int g]))(_:1≤b)(_:b≤10 ^ 40)(_:ts.length≤16)(_:0≤s)(_:s<ts.length)(_:0≤g)(_:g<ts.length)(_:s≠g)(_:0≤wd)(_:wd<b)(_:∀ (t:ai) (x:Sn) (H':Hp),H t=none→Mv p H H'→H' t=some (.tup [.int x.s,.int x.g,.int x.l,.int x.o,.int x.w])→SnOk b ts.length x→x.o - x.l=wd→(kb=true→fb b ts x≤x.o - x.l)→x.s=s→x.g=g→Q (.ref t) H')
inductive spMoreT (vs:List V)(H:Hp)(Q:VK)(_:XK):Prop
 | mk (p tq:ai)(n b mo so:Int)(ts:List Int)(_:vs=[.ref p,.ref tq,.int b,.int mo,.int so])(_:H p=some (.lst [.int n]))(_:H tq=some (.tup (ts.map V.int)))(_:tq≠p)(_:1≤b)(_:b≤10 ^ 40)(_:ts.length≤16)(_:2≤ts.length)(_:0≤mo)(_:∀ (t:ai) (x:Sn) (H':Hp),H t=none→t≠p→Mv p H H'→H' t=some (.tup [.int x.s,.int x.g,.int x.l,.int x.o,.int x.w])→SnOk b ts.length x→x.o - x.l≤mo→(decide (so≤0)=true→fb b ts x≤x.o - x.l)→Q (.ref t) H')
theorem ok_spanT (F:Fun K "_law_span" "_law_span" oH f fd)(G1:Fn K mg "_law_take" sTake pzc f1 fd1):cS P w K mg base CX0 2 f fd pzi spSpanT:=by
 have F1:cS P w K mg base CX0 1 f1 fd1 pzc mh:=kX G1.F;refine F.ok iD (by contradiction) (fun cdv A outer st0 H vs Q E hr h=>?_);obtain ⟨p,tq,e,n,b,s,g,wd,ts,kb,rfl,hp,htq,ntp,he,b1,b2,few,s0,s1,g0,g1,sg,w0,w1,k⟩:=h;refine ⟨_,PSl.h (bc ⟨(ps_asg (pv 3) (pg_tup rfl (iG (dX (i:=6) iD.nd rfl (.inl rfl)) (iG (dX (i:=7) iD.nd rfl (.inl rfl)) nU))))⟩
  (bc ⟨(bD (i:=8) iD.nd rfl (.inl rfl) (pc1 G1 F1 hr (af (pv 0) (af (pv 2) aC))))⟩
  (bc ⟨(kR (i7 (pt_val (pv 5)) (df (bD (i:=8) iD.nd rfl (.inl rfl) (cp jn (cp iH (cp iH (d9 dH (pv 1) (pv 7) (fun _ _=>rfl)) (d9 dH (pv 1) (pv 6) (fun _ _=>rfl))) (cp jn (pv 8) (cp fm (pv 4) bo))) (pv 2)))) fv))⟩
  (bc ⟨(bD (i:=8) iD.nd rfl (.inl rfl) (cp fm (pv 8) (cp iQ (pv 2) (PEs.h (k_ix fA (mr (dI iw (dI iw (dI iw (dI ⟨pc1 G1 F1 hr (af (pv 0) (af (cp nV bo bo) aC))⟩ oz))))) ⟨pc1 G1 F1 hr (af (pv 0) (af bo aC))⟩ (fun _ _=>rfl))))))⟩
  (bc ⟨(bD (i:=9) iD.nd rfl (.inl rfl) (PEs.h (mr (dI iw (dI iw (dI ⟨pc1 G1 F1 hr (af (pv 0) (af bo aC))⟩ (dI ⟨pc1 G1 F1 hr (af (pv 0) (af (cp fm (cp nV bo bo) bo) aC))⟩ oz)))))))⟩
  (dh ⟨(cz (pe_tup (af (pv 6) (af (pv 7) (af (pv 8) (af (cp fm (pv 8) (pv 4)) (af (d9 fA (pv 9) (pc1 G1 F1 hr (af (pv 0) (af bo aC))) (fun _ _=>rfl)) aC)))))))⟩)))))),?_⟩
 refine ⟨_,rfl,e,_,rfl,SqT.of he,rfl,_,_,rfl,_,_,rfl,rfl,?_⟩;refine ⟨_,rfl,_,rfl,p,n,b,rfl,hp,by omega,by omega,fun r1 H1 a1 c1 M1=>?_⟩;have ht1:=M1.at htq ntp;refine ⟨fun σ' H'=>Mv p H H'∧∃ l,0≤l∧l<b∧(kb=true→∃ r,l=(tm ts g - tm ts s - r % (wd+1)) % b)∧σ'=[some (.ref p),some (.ref tq),some (.int b),some (.ref e),some (.int wd),some (.bl kb),some (.int s),some (.int g),some (.int l),none],?_,?_⟩
 rotate_left
 ·refine ⟨_,rfl,_,rfl,?_⟩
  refine ite2 (fun _=>?_) (fun hk=>⟨M1,r1,a1,c1,fun z=>o6 z hk,rfl⟩);refine ⟨_,rfl,_,rfl,tq,_,_,_,rfl,rfl,SqT.of ht1,ow g0 g1,_,rfl,_,rfl,tq,_,_,_,rfl,rfl,SqT.of ht1,ow s0 s1,_,_,rfl,rfl,_,rfl,_,rfl,_,_,rfl,rfl,_,_,rfl,rfl,(by show (0:Int)<wd+1;omega),_,_,rfl,rfl,_,rfl,_,_,rfl,rfl,(by show (0:Int)<b;omega),?_⟩;exact ⟨M1,_,cG _ (by omega),cB _ (by omega),fun _=>⟨r1,rfl⟩,rfl⟩
 rintro σ' HC ⟨MC,l,l0,l1,hkl,rfl⟩;obtain ⟨nC,hpC⟩:=MC.2;refine ⟨_,rfl,_,rfl,_,rfl,_,_,rfl,rfl,⟨by decide,by decide,by decide⟩,p,_,_,rfl,hpC,by decide,by decide,fun rD HD aD cD MD=>⟨szZ4,fun qE hqE=>?_⟩⟩;have MD:=MC.trans MD;have cD:rD<10 ^ 9:=cD;have nqE:=MD.ne hqE;have ME:=MD.new (o:= .lst [.int 0,.int 0,.int 1,.int rD]) hqE;have hE:(upd HD qE (.lst [.int 0,.int 0,.int 1,.int rD])) qE=some (.lst [.int 0,.int 0,.int 1,.int rD]):=aU;obtain ⟨nE,hpE⟩:=ME.2;refine ⟨_,rfl,p,_,4,rfl,hpE,by decide,by decide,fun rF HF aF cF MF=>?_⟩;have hF:=MF.at hE nqE;have MF:=ME.trans MF;clear ME hE hpE;obtain ⟨vF,eF,mF⟩:=lU (xs:=[V.int 0,V.int 0,V.int 1,V.int rD]) aF cF;obtain ⟨j,rfl,j0,j1⟩:∃ i,vF=V.int i∧0≤i∧i≤10 ^ 9:=by
  simp only [az,cq,or_false] at mF
  rcases mF with rfl | rfl | rfl | rfl
  ·exact ⟨_,rfl,by decide,by decide⟩
  ·exact ⟨_,rfl,by decide,by decide⟩
  ·exact ⟨_,rfl,by decide,by decide⟩
  ·exact ⟨_,rfl,by omega,by omega⟩
 refine ⟨qE,_,_,_,rfl,rfl,SqL.of hF,eF,_,_,rfl,rfl,.inr ⟨by omega,by omega⟩,_,_,rfl,rfl,?_⟩;have bn0:0≤b * j:=Int.mul_nonneg (by omega) j0;have bn1:b * j≤10 ^ 40 * 10 ^ 9:=Int.mul_le_mul b2 j1 j0 (by decide);obtain ⟨nF,hpF⟩:=MF.2;refine ⟨_,rfl,p,_,10,rfl,hpF,by decide,by decide,fun rH HH aH cH MH=>?_⟩;have MH:=MF.trans MH;obtain ⟨nH,hpH⟩:=MH.2;refine ⟨_,rfl,_,_,rfl,rfl,⟨by decide,by decide,by decide⟩,_,_,rfl,rfl,p,_,_,rfl,hpH,by decide,by decide,fun rI HI aI cI MI=>⟨szZ4,fun qJ hqJ=>?_⟩⟩;have MI:=MH.trans MI;have cI:rI<10 ^ 12+1:=cI;have nqJ:=MI.ne hqJ;have MJ:=MI.new (o:= .lst [.int 0,.int 1,.int rH,.int rI]) hqJ;have hJ:(upd HI qJ (.lst [.int 0,.int 1,.int rH,.int rI])) qJ=some (.lst [.int 0,.int 1,.int rH,.int rI]):=aU;obtain ⟨nJ,hpJ⟩:=MJ.2;refine ⟨_,rfl,_,rfl,_,rfl,_,rfl,_,rfl,_,_,rfl,rfl,_,rfl,_,rfl,p,_,4,rfl,hpJ,by decide,by decide,fun rK HK aK cK MK=>?_⟩;have hK:=MK.at hJ nqJ;have MK:=MJ.trans MK;clear MJ hJ hpJ;obtain ⟨vK,eK,mK⟩:=lU (xs:=[V.int 0,V.int 1,V.int rH,V.int rI]) aK cK;obtain ⟨wt,rfl,t0,t1⟩:∃ i,vK=V.int i∧0≤i∧i≤1000000000000:=by
  simp only [az,cq,or_false] at mK
  rcases mK with rfl | rfl | rfl | rfl
  ·exact ⟨_,rfl,by decide,by decide⟩
  ·exact ⟨_,rfl,by decide,by decide⟩
  ·exact ⟨_,rfl,by omega,by omega⟩
  ·exact ⟨_,rfl,by omega,by omega⟩
 refine ⟨qJ,_,_,_,rfl,rfl,SqL.of hK,eK,szZ5,fun t ht=>?_⟩;have ntp:=MK.ne ht;have htH:H t=none:=by
  cases z:H t with
  | none=>rfl
  | some o=>rw [MK.1 t o ntp z] at ht;cases ht
 refine k t ⟨s,g,l+b * j,l+b * j+wd,wt⟩ _ htH (MK.new ht) aU ⟨s0,s1,g0,g1,sg,by show 0≤l+b * j;omega,by show l+b * j≤l+b * j+wd;omega,by show l+b * j+wd<l+b * j+b;omega,by show l+b * j+wd<10 ^ 60;omega,t0,t1⟩ (by show l+b * j+wd - (l+b * j)=wd;omega) (fun z=>?_) rfl rfl;obtain ⟨r,hr'⟩:=hkl z;show fb b ts _≤l+b * j+wd - (l+b * j);rw [show l+b * j+wd - (l+b * j)=wd by omega];exact kept_wait (r:=r) (j:=j) b1 w0 w1 (by rw [hr']) rfl
theorem ok_moreT (F:Fun K "_law_more" "_law_more" sMore f fd)(T:Nm mg)(G1:Fn K mg "_law_take" sTake pzc f1 fd1)(G2:Fn K mg "_law_span" oH pzi f2 fd2):cS P w K mg base CX0 3 f fd pzk spMoreT:=by
 have F1:cS P w K mg base CX0 1 f1 fd1 pzc mh:=kX G1.F;have F2:cS P w K mg base CX0 2 f2 fd2 pzi spSpanT:=ok_spanT G2.F G1;refine F.ok ke (by contradiction) (fun cdv A outer st0 H vs Q E hr h=>?_);obtain ⟨p,tq,n,b,mo,so,ts,rfl,hp,htq,ntp,b1,b2,few,m2,mo0,k⟩:=h;have hr1:Room 1 _:=hr.mono (by decide);refine ⟨_,PSl.h (bc ⟨(bD (i:=5) ke.nd rfl (.inl rfl) (eh cZ rfl T.len cQ (af (pv 1) aC)))⟩
  (bc ⟨(bD (i:=6) ke.nd rfl (.inl rfl) (pc1 G1 F1 hr1 (af (pv 0) (af (pv 5) aC))))⟩
  (bc ⟨(bD (i:=7) ke.nd rfl (.inl rfl) (cp jn (cp fm (cp fm (pv 6) bo) (pc1 G1 F1 hr1 (af (pv 0) (af (cp iH (pv 5) bo) aC)))) (pv 5)))⟩
  (bc ⟨(bD (i:=8) ke.nd rfl (.inl rfl) (PEs.h (k_ix fA (mr (dI iw (dI ⟨pc1 G1 F1 hr1 (af (pv 0) (af bo aC))⟩ (dI ⟨pc1 G1 F1 hr1 (af (pv 0) (af (pv 2) aC))⟩ (dI (k_op iH ⟨pv 2⟩ iw) (dI ⟨pc1 G1 F1 hr1 (af (pv 0) (af bo aC))⟩ oz)))))) ⟨pc1 G1 F1 hr1 (af (pv 0) (af bo aC))⟩ (fun _ _=>rfl))))⟩
  (bc ⟨(bD (i:=8) ke.nd rfl (.inl rfl) (eh (call_min3 rfl) rfl T.min boot_min (af (pv 8) (af (pv 3) (af (cp iH (pv 2) bo) aC)))))⟩
  (dh ⟨(cz (pc1 G2 F2 hr (af (pv 0) (af (pv 1) (af (pv 2) (af (dg (af (pv 6) (af (pv 7) aC))) (af (pv 8) (af (kW op_ge (pc1 G1 F1 hr1 (af (pv 0) (af bo aC))) (pv 4) (dN _)) aC))))))))⟩)))))),?_⟩
 refine ⟨_,rfl,tq,_,rfl,.inr (SqT.of htq),?_⟩;rw [aa];obtain ⟨m,em⟩:∃ m:Int,m=(ts.length:Int):=⟨_,rfl⟩;rw [←em];refine ⟨_,rfl,_,rfl,p,n,m,rfl,hp,by omega,by omega,fun r1 H1 a1 c1 M1=>?_⟩;obtain ⟨n1,hp1⟩:=M1.2;refine ⟨_,rfl,_,_,rfl,rfl,_,rfl,_,rfl,_,_,rfl,rfl,p,n1,_,rfl,hp1,by omega,by omega,fun r2 H2 a2 c2 M2=>?_⟩;have M2:=M1.trans M2;obtain ⟨n2,hp2⟩:=M2.2;refine ⟨_,_,rfl,rfl,_,rfl,_,_,rfl,rfl,(by show (0:Int)<m;omega),?_⟩;obtain ⟨g0,g1,g2⟩:=goal_ok a1 c1 a2 c2;generalize hg:(r1+1+r2) % m=g at g0 g1 g2 ⊢;refine ⟨_,rfl,p,n2,4,rfl,hp2,by decide,by decide,fun r3 H3 a3 c3 M3=>?_⟩;have M3:=M2.trans M3;obtain ⟨n3,hp3⟩:=M3.2;refine ⟨_,rfl,_,rfl,p,n3,b,rfl,hp3,by omega,by omega,fun r4 H4 a4 c4 M4=>?_⟩;have M4:=M3.trans M4;obtain ⟨n4,hp4⟩:=M4.2;refine ⟨_,rfl,_,_,rfl,rfl,_,rfl,p,n4,2,rfl,hp4,by decide,by decide,fun r5 H5 a5 c5 M5=>⟨szZ5,fun q hq=>?_⟩⟩;have M5:=M4.trans M5;have nqp:=M5.ne hq;have S6:Same H5 (upd H5 q (.lst [.int 0,.int r3,.int r4,.int (b - 1),.int r5])):=Same.put (Same.refl H5) hq;have h6:(upd H5 q (.lst [.int 0,.int r3,.int r4,.int (b - 1),.int r5])) q=some (.lst [.int 0,.int r3,.int r4,.int (b - 1),.int r5]):=aU;generalize upd H5 q (.lst [.int 0,.int r3,.int r4,.int (b - 1),.int r5])=H6 at S6 h6 ⊢;have M6:=M5.then S6;obtain ⟨n6,hp6⟩:=M6.2;refine ⟨_,rfl,p,n6,5,rfl,hp6,by decide,by decide,fun r7 H7 a7 c7 M7=>?_⟩;have h7:=M7.at h6 nqp;have M7:=M6.trans M7;obtain ⟨v7,e7,m7⟩:=lU (xs:=[V.int 0,V.int r3,V.int r4,V.int (b - 1),V.int r5]) a7 c7;obtain ⟨w0,rfl,w00⟩:∃ i,v7=V.int i∧0≤i:=by
  simp only [az,cq,or_false] at m7
  rcases m7 with rfl | rfl | rfl | rfl | rfl
  ·exact ⟨_,rfl,by decide⟩
  ·exact ⟨_,rfl,a3⟩
  ·exact ⟨_,rfl,a4⟩
  ·exact ⟨_,rfl,by omega⟩
  ·exact ⟨_,rfl,a5⟩
 refine ⟨q,_,_,_,rfl,rfl,SqL.of h7,e7,?_⟩;refine ⟨_,rfl,_,rfl,_,rfl,_,_,rfl,rfl,_,_,_,rfl,?_⟩;have wl:=min3_le w0 mo (b - 1);have wg:=min3_ge (z:=0) w00 mo0 (by omega:(0:Int)≤b - 1);generalize min3 w0 mo (b - 1)=wd at wl wg ⊢;obtain ⟨n7,hp7⟩:=M7.2;refine ⟨_,rfl,_,rfl,_,rfl,_,rfl,_,rfl,mx,fun e H8 S8 h8=>?_⟩;have M8:=M7.then S8;obtain ⟨n8,hp8⟩:=M8.2;refine ⟨_,rfl,_,rfl,p,n8,16,rfl,hp8,by decide,by decide,fun r9 H9 a9 c9 M9=>⟨_,rfl,_,_,rfl,rfl,?_⟩⟩;have h9:H9 e=some (.tup [.int r1,.int g]):=Mv.tupK hp8 M9 _ _ h8;have M9:=M8.trans M9;obtain ⟨n9,hp9⟩:=M9.2;refine ⟨p,tq,e,n9,b,r1,g,wd,ts,_,rfl,hp9,M9.at htq ntp,ntp,h9,b1,b2,few,a1,by omega,g0,by omega,g2,wg,by omega,fun t x HA ht MA hA ok ew kw es eg=>?_⟩;obtain ⟨y1,y2⟩:=M9.none ht;exact k t x HA y1 y2 (M9.trans MA) hA ok (by omega) (fun z=>kw (o8 (by have:=pe z;omega)))
abbrev sWaitsN:cP:=top 55
theorem scWaitsN:cb pzg pzg (defScope sWaitsN):=by trivial
theorem ok_waitsN (F:Fun K "_law_waits" "_law_waits" sWaitsN f fd):cS P w K mg base CX0 1 f fd pzg spWaitsN:=by
 refine F.ok scWaitsN (by contradiction) (fun cdv A outer s H vs Q E hr h=>?_);obtain ⟨v,u,b,m,sp,ts,rfl,hv,hu,R,k⟩:=h;obtain ⟨t,p,ys,rfl,ht,hp,hl,hy⟩:=fj hv;have few:=R.few;refine ⟨_,PSl.h (dh ⟨(cz (jj (fr:=pzg) (js:=[0,1]) rfl (jO (ixZ (pv 0))) (by trivial) rfl (by trivial) rfl (by exists sWaitsN) (by trivial) rfl (by trivial) (fun _ _ _ _ _=>⟨(cp jn (cp iH (cp iH (d9 (r:=nM K) dH (pv 2) (d9 (r:=nM K) dH (pv 0) bo (fun _ _=>rfl)) (fun _ _=>rfl)) (d9 (r:=nM K) dH (pv 2) (d9 (r:=nM K) dH (pv 0) bo (fun _ _=>rfl)) (fun _ _=>rfl))) (d9 (r:=nM K) dH (pv 0) bo (fun _ _=>rfl))) (d9 (r:=nM K) dH (pv 1) bo (fun _ _=>rfl))),ia⟩)))⟩),?_⟩;refine ⟨_,rfl,t,_,_,_,rfl,rfl,SqT.of ht,aJ (j:=2) rfl,p,rfl,⟨_,SqT.of hp⟩,?_⟩;refine ka (K:=K) (a:=p) (xs:=ys) (fun i zs H2=>H2=H∧zs=(jG b ts (sp.take i)).map V.int) ⟨rfl,rfl⟩ (fun i zs H2 hi ⟨e1,e2⟩=>?_) (by rw [hl];exact eU few) (fun i x zs H2 hx ⟨e1,e2⟩=>?_) (fun zs H2 ⟨e1,e2⟩ D hD=>?_)
 ·subst e1
  refine ⟨SqT.of hp,?_⟩;rw [e2];unfold jG;rw [aa,aa,bG];omega
 ·subst e1
  have hi:i<sp.length:=by rw [←hl];exact (ao.mp hx).1
  obtain ⟨q,hq,hq2⟩:=hy i sp[i] (gE hi);rw [hx] at hq;cases hq;obtain ⟨s0,s1,g0,g1⟩:=R.ends sp[i] (bH hi);refine gB ?_;refine ⟨_,rfl,_,rfl,q,_,_,_,rfl,rfl,SqT.of hq2,aJ (j:=1) rfl,u,_,_,_,rfl,rfl,SqT.of hu,ow g0 g1,_,rfl,_,rfl,q,_,_,_,rfl,rfl,SqT.of hq2,aJ (j:=0) rfl,u,_,_,_,rfl,rfl,SqT.of hu,ow s0 s1,_,_,rfl,rfl,_,rfl,q,_,_,_,rfl,rfl,SqT.of hq2,aJ (j:=2) rfl,_,_,rfl,rfl,_,rfl,t,_,_,_,rfl,rfl,SqT.of ht,aJ (j:=0) rfl,_,_,rfl,rfl,R.b1,rfl,?_⟩;rw [e2,bg,gE hi];unfold jG;rw [aA,aA];rfl
 ·subst e1
  rw [hl,bf] at e2;rw [e2];exact k D _ (Same.put (Same.refl H2) hD) aU
abbrev sWaitN:cP:=top 57
theorem scWaitN:cb pzg pzg (defScope sWaitN):=by trivial
theorem ok_waitN (F:Fun K "_law_wait" "_law_wait" sWaitN f fd)(T2:Nt mg)(G1:Fn K mg "_law_waits" sWaitsN pzg f1 fd1):cS P w K mg base CX0 2 f fd pzg ly:=by
 have F1:cS P w K mg base CX0 1 f1 fd1 pzg spWaitsN:=ok_waitsN G1.F;refine F.ok scWaitN (by contradiction) (fun cdv A outer s H vs Q E hr h=>?_);obtain ⟨v,u,b,m,sp,ts,rfl,hv,hu,R,hw,k⟩:=h;obtain ⟨t,p,ys,rfl,ht,hp,hl,hy⟩:=fj hv;have few:=R.few;refine ⟨_,PSl.h (dh ⟨(cz (eh (call_sum rfl) rfl T2.sum boot_sum (af (pe_compT (xs:=["_law_span_here","_law_wait_here"]) (fr:=[]) (js:=[]) rfl (pi_zip2 rfl T2.zip (af (ixZ (pv 0)) (af (pc1 G1 F1 hr (af (pv 0) (af (pv 1) aC))) aC))) (by trivial) rfl (by trivial) (by exists sWaitN) rfl (by trivial) (fun _ _ _ _ _=>pg_two rfl (by trivial) rfl rfl) (fun _ _ _ _ _=>⟨(cp iQ (d9 (r:=nM K) dH (pv 0) bo (fun _ _=>rfl)) (pv 1)),ia⟩)) aC)))⟩),?_⟩;refine ⟨_,rfl,t,_,_,_,rfl,rfl,SqT.of ht,aJ (j:=2) rfl,?_⟩;refine ⟨_,rfl,_,rfl,.ref t,u,b,m,sp,ts,rfl,hv,hu,R,fun L H1 S1 h1=>?_⟩;refine ⟨⟨false,p⟩,⟨true,L⟩,_,_,rfl,S1 _ _ hp,h1,?_⟩;refine oU (K:=K) (c1:=⟨false,p⟩) (c2:=⟨true,L⟩) (xs:=ys) (ys:=(jG b ts sp).map V.int) (fun i zs H2=>Same H1 H2∧zs=((sp.take i).map fun x=>x.w * fb b ts x).map V.int) ⟨Same.refl H1,rfl⟩ (fun i zs H2 hi ⟨S2,e2⟩=>⟨S2 _ _ (S1 _ _ hp),S2 _ _ h1,?_⟩) (by unfold jG;rw [aa,aa,hl]) (by rw [hl];exact eU few) (fun i x y zs pz H2 hx hx' ⟨S2,e2⟩ hpz=>?_) (fun zs H2 ⟨S2,e2⟩ D hD=>?_)
 ·rw [e2,aa,aa,bG];omega
 ·have hi:i<sp.length:=by rw [←hl];exact (ao.mp hx).1
  obtain ⟨q,hq,hq2⟩:=hy i sp[i] (gE hi);rw [hx] at hq;cases hq;unfold jG at hx';rw [ay,ay,gE hi] at hx';cases hx';have S3:Same H1 (upd H2 pz (.tup [.ref q,.int (fb b ts sp[i])])):=S2.put hpz;generalize upd H2 pz (.tup [.ref q,.int (fb b ts sp[i])])=H3 at S3 ⊢;have hq3:=S3 _ _ (S1 _ _ hq2);obtain ⟨w0,w1⟩:=hw sp[i] (bH hi);refine gB ?_;refine ⟨_,rfl,q,_,_,_,rfl,rfl,SqT.of hq3,aJ (j:=4) rfl,_,rfl,_,_,rfl,rfl,.inl ⟨by omega,by omega⟩,S3,?_⟩;rw [e2,bg,gE hi,aA,aA];rfl
 ·refine ⟨D,_,rfl,SqL.of (by rw [e2];exact aU),?_⟩
  have e3:((sp.take ys.length).map fun x=>x.w * fb b ts x).sum=dW b ts sp:=by
   unfold dW;rw [hl,bf]
  rw [e3];exact k _ (S1.trans (S2.put hD))
abbrev sSum:cP:=top 9
abbrev sBeats:cP:=top 10
theorem scSum:cb ["bounds","way","low","high","step","bound"] pzw (defScope sSum):=by trivial
theorem ok_sum (F:Fun K "sum_of" "sum_of" sSum f fd):cS P w K mg base CX0 1 f fd pzw spSum:=by
 refine F.ok scSum (by contradiction) (fun cdv A outer s H vs Q E hr h=>?_);obtain ⟨vb,vw,bs,ws,rfl,hb,hw,hin,k⟩:=h;obtain ⟨pb,yb,rfl,hpb,hlb,rb⟩:=iE hb;obtain ⟨pw,yw,rfl,hpw,hlw,rw'⟩:=iE hw;refine ⟨_,PSl.h (bc ⟨(bD (i:=2) scSum.nd rfl (.inl rfl) bo)⟩
  (bc ⟨(bD (i:=3) scSum.nd rfl (.inl rfl) bo)⟩
  (bc ⟨(i8 bT rfl (jO (pv 1)) (dX (i:=4) scSum.nd rfl (.inl rfl)) (PSl.h (bc ⟨(bD (i:=5) scSum.nd rfl (.inl rfl) (d9 dH (pv 0) (ixZ (pv 4)) (fun _ _=>rfl)))⟩
  (dh ⟨(i7 (cU mB (ixZ (pv 4)) bo (dN _)) (PSl.h (bc ⟨(nQ (i:=2) scSum.nd rfl (.inl rfl) (ixZ (pv 5)) ip_add)⟩
  (dh ⟨(nQ (i:=3) scSum.nd rfl (.inl rfl) (ixZ (pv 5)) ip_add)⟩))) (PSl.h (bc ⟨(nQ (i:=2) scSum.nd rfl (.inl rfl) (ixZ (pv 5)) ip_sub)⟩
  (dh ⟨(nQ (i:=3) scSum.nd rfl (.inl rfl) (ixZ (pv 5)) ip_sub)⟩))))⟩))))⟩
  (dh ⟨(cz (dg (af (pv 2) (af (pv 3) aC))))⟩)))),?_⟩
 refine ⟨_,rfl,pw,rfl,⟨_,SqT.of hpw⟩,?_⟩;refine oi (K:=K) (xs:=yw) (fun i σ H2=>H2=H∧∃ v4 v5,σ=[some (.ref pb),some (.ref pw),some (.int (fg bs (ws.take i))),some (.int (gY bs (ws.take i))),v4,v5]) ⟨rfl,none,none,rfl⟩ (fun i σ H2 _ ⟨e1,_⟩=>by rw [e1];exact SqT.of hpw) ?_ ?_
 ·rintro i y σ H2 hy ⟨rfl,v4,v5,rfl⟩
  have hi:i<ws.length:=by rw [←hlw];exact (ao.mp hy).1
  obtain ⟨q,hq,hq2⟩:=jJ rw' (gE hi);rw [hy] at hq;cases hq;obtain ⟨i1,d1⟩:=hin ws[i] (bH hi);have hm1:fg bs (ws.take (i+1))=fg bs (ws.take i)+oP bs ws[i]:=by
   unfold fg;rw [bg,gE hi,aA,iL];simp
  have hm2:gY bs (ws.take (i+1))=gY bs (ws.take i)+kx bs ws[i]:=by
   unfold gY;rw [bg,gE hi,aA,iL];simp
  obtain ⟨qb,hqb,hqb2⟩:=jJ rb (gE i1);refine ⟨_,rfl,_,rfl,q,_,_,_,rfl,rfl,SqT.of hq2,aJ (j:=0) rfl,pb,_,_,_,rfl,rfl,SqT.of hpb,aJ (j:=ws[i].i) hqb,?_⟩;refine ⟨_,rfl,q,_,_,_,rfl,rfl,SqT.of hq2,aJ (j:=1) rfl,rfl,_,rfl,?_⟩;refine ite2 (fun h1=>?_) (fun h1=>?_)
  ·have h1:ws[i].d=1:=by have:=pe h1;injection this
   refine ⟨_,rfl,_,rfl,qb,_,_,_,rfl,rfl,SqT.of hqb2,aJ (j:=0) rfl,_,_,rfl,rfl,?_⟩;refine ⟨_,rfl,_,rfl,qb,_,_,_,rfl,rfl,SqT.of hqb2,aJ (j:=1) rfl,_,_,rfl,rfl,rfl,some (.ref q),some (.ref qb),?_⟩;have l1:oP bs ws[i]=bs[ws[i].i].1:=by unfold oP;rw [gE i1];exact o4 h1
   have l2:kx bs ws[i]=bs[ws[i].i].2:=by unfold kx;rw [gE i1];exact o4 h1
   rw [hm1,hm2,l1,l2];rfl
  ·have h1:ws[i].d≠1:=fun z=>h1 (o8 (by rw [z]))
   refine ⟨_,rfl,_,rfl,qb,_,_,_,rfl,rfl,SqT.of hqb2,aJ (j:=1) rfl,_,_,rfl,rfl,?_⟩;refine ⟨_,rfl,_,rfl,qb,_,_,_,rfl,rfl,SqT.of hqb2,aJ (j:=0) rfl,_,_,rfl,rfl,rfl,some (.ref q),some (.ref qb),?_⟩;have l1:oP bs ws[i]= -bs[ws[i].i].2:=by unfold oP;rw [gE i1];exact oZ h1
   have l2:kx bs ws[i]= -bs[ws[i].i].1:=by unfold kx;rw [gE i1];exact oZ h1
   rw [hm1,hm2,l1,l2,←Int.sub_eq_add_neg,←Int.sub_eq_add_neg];rfl
 ·rintro σ H2 ⟨rfl,v4,v5,rfl⟩
  rw [hlw,bf];exact ⟨_,rfl,_,rfl,mx,fun p3 H3 S3 h3=>k p3 H3 S3 h3⟩
theorem scBeats:cb ["net","bounds","ring","beat","ends"] pzb (defScope sBeats):=by trivial
theorem ok_beats (F:Fun K "beats_of" "beats_of" sBeats f fd)(G1:Fn K mg "sum_of" sSum pzw f1 fd1):cS P w K mg base CX0 2 f fd pzb ng:=by
 have F1:cS P w K mg base CX0 1 f1 fd1 pzw spSum:=ok_sum G1.F;refine F.ok scBeats (by contradiction) (fun cdv A outer s H vs Q E hr h=>?_);obtain ⟨vn,vb,vw,b,m,sp,bs,ws,rfl,hv,hb0,hb1,hb,hw,hin,k⟩:=h;obtain ⟨t,pn,ys,rfl,ht,_⟩:=fj hv;refine ⟨_,PSl.h (bc ⟨(bD (i:=3) scBeats.nd rfl (.inl rfl) (ixZ (pv 0)))⟩
  (bc ⟨(bD (i:=4) scBeats.nd rfl (.inl rfl) (pc1 G1 F1 hr (af (pv 1) (af (pv 2) aC))))⟩
  (dh ⟨(cz (dg (af (pe_un un_neg (cp op_fdivB (pe_un un_neg (ixZ (pv 4))) (pv 3))) (af (cp op_fdivB (ixZ (pv 4)) (pv 3)) aC))))⟩))),?_⟩
 refine ⟨_,rfl,t,_,_,_,rfl,rfl,SqT.of ht,aJ (j:=0) rfl,?_⟩;refine ⟨_,rfl,_,rfl,vb,vw,bs,ws,rfl,hb,hw,hin,fun p1 H1 S1 h1=>?_⟩;refine ⟨_,rfl,p1,_,_,_,rfl,rfl,SqT.of h1,aJ (j:=0) rfl,_,rfl,_,rfl,_,_,rfl,rfl,log_ok hb0 hb1,_,rfl,?_⟩;refine ⟨_,rfl,p1,_,_,_,rfl,rfl,SqT.of h1,aJ (j:=1) rfl,_,rfl,_,_,rfl,rfl,log_ok hb0 hb1,mx,fun p2 H2 S2 h2=>k p2 H2 (S1.trans S2) h2⟩
abbrev sSure:cP:=top 12
theorem scSure:cb ["net","bounds","ring","beats"] pzb (defScope sSure):=by trivial
theorem ok_sure (F:Fun K "is_sure" "is_sure" sSure f fd)(G1:Fn K mg "beats_of" sBeats pzb f1 fd1)(F1:cS P w K mg base CX0 2 f1 fd1 pzb ng):cS P w K mg base CX0 3 f fd pzb spSure:=by
 refine F.ok scSure (by contradiction) (fun cdv A outer s H vs Q E hr h=>?_);obtain ⟨vn,vb,vw,b,m,sp,bs,ws,rfl,hv,hb0,hb1,hb,hw,hin,k⟩:=h;refine ⟨_,PSl.h (bc ⟨(bD (i:=3) scSure.nd rfl (.inl rfl) (pc1 G1 F1 hr (af (pv 0) (af (pv 1) (af (pv 2) aC)))))⟩
  (dh ⟨(cz (kW mB (ixZ (pv 3)) (ixZ (pv 3)) (dN _)))⟩)),?_⟩
 refine ⟨_,rfl,_,rfl,_,rfl,vn,vb,vw,b,m,sp,bs,ws,rfl,hv,hb0,hb1,hb,hw,hin,fun p1 H1 S1 h1=>?_⟩;refine ⟨_,rfl,p1,_,_,_,rfl,rfl,SqT.of h1,aJ (j:=0) rfl,_,rfl,p1,_,_,_,rfl,rfl,SqT.of h1,aJ (j:=1) rfl,rfl,?_⟩;have e:decide (V.int (upB b (fg bs ws))=V.int (gY bs ws / b))=sureB b bs ws:=decide_eq_decide.mpr ⟨fun z=>by injection z,fun z=>by rw [z]⟩;have k1:=k H1 S1;rw [←e] at k1;exact k1
abbrev sOwn:cP:=top 29
abbrev sWorth:cP:=top 30
def rGetL:V→V→Hp→VK→Prop:=fun o i H Q=>∃ p xs k y,o= .ref p∧i= .int ((k:Nat):Int)∧H p=some (.lst xs)∧xs[k]? =some y∧Q y H
theorem get_listP:PGet X rGetL:=by
 intro aN s σ H o i ov iv Q I ro ri h;obtain ⟨p,xs,k,y,rfl,rfl,hp,hy,q⟩:=h;cases (show ov=ae.ref p from ro);obtain ⟨t,rfl⟩:=ri;obtain ⟨its,r,pl,hz⟩:=I.list (SqL.of (K:=X.K) hp);obtain ⟨u,hu,ru⟩:=r.get hy;have hl:=r.length;have hk:k<xs.length:=(ao.mp hy).1;have l63:=line63;exact wpAny_getItem_list pl.isList (by omega) (by omega) (by simpa using hu) ⟨y,H,I,ru,q⟩
theorem row_of {r:Int×List Stp}(h:IsD H v (rowD r)):∃ q vw,v= .ref q∧H q=some (.tup [.int r.1,vw])∧IsD H vw (mf r.2):=by
 obtain ⟨q,xs,rfl,hq,rx⟩:=IsD.tup_of (show IsD H v (.tup [.int r.1,mf r.2]) from h);cases rx with
 | cons g1 gr=>cases gr with
  | cons g2 gr =>
   cases gr;cases g1;exact ⟨q,_,rfl,hq,g2⟩
theorem price_of (h:IsD H v (leafP (.price rows))):∃ p pr ys,v= .ref p∧H p=some (.tup [.str "price",.ref pr])∧H pr=some (.tup ys)∧IsDs H ys (rows.map rowD):=by
 obtain ⟨p,xs,rfl,hp,rx⟩:=IsD.tup_of (show IsD H v (.tup [.str "price",.tup (rows.map rowD)]) from h);cases rx with
 | cons g1 gr=>cases gr with
  | cons g2 gr =>
   cases gr;cases g1;obtain ⟨pr,ys,rfl,hpr,ry⟩:=g2.tup_of;exact ⟨p,pr,ys,rfl,hp,hpr,ry⟩
theorem fold_take {β:Type}(f:β→α→β)(b:β){xs:List α}(h:i<xs.length):(xs.take (i+1)).foldl f b=f ((xs.take i).foldl f b) xs[i]:=by
 rw [bg,gE h,dJ];rfl
theorem sum_take (f:α→Int){xs:List α}(h:i<xs.length):((xs.take (i+1)).map f).sum=((xs.take i).map f).sum+f xs[i]:=by
 rw [bg,gE h,aA,iL];simp
theorem sum_range (f:Nat→Int)(i:Nat):((aR (i+1)).map f).sum=((aR i).map f).sum+f i:=by
 rw [List.range_succ,aA,iL];simp
theorem scOwn:cb ["net","rows","prices","row","step"] ["net","rows"] (defScope sOwn):=by trivial
theorem ok_own (F:Fun K "own_prices" "own_prices" sOwn f fd):cS P w K mg base CX0 1 f fd ["net","rows"] spOwn:=by
 refine F.ok scOwn (by contradiction) (fun cdv A outer s H vs Q E hr h=>?_);obtain ⟨v,pr,b,m,sp,rows,rfl,hv,few,hrr,hok,k⟩:=h;obtain ⟨t,pn,ys,rfl,ht,hpn,hl,hy⟩:=fj hv;obtain ⟨pr',yr,e0,hpr,ry⟩:=hrr.tup_of;cases e0;have lr:yr.length=rows.length:=by rw [ry.length,aa]
 refine ⟨_,PSl.h (bc ⟨(l4 (iy:=2) (fr:=[]) (js:=[]) scOwn.nd rfl (.inl rfl) rfl (jO (ixZ (pv 0))) (by trivial) rfl (by trivial) rfl (by exists sOwn) (by trivial) rfl (by trivial) (fun _ _ _ _ _=>⟨(d9 (r:=nM K) dH (pv 0) bo (fun _ _=>rfl)),ia⟩))⟩
  (bc ⟨(i8 bT rfl (jO (pv 1)) (dX (i:=3) scOwn.nd rfl (.inl rfl)) (df (i8 bT rfl (jO (ixZ (pv 3))) (dX (i:=4) scOwn.nd rfl (.inl rfl)) (df (ps_augS (pv 2) (ixZ (pv 4)) get_listP (cp iQ (ixZ (pv 3)) (ixZ (pv 4))) ip_sub set_list)))))⟩
  (dh ⟨(cz (pv 2))⟩))),?_⟩
 refine ⟨_,rfl,t,_,_,_,rfl,rfl,SqT.of ht,aJ (j:=2) rfl,pn,rfl,⟨_,SqT.of hpn⟩,?_⟩;refine ka (K:=K) (a:=pn) (xs:=ys) (fun i zs H2=>H2=H∧zs=((sp.take i).map Sn.w).map V.int) ⟨rfl,rfl⟩ (fun i zs H2 hi ⟨e1,e2⟩=>?_) (by rw [hl];exact eU (by omega)) (fun i x zs H2 hx ⟨e1,e2⟩=>?_) (fun zs H2 ⟨e1,e2⟩ D hD=>?_)
 ·subst e1
  refine ⟨SqT.of hpn,?_⟩;rw [e2,aa,aa,bG];omega
 ·subst e1
  have hi:i<sp.length:=by rw [←hl];exact (ao.mp hx).1
  obtain ⟨q,hq,hq2⟩:=hy i sp[i] (gE hi);rw [hx] at hq;cases hq;refine gB ⟨_,rfl,q,_,_,_,rfl,rfl,SqT.of hq2,aJ (j:=4) rfl,rfl,?_⟩;rw [e2,bg,gE hi,aA,aA];rfl
 subst e1;rw [hl,bf] at e2;subst e2;have S1:Same H2 (upd H2 D (.lst ((sp.map Sn.w).map V.int))):=Same.put (Same.refl H2) hD;have hD1:(upd H2 D (.lst ((sp.map Sn.w).map V.int))) D=some (.lst ((sp.map Sn.w).map V.int)):=aU;generalize upd H2 D (.lst ((sp.map Sn.w).map V.int))=H1 at S1 hD1 ⊢;refine ⟨_,rfl,pr,rfl,⟨_,SqT.of (S1 _ _ hpr)⟩,?_⟩;refine oi (K:=K) (xs:=yr) (fun i σ H3=>Same H2 H3∧(∃ v3 v4,σ=[some (.ref t),some (.ref pr),some (.ref D),v3,v4])∧H3 D=some (.lst (((rows.take i).foldl rowP (sp.map Sn.w)).map V.int))) ⟨S1,⟨none,none,rfl⟩,hD1⟩ (fun i σ H3 _ ⟨S3,_⟩=>SqT.of (S3 _ _ hpr)) ?_ ?_
 ·rintro i y σ H3 hy3 ⟨S3,⟨v3,v4,rfl⟩,hD3⟩
  have hi:i<rows.length:=by rw [←lr];exact (ao.mp hy3).1
  obtain ⟨d,hd,dy⟩:=ry.get hy3;rw [ay,gE hi] at hd;cases hd;obtain ⟨q,vw,rfl,hq,hw⟩:=row_of dy;obtain ⟨pw,yw,rfl,hpw,hlw,rw'⟩:=iE hw;have ok:=hok rows[i] (bH hi);obtain ⟨ps,hps⟩:∃ ps,ps=(rows.take i).foldl rowP (sp.map Sn.w):=⟨_,rfl⟩;have lps:ps.length=sp.length:=by rw [hps,rows_len,aa]
  rw [←hps] at hD3;refine ⟨_,rfl,q,_,_,_,rfl,rfl,SqT.of (S3 _ _ hq),aJ (j:=1) rfl,pw,rfl,⟨_,SqT.of (S3 _ _ hpw)⟩,?_⟩;refine oi (K:=K) (xs:=yw) (fun j σ H4=>Same H2 H4∧(∃ v4,σ=[some (.ref t),some (.ref pr),some (.ref D),some (.ref q),v4])∧H4 D=some (.lst (((rows[i].2.take j).foldl (jI rows[i].1) ps).map V.int))) ⟨S3,⟨_,rfl⟩,hD3⟩ (fun j σ H4 _ ⟨S4,_⟩=>SqT.of (S4 _ _ hpw)) ?_ ?_
  ·rintro j z σ H4 hz ⟨S4,⟨v4,rfl⟩,hD4⟩
   have hj:j<rows[i].2.length:=by rw [←hlw];exact (ao.mp hz).1
   obtain ⟨q2,e2,h2⟩:=jJ rw' (gE hj);rw [hz] at e2;cases e2;obtain ⟨i1,d1⟩:=ok.inn rows[i].2[j] (bH hj);obtain ⟨qs,hqs⟩:∃ qs,qs=(rows[i].2.take j).foldl (jI rows[i].1) ps:=⟨_,rfl⟩;have lqs:qs.length=sp.length:=by rw [hqs,kg,lps]
   rw [←hqs] at hD4;have hgs:qs[rows[i].2[j].i]? =some (qs.getD rows[i].2[j].i 0):=by rw [ag,gE (by omega)];rfl
   refine ⟨_,rfl,_,rfl,q2,_,_,_,rfl,rfl,SqT.of (S4 _ _ h2),aJ (j:=0) rfl,D,_,rows[i].2[j].i,_,rfl,rfl,hD4,by rw [ay,hgs];rfl,_,rfl,q,_,_,_,rfl,rfl,SqT.of (S4 _ _ hq),aJ (j:=0) rfl,_,rfl,q2,_,_,_,rfl,rfl,SqT.of (S4 _ _ h2),aJ (j:=1) rfl,_,_,rfl,rfl,.inr ?_,_,_,rfl,rfl,D,_,_,rows[i].2[j].i,rfl,rfl,hD4,(by simp [ixN,lqs,i1]),?_⟩
   ·rcases d1 with d1 | d1 <;> rw [d1] <;> exact ⟨by decide,by decide⟩
   refine ⟨fun bb o e=>?_,⟨_,rfl⟩,?_⟩
   ·rw [bw (fun z=>by rw [z,hD] at e;cases e)]
    exact S4 _ _ e
   ·rw [aU,fold_take _ _ hj,←hqs]
    congr 2;unfold jI;rw [List.map_set]
  ·rintro σ H4 ⟨S4,⟨v4,rfl⟩,hD4⟩
   refine ⟨S4,⟨_,_,rfl⟩,?_⟩;rw [fold_take _ _ hi,←hps,hD4,hlw,bf];rfl
 ·rintro σ H3 ⟨S3,⟨v3,v4,rfl⟩,hD3⟩
  refine ⟨_,rfl,k D H3 S3 ?_⟩;rw [hD3,lr,bf];rfl
theorem kh:cb ["net","bounds","leaf","worth","row","price","bound","span"] pzx (defScope sWorth):=by trivial
theorem ok_worth (F:Fun K "worth_of" "worth_of" sWorth f fd)(T:Nm mg)(T2:Nt mg)(G1:Fn K mg "beats_of" sBeats pzb f1 fd1)(F1:cS P w K mg base CX0 2 f1 fd1 pzb ng)(G2:Fn K mg "own_prices" sOwn ["net","rows"] f2 fd2):cS P w K mg base CX0 3 f fd pzx spWorth:=by
 have F2:cS P w K mg base CX0 1 f2 fd2 ["net","rows"] spOwn:=ok_own G2.F;refine F.ok kh (by contradiction) (fun cdv A outer s H vs Q E hr h=>?_);obtain ⟨v,vb,vl,b,m,sp,bs,rows,rfl,W,k⟩:=h;have hr1:Room 1 _:=hr.mono (by decide);obtain ⟨hv,hb,hl0,b0,b61,lb,few,bu,hws,hok,lr41⟩:=W;obtain ⟨t,pn,ys,rfl,ht,hpn,hl,hy⟩:=fj hv;obtain ⟨p,pr,yr,rfl,hp,hpr,ry⟩:=price_of hl0;obtain ⟨pb,yb,rfl,hpb,hlb,rb⟩:=iE hb;have lr:yr.length=rows.length:=by rw [ry.length,aa]
 refine ⟨_,PSl.h (bc ⟨(bD (i:=3) kh.nd rfl (.inl rfl) bo)⟩
  (bc ⟨(i8 bT rfl (jO (ixZ (pv 2))) (dX (i:=4) kh.nd rfl (.inl rfl)) (df (nQ (i:=3) kh.nd rfl (.inl rfl) (cp op_mulB (cp iQ (ixZ (pv 4)) (ixZ (pc1 G1 F1 hr (af (pv 0) (af (pv 1) (af (ixZ (pv 4)) aC)))))) (ixZ (pv 0))) ip_add)))⟩
  (bc ⟨(i8 bT rfl (pi_zip3 rfl T2.zip (af (pc1 G2 F2 hr1 (af (pv 0) (af (ixZ (pv 2)) aC))) (af (pv 1) (af (ixZ (pv 0)) aC)))) (pg_tup rfl (iG (dX (i:=5) kh.nd rfl (.inl rfl)) (iG (dX (i:=6) kh.nd rfl (.inl rfl)) (iG (dX (i:=7) kh.nd rfl (.inl rfl)) nU)))) (df (nQ (i:=3) kh.nd rfl (.inl rfl) (cp iH (cp iQ (pv 5) (kE (cU op_lt (pv 5) bo (dN _)) (ixZ (pv 6)) (ixZ (pv 6)))) (cp iQ (ixZ (pv 7)) (ixZ (pv 7)))) ip_add)))⟩
  (dh ⟨(cz (pv 3))⟩)))),?_⟩
 refine ⟨_,rfl,p,_,_,_,rfl,rfl,SqT.of hp,aJ (j:=1) rfl,pr,rfl,⟨_,SqT.of hpr⟩,?_⟩;refine oi (K:=K) (xs:=yr) (fun i σ H3=>Same H H3∧∃ v4 v5 v6 v7,σ=[some (.ref t),some (.ref pb),some (.ref p),some (.int (my b bs (rows.take i))),v4,v5,v6,v7]) ⟨Same.refl H,none,none,none,none,rfl⟩ (fun i σ H3 _ ⟨S3,_⟩=>SqT.of (S3 _ _ hpr)) ?_ ?_
 ·rintro i y σ H3 hy3 ⟨S3,v4,v5,v6,v7,rfl⟩
  have hi:i<rows.length:=by rw [←lr];exact (ao.mp hy3).1
  obtain ⟨d,hd,dy⟩:=ry.get hy3;rw [ay,gE hi] at hd;cases hd;obtain ⟨q,vw,rfl,hq,hw⟩:=row_of dy;have ok:=hok rows[i] (bH hi);have u1:=up_abs (b:=b) (bs:=bs) (ws:=rows[i].2) b0 bu ok.few;have p1:=ok.lo;have p2:=ok.hi;refine ⟨_,rfl,_,rfl,q,_,_,_,rfl,rfl,SqT.of (S3 _ _ hq),aJ (j:=0) rfl,_,rfl,_,rfl,_,rfl,q,_,_,_,rfl,rfl,SqT.of (S3 _ _ hq),aJ (j:=1) rfl,.ref t,.ref pb,vw,b,m,sp,bs,rows[i].2,rfl,hv.same S3,b0,b61,hb.same S3,hw.same S3,by rw [lb];exact ok.inn,fun q5 H5 S5 h5=>?_⟩;refine ⟨q5,_,_,_,rfl,rfl,SqT.of h5,aJ (j:=0) rfl,_,_,rfl,rfl,.inl ⟨by show -(2 ^ 64)<rows[i].1;omega,by show rows[i].1<2 ^ 64;omega⟩,_,rfl,t,_,_,_,rfl,rfl,SqT.of (S5 _ _ (S3 _ _ ht)),aJ (j:=0) rfl,_,_,rfl,rfl,⟨?_,?_⟩,_,_,rfl,rfl,S3.trans S5,some (.ref q),v5,v6,v7,?_⟩
  ·rw [Int.natAbs_mul]
   have h1:rows[i].1.natAbs≤10 ^ 12:=by omega
   exact bR (Nat.mul_le_mul h1 u1) (by trivial)
  ·exact bR (by omega:b.natAbs≤10 ^ 61) (by trivial)
  ·unfold my
   rw [sum_take _ hi];rfl
 rintro σ H3 ⟨S3,v4,v5,v6,v7,rfl⟩;rw [lr,bf];have hrr:IsD H3 (.ref pr) (.tup (rows.map rowD)):= .tup (S3 _ _ hpr) (ry.same S3);refine ⟨_,rfl,_,rfl,p,_,_,_,rfl,rfl,SqT.of (S3 _ _ hp),aJ (j:=1) rfl,.ref t,pr,b,m,sp,rows,rfl,hv.same S3,few,hrr,hok,fun L H4 S4 hL=>?_⟩;have S04:=S3.trans S4;refine ⟨_,rfl,_,rfl,t,_,_,_,rfl,rfl,SqT.of (S04 _ _ ht),aJ (j:=2) rfl,⟨true,L⟩,⟨false,pb⟩,⟨false,pn⟩,_,_,_,rfl,hL,S04 _ _ hpb,S04 _ _ hpn,?_⟩;have lo:=own_len sp rows;refine for_zip3 (c1:=⟨true,L⟩) (c2:=⟨false,pb⟩) (c3:=⟨false,pn⟩) (xs:=(ownM sp rows).map V.int) (ys:=yb) (zs:=ys) (fun i σ H5=>Same H4 H5∧∃ v4 v5 v6 v7,σ=[some (.ref t),some (.ref pb),some (.ref p),some (.int (my b bs rows+((aR i).map (termW sp bs rows)).sum)),v4,v5,v6,v7]) ⟨Same.refl H4,v4,v5,v6,v7,by simp⟩ (fun i σ H5 _ ⟨S5,_⟩=>⟨S5 _ _ hL,S5 _ _ (S04 _ _ hpb),S5 _ _ (S04 _ _ hpn)⟩) (by rw [aa];omega) (by rw [aa];omega) ?_ ?_
 ·rintro i x y z pz σ H5 hx hy5 hz ⟨S5,v4,v5,v6,v7,rfl⟩ hpz
  have hi:i<sp.length:=by rw [←hl];exact (ao.mp hz).1
  have hib:i<bs.length:=by omega
  rw [ay,gE (by omega)] at hx;cases hx;obtain ⟨qb,e1,h1⟩:=jJ rb (gE hib);rw [hy5] at e1;cases e1;obtain ⟨qz,e2,h2⟩:=hy i sp[i] (gE hi);rw [hz] at e2;cases e2;have eo:(ownM sp rows)[i]=owK sp rows i:=by
   rw [←own_at hi hok,ag,gE (by omega)];rfl
  rw [eo];have S6:Same H4 (upd H5 pz (.tup [.int (owK sp rows i),.ref qb,.ref qz])):=S5.put hpz;have h6:(upd H5 pz (.tup [.int (owK sp rows i),.ref qb,.ref qz])) pz=some (.tup [.int (owK sp rows i),.ref qb,.ref qz]):=aU;generalize upd H5 pz (.tup [.int (owK sp rows i),.ref qb,.ref qz])=H6 at S6 h6 ⊢;have S06:=S04.trans S6;have ob:=owK_abs (k:=i) hws hok lr41;have wx:=hws sp[i] (bH hi);have ew:wOf sp i=sp[i].w:=by unfold wOf;rw [gE hi]
  have el:lOf sp i=sp[i].l:=by unfold lOf;rw [gE hi]
  have eb:bs.getD i (0,0)=bs[i]:=by rw [ag,gE hib];rfl
  have et:termW sp bs rows i=owK sp rows i * (if owK sp rows i<0 then bs[i].2 else bs[i].1) - sp[i].w * sp[i].l:=by unfold termW;rw [ew,el,eb]
  refine ⟨pz,_,rfl,SqT.of h6,rfl,_,_,rfl,_,_,rfl,_,_,rfl,rfl,?_⟩;refine ⟨_,rfl,_,rfl,_,rfl,_,_,rfl,rfl,_,rfl,?_⟩
  by_cases hneg:owK sp rows i<0
  ·refine iteB (o8 hneg) ?_
   refine ⟨_,rfl,qb,_,_,_,rfl,rfl,SqT.of (S06 _ _ h1),aJ (j:=1) rfl,_,_,rfl,rfl,.inl ⟨by show -(2 ^ 64)<owK sp rows i;omega,by show owK sp rows i<2 ^ 64;omega⟩,_,rfl,qz,_,_,_,rfl,rfl,SqT.of (S06 _ _ h2),aJ (j:=4) rfl,_,rfl,qz,_,_,_,rfl,rfl,SqT.of (S06 _ _ h2),aJ (j:=2) rfl,_,_,rfl,rfl,.inl ⟨by show -(2 ^ 64)<sp[i].w;omega,by show sp[i].w<2 ^ 64;omega⟩,_,_,rfl,rfl,_,_,rfl,rfl,S6,v4,some (.int (owK sp rows i)),some (.ref qb),some (.ref qz),?_⟩;rw [sum_range,et,o4 hneg,←Int.add_assoc];rfl
  ·refine oQ (o9 hneg) ?_
   refine ⟨_,rfl,qb,_,_,_,rfl,rfl,SqT.of (S06 _ _ h1),aJ (j:=0) rfl,_,_,rfl,rfl,.inl ⟨by show -(2 ^ 64)<owK sp rows i;omega,by show owK sp rows i<2 ^ 64;omega⟩,_,rfl,qz,_,_,_,rfl,rfl,SqT.of (S06 _ _ h2),aJ (j:=4) rfl,_,rfl,qz,_,_,_,rfl,rfl,SqT.of (S06 _ _ h2),aJ (j:=2) rfl,_,_,rfl,rfl,.inl ⟨by show -(2 ^ 64)<sp[i].w;omega,by show sp[i].w<2 ^ 64;omega⟩,_,_,rfl,rfl,_,_,rfl,rfl,S6,v4,some (.int (owK sp rows i)),some (.ref qb),some (.ref qz),?_⟩;rw [sum_range,et,oZ hneg,←Int.add_assoc];rfl
 ·rintro σ H5 ⟨S5,v4,v5,v6,v7,rfl⟩
  refine ⟨_,rfl,?_⟩;have k1:=k H5 (S04.trans S5);unfold kf at k1;rw [aa,lo];exact k1
abbrev sDead:cP:=top 11
theorem scDead:cb ["net","bounds","ring","beats"] pzb (defScope sDead):=by trivial
theorem ok_dead (F:Fun K "is_dead" "is_dead" sDead f fd)(G1:Fn K mg "beats_of" sBeats pzb f1 fd1)(F1:cS P w K mg base CX0 2 f1 fd1 pzb ng):cS P w K mg base CX0 3 f fd pzb spDead:=by
 refine F.ok scDead (by contradiction) (fun cdv A outer s H vs Q E hr h=>?_);obtain ⟨vn,vb,vw,b,m,sp,bs,ws,rfl,hv,hb0,hb1,hb,hw,hin,k⟩:=h;refine ⟨_,PSl.h (bc ⟨(bD (i:=3) scDead.nd rfl (.inl rfl) (pc1 G1 F1 hr (af (pv 0) (af (pv 1) (af (pv 2) aC)))))⟩
  (dh ⟨(cz (kW op_gt (ixZ (pv 3)) (ixZ (pv 3)) (dN _)))⟩)),?_⟩
 refine ⟨_,rfl,_,rfl,_,rfl,vn,vb,vw,b,m,sp,bs,ws,rfl,hv,hb0,hb1,hb,hw,hin,fun p1 H1 S1 h1=>?_⟩;exact ⟨_,rfl,p1,_,_,_,rfl,rfl,SqT.of h1,aJ (j:=0) rfl,_,rfl,p1,_,_,_,rfl,rfl,SqT.of h1,aJ (j:=1) rfl,_,_,rfl,rfl,k H1 S1⟩
abbrev sWidth:cP:=top 4
theorem scWidth:cb ["net","span","least","most"] pzh (defScope sWidth):=by trivial
theorem ok_width (F:Fun K "width_of" "width_of" sWidth f fd):cS P w K mg base CX0 1 f fd pzh spWidth:=by
 refine F.ok scWidth (by contradiction) (fun cdv A outer s H vs Q E hr h=>?_);obtain ⟨v,b,m,sp,i,x,rfl,hv,hx,k⟩:=h;obtain ⟨t,p,ys,rfl,ht,hp,hl,hy⟩:=fj hv;obtain ⟨q,hq,hq2⟩:=hy i x hx;refine ⟨_,PSl.h (bc ⟨(bD (i:=2) scWidth.nd rfl (.inl rfl) (ixZ (d9 dH (ixZ (pv 0)) (pv 1) (fun _ _=>rfl))))⟩
  (bc ⟨(bD (i:=3) scWidth.nd rfl (.inl rfl) (ixZ (d9 dH (ixZ (pv 0)) (pv 1) (fun _ _=>rfl))))⟩
  (dh ⟨(cz (cp iH (pv 3) (pv 2)))⟩))),?_⟩
 refine ⟨_,rfl,t,_,_,_,rfl,rfl,SqT.of ht,aJ (j:=2) rfl,_,rfl,p,_,_,_,rfl,rfl,SqT.of hp,aJ (j:=i) hq,q,_,_,_,rfl,rfl,SqT.of hq2,aJ (j:=2) rfl,?_⟩;refine ⟨_,rfl,t,_,_,_,rfl,rfl,SqT.of ht,aJ (j:=2) rfl,_,rfl,p,_,_,_,rfl,rfl,SqT.of hp,aJ (j:=i) hq,q,_,_,_,rfl,rfl,SqT.of hq2,aJ (j:=3) rfl,?_⟩;exact ⟨_,rfl,_,rfl,_,_,rfl,rfl,k⟩
abbrev sSpW:cP:=top 14
abbrev ki:cP:=top 15
def lamPos:List cP→Pos
 | [.Return (some (.Call _ _ [⟨_,.Lambda _ _ _ lp,_⟩] _)) _]=>lp
 | _=>⟨0,0,0,0⟩
abbrev lpW:Pos:=lamPos (fk sSpW)
abbrev lqW:Str:=(("spans_by_width" :Str) ++ ".<locals>.") ++ "<lambda>"
theorem okC {qual:Str}{c:ai}{N:List Str}{k:Nat}{sp:Sp}(F:Fun K x qual st f fd)(hc:fd.code= .ref c)(S:cb N ps (defScope st))(len:∀ vs H Q E,sp vs H Q E→vs.length=ps.length)
  (hbody:∀ (A:bS) (outer:List Env) (s:aq) (H:Hp) (vs:List V) (Q:VK) (E:XK),Room k (A.deeper (envOfC qual (defScope st) s.heap.objs.size f (.ref c)))→sp vs H Q E →
   ∃ t,PSs (cxOf CX0 P w K mg base N qual (defScope st) f (.ref c) A outer s H E).nox (fk st) t∧t { nx:=fun _ H'=>Q .non H',rt:=Q } (L2.start N vs) H):cS P w K mg base CX0 (k+1) f fd ps sp:=by
 obtain ⟨oc,od,kV,doc,pm,an,cdv,ct,osl,rfl,lk,hcd⟩:=F.ex;have hc:cdv= .ref c:=hc;subst hc;refine fn_of lk hcd S len fun A outer s H vs Q E hr hsp=>?_
 obtain ⟨t,h,q⟩:=hbody A outer s H vs Q E hr hsp;exact ⟨t,h.nox,q⟩
theorem scSpW:cb pza pza (defScope sSpW):=by trivial
theorem ok_spW {c Tb0:ai}(F:Fun K "spans_by_width" "spans_by_width" sSpW f fd)(hcd:fd.code= .ref c)(C:dY K c Tb0=true)(B:BM mg base)(T:Nm mg)(T2:Nt mg)(ms:mg "sorted" =none)(G1:Fn K mg "width_of" sWidth pzh f1 fd1) :
  cS P w K mg base CX0 5 f fd pza (spSpW Tb0 lpW lqW):=by
 have F1:cS P w K mg base CX0 1 f1 fd1 pzh spWidth:=ok_width G1.F;refine okC F hcd scSpW (by contradiction) (fun A outer s H vs Q E hr h=>?_);obtain ⟨v,b,m,sp,rfl,hv,few,hT,k⟩:=h;obtain ⟨t,p,ys,rfl,ht,hp,hl,hy⟩:=fj hv;refine ⟨_,PSl.h (dh ⟨(cz (pe_sortL (js:=[0]) (fr:=pza) (x := "span") (c:=c) (P:=Tb0) rfl hr.depth rfl ms (gv call_rng1 rfl T2.range boot_range (af (eh cZ rfl T.len cQ (af (ixZ (pv 0)) aC)) aC)) rfl rfl C B (fun _ _ _ _ _ _=>rfl) rfl rfl rfl (by trivial) rfl (by decide) (by exists sSpW) rfl (by trivial)
  (fun cl L f' cd s' H'=>pe_tup (af (pc1 G1 F1 (((hr.in1).in1).deeper _ |>.mono (by decide)) (af (pv 1) (af (pv 0) aC))) (af (pv 0) aC)))))⟩),?_⟩
 refine ⟨_,rfl,t,_,_,_,rfl,rfl,SqT.of ht,aJ (j:=2) rfl,p,_,rfl,.inr (SqT.of hp),_,rfl,fun r H1 S1 hr1=>?_⟩;have hv1:IsD H1 (.ref t) (jL b m sp):=hv.same S1;have hT1:=LamT.same S1 hT;refine ⟨r,ys.length,wkey sp,rfl,hr1,by omega,hT1,wkey_nodup sp _,fun i hi H2 tb=>?_,fun D H4 π tb lt hD pm pw=>?_⟩
 ·have hv2:=bY (Tb.tupK (LamT.tbl hT1) tb) hv1
  refine ⟨_,rfl,_,rfl,.ref t,b,m,sp,i,sAt sp i,rfl,hv2,iP (by omega),_,rfl,mx,fun q hq=>⟨fun a o e=>by rw [bw (bz e hq)];exact e,q,rfl,aU⟩⟩
 ·exact k D H4 π ((Same.tb S1).trans tb) lt hD ⟨by rw [←hl];exact pm,pw⟩
theorem j3:cb ["net","groups","taken","span","one","other"] pza (defScope ki):=by trivial
theorem ok_forest {Tb0:ai}(F:Fun K "forest_of" "forest_of" ki f fd)(T:Nm mg)(T2:Nt mg)(ms:mg "sorted" =none)(G1:Fn K mg "spans_by_width" sSpW pza f1 fd1)(F1:cS P w K mg base CX0 5 f1 fd1 pza (spSpW Tb0 lp lq)) :
  cS P w K mg base CX0 6 f fd pza (jY Tb0 lp lq):=by
 refine F.ok j3 (by contradiction) (fun cdv A outer s H vs Q E hr h=>?_);obtain ⟨v,b,m,sp,rfl,hv,N,hT,k⟩:=h;obtain ⟨t,p,ys,rfl,ht,hp,hl,hy⟩:=fj hv;obtain ⟨mn,rfl⟩:=cu (show 0≤m by have:=N.m1;omega);have m2:=N.m2;have few:=N.few;have E:=N.ends;rw [cM] at E k;refine ⟨_,PSl.h (bc ⟨(bD (i:=1) j3.nd rfl (.inl rfl) (gv (call_listR rfl) rfl T2.tlist boot_list (af (gv call_rng1 rfl T2.range boot_range (af (ixZ (pv 0)) aC)) aC)))⟩
  (bc ⟨(bD (i:=2) j3.nd rfl (.inl rfl) (jk aC))⟩
  (bc ⟨(i8 bT rfl (ji (pc1 G1 F1 hr (af (pv 0) aC))) (dX (i:=3) j3.nd rfl (.inl rfl)) (PSl.h (bc ⟨(bD (i:=4) j3.nd rfl (.inr rfl) (d9 fA (pv 1) (ixZ (d9 dH (ixZ (pv 0)) (pv 3) (fun _ _=>rfl))) (fun _ _=>rfl)))⟩
  (bc ⟨(bD (i:=5) j3.nd rfl (.inr rfl) (d9 fA (pv 1) (ixZ (d9 dH (ixZ (pv 0)) (pv 3) (fun _ _=>rfl))) (fun _ _=>rfl)))⟩
  (dh ⟨(i7 (cU op_ne (pv 4) (pv 5) (dN _)) (PSl.h (bc ⟨(jh (mz bC cL cJ iI (pv 2) (af (pv 3) aC)))⟩
  (dh ⟨(l4 (iy:=1) (fr:=["one","other"]) (js:=[4,5]) j3.nd rfl (.inl rfl) rfl (ji (pv 1)) (by trivial) rfl (by trivial) rfl (by exists ki) (by trivial) rfl (by trivial) (fun _ _ _ _ _=>⟨(kE (cU mB (pv 0) (pv 2) (dN _)) (pv 1) (pv 0)),ia⟩))⟩))) fv)⟩)))))⟩
  (dh ⟨(cz (gv iJ rfl T.ttup iA (af (eh call_sortedI rfl ms boot_sorted (af (pv 2) aC)) aC)))⟩)))),?_⟩
 refine ⟨_,rfl,t,_,_,_,rfl,rfl,SqT.of ht,aJ (j:=1) rfl,(mn:Int),rfl,fun a1 H1 S1 h1=>⟨a1,mn,rfl,h1,by omega,fun Lg hLg=>?_⟩⟩;have S2:Same H (upd H1 Lg (.lst ((aR mn).map fun k=>V.int (k:Nat)))):=S1.trans (Same.put (Same.refl H1) hLg);have hLg2:(upd H1 Lg (.lst ((aR mn).map fun k=>V.int (k:Nat)))) Lg=some (.lst ((jM mn).map V.int)):=by rw [aU];unfold jM;rw [dt];rfl
 generalize upd H1 Lg (.lst ((aR mn).map fun k=>V.int (k:Nat)))=H2 at S2 hLg2 ⊢;refine ⟨bK _,fun Lt hLt=>?_⟩;have S3:Same H (upd H2 Lt (.lst [])):=S2.trans (Same.put (Same.refl H2) hLt);have hgt:Lg≠Lt:=fun z=>by rw [z,hLt] at hLg2;cases hLg2
 have hLt3:(upd H2 Lt (.lst [])) Lt=some (.lst []):=aU;have hLg3:(upd H2 Lt (.lst [])) Lg=some (.lst ((jM mn).map V.int)):=by rw [bw hgt];exact hLg2
 generalize upd H2 Lt (.lst [])=H3 at S3 hLt3 hLg3 ⊢;have hT3:=LamT.same S3 hT;obtain ⟨ps3,hTb3⟩:=LamT.tbl hT3;refine ⟨_,rfl,.ref t,b,mn,sp,rfl,hv.same S3,few,hT3,fun D H4 π tb4 hT4 hD O=>?_⟩;obtain ⟨ps4,hTb4⟩:=LamT.tbl hT4;have nLg:Lg≠Tb0:=eD hLg3 hTb3 nofun;have nLt:Lt≠Tb0:=eD hLt3 hTb3 nofun;have hLg4:=tb4 _ _ nLg hLg3;have hLt4:=tb4 _ _ nLt hLt3;have nDg:D≠Lg:=fun z=>by rw [z,hLg4] at hD;cases hD
 have nDt:D≠Lt:=fun z=>by rw [z,hLt4] at hD;cases hD
 have S5:Same H4 (upd H4 D (.lst (π.map fun (i:Nat)=>V.int i))):=Same.put (Same.refl H4) hD;have tb5:L2.Tb Tb0 H (upd H4 D (.lst (π.map fun (i:Nat)=>V.int i))):=((Same.tb S3).trans tb4).trans (Same.tb S5);have hT5:=LamT.same S5 hT4;have hD5:(upd H4 D (.lst (π.map fun (i:Nat)=>V.int i))) D=some (.lst (π.map fun (i:Nat)=>V.int i)):=aU;have hLg5:=S5 _ _ hLg4;have hLt5:=S5 _ _ hLt4;generalize upd H4 D (.lst (π.map fun (i:Nat)=>V.int i))=H5 at tb5 hT5 hD5 hLg5 hLt5 ⊢;have hLtN:∀ o,H Lt=some o→False:=fun o e=>by rw [S2 _ _ e] at hLt;cases hLt
 clear hLg4 hLt4 S5 hD hTb4 hT4 tb4 hLg3 hLt3 hT3 hTb3 hLg2 hLt S2 h1 S1 hLg S3;refine ⟨D,rfl,⟨_,SqL.of hD5⟩,?_⟩;have tkE:∀ {H':Hp},L2.Tb Tb0 H H'→TupK H H':=fun e=>Tb.tupK (LamT.tbl hT) e
 refine kJ (K:=K) (a:=D) (xs:=π.map fun (i:Nat)=>V.int i) (fun i σ HA=>L2.Tb Tb0 H HA∧L2.LamT Tb0 lp lq HA∧HA D=some (.lst (π.map fun (i:Nat)=>V.int i))∧∃ (La:ai) (v3 v4 v5:Option V),σ=[some (.ref t),some (.ref La),some (.ref Lt),v3,v4,v5]∧La≠Lt∧HA La=some (.lst (((π.take i).foldl (fP sp) (jM mn,[])).1.map V.int))∧HA Lt=some (.lst (((π.take i).foldl (fP sp) (jM mn,[])).2.map fun (i:Nat)=>V.int i)))
  ⟨tb5,hT5,hD5,Lg,none,none,none,rfl,hgt,hLg5,hLt5⟩ (fun i σ HA _ ⟨_,_,h,_⟩=>SqL.of h) ?_ ?_
 ·rintro i x σ HA hx ⟨tbA,hTA,hDA,La,v3,v4,v5,rfl,nLa,hLa,hLtA⟩
  rw [ay] at hx;obtain ⟨j,hj,rfl⟩:=bB.mp hx;have hjn:j<sp.length:=O.lt (bh hj);have hvA:=bY (tkE tbA) hv;obtain ⟨t',p',ys',e0,htA,hpA,hlA,hyA⟩:=fj hvA;cases e0;obtain ⟨q,hq,hq2⟩:=hyA j _ (iP hjn);obtain ⟨s0,s1,g0,g1⟩:=E _ (dG hjn);have fold:(π.take (i+1)).foldl (fP sp) (jM mn,[])=fP sp ((π.take i).foldl (fP sp) (jM mn,[])) j:=by
   rw [bg,hj];show (π.take i++[j]).foldl _ _=_;rw [dJ];rfl
  rw [fold];obtain ⟨gl,gb⟩:((π.take i).foldl (fP sp) (jM mn,[])).1.length=mn∧((π.take i).foldl (fP sp) (jM mn,[])).2.length≤sp.length:=by
   refine ⟨(og E (π.take i) _ _ [] (fun i hi=>O.lt (jx hi)) (Rl.start mn)).1.len,?_⟩;have:=(jN sp (π.take i) (jM mn,[])).2;rw [bG] at this;have h2:=O.len;show _≤_;have h3:((jM mn,([]:List Nat)).2).length=0:=rfl;omega
  generalize (π.take i).foldl (fP sp) (jM mn,[])=c at hLa hLtA gl gb ⊢;obtain ⟨gs,tk⟩:=c;have hLa:HA La=some (.lst (gs.map V.int)):=hLa;have hLtA:HA Lt=some (.lst (tk.map fun (i:Nat)=>V.int i)):=hLtA;have gl:gs.length=mn:=gl;have gb:tk.length≤sp.length:=gb;have es:=ow (ts:=gs) s0 (by omega);have eg:=ow (ts:=gs) g0 (by omega);refine ⟨_,rfl,_,rfl,t,_,_,_,rfl,rfl,SqT.of htA,aJ (j:=2) rfl,_,rfl,p',_,_,_,rfl,rfl,SqT.of hpA,aJ (j:=j) hq,q,_,_,_,rfl,rfl,SqT.of hq2,aJ (j:=0) rfl,La,_,_,_,rfl,rfl,SqL.of hLa,es,?_⟩;refine ⟨_,rfl,_,rfl,t,_,_,_,rfl,rfl,SqT.of htA,aJ (j:=2) rfl,_,rfl,p',_,_,_,rfl,rfl,SqT.of hpA,aJ (j:=j) hq,q,_,_,_,rfl,rfl,SqT.of hq2,aJ (j:=1) rfl,La,_,_,_,rfl,rfl,SqL.of hLa,eg,?_⟩;refine ⟨_,rfl,_,rfl,rfl,_,rfl,?_⟩
  by_cases e:tm gs (sAt sp j).s=tm gs (sAt sp j).g
  ·have st:fP sp (gs,tk) j=(gs,tk):=by unfold fP;exact o4 e
   rw [st,e,o8 rfl];exact iteF ⟨tbA,hTA,hDA,La,_,_,_,rfl,nLa,hLa,hLtA⟩
  ·have st:fP sp (gs,tk) j=(ix gs (tm gs (sAt sp j).s) (tm gs (sAt sp j).g),tk++[j]):=by unfold fP;exact oZ e
   rw [st,o9 (fun z=>e (V.int.inj z))];refine iteT ?_;obtain ⟨x,hx⟩:∃ x,x=tm gs (sAt sp j).s:=⟨_,rfl⟩;obtain ⟨y,hy⟩:∃ y,y=tm gs (sAt sp j).g:=⟨_,rfl⟩;rw [←hx,←hy] at e ⊢;refine ⟨_,rfl,.inl ⟨rfl,_,SqL.of hLtA⟩,_,rfl,Lt,_,_,rfl,rfl,hLtA,lG (by rw [aa];omega),?_⟩;have hLt6:(upd HA Lt (.lst ((tk.map fun (i:Nat)=>V.int i)++[V.int j]))) Lt=some (.lst ((tk++[j]).map fun (i:Nat)=>V.int i)):=by rw [aU,aA];rfl
   have keep:∀ a o,a≠Lt→HA a=some o→(upd HA Lt (.lst ((tk.map fun (i:Nat)=>V.int i)++[V.int j]))) a=some o:=fun a o h e=>by rw [bw h];exact e
   have nTL:Tb0≠Lt:=fun z=>nLt z.symm
   have tb6:L2.Tb Tb0 H (upd HA Lt (.lst ((tk.map fun (i:Nat)=>V.int i)++[V.int j]))):=fun a o hn e=>keep a o (fun z=>by subst z;exact hLtN _ e) (tbA a o hn e)
   have hT6:L2.LamT Tb0 lp lq (upd HA Lt (.lst ((tk.map fun (i:Nat)=>V.int i)++[V.int j]))):=LamT.upd hTA (fun p u z=>by rw [hLtA] at z;cases z) fun ps z=>by rw [hLtA] at z;cases z
   have hD6:=keep _ _ nDt hDA;have hLa6:=keep _ _ nLa hLa;generalize upd HA Lt (.lst ((tk.map fun (i:Nat)=>V.int i)++[V.int j]))=HB at hLt6 keep tb6 hT6 hD6 hLa6 ⊢;refine ⟨_,rfl,La,rfl,⟨_,SqL.of hLa6⟩,?_⟩;refine jR (K:=K) (a:=La) (xs:=gs.map V.int) (fun i zs HC=>HC=HB∧zs=(ix (gs.take i) x y).map V.int) ⟨rfl,rfl⟩ (fun i zs HC hi ⟨e1,e2⟩=>?_) (by rw [aa];exact eU (by omega)) (fun i v zs HC hv ⟨e1,e2⟩=>?_) (fun zs HC ⟨e1,e2⟩ L hL=>?_)
   ·subst e1
    refine ⟨SqL.of hLa6,?_⟩;rw [aa] at hi;rw [e2,aa];unfold ix;rw [aa,bG];omega
   ·subst e1
    rw [ay] at hv;obtain ⟨g,hg,rfl⟩:=bB.mp hv;refine gB ?_;have nx:zs++[V.int (if g=y then x else g)]=(ix (gs.take (i+1)) x y).map V.int:=by
     rw [e2];unfold ix;rw [bg,hg,aA,aA];rfl
    refine ⟨_,rfl,_,rfl,rfl,_,rfl,?_⟩
    by_cases eg:g=y
    ·rw [eg,o8 rfl]
     refine iteT ⟨_,rfl,rfl,?_⟩;rw [←nx,o4 eg]
    ·rw [o9 (fun z=>eg (V.int.inj z))]
     refine iteF ⟨_,rfl,rfl,?_⟩;rw [←nx,oZ eg]
   ·subst e1
    have eL:zs=(ix gs x y).map V.int:=by rw [e2,aa,bf]
    subst eL;have S7:Same HC (upd HC L (.lst ((ix gs x y).map V.int))):=Same.put (Same.refl HC) hL;have nLL:L≠Lt:=fun z=>by rw [z,hLt6] at hL;cases hL
    exact ⟨tb6.trans (Same.tb S7),LamT.same S7 hT6,S7 _ _ hD6,L,_,_,_,rfl,nLL,aU,S7 _ _ hLt6⟩
 ·rintro σ HA ⟨tbA,hTA,hDA,La,v3,v4,v5,rfl,nLa,hLa,hLtA⟩
  rw [aa,bf] at hLtA;have tl:(π.foldl (fP sp) (jM mn,[])).2.length≤40:=by
   have:=(jN sp π (jM mn,[])).2;have h2:=O.len;have h3:((jM mn,([]:List Nat)).2).length=0:=rfl;omega
  have hLtI:HA Lt=some (.lst (((jQ sp mn π).2.map fun (i:Nat)=>(i:Int)).map V.int)):=by rw [hLtA,dt];rfl
  refine ⟨_,rfl,Lt,_,rfl,SqL.of hLtI,by rw [aa];exact bR tl (by decide),fun L ns hL pm pw=>?_⟩;have S7:Same HA (upd HA L (.lst (ns.map V.int))):=Same.put (Same.refl HA) hL;refine ⟨L,_,rfl,.inl (Rd.of aU),fun u H8 S8 hu=>?_⟩;exact k u H8 ns ((tbA.trans (Same.tb S7)).trans (Same.tb S8)) (LamT.same S8 (LamT.same S7 hTA)) hu ⟨π,O,pm,pw⟩
abbrev sFrom:cP:=top 6
abbrev sTo:cP:=top 7
theorem scFrom:cb ["net","step","span"] pzd (defScope sFrom):=by trivial
theorem ok_from (F:Fun K "leads_from" "leads_from" sFrom f fd):cS P w K mg base CX0 1 f fd pzd spFrom:=by
 refine F.ok scFrom (by contradiction) (fun cdv A outer s0 H vs Q E hr h=>?_);obtain ⟨v,q,b,m,sp,s,x,rfl,hv,hq,hx,k⟩:=h;obtain ⟨t,p,ys,rfl,ht,hp,hl,hy⟩:=fj hv;obtain ⟨qx,hqx,hqx2⟩:=hy s.i x hx;refine ⟨_,PSl.h (bc ⟨(bD (i:=2) scFrom.nd rfl (.inl rfl) (d9 dH (ixZ (pv 0)) (ixZ (pv 1)) (fun _ _=>rfl)))⟩
  (dh ⟨(cz (kE (cU mB (ixZ (pv 1)) bo (dN _)) (ixZ (pv 2)) (ixZ (pv 2))))⟩)),?_⟩
 refine ⟨_,rfl,t,_,_,_,rfl,rfl,SqT.of ht,aJ (j:=2) rfl,_,rfl,q,_,_,_,rfl,rfl,SqT.of hq,aJ (j:=0) rfl,p,_,_,_,rfl,rfl,SqT.of hp,aJ (j:=s.i) hqx,?_⟩;refine ⟨_,rfl,q,_,_,_,rfl,rfl,SqT.of hq,aJ (j:=1) rfl,rfl,_,rfl,?_⟩;refine ite2 (fun h1=>?_) (fun h1=>?_)
 ·have h1:s.d=1:=by have:=pe h1;injection this
  refine ⟨_,rfl,qx,_,_,_,rfl,rfl,SqT.of hqx2,aJ (j:=0) rfl,?_⟩;have e:frm x s.d=x.s:=o4 h1;rw [←e];exact k
 ·have h1:s.d≠1:=fun z=>h1 (o8 (by rw [z]))
  refine ⟨_,rfl,qx,_,_,_,rfl,rfl,SqT.of hqx2,aJ (j:=1) rfl,?_⟩;have e:frm x s.d=x.g:=oZ h1;rw [←e];exact k
theorem scTo:cb ["net","step","span"] pzd (defScope sTo):=by trivial
theorem ok_to (F:Fun K "leads_to" "leads_to" sTo f fd):cS P w K mg base CX0 1 f fd pzd spTo:=by
 refine F.ok scTo (by contradiction) (fun cdv A outer s0 H vs Q E hr h=>?_);obtain ⟨v,q,b,m,sp,s,x,rfl,hv,hq,hx,k⟩:=h;obtain ⟨t,p,ys,rfl,ht,hp,hl,hy⟩:=fj hv;obtain ⟨qx,hqx,hqx2⟩:=hy s.i x hx;refine ⟨_,PSl.h (bc ⟨(bD (i:=2) scTo.nd rfl (.inl rfl) (d9 dH (ixZ (pv 0)) (ixZ (pv 1)) (fun _ _=>rfl)))⟩
  (dh ⟨(cz (kE (cU mB (ixZ (pv 1)) bo (dN _)) (ixZ (pv 2)) (ixZ (pv 2))))⟩)),?_⟩
 refine ⟨_,rfl,t,_,_,_,rfl,rfl,SqT.of ht,aJ (j:=2) rfl,_,rfl,q,_,_,_,rfl,rfl,SqT.of hq,aJ (j:=0) rfl,p,_,_,_,rfl,rfl,SqT.of hp,aJ (j:=s.i) hqx,?_⟩;refine ⟨_,rfl,q,_,_,_,rfl,rfl,SqT.of hq,aJ (j:=1) rfl,rfl,_,rfl,?_⟩;refine ite2 (fun h1=>?_) (fun h1=>?_)
 ·have h1:s.d=1:=by have:=pe h1;injection this
  refine ⟨_,rfl,qx,_,_,_,rfl,rfl,SqT.of hqx2,aJ (j:=1) rfl,?_⟩;have e:too x s.d=x.g:=o4 h1;rw [←e];exact k
 ·have h1:s.d≠1:=fun z=>h1 (o8 (by rw [z]))
  refine ⟨_,rfl,qx,_,_,_,rfl,rfl,SqT.of hqx2,aJ (j:=0) rfl,?_⟩;have e:too x s.d=x.s:=oZ h1;rw [←e];exact k
abbrev nv:cP:=top 16
abbrev sWayB:cP:=top 17
abbrev sRingBy:cP:=top 18
inductive spSteps (vs:List V)(H:Hp)(Q:VK)(_:XK):Prop
 | mk (v u b m sp tk x:_)(_:vs=[v,.ref u,.int x])(_:IsD H v (jL b m sp))(_:H u=some (.tup (tk.map fun (i:Nat)=>V.int i)))(_:(∀ i∈tk,i<sp.length))(_:tk.length≤40)(_:∀ L H' zs,Same H H'→H L=none→H' L=some (.lst zs)→IsDs H' zs (eQ Stp.row (de sp tk x))→Q (.ref L) H')
inductive spWayBt (vs:List V)(H:Hp)(Q:VK)(_:XK):Prop
 | mk (v u b m sp tk be en:_)(_:vs=[v,.ref u,.int be,.int en])(_:IsD H v (jL b m sp))(_:NetT b m sp)(_:H u=some (.tup (tk.map fun (i:Nat)=>V.int i)))(_:(∀ i∈tk,i<sp.length))(_:tk.length≤40)(_:0≤be)(_:be<m)(_:Held sp tk be en)(_:∀ q H' p,Same H H'→IsD H' q (mf p)→WayR sp tk be en p→Q q H')
inductive spRingBy (T:ai)(lp:Pos)(lq:Str)(vs:List V)(H:Hp)(Q:VK)(_:XK):Prop
 | mk (v b m sp k:_)(_:vs=[v,.int (k:Nat)])(_:IsD H v (jL b m sp))(_:NetT b m sp)(_:L2.LamT T lp lq H)(_:k<sp.length)(_:∀ q H' (l π:List Nat) p,L2.Tb T H H'→L2.LamT T lp lq H'→IsD H' q (mf (⟨k,1⟩::p))→IsFor m.toNat sp (l.map fun (i:Nat)=>(i:Int))→Ordd sp π→l.Perm (jQ sp m.toNat π).2→WayR sp l (sAt sp k).g (sAt sp k).s p→Q q H')
def DW (H:Hp):List (Key×V)→List (Int×List Stp)→Prop:=ju fun (p:Key×V) (q:Int×List Stp)=>p.1= .inl q.1∧IsD H p.2 (mf q.2)
theorem DW.none {H:Hp}{x:Int}:∀ {kvs:List (Key×V)} {l:List (Int×List Stp)},DW H kvs l→lkW l x=none→lV kvs (.inl x)=none
 | _,_,.nil,_=>rfl
 | _,_,.cons (b:=q) r t,h=>by
  rw [j7] at h
  by_cases e:q.1=x
  ·rw [o4 e] at h;cases h
  ·rw [oZ e] at h
   rw [gP (fun z=>e (Sum.inl.inj (r.1.symm.trans z)))];exact DW.none t h
theorem DW.some {H:Hp}{x:Int}{ws:List Stp}:∀ {kvs:List (Key×V)} {l:List (Int×List Stp)},DW H kvs l→lkW l x=some ws→∃ v,lV kvs (.inl x)=some v∧IsD H v (mf ws)
 | _,_,.nil,h=>by cases h
 | _,_,.cons (b:=q) r t,h=>by
  rw [j7] at h
  by_cases e:q.1=x
  ·rw [o4 e] at h
   cases h;exact ⟨_,hW (by rw [r.1,e]),r.2⟩
  ·rw [oZ e] at h
   rw [gP (fun z=>e (Sum.inl.inj (r.1.symm.trans z)))];exact DW.some t h
theorem oB {ws:List Stp}(e:TupK H H')(h:IsD H v (mf ws)):IsD H' v (mf ws):=by
 obtain ⟨p,ys,rfl,hp,_,r⟩:=iE h;exact .tup (e _ _ hp) (fh e r)
theorem DW.keep (e:TupK H H'){kvs:List (Key×V)}{l:List (Int×List Stp)}(h:DW H kvs l):DW H' kvs l:=L2.Paired.mapP h fun _ _ z=>⟨z.1,oB e z.2⟩
theorem DW.len {H:Hp}:∀ {kvs:List (Key×V)} {l:List (Int×List Stp)},DW H kvs l→kvs.length=l.length
 | _,_,.nil=>rfl
 | _,_,.cons _ t=>pf (· + 1) (DW.len t)
theorem DW.snoc {H:Hp}{p:Key×V}{q:Int×List Stp}(h:p.1= .inl q.1∧IsD H p.2 (mf q.2)):∀ {kvs:List (Key×V)} {l:List (Int×List Stp)},DW H kvs l→DW H (kvs++[p]) (l++[q])
 | _,_,.nil=> .cons h .nil
 | _,_,.cons r t=> .cons r (DW.snoc h t)
structure JW (H Hc:Hp)(Da La:ai)(c:List (Int×List Stp)×List Int):Prop where
 same:Same H Hc
 da:∃ kvs,Hc Da=some (.dK kvs)∧DW Hc kvs c.1
 la:Hc La=some (.lst (c.2.map V.int))
theorem JW.on {Hc Hc':Hp}{Da La:ai}(j:JW H Hc Da La c)(e:Same Hc Hc'):JW H Hc' Da La c:=by
 obtain ⟨kvs,h1,h2⟩:=j.da;exact ⟨j.same.trans e,⟨kvs,e _ _ h1,h2.keep (Same.tupK e)⟩,e _ _ j.la⟩
theorem JW.upL {Hc:Hp}{Da La:ai}{td:List Int}(j:JW H Hc Da La c)(hL:H La=none)(n:Da≠La):JW H (upd Hc La (.lst (td.map V.int))) Da La (c.1,td):=by
 obtain ⟨kvs,h1,h2⟩:=j.da;exact ⟨fun a o e=>by rw [bw (bz e hL)];exact j.same a o e,⟨kvs,by rw [bw n];exact h1,h2.keep (fF j.la)⟩,aU⟩
theorem mapI_at {x:V}(h:(l.map fun (i:Nat)=>V.int i)[i]? =some x):∃ j,l[i]? =some j∧x=V.int (j:Nat):=by
 rw [ay] at h;obtain ⟨j,hj,rfl⟩:=bB.mp h;exact ⟨j,hj,rfl⟩
theorem lx {s:Stp}(h:s.i<sp.length):too (sAt sp s.i) s.d=fe sp s∧frm (sAt sp s.i) s.d=kM sp s:=by
 have e:sAt sp s.i=sp[s.i]:=by unfold sAt;rw [ag,gE h];rfl
 rw [e];exact ⟨(jW h).symm,(k4 h).symm⟩
theorem last_mem {l:List Int}{z:Int}(h:l.getLast? =some z):z∈l:=by
 obtain ⟨ys,rfl⟩:=List.getLast?_eq_some_iff.mp h;simp
theorem scSteps:cb ["net","spans","happening","steps"] pzm (defScope nv):=by trivial
theorem ok_steps (F:Fun K "steps_from" "steps_from" nv f fd)(G1:Fn K mg "leads_from" sFrom pzd f1 fd1):cS P w K mg base CX0 2 f fd pzm spSteps:=by
 have F1:cS P w K mg base CX0 1 f1 fd1 pzd spFrom:=ok_from G1.F;refine F.ok scSteps (by contradiction) (fun cdv A outer s H vs Q E hr h=>?_);obtain ⟨v,u,b,m,sp,tk,x,rfl,hv,hu,hlt,few,k⟩:=h;have hr1:=hr;refine ⟨_,PSl.h (bc ⟨(bD (i:=3) scSteps.nd rfl (.inl rfl) (cp op_catL (jj (fr:=[]) (js:=[]) rfl (jO (pv 1)) (by trivial) rfl (by trivial) rfl (by exists nv) (by trivial) rfl (by trivial) (fun _ _ _ _ _=>⟨(dg (af (pv 0) (af bo aC))),ia⟩)) (jj (fr:=[]) (js:=[]) rfl (jO (pv 1)) (by trivial) rfl (by trivial) rfl (by exists nv) (by trivial) rfl (by trivial) (fun _ _ _ _ _=>⟨(dg (af (pv 0) (af (pe_un un_neg bo) aC))),ia⟩))))⟩
  (dh ⟨(cz (jj (fr:=["happening","net"]) (js:=[2,0]) rfl (ji (pv 3)) (by trivial) rfl (by trivial) rfl (by exists nv) (by trivial) rfl (by trivial) (fun _ _ _ _ _=>⟨(pv 0),(nN (cU mB (pc1 G1 F1 hr1 (af (pv 2) (af (pv 0) aC))) (pv 1) (dN _)))⟩)))⟩)),?_⟩
 have half:∀ (d:Int) (td:TE) (H0:Hp) (Rt:V→Hp→Prop),(∀ σ H1 (R:VK),R (.int d) H1→td σ H1 R)→Same H H0→(∀ L H' zs,Same H0 H'→H' L=some (.lst zs)→IsDs H' zs (eQ Stp.row (tk.map fun i=>⟨i,d⟩))→Rt (.ref L) H') →
   CompW [] tNoIf (tTupA (tCons (tVar 0) (tCons td tNil))) [some v,some (.ref u),some (.int x),none] Rt (Itt K u) H0:=fun d td H0 Rt htd S0 fin=>by
  refine ka (K:=K) (a:=u) (xs:=tk.map fun (i:Nat)=>V.int i) (fun i zs HC=>Same H0 HC∧zs.length=i∧IsDs HC zs (eQ Stp.row ((tk.take i).map fun i=>⟨i,d⟩))) ⟨Same.refl H0,rfl,.nil⟩ (fun i zs HC hi ⟨e1,e2,_⟩=>⟨SqT.of (e1 _ _ (S0 _ _ hu)),Nat.le_of_eq e2⟩) (by rw [aa];exact eU (by omega)) (fun i y zs HC hy ⟨e1,e2,e3⟩=>?_) (fun zs HC ⟨e1,e2,e3⟩ D hD=>?_)
  ·obtain ⟨j,hj,rfl⟩:=mapI_at hy
   refine gB ⟨_,rfl,htd _ _ _ ⟨mx,fun q H2 S2 h2=>⟨e1.trans S2,by rw [av,e2];rfl,?_⟩⟩⟩;rw [bg,hj];show IsDs H2 (zs++[.ref q]) (eQ Stp.row ((tk.take i++[j]).map fun i=>⟨i,d⟩));unfold eQ at e3 ⊢;rw [aA,aA];exact (e3.same S2).append (.cons (.tup h2 (IsDs.ints (Stp.row ⟨j,d⟩))) .nil)
  ·have S2:=Same.put (Same.refl HC) hD (o:= .lst zs)
   rw [aa,bf] at e3;exact fin D _ zs (e1.trans S2) aU (e3.same S2)
 refine ⟨_,rfl,u,rfl,⟨_,SqT.of hu⟩,half 1 _ H _ (fun _ _ _ h=>h) (Same.refl H) fun L1 H1 z1 S1 h1 d1=>?_⟩;refine ⟨_,rfl,u,rfl,⟨_,SqT.of (S1 _ _ hu)⟩,half (-1) _ H1 _ (fun _ _ _ h=>⟨1,rfl,h⟩) S1 fun L2' H2 z2 S2 h2 d2=>?_⟩;have l1:z1.length=tk.length:=by rw [d1.length];unfold eQ;rw [aa,aa]
 have l2:z2.length=tk.length:=by rw [d2.length];unfold eQ;rw [aa,aa]
 refine ⟨L1,L2',_,_,rfl,rfl,S2 _ _ h1,h2,by rw [l1,l2];exact eU (by omega),fun L3 H3 S3 h3=>?_⟩;have d3:IsDs H3 (z1++z2) (eQ Stp.row (stF tk)):=by
  unfold stF eQ;rw [aA];exact ((d1.same S2).same S3).append (d2.same S3)
 have S03:=S1.trans (S2.trans S3);have hv3:=hv.same S03;refine ⟨_,rfl,L3,rfl,⟨_,SqL.of h3⟩,?_⟩;have ls:(z1++z2).length=(stF tk).length:=by rw [d3.length];unfold eQ;rw [aa]
 refine jR (K:=K) (a:=L3) (xs:=z1++z2) (fun i zs HC=>HC=H3∧zs.length≤i∧IsDs H3 zs (eQ Stp.row (((stF tk).take i).filter fun s=>decide (kM sp s=x)))) ⟨rfl,bK _,.nil⟩ (fun i zs HC hi ⟨e1,e2,_⟩=>⟨by rw [e1];exact SqL.of h3,e2⟩) (by rw [av,l1,l2];exact eU (by omega)) (fun i y zs HC hy ⟨e1,e2,e3⟩=>?_) (fun zs HC ⟨e1,e2,e3⟩ D hD=>?_)
 ·subst e1
  have hi:i<(stF tk).length:=by have:=(ao.mp hy).1;omega
  have hsi:=gE hi;obtain ⟨y',hy',dy⟩:=d3.at (i:=i) (d:= .tup ((Stp.row (stF tk)[i]).map Dt.int)) (by unfold eQ;rw [ay,hsi];rfl);rw [hy] at hy';cases hy';obtain ⟨q,qs,rfl,hq,rq⟩:=dy.tup_of;have eq:=rq.ints_of;subst eq;have hin:=hlt _ (mem_stF (bH hi)).1;refine ⟨_,rfl,_,rfl,v,q,b,m,sp,(stF tk)[i],sAt sp (stF tk)[i].i,rfl,hv3,hq,iP hin,_,rfl,rfl,_,rfl,?_⟩;rw [(lx hin).2];have nx:((stF tk).take (i+1)).filter (fun s=>decide (kM sp s=x))=((stF tk).take i).filter (fun s=>decide (kM sp s=x))++(if kM sp (stF tk)[i]=x then [(stF tk)[i]] else []):=by
   rw [bg,hsi,iM];show _++[(stF tk)[i]].filter _=_;rw [gu,List.filter_nil]
   by_cases e:kM sp (stF tk)[i]=x
   ·rw [o4 e,o4 (o8 e)]
   ·rw [oZ e,oZ (by rw [o9 e];decide)]
  rw [nx]
  by_cases e:kM sp (stF tk)[i]=x
  ·rw [o4 e,e,o8 rfl]
   refine iteT ⟨_,rfl,rfl,by rw [av];exact Nat.succ_le_succ e2,?_⟩;unfold eQ at e3 ⊢;rw [aA];exact e3.append (.cons dy .nil)
  ·rw [oZ e,o9 (fun z=>e (V.int.inj z)),dU]
   exact iteF ⟨rfl,Nat.le_succ_of_le e2,e3⟩
 ·subst e1
  have S4:=Same.put (Same.refl HC) hD (o:= .lst zs);rw [ls,bf] at e3;exact k D _ zs (S03.trans S4) (Same.free S03 hD) aU (e3.same S4)
theorem oG:cb ["net","spans","begin","end","ways","ahead","here","step","there"] pzy (defScope sWayB):=by trivial
theorem ok_wayBt (F:Fun K "way_between" "way_between" sWayB f fd)(G1:Fn K mg "steps_from" nv pzm f1 fd1)(F1:cS P w K mg base CX0 2 f1 fd1 pzm spSteps)(G2:Fn K mg "leads_to" sTo pzd f2 fd2):cS P w K mg base CX0 3 f fd pzy spWayBt:=by
 have F2:cS P w K mg base CX0 1 f2 fd2 pzd spTo:=ok_to G2.F;refine F.ok oG (by contradiction) (fun cdv A outer s H vs Q E hr h=>?_);obtain ⟨v,u,b,m,sp,tk,be,en,rfl,hv,N,hu,hlt,few,be0,be1,held,k⟩:=h;have u1:=bR (Nat.add_le_add_left (by decide:1≤64) _) hr.units;have hr1:Room 1 _:=hr.mono (by decide);have E:=N.ends;have m16:m.toNat≤16:=by have:=N.m2;omega
 have b1:be<(m.toNat:Int):=by omega
 refine ⟨_,PSl.h (bc ⟨(bD (i:=4) oG.nd rfl (.inl rfl) (pe_disp (pps_cons (pv 2) (dg aC) pps_nil) rfl rfl (by decide) (by decide)))⟩
  (bc ⟨(bD (i:=5) oG.nd rfl (.inl rfl) (jk (af (pv 2) aC)))⟩
  (bc ⟨(mQ bT (pt_cmp (lJ u1 (pv 3) (pv 4)) rfl) (PSl.h (bc ⟨(bD (i:=6) oG.nd rfl (.inl rfl) (oM bC fM fJ oO (pv 5)))⟩
  (dh ⟨(i8 bT rfl (ji (pc1 G1 F1 hr (af (pv 0) (af (pv 1) (af (pv 6) aC))))) (dX (i:=7) oG.nd rfl (.inl rfl)) (PSl.h (bc ⟨(bD (i:=8) oG.nd rfl (.inl rfl) (pc1 G2 F2 hr1 (af (pv 0) (af (pv 7) aC))))⟩
  (dh ⟨(i7 (pt_cmp (lJ u1 (pv 8) (pv 4)) rfl) (PSl.h (bc ⟨(ps_dput u1 (pv 4) (pv 8) (cp km (pe_dget u1 (pv 4) (pv 6) (fun _ _=>rfl)) (dg (af (pv 7) aC))) rfl)⟩
  (dh ⟨(jh (mz bC cL cJ iI (pv 5) (af (pv 8) aC)))⟩))) fv)⟩))))⟩))))⟩
  (dh ⟨(cz (pe_dget u1 (pv 4) (pv 3) (fun _ _=>rfl)))⟩)))),?_⟩
 intro Da hDa;refine ⟨_,rfl,bK _,fun q1 H1 S1 h1=>⟨S1 _ _ aU,[(.inl be,.ref q1)],rfl,(by show 1≤15;decide),?_⟩⟩;have S0:Same H (upd H Da (.dK [])):=Same.put (Same.refl H) hDa;have hDa1:H1 Da=some (.dK []):=S1 _ _ aU;have hDa2:(upd H1 Da (.dK (lL [] [(.inl be,.ref q1)]))) Da=some (.dK [(.inl be,.ref q1)]):=aU;have S2:Same H (upd H1 Da (.dK (lL [] [(.inl be,.ref q1)]))):=fun b o e=>by
  rw [bw (fun z=>by rw [z,hDa] at e;cases e)];exact S1 _ _ (S0 _ _ e)
 have hq1:(upd H1 Da (.dK (lL [] [(.inl be,.ref q1)]))) q1=some (.tup []):=by
  rw [bw (eD h1 hDa1 nofun)];exact h1
 generalize upd H1 Da (.dK (lL [] [(.inl be,.ref q1)]))=H2 at hDa2 S2 hq1 ⊢;clear hDa1 S0 S1 h1;refine ⟨_,rfl,szZ1,fun La hLa=>?_⟩;have nDL:Da≠La:=fun z=>by rw [z,hLa] at hDa2;cases hDa2
 have S3:Same H2 (upd H2 La (.lst [.int be])):=Same.put (Same.refl H2) hLa;have hLaH:H La=none:=by
  cases z:H La with
  | none=>rfl
  | some o=>rw [S2 _ _ z] at hLa;cases hLa
 have J3:JW H (upd H2 La (.lst [.int be])) Da La (itW sp tk be 0):=⟨S2.trans S3,⟨_,S3 _ _ hDa2,.cons ⟨rfl,.tup (S3 _ _ hq1) .nil⟩ .nil⟩,aU⟩;generalize upd H2 La (.lst [.int be])=H3 at J3 ⊢;clear S3 hLa hDa2 hq1 S2;have c0:(itW sp tk be 0).1.length+lT (itW sp tk be 0).1≤17:=by
  have:lT [(be,([]:List Stp))]≤16:=by
   unfold lT;have:=List.countP_le_length (p:=fun x:Nat=>(lkW [(be,([]:List Stp))] ((x:Nat):Int)).isNone) (l:=aR 16);rw [bt] at this;exact this
  show 1+lT [(be,([]:List Stp))]≤17;omega
 have c1:2 * lT (itW sp tk be 0).1+(itW sp tk be 0).2.length≤40:=by
  have e1:(itW sp tk be 0).1.length=1:=rfl;have e2:(itW sp tk be 0).2.length=1:=rfl;omega
 refine ⟨fun n σ HA=>∃ (i:Nat) (v6 v7 v8:Option V),n=2 * lT (itW sp tk be i).1+(itW sp tk be i).2.length∧n≤40∧σ=[some v,some (.ref u),some (.int be),some (.int en),some (.ref Da),some (.ref La),v6,v7,v8]∧JW H HA Da La (itW sp tk be i)∧WI m.toNat sp tk be (itW sp tk be i)∧Clo sp tk (fun _=>False) (itW sp tk be i)∧(itW sp tk be i).1.length+lT (itW sp tk be i).1≤17∧∀ j,j<i→lkW (itW sp tk be j).1 en=none,
  ⟨_,0,none,none,none,rfl,c1,rfl,J3,(start_ok be0 b1).1,(start_ok be0 b1).2,c0,fun j hj=>o6 hj (Nat.not_lt_zero _)⟩,?_⟩
 rintro n σ HA ⟨i,v6,v7,v8,rfl,n40,rfl,JA,WA,CA,lA,bA⟩;obtain ⟨kvs,hDaA,dwA⟩:=JA.da;refine ⟨_,rfl,_,rfl,Da,_,rfl,DGet.k (k:= .inl en) hDaA,_,rfl,?_⟩;cases hen:lkW (itW sp tk be i).1 en with
 | some p =>
  obtain ⟨vp,hvp,dp⟩:=dwA.some hen;rw [hvp];refine iteF ⟨_,rfl,_,rfl,Da,vp,rfl,?_,k vp HA p JA.same dp ⟨i,hen,bA⟩⟩;have:=DGet.k (k:= .inl en) hDaA;rw [hvp] at this;exact this
 | none =>
  rw [dwA.none hen];refine iteT ⟨_,fun σ' H' z=>z,?_⟩;have hne:=left_of hlt held WA CA hen;obtain ⟨t1,t2,t3,t4⟩:=turn_ok E m16 hlt WA CA hne;have hlast:(itW sp tk be i).2.getLast? =some (kr (itW sp tk be i).2):=by
   unfold kr;rw [List.getLast?_eq_some_getLast hne];rfl
  have hget:((itW sp tk be i).2.map V.int)[((itW sp tk be i).2.map V.int).length - 1]? =some (V.int (kr (itW sp tk be i).2)):=by
   rw [aa,ay,←List.getLast?_eq_getElem?,hlast];rfl
  refine ⟨_,rfl,.inl ⟨rfl,_,SqL.of JA.la⟩,La,_,_,rfl,rfl,JA.la,hget,?_⟩;have JB:=JA.upL (td:=(itW sp tk be i).2.dropLast) hLaH nDL;rw [List.map_dropLast] at JB;generalize upd HA La (.lst ((itW sp tk be i).2.map V.int).dropLast)=HB at JB ⊢;have hx:lkW (itW sp tk be i).1 (kr (itW sp tk be i).2)≠none:=WA.ahd _ (last_mem hlast);have W0:WI m.toNat sp tk be ((itW sp tk be i).1,(itW sp tk be i).2.dropLast):=⟨WA.pth,WA.rng,fun y hy=>WA.ahd y ((List.dropLast_sublist _).subset hy),WA.beg⟩;have C0:Clo sp tk (· =kr (itW sp tk be i).2) ((itW sp tk be i).1,(itW sp tk be i).2.dropLast):=fun y hy hn ex t ht'=>CA y hy (fun z=>by
   rw [List.getLast?_eq_some_iff] at hlast;obtain ⟨ys,hys⟩:=hlast;rw [hys,fZ] at hn;rw [hys] at z
   rcases aM.mp z with z | z
   ·exact hn z
   ·exact ex (ax.mp z)) (fun z=>z) t ht'
  have eT:itW sp tk be (i+1)=(de sp tk (kr (itW sp tk be i).2)).foldl (gZ sp (kr (itW sp tk be i).2)) ((itW sp tk be i).1,(itW sp tk be i).2.dropLast):=rfl;have bN:∀ j,j<i+1→lkW (itW sp tk be j).1 en=none:=fun j hj=>by
   rcases iK.mp hj with h | h
   ·exact bA j h
   ·rw [h];exact hen
  rw [show oq sp tk (itW sp tk be i)=itW sp tk be (i+1) from rfl] at t1 t2 t3 t4;generalize kr (itW sp tk be i).2=x at hx C0 eT ⊢;generalize hc:((itW sp tk be i).1,(itW sp tk be i).2.dropLast)=c at JB W0 C0 eT;have hx:lkW c.1 x≠none:=by rw [←hc];exact hx
  have lc:c.1.length+lT c.1≤17:=by rw [←hc];exact lA
  have lc2:2 * lT c.1+c.2.length≤40:=by
   rw [←hc];show 2 * lT (itW sp tk be i).1+(itW sp tk be i).2.dropLast.length≤40;rw [List.length_dropLast];omega
  refine ⟨_,rfl,_,rfl,_,rfl,v,u,b,m,sp,tk,x,rfl,hv.same JB.same,JB.same _ _ hu,hlt,few,fun L HC zs SC fL hL dz=>⟨L,rfl,⟨_,SqL.of hL⟩,?_⟩⟩;have nLL:L≠La:=fun z=>by rw [z,JB.la] at fL;cases fL
  have JC:=JB.on SC;clear JB hc;have vis:∀ j:Nat,WI m.toNat sp tk be (((de sp tk x).take j).foldl (gZ sp x) c)∧lkW (((de sp tk x).take j).foldl (gZ sp x) c).1 x≠none∧(((de sp tk x).take j).foldl (gZ sp x) c).1.length≤17∧(((de sp tk x).take j).foldl (gZ sp x) c).2.length≤40:=fun j=>by
   obtain ⟨b1,_,_,b4,b5,b6⟩:=mS E m16 hlt (L:=(de sp tk x).take j) W0 hx (fun t h=>jx h) C0;exact ⟨b1,by rw [b4 x hx];exact hx,by omega,by omega⟩
  have lz:zs.length=(de sp tk x).length:=by rw [dz.length];unfold eQ;rw [aa]
  refine kJ (K:=K) (a:=L) (xs:=zs) (fun j σ HD=>JW H HD Da La (((de sp tk x).take j).foldl (gZ sp x) c)∧HD L=some (.lst zs)∧IsDs HD zs (eQ Stp.row (de sp tk x))∧∃ w7 w8,σ=[some v,some (.ref u),some (.int be),some (.int en),some (.ref Da),some (.ref La),some (.int x),w7,w8]) ⟨JC,hL,dz,_,_,rfl⟩ (fun j σ HD _ ⟨_,h,_⟩=>SqL.of h) ?_ ?_
  ·rintro j y σ HD hy ⟨JD,hLD,dD,w7,w8,rfl⟩
   have hj:j<(de sp tk x).length:=by have:=(ao.mp hy).1;omega
   have hsj:=gE hj;obtain ⟨y',hy',dy⟩:=dD.at (i:=j) (d:= .tup ((Stp.row (de sp tk x)[j]).map Dt.int)) (by unfold eQ;rw [ay,hsj];rfl);rw [hy] at hy';cases hy';obtain ⟨q,qs,rfl,hq,rq⟩:=dy.tup_of;have eq:=rq.ints_of;subst eq;have hmem:(de sp tk x)[j]∈de sp tk x:=bH hj;have hin:=hlt _ (mem_stF (cg.mp hmem).1).1;have fold:((de sp tk x).take (j+1)).foldl (gZ sp x) c=gZ sp x (((de sp tk x).take j).foldl (gZ sp x) c) (de sp tk x)[j]:=by
    rw [bg,hsj];show ((de sp tk x).take j++[(de sp tk x)[j]]).foldl _ _=_;rw [dJ];rfl
   rw [fold];obtain ⟨Wj,xj,kj,aj⟩:=vis j;generalize ((de sp tk x).take j).foldl (gZ sp x) c=d at JD Wj xj kj aj;generalize (de sp tk x)[j]=st at hq hin dy;refine ⟨_,rfl,_,rfl,v,q,b,m,sp,st,sAt sp st.i,rfl,hv.same JD.same,hq,iP hin,?_⟩;rw [(lx hin).1];obtain ⟨kv2,hDaD,dwD⟩:=JD.da;refine ⟨_,rfl,_,rfl,Da,_,rfl,DGet.k (k:= .inl (fe sp st)) hDaD,_,rfl,?_⟩;cases hto:lkW d.1 (fe sp st) with
   | some p0 =>
    obtain ⟨vp,hvp,_⟩:=dwD.some hto;rw [hvp];have ev:gZ sp x d st=d:=by unfold gZ;exact oZ (by rw [hto];exact fun z=>nomatch z)
    rw [ev];exact iteF ⟨JD,hLD,dD,_,_,rfl⟩
   | none =>
    rw [dwD.none hto];refine iteT ?_;obtain ⟨ws,hws⟩:∃ ws,lkW d.1 x=some ws:=Option.ne_none_iff_exists'.mp xj;have ev:gZ sp x d st=(d.1++[(fe sp st,ws++[st])],d.2++[fe sp st]):=by
     unfold gZ;rw [o4 hto,hws];rfl
    rw [ev];obtain ⟨vw,hvw,dw⟩:=dwD.some hws;obtain ⟨pw,yw,rfl,hpw,hlw,rw'⟩:=iE dw;have hget':DGet HD Da (V.int x) (some (.ref pw)):=by
     have:=DGet.k (k:= .inl x) hDaD;rw [hvw] at this;exact this
    have lw:=((Wj.pth x ws hws).1.len E be0 b1);refine ⟨_,rfl,_,rfl,Da,.ref pw,rfl,hget',_,rfl,szZ1,fun q4 H16 S16 h16=>⟨pw,q4,_,_,rfl,rfl,S16 _ _ hpw,h16,?_,fun q5 H17 S17 h17=>?_⟩⟩
    ·rw [hlw];exact aY (by show ws.length+1≤1000;omega) (by decide)
    have ST:=S16.trans S17;have hDa7:=ST _ _ hDaD;have dw7:=dwD.keep (Same.tupK ST);have hLa7:=ST _ _ JD.la;have hL7:=ST _ _ hLD;have dD7:=dD.same ST;have S7:=JD.same.trans ST;have lk:kv2.length≤17:=by rw [dwD.len];exact kj
    refine ⟨_,rfl,_,rfl,Da,_,rfl,DPut.k (k:= .inl (fe sp st)) hDa7 (bR (by omega:kv2.length≤999) (by decide)),?_⟩;have hway:IsD H17 (.ref q5) (mf (ws++[st])):=by
     refine .tup h17 ?_;rw [aA];exact (rw'.same ST).append (.cons (dy.same ST) .nil)
    rw [putK_new _ (dwD.none hto)];have K8:TupK H17 (upd H17 Da (.dK (kv2++[(.inl (fe sp st),.ref q5)]))):=fun q xs h=>by rw [bw (eD h hDa7 nofun)];exact h
    have hDa8:(upd H17 Da (.dK (kv2++[(.inl (fe sp st),.ref q5)]))) Da=some (.dK (kv2++[(.inl (fe sp st),.ref q5)])):=aU;have dw8:DW (upd H17 Da (.dK (kv2++[(.inl (fe sp st),.ref q5)]))) (kv2++[(.inl (fe sp st),.ref q5)]) (d.1++[(fe sp st,ws++[st])]):=DW.snoc ⟨rfl,oB K8 hway⟩ (dw7.keep K8);have hLa8:(upd H17 Da (.dK (kv2++[(.inl (fe sp st),.ref q5)]))) La=some (.lst (d.2.map V.int)):=by rw [bw nDL.symm];exact hLa7
    have nLD:L≠Da:=eD hLD hDaD nofun;have hL8:(upd H17 Da (.dK (kv2++[(.inl (fe sp st),.ref q5)]))) L=some (.lst zs):=by rw [bw nLD];exact hL7
    have S8:Same H (upd H17 Da (.dK (kv2++[(.inl (fe sp st),.ref q5)]))):=fun a o e=>by rw [bw (bz e hDa)];exact S7 a o e
    have dD8:IsDs (upd H17 Da (.dK (kv2++[(.inl (fe sp st),.ref q5)]))) zs (eQ Stp.row (de sp tk x)):=fh K8 dD7;generalize upd H17 Da (.dK (kv2++[(.inl (fe sp st),.ref q5)]))=H8 at hDa8 dw8 hLa8 hL8 S8 dD8 ⊢;refine ⟨_,rfl,.inl ⟨rfl,_,SqL.of hLa8⟩,_,rfl,La,_,_,rfl,rfl,hLa8,lG (by rw [aa];omega),?_⟩;have J8:JW H H8 Da La (d.1++[(fe sp st,ws++[st])],d.2):=⟨S8,⟨_,hDa8,dw8⟩,hLa8⟩;have J9:=J8.upL (td:=d.2++[fe sp st]) hLaH nDL;rw [aA] at J9;refine ⟨J9,?_,fh (fF hLa8) dD8,_,_,rfl⟩;rw [bw nLL];exact hL8
  ·rintro σ HD ⟨JD,hLD,dD,w7,w8,rfl⟩
   rw [lz,bf,←eT] at JD;exact ⟨_,t3,i+1,_,_,_,rfl,by omega,rfl,JD,t1,t2,by omega,bN⟩
theorem IsFor.natsF (a:IsFor m sp ns):∃ (l π:List Nat),ns=l.map (fun (i:Nat)=>(i:Int))∧Ordd sp π∧l.Perm (jQ sp m π).2:=by
 obtain ⟨π,o,p,_⟩:=a;have nn:∀ x∈ns,0≤x:=fun x hx=>by
  obtain ⟨i,_,rfl⟩:=aV.mp (p.mem_iff.mp hx);omega
 refine ⟨ns.map Int.toNat,π,?_,o,?_⟩
 ·rw [dt]
  conv=>lhs;rw [←List.map_id ns]
  exact fu fun x hx=>(fB (nn x hx)).symm
 ·have q:=p.map Int.toNat
  rw [dt] at q;have e:((jQ sp m π).2.map (Int.toNat ∘ fun (i:Nat)=>(i:Int)))=(jQ sp m π).2:=by
   conv=>rhs;rw [←List.map_id (jQ sp m π).2]
   exact fu fun x _=>rfl
  rw [e] at q;exact q
theorem gone_ltF (O:Ordd sp π)(pm:l.Perm (jQ sp m π).2):∀ i∈l,i<sp.length:=fun i hi=>by
 rcases (jN sp π (jM m,[])).1 i (pm.mem_iff.mp hi) with z | z
 ·cases z
 ·exact O.lt z
theorem scRingBy:cb ["net","span","start","goal"] pzh (defScope sRingBy):=by trivial
theorem ok_ringBy {Tb0:ai}(F:Fun K "ring_by" "ring_by" sRingBy f fd)(G1:Fn K mg "way_between" sWayB pzy f1 fd1)(F1:cS P w K mg base CX0 3 f1 fd1 pzy spWayBt)
  (G2:Fn K mg "forest_of" ki pza f2 fd2) (F2:cS P w K mg base CX0 6 f2 fd2 pza (jY Tb0 lp lq)):cS P w K mg base CX0 7 f fd pzh (spRingBy Tb0 lp lq):=by
 refine F.ok scRingBy (by contradiction) (fun cdv A outer s H vs Q E hr h=>?_);obtain ⟨v,b,m,sp,k,rfl,hv,N,hT,hk,fin⟩:=h;obtain ⟨t,p,ys,rfl,ht,hp,hl,hy⟩:=fj hv;obtain ⟨q,hq,hq2⟩:=hy k _ (iP hk);have hr1:Room 3 _:=hr.mono (by decide);have E:=N.ends;have few:=N.few;obtain ⟨a0,a1,b0,b1⟩:=E _ (dG hk);refine ⟨_,PSl.h (bc ⟨(bD (i:=2) scRingBy.nd rfl (.inl rfl) (ixZ (d9 dH (ixZ (pv 0)) (pv 1) (fun _ _=>rfl))))⟩
  (bc ⟨(bD (i:=3) scRingBy.nd rfl (.inl rfl) (ixZ (d9 dH (ixZ (pv 0)) (pv 1) (fun _ _=>rfl))))⟩
  (dh ⟨(cz (cp km (dg (af (dg (af (pv 1) (af bo aC))) aC)) (pc1 G1 F1 hr1 (af (pv 0) (af (pc1 G2 F2 hr (af (pv 0) aC)) (af (pv 3) (af (pv 2) aC)))))))⟩))),?_⟩
 refine ⟨_,rfl,t,_,_,_,rfl,rfl,SqT.of ht,aJ (j:=2) rfl,_,rfl,p,_,_,_,rfl,rfl,SqT.of hp,aJ (j:=k) hq,q,_,_,_,rfl,rfl,SqT.of hq2,aJ (j:=0) rfl,?_⟩;refine ⟨_,rfl,t,_,_,_,rfl,rfl,SqT.of ht,aJ (j:=2) rfl,_,rfl,p,_,_,_,rfl,rfl,SqT.of hp,aJ (j:=k) hq,q,_,_,_,rfl,rfl,SqT.of hq2,aJ (j:=1) rfl,?_⟩;refine ⟨_,rfl,mx,fun q1 H1 S1 h1=>⟨szZ1,fun q2 H2 S2 h2=>⟨_,rfl,_,rfl,.ref t,b,m,sp,rfl,hv.same (S1.trans S2),N,LamT.same (S1.trans S2) hT,fun u H3 ns tb3 hT3 hu F0=>?_⟩⟩⟩;have hT2:=LamT.same (S1.trans S2) hT;have K3:=Tb.tupK (LamT.tbl hT2) tb3;obtain ⟨l,π,rfl,O,pm⟩:=F0.natsF;have hlt:=gone_ltF O pm;have lfew:l.length≤40:=by have:=F0.len;rw [aa] at this;omega
 rw [dt] at hu;refine ⟨_,rfl,_,rfl,.ref t,u,b,m,sp,l,(sAt sp k).g,(sAt sp k).s,rfl,bY K3 (hv.same (S1.trans S2)),N,hu,hlt,lfew,b0,by have:=N.m1;omega,held_span E O pm hk,fun w4 H4 pth S4 d4 wr=>?_⟩;obtain ⟨pw,yw,rfl,hpw,hlw,rw'⟩:=iE d4;have hP:=WayR.pth E (by have:=N.m2;omega) hlt b0 b1 (held_span E O pm hk) wr;have ln:=hP.len E b0 b1;have h24:=S4 _ _ (K3 _ _ h2);have h14:=S4 _ _ (K3 _ _ (S2 _ _ h1));refine ⟨q2,pw,_,_,rfl,rfl,h24,hpw,?_,fun q5 H5 S5 h5=>?_⟩
 ·rw [hlw];have:=N.m2;exact aY (by show 1+pth.length≤1000;omega) (by decide)
 refine fin _ H5 l π pth ((Same.tb (S1.trans S2)).trans (tb3.trans (Same.tb (S4.trans S5)))) (LamT.same (S4.trans S5) hT3) ?_ F0 O pm wr;exact .tup h5 (.cons (.tup (S5 _ _ h14) (IsDs.ints (Stp.row ⟨k,1⟩))) (rw'.same S5))
abbrev ny:cP:=top 20
theorem inV_intsF (x:Int):∀ p:List Int,inV (.int x) (p.map V.int)=decide (x∈p)
 | []=>by simp [inV]
 | y::p=>by
  have ih:=inV_intsF x p;unfold inV at ih ⊢;rw [bX,iB,ih]
  by_cases e:y=x
  ·subst e;simp [eqV]
  ·have:eqV (.int y) (.int x)=false:=by simp [eqV,e]
   rw [this];simp [az,cw e]
theorem inV_nat (x:Nat)(l:List Nat):inV (.int (x:Int)) (l.map fun (i:Nat)=>V.int i)=decide (x∈l):=by
 have e:(l.map fun (i:Nat)=>V.int i)=(l.map fun (i:Nat)=>(i:Int)).map V.int:=by rw [dt];rfl
 rw [e,inV_intsF];refine decide_eq_decide.mpr ⟨fun h=>?_,fun h=>aV.mpr ⟨x,h,rfl⟩⟩;obtain ⟨j,hj,e⟩:=aV.mp h;have:j=x:=by omega
 rw [←this];exact hj
theorem scRingsO:cb ["net","taken"] pza (defScope ny):=by trivial
theorem ok_ringsO {Tb0:ai}(F:Fun K "rings_of" "rings_of" ny f fd)(T:Nm mg)(T2:Nt mg)(G1:Fn K mg "forest_of" ki pza f1 fd1)(F1:cS P w K mg base CX0 6 f1 fd1 pza (jY Tb0 lp lq))(G2:Fn K mg "ring_by" sRingBy pzh f2 fd2)(F2:cS P w K mg base CX0 7 f2 fd2 pzh (spRingBy Tb0 lp lq)):cS P w K mg base CX0 8 f fd pza (mJ Tb0 lp lq):=by
 refine F.ok scRingsO (by contradiction) (fun cdv A outer s H vs Q E hr h=>?_);obtain ⟨v,b,m,sp,rfl,hv,N,hT,k⟩:=h;have hr6:Room 6 _:=hr.mono (by decide);have E:=N.ends;have few:=N.few;have m1:=N.m1;refine ⟨_,PSl.h (bc ⟨(bD (i:=1) scRingsO.nd rfl (.inr rfl) (pc1 G1 F1 hr6 (af (pv 0) aC)))⟩
  (dh ⟨(cz (jj (fr:=["net","taken"]) (js:=[0,1]) rfl (jB rfl T2.range (af (eh cZ rfl T.len cQ (af (ixZ (pv 0)) aC)) aC)) (by trivial) rfl (by trivial) rfl (by exists ny) (by trivial) rfl (by trivial) (fun _ _ _ _ _=>⟨(pc1 G2 F2 hr (af (pv 1) (af (pv 0) aC))),(nN (cU (r:=rIn K true) op_notIn_seq (pv 0) (pv 2) rfl))⟩)))⟩)),?_⟩
 refine ⟨_,rfl,v,b,m,sp,rfl,hv,N,hT,fun u H1 ns tb1 hT1 hu F0=>?_⟩;obtain ⟨l,π,rfl,O,pm⟩:=F0.natsF;have fr:FrstL m.toNat sp l:=⟨F0,π,O,pm⟩;rw [dt] at hu;have hu:H1 u=some (.tup (l.map fun (i:Nat)=>V.int i)):=hu;have hv1:=bY (Tb.lamT hT tb1) hv;obtain ⟨t,p,ys,rfl,ht,hp,hl,hy⟩:=fj hv1;refine ⟨_,rfl,t,_,_,_,rfl,rfl,SqT.of ht,aJ (j:=2) rfl,p,_,rfl,.inr (SqT.of hp),_,rfl,by omega,by omega,?_⟩;refine kK (n:=((ys.length:Int)).toNat) (fun i zs HC=>L2.Tb Tb0 H1 HC∧L2.LamT Tb0 lp lq HC∧∃ rg:List (Nat×List Stp),zs.length≤i∧IsDs HC zs (rg.map wayQ)∧(∀ q∈rg,RK sp l q)∧rg.map (·.1)=(aR i).filter fun k=> !(decide (k∈l))) ⟨Tb.refl H1,hT1,[],aB _,.nil,fun _ h=>o6 h (by simp),rfl⟩ (fun i zs HC hi ⟨_,_,_,e2,_⟩=>e2) (eU (by omega)) (fun i zs HC hi ⟨tb,hTC,rg,lz,dz,hrk,hks⟩=>?_) (fun zs HC ⟨tb,hTC,rg,lz,dz,hrk,hks⟩ D hD=>?_)
 ·rw [iq]
  have hin:i<sp.length:=by omega
  have KC:=Tb.lamT hT1 tb;have ef:(aR (i+1)).filter (fun k=> !(decide (k∈l)))=(aR i).filter (fun k=> !(decide (k∈l)))++(if i∈l then [] else [i]):=by
   rw [List.range_succ,iM];congr 1;rw [gu,List.filter_nil]
   by_cases c:i∈l
   ·rw [o4 c,o8 c];rfl
   ·rw [oZ c,o9 c];rfl
  refine ⟨_,rfl,_,rfl,u,_,rfl,.inr (SqT.of (KC _ _ hu)),rfl,(by rw [List.all_map];exact List.all_eq_true.mpr fun _ _=>rfl),_,rfl,?_⟩;rw [inV_nat];show if (!(decide (i∈l)))=true then _ else _;rw [ef];refine ite2 (fun hc=>?_) (fun hc=>?_)
  rotate_left
  ·have c:i∈l:=by simpa using hc
   rw [o4 c,dU];exact ⟨tb,hTC,rg,by omega,dz,hrk,hks⟩
  have c:i ∉ l:=by simpa using hc
  rw [oZ c];refine ⟨_,rfl,_,rfl,.ref t,b,m,sp,i,rfl,bY KC hv1,N,hTC,hin,fun q HD l' π' pw tbD hTD dq F0' O' pm' wr=>?_⟩;have el:l'=l:=FrstL.one (m:=m.toNat) (sp:=sp) ⟨F0',π',O',pm'⟩ fr;subst el;obtain ⟨s0,s1,g0,g1⟩:=E _ (dG hin);have hlt:=(fr.pots E).nodup.2;have Pw:=WayR.pth E (by have:=N.m2;omega) hlt g0 g1 (fr.held E hin).symm wr;have KD:=Tb.lamT hTC tbD;refine ⟨tb.trans tbD,hTD,rg++[(i,⟨i,1⟩::pw)],by rw [av];show zs.length+1≤i+1;omega,?_,fun q' hq'=>?_,by rw [aA,hks];rfl⟩
  ·rw [aA]
   exact (IsDs.keepP KD dz (j6 rg fun q _=>kU _ _)).append (.cons dq .nil)
  ·rcases aM.mp hq' with z | z
   ·exact hrk q' z
   ·rw [ax.mp z];exact ⟨hin,c,pw,rfl,Pw⟩
 ·have SD:Same HC (upd HC D (.lst zs)):=Same.put (Same.refl HC) hD
  have hDH:H D=none:=by
   cases z:H D with
   | none=>rfl
   | some o =>
    by_cases e:D=Tb0
    ·subst e
     obtain ⟨ps,hps⟩:=LamT.tbl hTC;rw [hps] at hD;cases hD
    ·have:=tb D o e (tb1 D o e z)
     rw [hD] at this;cases this
  refine k D zs l rg _ (tb1.trans (tb.trans (Same.tb SD))) (LamT.same SD hTC) hDH aU (dz.same SD) ⟨fr,hrk,?_⟩;rw [hks];unfold nL;rw [cM,hl]
abbrev sOverR:cP:=top 33
abbrev sMid:cP:=top 35
abbrev sDeadL:cP:=top 36
theorem noFree {n:List (Str×cx)}{p:Str×cx→Prop}(h:(n.all fun y=>y.2 != .free)=true):∀ y∈n,y.2= .free→p y:=fun y hy e=>by
 have:=List.all_eq_true.mp h y hy;rw [e] at this;exact o6 this (by decide)
theorem pi_tupK {l:Expr}{tl:TE}(e:X.K=K)(hl:PE X l tl):PI X tg l (iTup K tl):=e ▸ jO hl
theorem scOverR:cb pzr pzr (defScope sOverR):=by trivial
theorem ok_overR (F:Fun K "rings_over" "rings_over" sOverR f fd):cS P w K mg base CX0 1 f fd pzr spOverR:=by
 refine F.ok scOverR (by contradiction) (fun cdv A outer s H vs Q E hr h=>?_);obtain ⟨u,kk,rl,rg,rfl,hu,hrs,few,hlen,k⟩:=h;have lrl:rl.length=rg.length:=by rw [hrs.length,aa]
 refine ⟨_,PSl.h (dh ⟨(cz (jj (fr:=["span"]) (js:=[1]) rfl (ji (pv 0)) (by trivial) rfl (by trivial) rfl (by exists sOverR) (by trivial) rfl (by trivial) (fun _ _ _ _ _=>⟨(pv 0),(nN (cU (r:=rIn K false) op_in_seq (pv 1) (by exact (jj (fr:=[]) (js:=[]) rfl (pi_tupK (K:=K) rfl (pv 0)) (by trivial) rfl (by trivial) rfl (noFree (by trivial)) (by trivial) rfl (by trivial) (fun _ _ _ _ _=>⟨(d9 (r:=nM K) dH (pv 0) bo (fun _ _=>rfl)),ia⟩))) rfl))⟩)))⟩),?_⟩;refine ⟨_,rfl,u,rfl,⟨_,SqL.of hu⟩,?_⟩;refine jR (K:=K) (a:=u) (xs:=rl) (fun i zs HC=>Same H HC∧zs.length≤i∧IsDs HC zs (((rg.take i).filter (g6 kk)).map wayQ)) ⟨Same.refl H,aB _,.nil⟩ (fun i zs HC hi ⟨S,e2,_⟩=>⟨SqL.of (S _ _ hu),e2⟩) (by rw [lrl];exact eU (by omega)) (fun i x zs HC hx ⟨S,e2,e3⟩=>?_) (fun zs HC ⟨S,e2,e3⟩ D hD=>?_)
 ·have hi:i<rg.length:=by have:=(ao.mp hx).1;omega
  obtain ⟨d,ed,dx⟩:=hrs.get hx;rw [ay,gE hi] at ed;cases ed;have dx:IsD H x (mf rg[i].2):=dx;obtain ⟨px,yx,rfl,hpx,hlx,rx⟩:=iE dx;have et:(rg.take (i+1)).filter (g6 kk)=(rg.take i).filter (g6 kk)++(if g6 kk rg[i]=true then [rg[i]] else []):=by
   rw [bg,gE hi,iM];congr 1;show List.filter _ [rg[i]]=_;rw [gu];rfl
  have ln:=hlen _ (bH hi);refine ⟨_,rfl,_,rfl,px,rfl,⟨_,SqT.of (S _ _ hpx)⟩,?_⟩;refine ka (K:=K) (a:=px) (xs:=yx) (fun j ws HD=>HD=HC∧ws=((rg[i].2.take j).map fun s=>V.int (s.i:Int))) ⟨rfl,rfl⟩ (fun j ws HD hj ⟨e1,e2'⟩=>⟨by rw [e1];exact SqT.of (S _ _ hpx),by rw [e2',aa,bG];omega⟩) (by rw [hlx];exact eU ln) (fun j y ws HD hy' ⟨e1,e2'⟩=>?_) (fun ws HD ⟨e1,e2'⟩ D hD=>?_)
  ·subst e1
   have hj:j<rg[i].2.length:=by have:=(ao.mp hy').1;omega
   obtain ⟨q,hq,hq2⟩:=jJ rx (gE hj);rw [hy'] at hq;cases hq;refine gB ?_;refine ⟨_,rfl,q,_,_,_,rfl,rfl,SqT.of (S _ _ hq2),aJ (j:=0) rfl,rfl,?_⟩;rw [e2',bg,gE hj,aA];rfl
  ·subst e1
   have S1:Same HD (upd HD D (.lst ws)):=Same.put (Same.refl HD) hD;have hD1:(upd HD D (.lst ws)) D=some (.lst ws):=aU;generalize upd HD D (.lst ws)=HE at S1 hD1 ⊢;rw [hlx,bf] at e2';subst e2';refine ⟨D,_,rfl,.inl (SqL.of hD1),rfl,(by rw [List.all_map];exact List.all_eq_true.mpr fun _ _=>rfl),_,rfl,?_⟩;rw [show (rg[i].2.map fun s=>V.int (s.i:Int))=(rg[i].2.map Stp.i).map (fun (i:Nat)=>V.int i) by rw [dt];rfl,inV_nat,et];show if (decide (kk∈rg[i].2.map Stp.i))=true then _ else _;have eo:g6 kk rg[i]=decide (kk∈rg[i].2.map Stp.i):=rfl;rw [eo];refine ite2 (fun c=>?_) (fun c=>?_)
   ·refine ⟨_,rfl,S.trans S1,by rw [av];show zs.length+1≤i+1;omega,?_⟩
    rw [o4 c,aA];exact (e3.same S1).append (.cons (dx.same (S.trans S1)) .nil)
   ·refine ⟨S.trans S1,by omega,?_⟩
    rw [oZ c,dU];exact e3.same S1
 ·rw [lrl,bf] at e3
  have S1:Same HC (upd HC D (.lst zs)):=Same.put (Same.refl HC) hD;refine k D zs _ (S.trans S1) (Same.free S hD) aU (e3.same S1)
theorem scMid:cb ["case","span","bound"] pzp (defScope sMid):=by trivial
theorem ok_mid (F:Fun K "middle_of" "middle_of" sMid f fd):cS P w K mg base CX0 1 f fd pzp spMid:=by
 refine F.ok scMid (by contradiction) (fun cdv A outer s H vs Q E hr h=>?_);obtain ⟨c,kk,bs,rs,rfl,hc,hk,k⟩:=h;obtain ⟨vb,u,rl,h1,h2,h3,h4⟩:=hc.ex;obtain ⟨pb,yb,rfl,hpb,hlb,rb⟩:=iE h2;obtain ⟨q,hq,hq2⟩:=jJ rb (gE hk);have e0:bs.getD kk (0,0)=bs[kk]:=by rw [ag,gE hk];rfl
 refine ⟨_,PSl.h (bc ⟨(bD (i:=2) scMid.nd rfl (.inl rfl) (d9 dH (ixZ (pv 0)) (pv 1) (fun _ _=>rfl)))⟩
  (dh ⟨(cz (cp op_fdiv (cp fm (ixZ (pv 2)) (ixZ (pv 2))) bo))⟩)),?_⟩
 refine ⟨_,rfl,c,_,_,_,rfl,rfl,SqT.of h1,aJ (j:=0) rfl,_,rfl,pb,_,_,_,rfl,rfl,SqT.of hpb,aJ (j:=kk) hq,?_⟩;refine ⟨_,rfl,q,_,_,_,rfl,rfl,SqT.of hq2,aJ (j:=0) rfl,_,rfl,q,_,_,_,rfl,rfl,SqT.of hq2,aJ (j:=1) rfl,_,_,rfl,rfl,_,_,rfl,rfl,⟨by decide,by decide⟩,?_⟩;rw [e0] at k;exact k
theorem scDeadL:cb ["net","case","ring"] pzj (defScope sDeadL):=by trivial
theorem ok_deadL (F:Fun K "dead_leaf" "dead_leaf" sDeadL f fd)(G1:Fn K mg "is_dead" sDead pzb f1 fd1)(F1:cS P w K mg base CX0 3 f1 fd1 pzb spDead):cS P w K mg base CX0 4 f fd pzj nc:=by
 refine F.ok scDeadL (by contradiction) (fun cdv A outer s H vs Q E hr h=>?_);obtain ⟨v,c,b,m,sp,bs,rs,rfl,hv,b0,b61,hc,few,hin,k⟩:=h;obtain ⟨vb,u,rl,h1,h2,h3,h4⟩:=hc.ex;have hr3:Room 3 _:=hr;have lrl:rl.length=rs.length:=by rw [h4.length,aa]
 refine ⟨_,PSl.h (bc ⟨(i8 bT rfl (ji (ixZ (pv 1))) (dX (i:=2) scDeadL.nd rfl (.inl rfl)) (df (i7 (pt_val (pc1 G1 F1 hr3 (af (pv 0) (af (ixZ (pv 1)) (af (pv 2) aC))))) (df (cz (dg (af lI (af (pv 2) aC))))) fv)))⟩
  (dh ⟨(cz kL)⟩)),?_⟩
 refine ⟨_,rfl,c,_,_,_,rfl,rfl,SqT.of h1,aJ (j:=1) rfl,u,rfl,⟨_,SqL.of h3⟩,?_⟩;refine kJ (K:=K) (a:=u) (xs:=rl) (fun i σ H1=>Same H H1∧(∀ q∈rs.take i,i9 b bs q.2=false)∧∃ v2,σ=[some v,some (.ref c),v2]) ⟨Same.refl H,fun _ h=>o6 h (by simp),none,rfl⟩ (fun i σ H1 _ ⟨S,_⟩=>SqL.of (S _ _ h3)) ?_ ?_
 ·rintro i x σ H1 hx ⟨S1,hal,v2,rfl⟩
  have hi:i<rs.length:=by have:=(ao.mp hx).1;omega
  obtain ⟨d,ed,dx⟩:=h4.get hx;rw [ay,gE hi] at ed;cases ed;have dx:IsD H x (mf rs[i].2):=dx;refine ⟨_,rfl,_,rfl,c,_,_,_,rfl,rfl,SqT.of (S1 _ _ h1),aJ (j:=0) rfl,_,rfl,v,vb,x,b,m,sp,bs,rs[i].2,rfl,hv.same S1,b0,b61,h2.same S1,dx.same S1,hin _ (bH hi),fun H2 S2=>⟨_,rfl,ite2 (fun hc=>?_) (fun hc=>?_)⟩⟩
  ·refine ⟨_,rfl,mx,fun q3 H3 S3 h3'=>?_⟩
   exact k (.ref q3) H3 (S1.trans (S2.trans S3)) (.inr ⟨rs[i],bH hi,.tup h3' (.cons (.str _) (.cons (dx.same (S1.trans (S2.trans S3))) .nil)),hc⟩)
  ·refine ⟨S1.trans S2,fun q hq=>?_,_,rfl⟩
   rw [bg,gE hi] at hq
   rcases aM.mp hq with z | z
   ·exact hal q z
   ·rw [ax.mp z];exact i3.mpr hc
 ·rintro σ H1 ⟨S1,hal,v2,rfl⟩
  rw [lrl,bf] at hal;exact k .non H1 S1 (.inl ⟨rfl,hal⟩)
def RDead (b:Int)(sp:List Sn)(bs:List (Int×Int))(d:Dt):Prop:=∃ p:List Stp,d=leafP (.ring p)∧Rg sp p∧i9 b bs p=true
theorem ma (p:List Stp):LeafW (leafP (.ring p)):=⟨by show (true && (pl (mf p) && true))=true;rw [show pl (mf p)=true from kU _ _];rfl,"ring",mf p,rfl,by decide⟩
def StayT (T0 T1:ai)(H H':Hp):Prop:=∀ a o,a≠T0→a≠T1→H a=some o→H' a=some o
theorem StayT.trans {T0 T1:ai}{H2:Hp}(a:StayT T0 T1 H H1)(b:StayT T0 T1 H1 H2):StayT T0 T1 H H2:=fun x o n0 n1 e=>b x o n0 n1 (a x o n0 n1 e)
theorem Same.stayT {T0 T1:ai}(a:Same H H'):StayT T0 T1 H H':=fun x o _ _ e=>a x o e
inductive mL (v:V)(b m:Int)(sp:List Sn)(R:List (Int×Int)→Dt→Prop)(vs:List V)(H:Hp)(Q:VK)(_:XK):Prop
 | mk (l:List Nat)(rg:List (Nat×List Stp))(q:ai)(c:Cse)(_:vs=[.ref q])(_:FR m sp l rg)(_:CsD H q c.1 c.2)(_:CaseOk b sp l rg c)(_:IsD H v (jL b m sp))(_:∀ r H',Same H H'→((∃ d,IsD H' r d∧LeafW d∧R c.1 d)∨(r= .non∧(∀ z∈c.2,i9 b c.1 z.2=false)∧∃ k∈l,(c.1.getD k (0,0)).1<(c.1.getD k (0,0)).2))→Q r H')
inductive mI (P:aW)(w:bx)(K:ak)(mg:Str→Option ae)(base:bL)(T0:ai)(p0:Pos)(q0:Str)(T1:ai)(p1:Pos)(q1:Str)(vs:List V)(H:Hp)(Q:VK)(_:XK):Prop
 | mk (v:V)(g:ai)(b m:Int)(sp:List Sn)(R:List (Int×Int)→Dt→Prop)(_:vs=[v,.ref g])(_:IsD H v (jL b m sp))(_:NetT b m sp)(_:(∀ l,FrstL m.toNat sp l→jE sp l≤4096))(_:L2.LamT T0 p0 q0 H)(_:L2.LamT T1 p1 q1 H)(_:LmOk P w K mg base 6 g (StayT T0 T1 H) (mL v b m sp R))(_:∀ (u:V) (t:Tq) (H':Hp),StayT T0 T1 H H'→Kp H H'→L2.LamT T0 p0 q0 H'→L2.LamT T1 p1 q1 H'→IsD H' u (jV t)→pl (jV t)=true→GoodT R t (sp.map fun z=>(z.l,z.o)) 21→Q u H')
section
variable {m:Int}{rg:List (Nat×List Stp)}{cs:List Cse}{c:Cse}
theorem sz_cut (f:FF m sp l rg)(lrg:rg.length≤40)(C:CaseOk b sp l rg c)(al:∀ q∈c.2,i9 b c.1 q.2=false){k:Nat}{a:Int}(hk:k∈l)(h1:(c.1.getD k (0,0)).1≤a)(h2:a<(c.1.getD k (0,0)).2)(hc:∀ d∈cs,CaseOk b sp l rg d) :
  (∀ d∈cs++[(eY c.1 k a,rg.filter (g6 k)),(ko c.1 k a,rg.filter (g6 k))],CaseOk b sp l rg d)∧szC l (cs++[(eY c.1 k a,rg.filter (g6 k)),(ko c.1 k a,rg.filter (g6 k))])<szC l (cs++[c])∧2≤fc c.1 l:=by
 have ht2:=f.acy.nodup.2;obtain ⟨o1,o2⟩:=C.cut lrg ht2 al hk h1 h2;have p1:0<fc (eY c.1 k a) l:=iF o1.ob ht2;have p2:0<fc (ko c.1 k a) l:=iF o2.ob ht2;have e:=kT C.ob f.acy.nodup.1 ht2 hk h1 h2;refine ⟨fun d hd=>?_,?_,by omega⟩
 ·rcases aM.mp hd with z | z
  ·exact hc d z
  ·rcases az.mp z with rfl | z
   ·exact o1
   ·rw [ax.mp z];exact o2
 ·rw [kN,kN]
  show _+((2 * fc (eY c.1 k a) l - 1)+((2 * fc (ko c.1 k a) l - 1)+0))<_+((2 * fc c.1 l - 1)+0);omega
theorem sz_less (f:FF m sp l rg)(C:CaseOk b sp l rg c):szC l cs<szC l (cs++[c]):=by
 have:=iF C.ob f.acy.nodup.2;rw [kN];show _<_+((2 * fc c.1 l - 1)+0);omega
end
theorem pls_appT:∀ (xs ys:List Dt),pls (xs++ys)=(pls xs && pls ys)
 | [],ys=>by show pls ys=(true && pls ys);rw [Bool.true_and]
 | x::xs,ys=>by
  show (pl x && pls (xs++ys))=((pl x && pls xs) && pls ys);rw [pls_appT xs ys,Bool.and_assoc]
theorem LmOk.mono {k:Nat}{Hf:Hp→Prop}{sp:Sp}(L:LmOk P w K mg base j f Hf sp)(h:j≤k):LmOk P w K mg base k f Hf sp:=⟨L.isFn,fun A outer s H u v Q hr=>L.run A outer s H u v Q (hr.mono h)⟩
theorem pl_pre:∀ (t:Tq),(∀ d,Mrk.leaf d∈pre t→LeafW d)→pl (jV t)=true
 | .leaf d,h=>(h d (by simp [pre])).1
 | .cut k a x y,h=>pl_cut (pl_pre x fun d hd=>h d (by simp [pre,hd])) (pl_pre y fun d hd=>h d (by simp [pre,hd]))
end HN
namespace L2
open PySem PySem.W PySem.Spec PyProof.Rows
def LamG (P:ai)(q:Str)(H:Hp):Prop:=∃ l:List (Pos×ai),H P=some (.tbl (triples l).toArray)∧∀ e∈l,CdK q H e.2
theorem LamG.tbl {P:ai}(k:LamG P q H):∃ ps,H P=some (.tbl ps):=let ⟨_,e,_⟩:=k;⟨_,e⟩
theorem LamG.nil {P:ai}(e:H P=some (.tbl #[])):LamG P q H:=⟨[],e,fun _ h=>o6 h (by simp)⟩
theorem CdK.ne {P c:ai}{ps:Array ae}(k:CdK q H c)(e:H P=some (.tbl ps)):c≠P:=fun z=>by
 obtain ⟨oc,vs,t,e2,_⟩:=k;rw [z,e] at e2;cases e2
theorem LamG.stay {P:ai}(k:LamG P q H)(hT:∀ ps,H P=some (.tbl ps)→H' P=some (.tbl ps))(hf:∀ a o u,H a=some (.frz o u)→H' a=some (.frz o u)):LamG P q H':=by
 obtain ⟨l,e,r⟩:=k;refine ⟨l,hT _ e,fun x hx=>?_⟩;obtain ⟨oc,vs,t,e2,z⟩:=r x hx;exact ⟨oc,vs,t,hf _ _ _ e2,z⟩
theorem LamG.same {P:ai}(a:Same H H')(k:LamG P q H):LamG P q H':=k.stay (fun _ e=>a _ _ e) fun _ _ _ e=>a _ _ e
theorem lW:∀ l:List (Pos×ai),TriplesOk (triples l)
 | []=>trivial
 | (p,c)::r=>lW r
theorem mV {pos:Pos}:∀ {l:List (Pos×ai)} {cv:ae},codeAmong pos (triples l)=some cv→∃ e∈l,cv= .ref e.2
 | [],cv,h=>by cases h
 | (p,c)::r,cv,h=>by
  have h:(if (((p.line:Nat):Int) == ((pos.line:Nat):Int) && ((p.col:Nat):Int) == ((pos.col:Nat):Int))=true then some (ae.ref c) else codeAmong pos (triples r))=some cv:=h;split at h
  ·cases h;exact ⟨(p,c),by simp,rfl⟩
  ·obtain ⟨e,he,z⟩:=mV h
   exact ⟨e,by simp [he],z⟩
section
variable {σ:List (Option V)}
theorem lam_makeG {c P:ai}(I:Inv X aN σ H s)(hd:defaultsOf params X.env=([],[]))(k3:X.env.code= .ref c)(C:codeHdIn X.K c P=true)(B:BM X.mg X.base)
  (hfr:∀ y∈scope.names,y.2= .free→X.env.scope.names.lookup y.1=some .cell) (T:LamG P (X.env.qual ++ "<lambda>") H)
  (h:∀ f cl H' s',Inv X aN σ H' s'→Tb P H H'→LamG P (X.env.qual ++ "<lambda>") H'→LamF (X.env.qual ++ "<lambda>") params body scope cl f H'→(∀ x c,cl.lookup x=some c→X.env.cells.lookup x=some c)→(∀ y∈scope.names,y.2= .free→cl.lookup y.1=X.env.cells.lookup y.1)→Q (.ref f) s') :
  aX (br X.prog X.w) X.A (eu (.Lambda params body scope pos) X.env) Q X.xe s:=by
 obtain ⟨cl,hclos,c1,c2⟩:=k5 (scope:=scope) (env:=X.env) fun y hy hk=>I.ok.has _ (.inl (hfr y hy hk))
 refine kla_eval hd ?_;have hgs:s.heap.Ns bO X.mg:=I.mod.glob.keeps I.bk;obtain ⟨bm,ob,b1,b2,b3,b4,b5⟩:=B;have CH:CodeHd s.heap c P:=codeHd_of_K I.kIn C;obtain ⟨l,hP,K⟩:=T;have hbP:bm≠P:=fun q=>by have z:=(I.bs bm ob b4).2;rw [q,hP] at z;cases z
 have hgP:bO≠P:=fun q=>by
  obtain ⟨o,es,ep,e,_⟩:=I.mod.glob;have z:=(I.bs _ o e).2;rw [q,hP] at z;cases z
 have hBA:s.heap.BuiltinsAt X.mg P:=⟨bm,ob,b1,b2,b3,hbP,I.bk _ _ b4,b5⟩;have fin:∀ (H1:Hp) (h1:bL) (tk:Nat) (c':ai) (ctv:ae),Inv X aN σ H1 { s with heap:=h1,toks:=tk }→Tb P H H1→LamG P (X.env.qual ++ "<lambda>") H1→CdK (X.env.qual ++ "<lambda>") H1 c' →
   Q (.ref h1.objs.size) { s with heap:=h1.push (kla_obj "<lambda>" (X.env.qual ++ "<lambda>") params body scope cl ((X.mg "__name__").getD .none) c' ctv),toks:=tk }:=fun H1 h1 tk c' ctv I1 t1 T1 K1=>by
  have fr:H1 h1.objs.size=none:=I1.hok.fresh (aB _);have S:Same H1 (upd H1 h1.objs.size (.frz (kla_obj "<lambda>" (X.env.qual ++ "<lambda>") params body scope cl ((X.mg "__name__").getD .none) c' ctv) (.own 0))):=fun a o e=>by rw [bw (bz e fr)];exact e
  have I2:=I1.laid (t':=tk) (a:=h1.objs.size) (o:= .frz (kla_obj "<lambda>" (X.env.qual ++ "<lambda>") params body scope cl ((X.mg "__name__").getD .none) c' ctv) (.own 0)) (h':=h1.push (kla_obj "<lambda>" (X.env.qual ++ "<lambda>") params body scope cl ((X.mg "__name__").getD .none) c' ctv)) (fun b u e=>ar _ e) (aB _) ⟨aZ _ rfl,_,aZ _ rfl⟩;obtain ⟨oc,vs,t,e,r⟩:=K1;exact h _ cl _ _ I2 (t1.trans S.tb) (T1.same S) ⟨_,c',ctv,aU,oc,vs,t,S _ _ e,r⟩ c1 c2
 have hPh:s.heap.get? P=some (tabObj (triples l).toArray):=I.hok P _ hP;cases hq:codeAmong pos (triples l) with
 | none =>
  refine kla_makeFunction (mg:=X.mg) hclos I.ok.glob hgs k3 CH hPh (by rw [eO];exact lW l) (by rw [eO];exact hq) hgP hBA fun c' ctv h' tk hx hge hlt hrec htb=>?_
  have I1:=I.grown (tk:=tk) hP hx htb;obtain ⟨c2',oc,vs,t,e2,hoc,hdd,hv⟩:=hrec;cases e2;have Plt:P<s.heap.objs.size:=aL hPh;have ncP:c'≠P:=cR (aQ Plt hge);have frc:H c'=none:=I.hok.fresh hge;have hn1:(upd H P (.tbl ((triples l).toArray++ #[rawInt pos.line,rawInt pos.col,.ref c']))) c'=none:=by rw [bw ncP];exact frc
  have old:∀ b o,s.heap.get? b=some o→b≠c':=fun b o e=>bI (aQ (aL e) hge)
  have I2:=I1.take (D:=c') (o:= .frz oc (.own 0)) hn1 (aY I.sz hge) (cR (aQ I.lt hge)) (fun x d e=>by obtain ⟨v,o,ho,_⟩:=I.cell x d e;exact old d o ho) (fun p hp=>old _ _ (I.pin p hp).1) ⟨hoc,_,hoc⟩;have tb:Tb P H (upd (upd H P (.tbl ((triples l).toArray++ #[rawInt pos.line,rawInt pos.col,.ref c']))) c' (.frz oc (.own 0))):=fun a o hn e=>by
   rw [bw (bz e frc),bw hn];exact e
  refine fin _ h' tk c' ctv I2 tb ⟨l++[(pos,c')],?_,fun x hx=>?_⟩ ⟨oc,vs,t,aU,hdd,hv⟩
  ·rw [bw (cw ncP),aU,triples_append]
   congr 2
   apply Array.toList_inj.mp
   simp
  ·rcases aM.mp hx with hx | hx
   ·exact (K x hx).tb tb ((K x hx).ne hP)
   ·rw [ax.mp hx]
    exact ⟨oc,vs,t,aU,hdd,hv⟩
 | some cv =>
  obtain ⟨e,he,rfl⟩:=mV hq;refine kla_makeFunctionHit (cv:= .ref e.2) (mg:=X.mg) hclos I.ok.glob hgs k3 CH hPh (by rw [eO];exact lW l) (by rw [eO];exact hq) hBA fun ctv h' tk hk hsz=>?_
  exact fin H h' tk e.2 ctv (I.kept hk) (Tb.refl H) ⟨l,hP,K⟩ (K e he)
def tLambG (env:Env)(T:ai)(params:eX)(body:Expr)(scope:eZ):TE:=fun _ H Q=>LamG T (env.qual ++ "<lambda>") H∧∀ g cl H',Tb T H H'→LamG T (env.qual ++ "<lambda>") H'→LamF (env.qual ++ "<lambda>") params body scope cl g H'→LamE env scope cl→Q (.ref g) H'
theorem pe_lamG {c:ai}(hd:defaultsOf params X.env=([],[]))(k3:X.env.code= .ref c)(C:codeHdIn X.K c T=true)(B:BM X.mg X.base)
  (hfr:∀ y∈scope.names,y.2= .free→X.env.scope.names.lookup y.1=some .cell):PE X (.Lambda params body scope pos) (tLambG X.env T params body scope):=fun _ _ _ _ _ I ⟨L,h⟩ =>
 lam_makeG I hd k3 C B hfr L fun f cl H' _ I' t1 T1 F c1 c2=>⟨.ref f,H',I',rfl,h f cl H' t1 T1 F ⟨c1,c2⟩⟩
theorem Inv.repinE {kS:ai}{o o':Obj}(I:Inv X ((kS,o)::aN) σ H s)(hs0:X.s₀.heap.objs.size≤kS)(hC:∀ x c,X.env.cells.lookup x=some c→c≠kS)(hP:∀ p∈X.pn++aN,p.1≠kS)(k:∀ b o,b≠kS→s.heap.get? b=some o→h'.get? b=some o)(ho':h'.get? kS=some o')(hd:∀ v,o'.data≠ .cell v):Inv X ((kS,o')::aN) σ H { s with heap:=h',toks:=t' }:=by
 obtain ⟨p1,p2,p3,p4,_⟩:=I.pin (kS,o) (aw _ (bp ..));have I2:=I.unpin.turned (t':=t') (it:=kS) (h':=h') k p2 p3 (.inr hs0) hC hP;refine I2.pins_of fun p hp=>?_
 rcases az.mp hp with rfl | hp
 ·exact ⟨ho',p2,p3,p4,hd⟩
 ·exact I2.pin p (aw _ hp)
theorem Inv.swap {p q:ai×Obj}(I:Inv X (p::q::aN) σ H s):Inv X (q::p::aN) σ H s:=I.pins_of fun z hz=>by
 refine I.pin z (aw _ ?_)
 rcases az.mp hz with rfl | hz
 ·simp
 ·rcases az.mp hz with rfl | hz
  ·simp
  ·simp [hz]
end
def ja (key:Nat→Int):Nat→Nat:=argBest fun i j=>decide (key i<key j)
theorem best_ok (key:Nat→Int):∀ n,ja key n≤n∧∀ j,j≤n→key (ja key n)≤key j
 | 0=>⟨aB 0,fun j hj=>by rw [Nat.le_zero.mp hj];exact fO _⟩
 | n+1=>by
  obtain ⟨h1,h2⟩:=best_ok key n;have e:ja key (n+1)=if decide (key (n+1)<key (ja key n))=true then n+1 else ja key n:=rfl;rw [e]
  by_cases c:key (n+1)<key (ja key n)
  ·rw [o4 (o8 c)]
   refine ⟨aB _,fun j hj=>?_⟩
   by_cases z:j=n+1
   ·rw [z];exact fO _
   ·have:=h2 j (by omega);omega
  ·rw [oZ (by rw [o9 c];exact aP)]
   refine ⟨by omega,fun j hj=>?_⟩
   by_cases z:j=n+1
   ·rw [z];omega
   ·exact h2 j (by omega)
section
variable {σ:List (Option V)}
def KeyI (X:Cx)(σ:List (Option V))(H:Hp)(f:ae)(vs:List V)(key:Nat→Int):Prop :=
 ∀ (t:aq) (H':Hp) (pins':List (ai×Obj)) (i:Nat) (v:V) (u:ae),vs[i]? =some v→RelV v u→Inv X pins' σ H' t→Same H H'→aX (br X.prog X.w) X.A.in1 (call f [u]) (fun k t'=>∃ H'' tk,Inv X pins' σ H'' t'∧Same H' H''∧k= .int (key i) tk) (fun _ _=>False) t
structure Two (X:Cx)(aN:List (ai×Obj))(It S:ai):Prop where
 i0:X.s₀.heap.objs.size≤It
 s0:X.s₀.heap.objs.size≤S
 ic:∀ x c,X.env.cells.lookup x=some c→c≠It
 sc:∀ x c,X.env.cells.lookup x=some c→c≠S
 ip:∀ p∈X.pn++aN,p.1≠It
 sp:∀ p∈X.pn++aN,p.1≠S
 ne:It≠S
theorem Two.ipS {It S:ai}(T:Two X aN It S)(o:Obj):∀ p∈X.pn++((S,o)::aN),p.1≠It:=fun p hp=>by
 rcases aM.mp hp with hp | hp
 ·exact T.ip p (aE _ hp)
 ·rcases az.mp hp with rfl | hp
  ·exact cw T.ne
  ·exact T.ip p (aw _ hp)
theorem Two.spI {It S:ai}(T:Two X aN It S)(o:Obj):∀ p∈X.pn++((It,o)::aN),p.1≠S:=fun p hp=>by
 rcases aM.mp hp with hp | hp
 ·exact T.sp p (aE _ hp)
 ·rcases az.mp hp with rfl | hp
  ·exact T.ne
  ·exact T.sp p (aw _ hp)
theorem min_next {It S L:ai}{oS oI:Obj}{vs:List V}{Q:Option ae→aq→Prop}(hh:A.handled=none)(T:Two X aN It S)(I:Inv X ((It,oI)::(S,oS)::aN) σ H s)(hL:H L=some (.lst vs))(hI:oI.cls= .type "list_iterator" ∧oI.data= .fields #[.ref L,.int j 0])
  (hit:∀ v u oI' s',vs[j]? =some v→RelV v u→Inv X ((It,oI')::(S,oS)::aN) σ H s'→oI'.cls= .type "list_iterator" ∧oI'.data= .fields #[.ref L,.int ((j+1:Nat):Int) 0]→Q (some u) s')
  (hend:∀ s',j=vs.length→Inv X ((S,oS)::aN) σ H s'→Q none s') (hj:j≤vs.length):aX (br X.prog X.w) A (pyNext (.ref It)) Q E s:=by
 obtain ⟨its,rv,⟨o,n,ho,hcl,_,hd⟩,_⟩:=I.list (SqL.of hL);have gI:=(I.pin (It,oI) (aw _ (bp ..))).1;have hLI:L≠It:=fun z=>by have:=(I.pin (It,oI) (aw _ (bp ..))).2.1;rw [←z,hL] at this;cases this
 have st:s.heap.IsListIter It L j∧s.heap.IsList L its.toArray:=⟨⟨oI,gI,hI.1,hI.2⟩,⟨o,ho,hcl,n,hd⟩⟩;have W:=Walks.list (prog:=X.prog) (w:=X.w) (A:=A) hh It L hLI its.toArray;have lz:its.length=vs.length:=rv.length.symm
 by_cases e:j=vs.length
 ·refine W.done s _ _ (by rw [aG,lz,←e];exact st) fun h' tk hk=>hend _ e ?_
  have:=I.unpin.turned (t':=tk) (it:=It) (h':=h') (fun b o hb e=>hk b o (by simp [hb]) e) (I.pin (It,oI) (aw _ (bp ..))).2.1 (I.pin (It,oI) (aw _ (bp ..))).2.2.1 (.inr T.i0) T.ic (T.ipS oS);exact this
 ·refine W.item j s _ _ (by rw [aG];omega) st fun u h' tk hu st' hk=>?_
  obtain ⟨oI',gI',c1,c2⟩:=st'.1;have hu:its[j]? =some u:=by simpa using hu
  have hv:vs[j]? =some (vs[j]'(by omega)):=gE _;refine hit vs[j] u oI' _ hv ?_ (I.repinE T.i0 T.ic (T.ipS oS) (fun b o hb e=>hk b o (by simp [hb]) e) gI' (fun v z=>by rw [c2] at z;cases z)) ⟨c1,c2⟩;obtain ⟨u',hu',ru⟩:=Vals.get rv hv;rw [hu] at hu';cases hu';exact ru
end
theorem k7 {id:String}{b:eN}{args:List ae}(hk:builtinKind id=none)(hp:plainId id=true)
  (hb:entryFor table id=some b) (ha:argsOk id ⟨args,kw⟩)
  (hfin:aX (br prog w) A.in1 (b ⟨args,kw⟩) (fun fin s'=>match fin with
   | .done f=>(match (Except.ok f:Result) with | .ok (.ret v)=>Q v s' | .ok _=>False | .error e=>E e s')
   | .again c'=>c'.quiet=true∧iT (br prog w) A c' (fun r s'=>match r with | .ok (.ret v)=>Q v s' | .ok _=>False | .error e=>E e s') s') E s):aX (br prog w) A (call (.builtin id) args kw) Q E s:=by
 refine wpAny_call (codeAny_call_builtin hp hb ?_);simp only [checkBuiltinCall,hk];cases hsig:Manifest.signature? id with
 | none=>exact aO hfin
 | some sig =>
  have ha':Bind.checkArgs id sig ⟨args,kw⟩=fH ():=by simpa only [argsOk,hsig] using ha
  simp only [ha'];exact aO hfin
section
variable {σ:List (Option V)}
theorem Inv.pin1 {p:ai×Obj}(I:Inv X (p::aN) σ H s):s.heap.get? p.1=some p.2:=(I.pin p (aw _ (bp ..))).1
theorem Inv.pin2 {p q:ai×Obj}(I:Inv X (p::q::aN) σ H s):s.heap.get? q.1=some q.2:=I.unpin.pin1
theorem min_put {It S:ai}{oI:Obj}{xs:Array ae}{c:Nat}(T:Two X aN It S)(I:Inv X ((It,oI)::(S,bJ "list" xs c)::aN) σ H s)(ys:Array ae):∃ c',Inv X ((It,oI)::(S,bJ "list" ys c')::aN) σ H { s with heap:=s.heap.update S (cA fun _=>ys) }:=by
 have hS:=I.pin2;obtain ⟨c',hc'⟩:∃ c',(s.heap.update S (cA fun _=>ys)).get? S=some (bJ "list" ys c'):=⟨_,gh hS fun _=>ys⟩;exact ⟨c',(I.swap.repinE (t':=s.toks) T.s0 T.sc (T.spI oI) (fun b o hb e=>(iZ _ _ (cw hb)).trans e) hc' (fun v z=>by cases z)).swap⟩
theorem min_loop {It S L g:ai}{vs:List V}{key:Nat→Int}(T:Two X aN It S)(hh:X.A.handled=none)(hkey:KeyI X σ H (.ref g) vs key)(hL:H L=some (.lst vs))
  (fin:∀ v u H' s',vs[ja key (vs.length - 1)]? =some v→RelV v u→Same H H'→Inv X aN σ H' s'→R (.ok (.ret u)) s') :
  ∀ (k j:Nat) (s:aq) (H':Hp) (v:V) (vb:ae) (tb:Tok) (c:Nat) (oI:Obj),vs.length - (j+1)=k→j+1≤vs.length→Same H H'→Inv X ((It,oI)::(S,bJ "list" #[vb,.int (key (ja key j)) tb] c)::aN) σ H' s →
   oI.cls= .type "list_iterator" ∧oI.data= .fields #[.ref L,.int ((j+1:Nat):Int) 0]→vs[ja key j]? =some v→RelV v vb→iT (br X.prog X.w) X.A (.builtin "min.loop" ⟨[.ref It,.ref g,.ref S],[]⟩) R s:=by
 have hname:(toString "min" ++ toString ".loop" :String) = "min.loop" := by decide
 intro k
 induction k with
 | zero =>
  intro j s H' v vb tb c oI hk hj S' I hI hv rv;have hin:j+1=vs.length:=by omega
  have hS:=I.pin2;refine jS F.entry_min_loop ?_;rw [bS.under_plainId gz _];show aX _ X.A.in1 (seqItems? (.ref S) >>= _) _ _ s;refine ah (ft hS rfl ?_);show aX _ X.A.in1 (tryCatch (pyNext (.ref It)) _ >>= _) _ _ s;refine ah (jo (min_next (A:=X.A.in1) (j:=j+1) hh T I (S' _ _ hL) hI (fun v2 u2 _ _ z=>o6 (ao.mp z).1 (by omega)) (fun s' _ I'=>?_) (by omega)));have hS':=I'.pin1;show aX _ X.A.in1 (updateSeq S (fun _=> #[]) >>= _) _ _ _;refine ah ?_;refine wpAny_updateSeq hS' rfl (ah (jH (aO ?_)));have I2:=(I'.repinE (t':=s'.toks) T.s0 T.sc T.sp (h':=s'.heap.update S (cA fun _=> #[])) (fun b o hb e=>(iZ _ _ (cw hb)).trans e) (gh hS' fun _=> #[]) (fun v z=>by cases z)).unpin;exact fin v vb H' _ (by rw [←hin];exact hv) rv S' I2
 | succ k ih =>
  intro j s H' v vb tb c oI hk hj S' I hI hv rv;have hlt:j+1<vs.length:=by omega
  have hS:=I.pin2;refine jS F.entry_min_loop ?_;rw [bS.under_plainId gz _];show aX _ X.A.in1 (seqItems? (.ref S) >>= _) _ _ s;refine ah (ft hS rfl ?_);show aX _ X.A.in1 (tryCatch (pyNext (.ref It)) _ >>= _) _ _ s;refine ah (jo (min_next (A:=X.A.in1) (j:=j+1) hh T I (S' _ _ hL) hI (fun v2 u2 oI2 s2 hv2 ru2 I2 hI2=>?_) (fun s' z _=>o6 z (by omega)) (by omega)));show aX _ X.A.in1 (tryCatch (holding [u2] (call (.ref g) [u2])) _ >>= _) _ _ _;refine ah (jo (d7 (b9 (hkey _ H' _ (j+1) v2 u2 hv2 ru2 I2 S') (fun kv s3 hk3=>?_) fun _ _ z=>z.elim)));obtain ⟨H3,tk,I3,S3,rfl⟩:=hk3;have hS3:=I3.pin2;show aX _ X.A.in1 (tryCatch (holding [u2,.int (key (j+1)) tk] (richCompare .Lt (.int (key (j+1)) tk) (.int (key (ja key j)) tb) >>= _)) _ >>= _) _ _ _;refine ah (jo (d7 (ah (CmpOf.ints_lt (P:=fun i v=>∃ t,v= .int (key i) t) key (fun _ _ z=>z) (j+1) (ja key j) _ _ _ _ _ ⟨tk,rfl⟩ ⟨tb,rfl⟩ ?_))));refine ah (d7 (hV ?_));refine ah (jH (aO ?_));have eb:ja key (j+1)=if decide (key (j+1)<key (ja key j))=true then j+1 else ja key j:=rfl;cases hb:decide (key (j+1)<key (ja key j)) with
  | true =>
   rw [hb,o4 rfl] at eb;rw [o4 hb];refine ah ?_;refine wpAny_updateSeq hS3 rfl (ah (jH ?_));rw [hname];obtain ⟨c',I4⟩:=min_put T I3 #[u2,.int (key (j+1)) tk];refine aO ⟨plainId_quiet gz _,ih (j+1) _ H3 v2 u2 tk c' oI2 (by omega) hlt (S'.trans S3) (by rw [eb];exact I4) hI2 (by rw [eb];exact hv2) ru2⟩
  | false =>
   rw [hb,oZ aP] at eb;rw [oZ (fun z=>aP (hb.symm.trans z))];refine ah (jH ?_);rw [hname];exact aO ⟨plainId_quiet gz _,ih (j+1) _ H3 v vb tb c oI2 (by omega) hlt (S'.trans S3) (by rw [eb];exact I3) hI2 (by rw [eb];exact hv) rv⟩
theorem min_first {It S L g:ai}{vs:List V}{key:Nat→Int}(T:Two X aN It S)(hh:X.A.handled=none)(hkey:KeyI X σ H (.ref g) vs key)(hL:H L=some (.lst vs))(hne:vs≠[])
  (fin:∀ v u H' s',vs[ja key (vs.length - 1)]? =some v→RelV v u→Same H H'→Inv X aN σ H' s'→R (.ok (.ret u)) s')
  {c:Nat} {oI:Obj} (I:Inv X ((It,oI)::(S,bJ "list" #[] c)::aN) σ H s) (hI:oI.cls= .type "list_iterator" ∧oI.data= .fields #[.ref L,.int ((0:Nat):Int) 0]):iT (br X.prog X.w) X.A (.builtin "min.loop" ⟨[.ref It,.ref g,.ref S],[]⟩) R s:=by
 have hname:(toString "min" ++ toString ".loop" :String) = "min.loop" := by decide
 have hlt:0<vs.length:=List.length_pos_iff.mpr hne;have hS:=I.pin2;refine jS F.entry_min_loop ?_;rw [bS.under_plainId gz _];show aX _ X.A.in1 (seqItems? (.ref S) >>= _) _ _ s;refine ah (ft hS rfl ?_);show aX _ X.A.in1 (tryCatch (pyNext (.ref It)) _ >>= _) _ _ s;refine ah (jo (min_next (A:=X.A.in1) (j:=0) hh T I hL hI (fun v2 u2 oI2 s2 hv2 ru2 I2 hI2=>?_) (fun s' z _=>o6 z (by omega)) (by omega)));show aX _ X.A.in1 (tryCatch (holding [u2] (call (.ref g) [u2])) _ >>= _) _ _ _;refine ah (jo (d7 (b9 (hkey _ H _ 0 v2 u2 hv2 ru2 I2 (Same.refl H)) (fun kv s3 hk3=>?_) fun _ _ z=>z.elim)));obtain ⟨H3,tk,I3,S3,rfl⟩:=hk3;have hS3:=I3.pin2;show aX _ X.A.in1 (updateSeq S (fun _=> #[u2,.int (key 0) tk]) >>= _) _ _ _;refine ah ?_;refine wpAny_updateSeq hS3 rfl ?_;rw [hname];obtain ⟨c',I4⟩:=min_put T I3 #[u2,.int (key 0) tk];exact aO ⟨plainId_quiet gz _,min_loop T hh hkey hL fin _ 0 _ H3 v2 u2 tk c' oI2 rfl hlt S3 I4 hI2 hv2 ru2⟩
theorem args_minK (a g:ae):argsOk "min" ⟨[a],[(cT "key",g)]⟩:=by unfold argsOk;kernel_rfl
theorem call_minK {L g:ai}{vs:List V}{key:Nat→Int}(I:Inv X aN σ H s)(hh:X.A.handled=none)(hkey:KeyI X σ H (.ref g) vs key)(hL:H L=some (.lst vs))(hne:vs≠[])
  (fin:∀ v u H' s',vs[ja key (vs.length - 1)]? =some v→RelV v u→Same H H'→Inv X aN σ H' s'→Q u s'):aX (br X.prog X.w) X.A (call (.builtin "min") [.ref L] [(cT "key",.ref g)]) Q E s:=by
 have hname:(toString "min" ++ toString ".loop" :String) = "min.loop" := by decide
 refine k7 F.kind_min F.plain_min F.entry_min (args_minK _ _) ?_;show aX _ X.A.in1 (eN.Builtins.bindParams "min" ["key","default"] 0 ⟨[],[(cT "key",.ref g)]⟩ >>= _) _ _ s;refine ah (wpAny_of_eq (show eN.Builtins.bindParams "min" ["key","default"] 0 ⟨[],[(cT "key",.ref g)]⟩=fH [some (.ref g),none] from rfl) ?_);refine ah (aO ?_);obtain ⟨its,rv,⟨o,n,ho,hcl,_,hd⟩,_⟩:=I.list (SqL.of hL);refine ah (wpAny_pyIter_list ⟨o,ho,hcl,n,hd⟩ ?_);refine ah (eS ?_);rw [hname];obtain ⟨h1,eh1⟩:∃ h1,h1=s.heap.push { cls:= .type "list_iterator",data:= .fields #[.ref L,.int 0 0] }:=⟨_,rfl⟩;have z1:h1.objs.size=s.heap.objs.size+1:=by rw [eh1];exact fQ ..
 rw [←eh1];obtain ⟨h2,eh2⟩:∃ h2,h2=h1.push { cls:= .type "list",data:= .seq #[] }:=⟨_,rfl⟩;have keep:∀ b o,s.heap.get? b=some o→h2.get? b=some o:=fun b o e=>by rw [eh2];refine ar _ ?_;rw [eh1];exact ar _ e
 have gI:h2.get? s.heap.objs.size=some { cls:= .type "list_iterator",data:= .fields #[.ref L,.int 0 0] }:=by rw [eh2];refine ar _ ?_;rw [eh1];exact aZ _ rfl
 have gS:h2.get? h1.objs.size=some (bJ "list" #[] 0):=by rw [eh2];exact aZ _ rfl
 have I2:=I.kept (t':=s.toks) keep;have lS:s.heap.objs.size≤h1.objs.size:=by omega
 have I3:Inv X ((s.heap.objs.size,{ cls:= .type "list_iterator",data:= .fields #[.ref L,.int 0 0] })::(h1.objs.size,bJ "list" #[] 0)::aN) σ H { s with heap:=h2 }:=I2.pins_of fun z hz=>by
  rcases az.mp hz with rfl | hz
  ·exact ⟨gI,I.hok.fresh (aB _),cR I.lt,I.nofs (aB _),fun v z=>by cases z⟩
  ·rcases az.mp hz with rfl | hz
   ·exact ⟨gS,I.hok.fresh lS,cR (aQ I.lt lS),I.nofs lS,fun v z=>by cases z⟩
   ·exact I2.pin z (aw _ hz)
 have old:∀ b o,s.heap.get? b=some o→b≠s.heap.objs.size∧b≠h1.objs.size:=fun b o e=>⟨bI (aL e),bI (aQ (aL e) lS)⟩
 have T:Two X aN s.heap.objs.size h1.objs.size:=⟨I.sz,aY I.sz lS,fun y d e=>by obtain ⟨v,o,ho,_⟩:=I.cell y d e;exact (old d o ho).1,fun y d e=>by obtain ⟨v,o,ho,_⟩:=I.cell y d e;exact (old d o ho).2,fun z hz=>(old _ _ (I.pin z hz).1).1,fun z hz=>(old _ _ (I.pin z hz).1).2,bI (by omega:s.heap.objs.size<h1.objs.size)⟩;refine aO ⟨plainId_quiet gz _,?_⟩;rw [←eh2];exact min_first (R:=fun r s'=>match r with | .ok (.ret v)=>Q v s' | .ok _=>False | .error e=>E e s') T hh hkey hL hne (fun v u H' s' a1 a2 a3 a4=>fin v u H' s' a1 a2 a3 a4) I3 ⟨rfl,rfl⟩
end
def MinQ (P:ai)(lq:Str)(js:List Nat)(te:TE)(σ:St)(Q:VK)(v:V)(H1:Hp):Prop:=∃ (L:ai) (vs:List V) (key:Nat→Int),v= .ref L∧H1 L=some (.lst vs)∧vs≠[]∧LamG P lq H1 ∧
 (∀ i x,vs[i]? =some x→∀ H2,Tb P H1 H2→te (some x::cV σ js) H2 fun u H3=>Same H2 H3∧u= .int (key i)) ∧
 ∀ H4 i x,Tb P H1 H4→LamG P lq H4→vs[i]? =some x→(∀ j,j<vs.length→key i≤key j)→Q x H4
def tMinL (P:ai)(lq:Str)(tr:TE)(js:List Nat)(te:TE):TE:=fun σ H Q=>tr σ H fun v H1=>MinQ P lq js te σ Q v H1
def MinQ1 (P:ai)(lq:Str)(js:List Nat)(te:TE)(σ:St)(Q:VK):List V→Hp→Prop
 | [v],H1=>MinQ P lq js te σ Q v H1
 | _,_=>False
theorem pe_minL {re:Expr}{tr:TE}{p kp:Pos}{c P:ai}(hc:X.calm=true)(hrm:X.A.depth<jr)(hg:Gl X "min")(hm:X.mg "min" =none)(hi:PE X re tr)
  (hd:defaultsOf params X.env=([],[])) (k3:X.env.code= .ref c) (C:codeHdIn X.K c P=true) (B:BM X.mg X.base)
  (hbind:∀ q cl pm cdv ct (u:ae),bindArgs (kla_fn "<lambda>" q params body scope cl pm cdv ct) ⟨[u],[]⟩=fH [(x,u)])
  (hk:scope.kind= .function) (hco:scope.isCoroutine=false) (hgen:scope.isGenerator=false) (ij:∀ y∈scope.names,y.2≠ .cell) (hx:scope.names.lookup x=some .local) (hfx:x ∉ fr)
  (hfr:∀ y∈scope.names,y.2= .free→X.env.scope.names.lookup y.1=some .cell) (hjs:js.map (fun j=>X.N[j]?)=fr.map some) (hfv:∀ y∈fr,scope.names.lookup y=some .free)
  (hb:∀ cl L f cd s' H',PE (cxLam X (X.env.qual ++ "<lambda>") scope cl L f cd (x::fr) s' H') body te)
  (he:gw pos (bE [re] X.env)=(false,eu re X.env)::gw pos (bE [] X.env):=by rfl)
  (hs:bE [re] X.env=(false,eu re X.env)::bE [] X.env:=by rfl) (hpl:(gw pos (bE [re] X.env)).any (·.1)=false:=by rfl) :
  PE X (.Call (.Name "min" p) [re] [⟨some "key",.Lambda params body scope lp,kp⟩] pos) (tMinL P (X.env.qual ++ "<lambda>") tr js te):=by
 intro aN s σ H Q I h;refine eC (kq I hg hm (u:= .builtin "min") (by trivial) ?_);refine callWith_kw (kws:=[⟨some "key",.Lambda params body scope lp,kp⟩]) (thn ((af hi aC hs) pos aN s σ H (MinQ1 P (X.env.qual ++ "<lambda>") js te σ Q) I h) fun us s1 ⟨vs,H1,I1,r1,q0⟩=>?_) he hpl;refine kws_cons ?_;obtain ⟨v,rfl⟩:∃ v,vs=[v]:=by
  cases vs with
  | nil=>exact q0.elim
  | cons v r=>cases r with
   | nil=>exact ⟨v,rfl⟩
   | cons _ _=>exact q0.elim
 have q1:MinQ P (X.env.qual ++ "<lambda>") js te σ Q v H1:=q0;obtain ⟨L,vs,key,rfl,hL,hne,T,hkey,hQ⟩:=q1;obtain rfl:us=[.ref L]:=by
  cases r1 with
  | cons ru rs =>
   cases rs;exact pf (fun z=>[z]) ru
 refine lam_makeG (body:=body) I1 hd k3 C B hfr T fun f cl H2 s2 I2 tb T2 F2 c1 c2=>?_
 refine kws_nil ?_;show aX _ _ (call (.builtin "min") [.ref L] [(cT "key",.ref f)]) _ _ _;have LP:L≠P:=fun z=>by
  obtain ⟨ps,e⟩:=T.tbl;rw [←z,hL] at e;cases e
 have KI:KeyI X σ H2 (.ref f) vs key:=fun t H' pins' i v u hv ru I' S'=>by
  refine wpAny_of_in1 (b9 (lam_call (v:=v) I' hc hrm (F2.same S') ru (fun pm cdv ct=>hbind _ _ _ _ _ _) hk hco hgen ij hx hfx c1 c2 hfr hjs hfv (fun L cd s' H'=>hb cl L f cd s' H') (hkey i v hv H' (tb.trans S'.tb))) (fun k t' ⟨v',H'',I'',rv,S'',ev⟩=>?_) fun _ _ z=>z);subst ev;obtain ⟨tk,rfl⟩:∃ tk,k= .int (key i) tk:=rv;exact ⟨H'',tk,I'',S'',rfl⟩
 refine call_minK I2 (I2.ok.hd hc) KI (tb _ _ LP hL) hne fun v u H' s' hv ru S' I'=>?_
 obtain ⟨b1,b2⟩:=best_ok key (vs.length - 1);exact ⟨v,H',I',ru,hQ H' _ v (tb.trans S'.tb) (T2.same S') hv fun j hj=>b2 j (by omega)⟩
end L2
namespace HN
open PySem L2 PyProof.Rows
def posR (r:Int×List Stp):Bool:=decide (r.1 > 0)
def jD (b:Int)(sp:List Sn)(bs:List (Int×Int))(rg:List (Nat×List Stp)):List (Int×List Stp):=j4 sp (rg.filter fun q=>sureB b bs q.2)
def mq (b:Int)(sp:List Sn)(bs:List (Int×Int))(rg:List (Nat×List Stp)):List (Int×List Stp):=(jD b sp bs rg).filter posR
theorem rowsW_pos {b:Int}{bs:List (Int×Int)}:∀ (rows:List (Int×List Stp)),(∀ r∈rows,0≤r.1)→my b bs (rows.filter posR)=my b bs rows
 | [],_=>rfl
 | r::rows,h=>by
  have ih:=rowsW_pos (b:=b) (bs:=bs) rows fun t ht=>h t (au _ ht)
  have e:my b bs (r::rows)=r.1 * upB b (fg bs r.2) * b+my b bs rows:=rfl;rw [gu,e]
  by_cases c:r.1 > 0
  ·rw [o4 (show posR r=true from o8 c)]
   show r.1 * upB b (fg bs r.2) * b+my b bs (rows.filter posR)=_;rw [ih]
  ·rw [oZ (show ¬ (posR r=true) by unfold posR;rw [o9 c];exact aP),ih]
   have:=h r (by simp);rw [show r.1=0 by omega,eP,eP,iq]
theorem own_pos {k:Nat}:∀ (rows:List (Int×List Stp)) (a:Int),(∀ r∈rows,0≤r.1)→(rows.filter posR).foldl (ownS k) a=rows.foldl (ownS k) a
 | [],_,_=>rfl
 | r::rows,a,h=>by
  have ih:=fun a=>own_pos (k:=k) rows a fun t ht=>h t (au _ ht)
  rw [gu,bM]
  by_cases c:r.1 > 0
  ·rw [o4 (show posR r=true from o8 c),bM];exact ih _
  ·rw [oZ (show ¬ (posR r=true) by unfold posR;rw [o9 c];exact aP),ih]
   have:=h r (by simp);have e:ownS k a r=a:=by
    show ownV k a r.1 r.2=a;unfold ownV;split <;> split <;> omega
   rw [e]
theorem worth_pos {bs:List (Int×Int)}(rows:List (Int×List Stp))(h:∀ r∈rows,0≤r.1):kf b sp bs (rows.filter posR)=kf b sp bs rows:=by
 unfold kf;rw [rowsW_pos rows h];congr 2;refine fu fun k _=>?_
 have e:owK sp (rows.filter posR) k=owK sp rows k:=own_pos rows _ h;unfold termW;rw [e]
def RBest (b:Int)(sp:List Sn)(w:Int)(bs:List (Int×Int))(d:Dt):Prop:=RDead b sp bs d∨∃ rows:List (Int×List Stp),d=leafP (.price rows)∧(∀ r∈rows,RowOk b sp bs r)∧rows.length≤40∧w≤kf b sp bs rows
section
variable {m:Int}{rg:List (Nat×List Stp)}{bs:List (Int×Int)}
theorem rg_few (N:NetT b m sp)(f:FF m sp l rg):rg.length≤40:=by
 have hn:((rg.map (·.1)).map fun n:Nat=>(n:Int)).Nodup:=by
  rw [bU,fY];exact (bU.mp f.one).imp fun hh e=>hh (by omega)
 have:=kQ (l:=(rg.map (·.1)).map fun n:Nat=>(n:Int)) (k:=(aR sp.length).map fun n:Nat=>(n:Int)) hn fun z hz=>by
  obtain ⟨i,hi,rfl⟩:=aV.mp hz;obtain ⟨q,hq,rfl⟩:=aV.mp hi;exact aV.mpr ⟨_,bQ.mpr (f.rk q hq).lt,rfl⟩
 rw [aa,aa,aa,bt] at this;have:=N.few;omega
theorem sureR_w (N:NetT b m sp)(f:FF m sp l rg):∀ r∈jD b sp bs rg,0≤r.1:=fun r hr=>by
 obtain ⟨q,hq,rfl⟩:=aV.mp hr;exact (N.all _ (dG (f.rk q (cg.mp hq).1).lt)).w0
theorem price_ok (N:NetT b m sp)(f:FF m sp l rg):(∀ r∈mq b sp bs rg,RowOk b sp bs r)∧(mq b sp bs rg).length≤40:=by
 have m2:=N.m2;have fw:=f.few;refine ⟨fun r hr=>?_,?_⟩
 ·obtain ⟨q,hq,rfl⟩:=aV.mp (cg.mp hr).1
  obtain ⟨h1,h2⟩:=cg.mp hq;have K:=f.rk q h1;have sn:=N.all _ (dG K.lt);exact ⟨K.rg N (by omega),h2,by have:=sn.w0;show -1000000000000≤(sAt sp q.1).w;omega,sn.w1⟩
 ·refine aY (eV _ _) ?_
  unfold jD j4;rw [aa];exact aY (eV _ _) (rg_few N f)
theorem price_tight (N:NetT b m sp)(f:FF m sp l rg)(O:OB sp l bs)(x:Fx b l rg bs):∃ ts,g9 b ts sp=true∧dW b ts sp=kf b sp bs (mq b sp bs rg):=by
 obtain ⟨ts,_,_,h1,h2⟩:=tight N f O x;have fs:=fx_sure N f O x;have e:rg.filter (fun q=>sureB b bs q.2)=rg:=List.filter_eq_self.mpr fun q hq=>(fs.2 _ (aV.mpr ⟨q,hq,rfl⟩)).2.1
 refine ⟨ts,h1,h2.trans ?_⟩;unfold mq;rw [worth_pos _ (sureR_w N f)];unfold jD;rw [e]
theorem tight_in (N:NetT b m sp)(f:FF m sp l rg)(O:OB sp l bs)(x:Fx b l rg bs):∃ ts,g9 b ts sp=true∧InB (ig b ts sp) bs:=by
 obtain ⟨π,hπ⟩:=f.acy.pot fun k=>(bs.getD k (0,0)).1
 have m1:=N.m1;have key:=key_pot N f O x (ts:=potT b π m.toNat) (π:=π) hπ fun k hk=>by
  have s:=N.all _ (dG hk);exact wait_pot s.s0 (by have:=s.s1;omega) s.g0 (by have:=s.g1;omega)
 refine ⟨potT b π m.toNat,fits_lay (m:=m) fun k hk=>?_,fun k hk=>key k (by rw [←O.len];exact hk)⟩;have:=key k hk;have:=(O.lo k hk).2.2;omega
theorem fx_other {rg':List (Nat×List Stp)}(N:NetT b m sp)(f:FF m sp l rg)(f':FF m sp l rg')(O:OB sp l bs)(x:Fx b l rg' bs):Fx b l rg bs:=by
 obtain ⟨ts,_,hin⟩:=tight_in N f' O x;have m2:=N.m2;have fw:=f.few;exact ⟨x.fix,fun q hq=>dead_none (by have:=N.b1;omega) O.len hin ((f.rk q hq).rg N (by omega))⟩
theorem leafW_price (rows:List (Int×List Stp)):LeafW (leafP (.price rows)):=by
 refine ⟨?_,"price",.tup (rows.map rowD),rfl,by decide⟩;show (true && (pl (.tup (rows.map rowD)) && true))=true;rw [show pl (.tup (rows.map rowD))=true from j6 rows fun r _=>by show (true && (pl (mf r.2) && true))=true;rw [show pl (mf r.2)=true from kU _ _];rfl];rfl
end
abbrev sFirst:cP:=top 8
theorem scFirst:cb pza pza (defScope sFirst):=by trivial
theorem ok_first (F:Fun K "first_bounds" "first_bounds" sFirst f fd)(T:Nm mg):cS P w K mg base CX0 1 f fd pza spFirst:=by
 refine F.ok scFirst (by contradiction) (fun cdv A outer s H vs Q E hr h=>?_);obtain ⟨v,b,m,sp,rfl,hv,few,k⟩:=h;obtain ⟨t,p,ys,rfl,ht,hp,hl,hy⟩:=fj hv;refine ⟨_,PSl.h (dh ⟨(cz (gv iJ rfl T.ttup iA (af (jj (fr:=[]) (js:=[]) rfl (jO (ixZ (pv 0))) (by trivial) rfl (by trivial) rfl (by exists sFirst) (by trivial) rfl (by trivial) (fun _ _ _ _ _=>⟨(dg (af (d9 (r:=nM K) dH (pv 0) bo (fun _ _=>rfl)) (af (d9 (r:=nM K) dH (pv 0) bo (fun _ _=>rfl)) aC))),ia⟩)) aC)))⟩),?_⟩;refine ⟨_,rfl,t,_,_,_,rfl,rfl,SqT.of ht,aJ (j:=2) rfl,p,rfl,⟨_,SqT.of hp⟩,?_⟩;refine ka (K:=K) (a:=p) (xs:=ys) (fun i zs H2=>Same H H2∧IsDs H2 zs (((sp.take i).map fun x=>(x.l,x.o)).map fun x=> .tup ((bndR x).map Dt.int))) ⟨Same.refl H,.nil⟩ (fun i zs H2 hi ⟨e1,e2⟩=>?_) (by rw [hl];exact eU few) (fun i x zs H2 hx ⟨e1,e2⟩=>?_) (fun zs H2 ⟨e1,e2⟩ D hD=>?_)
 ·refine ⟨SqT.of (e1 _ _ hp),?_⟩
  rw [e2.length,aa,aa,bG];omega
 ·have hi:i<sp.length:=by rw [←hl];exact (ao.mp hx).1
  obtain ⟨q,hq,hq2⟩:=hy i sp[i] (gE hi);rw [hx] at hq;cases hq;have hq3:=e1 _ _ hq2;refine gB ?_;refine ⟨_,rfl,q,_,_,_,rfl,rfl,SqT.of hq3,aJ (j:=2) rfl,_,rfl,q,_,_,_,rfl,rfl,SqT.of hq3,aJ (j:=3) rfl,mx,fun q4 H4 S4 h4=>⟨e1.trans S4,?_⟩⟩;rw [bg,gE hi,aA,aA];exact (e2.same S4).append (.cons (.tup h4 (IsDs.ints [sp[i].l,sp[i].o])) .nil)
 ·refine ⟨D,_,rfl,SqL.of aU,fun p3 H3 S3 h3=>?_⟩
  have S23:=(Same.put (o:= .lst zs) (Same.refl H2) hD).trans S3;refine k (.ref p3) H3 (e1.trans S23) (.tup h3 ?_);rw [hl,bf] at e2;exact e2.same S23
abbrev sWithB:cP:=top 28
theorem cutU {i:Int}(hi:i=(n:Int)):cutV xs none (some i)=xs.take n:=by
 unfold cutV;subst hi;have e:=HT.sIx_nat xs.length xs.length n;rw [e];show (xs.drop 0).take (min n xs.length - 0)=xs.take n;rw [List.drop_zero,Nat.sub_zero]
 by_cases h:n≤xs.length
 ·rw [Nat.min_eq_left h]
 ·rw [Nat.min_eq_right (by omega),bf,iV (by omega)]
theorem cutF {i:Int}(hi:i=(n:Int)):cutV xs (some i) none=xs.drop n:=by
 unfold cutV;subst hi;have e:=HT.sIx_nat xs.length 0 n;rw [e];show (xs.drop (min n xs.length)).take (xs.length - min n xs.length)=xs.drop n
 by_cases h:n≤xs.length
 ·rw [Nat.min_eq_left h,iV (by rw [e8];omega)]
 ·rw [Nat.min_eq_right (by omega),List.drop_length,List.drop_of_length_le (by omega),List.take_nil]
theorem scWithB:cb pzs pzs (defScope sWithB):=by trivial
theorem ok_withB (F:Fun K "with_bound" "with_bound" sWithB f fd):cS P w K mg base CX0 1 f fd pzs spWithB:=by
 refine F.ok scWithB (by contradiction) (fun cdv A outer s H vs Q E hr h=>?_);obtain ⟨vb,n,lo,hi,bs,rfl,hb,hn,few,k⟩:=h;obtain ⟨pb,yb,rfl,hpb,hlb,rb⟩:=iE hb;refine ⟨_,PSl.h (dh ⟨(cz (cp km (cp km (mR sl_tupN (pv 0) po_none (po_some (pv 1))) (dg (af (dg (af (pv 2) (af (pv 3) aC))) aC))) (mR sl_tupN (pv 0) (po_some (cp fm (pv 1) bo)) po_none)))⟩),?_⟩;have lyb:yb.length≤40:=by omega
 refine ⟨_,rfl,_,rfl,_,rfl,pb,_,rfl,hpb,fun qB HB SB hB=>⟨_,rfl,_,rfl,mx,fun q1 H1 S1 h1=>⟨szZ1,fun qC HC SC hC=>?_⟩⟩⟩;rw [cutU (n:=n) rfl] at hB;refine ⟨qB,qC,_,_,rfl,rfl,SC _ _ (S1 _ _ hB),hC,?_,fun qD HD SD hD=>?_⟩
 ·rw [bG];exact aY (by show min n yb.length+1≤1000;omega) (by decide)
 refine ⟨_,rfl,_,rfl,_,_,rfl,rfl,_,rfl,pb,_,rfl,SD _ _ (SC _ _ (S1 _ _ (SB _ _ hpb))),fun qE HE SE hE=>?_⟩;rw [cutF (n:=n+1) (by omega)] at hE;refine ⟨qD,qE,_,_,rfl,rfl,SE _ _ hD,hE,?_,fun qF HF SF hF=>?_⟩
 ·rw [av,bG,e8];exact aY (by show min n yb.length+1+(yb.length - (n+1))≤1000;omega) (by decide)
 have S1F:Same H1 HF:=SC.trans (SD.trans (SE.trans SF));have SF':Same H HF:=SB.trans (S1.trans S1F);refine k (.ref qF) HF SF' (.tup hF ?_);have e:bs.set n (lo,hi)=bs.take n++[(lo,hi)]++bs.drop (n+1):=by
  rw [List.set_eq_take_append_cons_drop,o4 hn,List.append_assoc];rfl
 rw [e,aA,aA,List.map_take,List.map_drop];exact ((IsDs.takeN n (rb.same SF')).append (.cons (.tup (S1F _ _ h1) (IsDs.ints [lo,hi])) .nil)).append (IsDs.dropN (n+1) (rb.same SF'))
abbrev cCuts:cP:=top 34
abbrev oJ:cP:=clsOf cCuts 0
abbrev sSpanC:cP:=clsOf cCuts 1
abbrev sSidesC:cP:=clsOf cCuts 2
def lamPosC:List cP→Pos
 | [_,_,_,_,.Assign _ (.Call _ _ [⟨_,.Lambda _ _ _ lp,_⟩] _) _]=>lp
 | _=>⟨0,0,0,0⟩
abbrev lpC:Pos:=lamPosC (fk oJ)
abbrev lqC:Str:=(("Cuts.__init__" :Str) ++ ".<locals>.") ++ "<lambda>"
theorem lenNC (K:ak)(hK:X.K=K:=by rfl):CallR X (.builtin "len") (fun xs H Q=>∃ p ys,xs=[.ref p]∧(SqL K H p ys∨SqT K H p ys)∧Q (.int ys.length) H):=by subst hK;exact cZ
structure CutC (K:ak)(C:ai):Prop where
 cl:Cls K C
 n1:NoAttr K C "first_case"
 n2:NoAttr K C "touched"
 n3:NoAttr K C "order"
theorem scInitC:cb ["self","net","rings","touched"] ["self","net"] (defScope oJ):=by trivial
theorem ok_initC {f3 f4 c T0 T1:ai}{fd3 fd4:bq}{p0:Pos}{q0:Str}(F:Fun K "__init__" "Cuts.__init__" oJ f fd)(hcd:fd.code= .ref c)(CH:dY K c T1=true)(B:BM mg base)(ne:T0≠T1)(T:Nm mg)(T2:Nt mg)(ms:mg "sorted" =none)(CC:CutC K C)
  (G1:Fn K mg "rings_of" ny pza f1 fd1) (F1:cS P w K mg base CX0 8 f1 fd1 pza (mJ T0 p0 q0))
  (G2:Fn K mg "rings_over" sOverR pzr f2 fd2) (G3:Fn K mg "first_bounds" sFirst pza f3 fd3)
  (G4:Fn K mg "forest_of" ki pza f4 fd4) (F4:cS P w K mg base CX0 6 f4 fd4 pza (jY T0 p0 q0)):cS P w K mg base CX0 9 f fd ["self","net"] (spInitC T0 p0 q0 T1 lpC lqC C):=by
 have F2:cS P w K mg base CX0 1 f2 fd2 pzr spOverR:=ok_overR G2.F;have F3:cS P w K mg base CX0 1 f3 fd3 pza spFirst:=ok_first G3.F T;refine okC F hcd scInitC (by contradiction) (fun A outer s H vs Q E hr h=>?_);obtain ⟨x,dx,v,b,m,sp,rfl,hx,hv,N,hT0,hT1,k⟩:=h;have hr1:Room 1 _:=hr.mono (by decide);have hr6:Room 6 _:=hr.mono (by decide);have E:=N.ends;have few:=N.few;have m1:=N.m1;have m2:=N.m2;refine ⟨_,PSl.h (bc ⟨(bD (i:=2) scInitC.nd rfl (.inr rfl) (pc1 G1 F1 hr (af (pv 1) aC)))⟩
  (bc ⟨(bD (i:=3) scInitC.nd rfl (.inr rfl) (jj (fr:=["rings"]) (js:=[2]) rfl (jB rfl T2.range (af (eh cZ rfl T.len cQ (af (ixZ (pv 1)) aC)) aC)) (by trivial) rfl (by trivial) rfl (by exists oJ) (by trivial) rfl (by trivial) (fun _ _ _ _ _=>⟨(pc1 G2 F2 hr1 (af (pv 1) (af (pv 0) aC))),ia⟩)))⟩
  (bc ⟨(ps_fld (pv 0) (dg (af (pc1 G3 F3 hr1 (af (pv 1) aC)) (af (pv 2) aC))) rfl)⟩
  (bc ⟨(ps_fld (pv 0) (pv 3) rfl)⟩
  (dh ⟨(ps_fld (pv 0) (pe_sortT (js:=[3]) (fr:=["touched"]) (x := "span") (c:=c) (P:=T1) rfl hr.depth rfl ms (pc1 G4 F4 hr6 (af (pv 1) aC)) rfl rfl CH B (fun _ _ _ _ _ _=>rfl) rfl rfl rfl (by trivial) rfl (by decide) (by exists oJ) rfl (by trivial)
   (fun cl L f' cd s' H'=>pe_tup (af (pe_un un_neg (eh (lenNC K) rfl T.len cQ (af (d9 (r:=rIxL K) fA (pv 1) (pv 0) (fun _ _=>rfl)) aC))) (af (pv 0) aC)))) rfl)⟩))))),?_⟩
 refine ⟨_,rfl,v,b,m,sp,rfl,hv,N,hT0,fun L rl l rg H1 tb1 hT01 fL hL dL R=>?_⟩;have fr:=R.fr;have xT0:x≠T0:=by obtain ⟨ps,h⟩:=LamT.tbl hT0;exact eD hx h nofun
 have xT1:x≠T1:=by obtain ⟨ps,h⟩:=LamT.tbl hT1;exact eD hx h nofun
 have K1:Kp H H1:=Tb.kp hT0 tb1;have hT11:=LamT.ntb hT1 hT0 (cw ne) tb1;have hx1:=tb1 x _ xT0 hx;have hv1:=bY K1.tup hv;have tl:l.length≤15:=by have:=fr.few E (by omega);omega
 have lrg:rg.length≤40:=by
  have:rg.length=(nL sp l).length:=by rw [←R.ks,aa]
  have h2:(nL sp l).length≤sp.length:=by unfold nL;exact aY (eV _ _) (by rw [bt];exact aB _)
  omega
 have lng:∀ q∈rg,q.2.length≤1000:=fun q hq=>by
  have:=((R.rk q hq).rg N tl).few;omega
 have st1:∀ a o,a≠T0→a≠T1→a≠x→H a=some o→H1 a=some o:=fun a o n0 _ _ e=>tb1 a o n0 e
 obtain ⟨t,p,ys,ev,ht,hp,hl,hy⟩:=fj hv1;subst ev;clear hy hv fL tb1;refine ⟨_,rfl,t,_,_,_,rfl,rfl,SqT.of ht,aJ (j:=2) rfl,p,_,rfl,.inr (SqT.of hp),_,rfl,by omega,by omega,?_⟩;refine kK (n:=((ys.length:Int)).toNat) (fun i zs HC=>Same H1 HC∧zs.length=i∧∀ j,j<i→∃ u ql,zs[j]? =some (.ref u)∧HC u=some (.lst ql)∧IsDs HC ql ((rg.filter (g6 j)).map wayQ)) ⟨Same.refl H1,rfl,fun j hj=>o6 hj (Nat.not_lt_zero _)⟩ (fun i zs HC hi ⟨_,e2,_⟩=>Nat.le_of_eq e2) (eU (by omega)) (fun i zs HC hi ⟨S,lz,dz⟩=>?_) (fun zs HC ⟨S,lz,dz⟩ D hD=>?_)
 ·rw [iq]
  refine gB ⟨_,rfl,_,rfl,L,i,rl,rg,rfl,S _ _ hL,dL.same S,lrg,lng,fun L' rl' H2 S2 f2 h2 d2=>⟨S.trans S2,by rw [av,lz];rfl,fun j hj=>?_⟩⟩
  rcases iK.mp hj with z | z
  ·obtain ⟨u,ql,a1,a2,a3⟩:=dz j z
   exact ⟨u,ql,by rw [fX (by omega)];exact a1,S2 _ _ a2,a3.same S2⟩
  ·subst z
   exact ⟨L',rl',by rw [bV (by omega),lz,Nat.sub_self];rfl,h2,d2⟩
 have S1:Same H1 (upd HC D (.lst zs)):=S.trans (Same.put (Same.refl HC) hD);have tch:TchD (upd HC D (.lst zs)) D sp.length rg:=by
  refine ⟨zs,aU,by rw [lz];omega,fun j hj=>?_⟩;obtain ⟨u,ql,a1,a2,a3⟩:=dz j (by omega);have S2:Same HC (upd HC D (.lst zs)):=Same.put (Same.refl HC) hD;exact ⟨u,ql,a1,S2 _ _ a2,a3.same S2⟩
 generalize upd HC D (.lst zs)=H2 at S1 tch ⊢;clear dz hD;refine ⟨_,rfl,.ref t,b,m,sp,rfl,hv1.same S1,by omega,fun ub H3 S3 hub=>⟨_,rfl,mx,fun q4 H4 S4 h4=>⟨_,rfl,x,C,dx,_,rfl,S4 _ _ (S3 _ _ (S1 _ _ hx1)),CC.cl,CC.n1,by decide,?_⟩⟩⟩;have S14:Same H1 H4:=S1.trans (S3.trans S4);have cs4:CsD H4 q4 (sp.map fun z=>(z.l,z.o)) rg:=⟨ub,L,rl,h4,hub.same S4,S14 _ _ hL,dL.same S14⟩;have tch4:=tch.kp (Same.kp (S3.trans S4));have hx4:=S14 _ _ hx1;have K4:Kp H4 (upd H4 x (.ins C dx (lg "first_case" (.ref q4) []))):=Kp.upd hx4;have st5:∀ a o,a≠T0→a≠T1→a≠x→H a=some o→(upd H4 x (.ins C dx (lg "first_case" (.ref q4) []))) a=some o:=fun a o n0 n1 n2 e=>by rw [bw n2];exact S14 _ _ (st1 a o n0 n1 n2 e)
 have kp5:Kp H (upd H4 x (.ins C dx (lg "first_case" (.ref q4) []))):=K1.trans ((Same.kp S14).trans K4);have hx5:(upd H4 x (.ins C dx (lg "first_case" (.ref q4) []))) x=some (.ins C dx [("first_case",.ref q4)]):=aU;have hT05:=kI (o:= .ins C dx (lg "first_case" (.ref q4) [])) (LamT.same S14 hT01) hx4;have hT15:=kI (o:= .ins C dx (lg "first_case" (.ref q4) [])) (LamT.same S14 hT11) hx4;have hv5:=bY K4.tup (hv1.same S14);have cs5:=cs4.kp K4;have tch5:=tch4.kp K4;generalize upd H4 x (.ins C dx (lg "first_case" (.ref q4) []))=H5 at st5 kp5 hx5 hT05 hT15 hv5 cs5 tch5 ⊢;clear K4 hx4 tch4 cs4 S14 h4 S4 hub S3 tch S1 ht hp st1 hv1 hT11 hT01 hx1 K1 dL hL;refine ⟨_,rfl,_,rfl,x,C,dx,_,rfl,hx5,CC.cl,CC.n2,(by show 1<1000;decide),?_⟩;have K5:Kp H5 (upd H5 x (.ins C dx (lg "touched" (.ref D) [("first_case",.ref q4)]))):=Kp.upd hx5;have st6:∀ a o,a≠T0→a≠T1→a≠x→H a=some o→(upd H5 x (.ins C dx (lg "touched" (.ref D) [("first_case",.ref q4)]))) a=some o:=fun a o n0 n1 n2 e=>by rw [bw n2];exact st5 a o n0 n1 n2 e
 have kp6:=kp5.trans K5;have hx6:(upd H5 x (.ins C dx (lg "touched" (.ref D) [("first_case",.ref q4)]))) x=some (.ins C dx [("first_case",.ref q4),("touched",.ref D)]):=aU;have hT06:=kI (o:= .ins C dx (lg "touched" (.ref D) [("first_case",.ref q4)])) hT05 hx5;have hT16:=kI (o:= .ins C dx (lg "touched" (.ref D) [("first_case",.ref q4)])) hT15 hx5;have hv6:=bY K5.tup hv5;have cs6:=cs5.kp K5;have tch6:=tch5.kp K5;generalize upd H5 x (.ins C dx (lg "touched" (.ref D) [("first_case",.ref q4)]))=H6 at st6 kp6 hx6 hT06 hT16 hv6 cs6 tch6 ⊢;clear K5 st5 kp5 hx5 hT05 hT15 hv5 cs5 tch5;refine ⟨_,rfl,.ref t,b,m,sp,rfl,hv6,N,hT06,fun u H7 ns tb7 hT07 hu F0=>?_⟩;obtain ⟨l',π0,rfl,O0,pm0⟩:=F0.natsF;have el:l'=l:=FrstL.one (m:=m.toNat) (sp:=sp) ⟨F0,π0,O0,pm0⟩ fr;subst el;have K6:Kp H6 H7:=Tb.kp hT06 tb7;have hT17:=LamT.ntb hT16 hT06 (cw ne) tb7;have hx7:=tb7 x _ xT0 hx6;have st7:∀ a o,a≠T0→a≠T1→a≠x→H a=some o→H7 a=some o:=fun a o n0 n1 n2 e=>tb7 a o n0 (st6 a o n0 n1 n2 e)
 have kp7:=kp6.trans K6;have cs7:=cs6.kp K6;have tch7:=tch6.kp K6;clear K6 st6 kp6 hx6 hT06 hT16 hv6 cs6 tch6 tb7;have hlt:=(fr.pots E).nodup.2;have hnd:=(fr.pots E).nodup.1;have lns:(l'.map fun (i:Nat)=>(i:Int)).length=l'.length:=aa ..;have gns:∀ i,i<l'.length→(l'.map fun (i:Nat)=>(i:Int)).getD i 0=((l'.getD i 0:Nat):Int):=fun i hi=>by
  rw [ag,ay,ag,gE hi];rfl
 refine ⟨u,l'.map fun (i:Nat)=>(i:Int),fun i=>(-(((rg.filter (g6 (l'.getD i 0))).length:Nat):Int),((l'.getD i 0:Nat):Int)),rfl,hu,by rw [lns];omega,hT17,?_,fun i hi H8 tb8=>?_,fun D2 H8 π tb8 hT18 f8 pm8 _=>?_⟩
 ·refine List.Pairwise.of_map (S:=fun a c:Int=>a≠c) Prod.snd (fun a c h e=>h (by rw [e])) ?_
  rw [dt,lns];have e:(aR l'.length).map (Prod.snd ∘ fun i=>(-(((rg.filter (g6 (l'.getD i 0))).length:Nat):Int),((l'.getD i 0:Nat):Int)))=l'.map fun (i:Nat)=>(i:Int):=by
   refine List.ext_getElem (by rw [aa,aa,bt]) fun i h1 h2=>?_
   rw [aa,bt] at h1;rw [List.getElem_map,List.getElem_range,List.getElem_map];show ((l'.getD i 0:Nat):Int)=_;rw [ag,gE h1];rfl
  rw [e,fY];exact (bU.mp hnd).imp fun hh e=>hh (by omega)
 ·rw [lns] at hi
  rw [gns i hi];obtain ⟨tv,a1,a2,a3⟩:=tch7.ex;have hk:l'.getD i 0<sp.length:=by
   rw [ag,gE hi];exact hlt _ (bH hi)
  obtain ⟨uu,ql,b1,b2,b3⟩:=a3 _ hk;have K8:Kp H7 H8:=Tb.kp hT17 tb8;have lq:ql.length=(rg.filter (g6 (l'.getD i 0))).length:=by rw [b3.length,aa]
  refine ⟨_,rfl,_,rfl,D,_,_,_,rfl,rfl,SqL.of (K8.lst _ _ a1),aJ b1,uu,_,rfl,.inl (SqL.of (K8.lst _ _ b2)),_,rfl,_,rfl,mx,fun a9 h9=>⟨Same.put (Same.refl H8) h9,a9,rfl,?_⟩⟩;rw [aU,lq]
 ·have K8:Kp H7 H8:=Tb.kp hT17 tb8
  have S9:Same H8 (upd H8 D2 (.lst (π.map fun (i:Nat)=>V.int ((l'.map fun (i:Nat)=>(i:Int)).getD i 0)))):=Same.put (Same.refl H8) f8;have h9:(upd H8 D2 (.lst (π.map fun (i:Nat)=>V.int ((l'.map fun (i:Nat)=>(i:Int)).getD i 0)))) D2=some (.lst ((π.map fun i=>l'.getD i 0).map fun (i:Nat)=>V.int i)):=by
   rw [aU,dt];congr 2;refine fu fun i hi=>?_
   have:=bQ.mp (pm8.mem_iff.mp hi);rw [lns] at this;rw [gns i this];rfl
  generalize upd H8 D2 (.lst (π.map fun (i:Nat)=>V.int ((l'.map fun (i:Nat)=>(i:Int)).getD i 0)))=H9 at S9 h9 ⊢;have hx9:=S9 _ _ (tb8 x _ xT1 hx7);refine ⟨_,rfl,x,C,dx,_,rfl,hx9,CC.cl,CC.n3,(by show 2<1000;decide),?_⟩;have K9:Kp H7 H9:=K8.trans (Same.kp S9);have hT08:=LamT.same S9 (LamT.ntb hT07 hT17 ne tb8);have hT19:=LamT.same S9 hT18;have KX:Kp H9 (upd H9 x (.ins C dx (lg "order" (.ref D2) [("first_case",.ref q4),("touched",.ref D)]))):=Kp.upd hx9;refine k l' rg _ (fun a o n0 n1 n2 e=>?_) (kp7.trans (K9.trans KX)) (kI hT08 hx9) (kI hT19 hx9) R ⟨dx,q4,D,D2,_,aU,(cs7.kp K9).kp KX,(tch7.kp K9).kp KX,KX.lst _ _ h9,ord_perm (by rw [lns] at pm8;exact pm8)⟩;rw [bw n2];exact S9 _ _ (tb8 a o n1 (st7 a o n0 n1 n2 e))
theorem scSpanC:cb ["self","case","span","bound"] ["self","case"] (defScope sSpanC):=by trivial
theorem ok_spanC (F:Fun K "span_to_cut" "Cuts.span_to_cut" sSpanC f fd)(CC:CutC K C):cS P w K mg base CX0 1 f fd ["self","case"] (spSpanC C):=by
 refine F.ok scSpanC (by contradiction) (fun cdv A outer s H vs Q E hr h=>?_);obtain ⟨x,c,sp,l,rg,rs,bs,rfl,hx,hc,hl,few,k1,k2⟩:=h;obtain ⟨dx,c0,tl,ol,ord,h1,h2,h3,h4,h5⟩:=hx.ex;obtain ⟨vb,u,rl,c1,c2,c3,c4⟩:=hc.ex;obtain ⟨pb,yb,rfl,hpb,hlb,rb⟩:=iE c2;refine ⟨_,PSl.h (bc ⟨(i8 bT rfl (ji (pe_fld (pv 0) rfl)) (dX (i:=2) scSpanC.nd rfl (.inl rfl)) (PSl.h (bc ⟨(bD (i:=3) scSpanC.nd rfl (.inl rfl) (d9 dH (ixZ (pv 1)) (pv 2) (fun _ _=>rfl)))⟩
  (dh ⟨(i7 (cU op_lt (ixZ (pv 3)) (ixZ (pv 3)) (dN _)) (df (cz (pv 2))) fv)⟩))))⟩
  (dh ⟨(cz kL)⟩)),?_⟩
 refine ⟨_,rfl,x,C,dx,_,_,rfl,h1,CC.cl,CC.n3,rfl,ol,rfl,⟨_,SqL.of h4⟩,?_⟩;refine kJ (K:=K) (a:=ol) (xs:=ord.map fun (i:Nat)=>V.int i) (fun i σ H1=>H1=H∧(∀ j∈ord.take i,¬ ((bs.getD j (0,0)).1<(bs.getD j (0,0)).2))∧∃ v2 v3,σ=[some (.ref x),some (.ref c),v2,v3]) ⟨rfl,fun _ h=>o6 h (by simp),none,none,rfl⟩ (fun i σ H1 _ ⟨e,_⟩=>by rw [e];exact SqL.of h4) ?_ ?_
 ·rintro i y σ H1 hy ⟨rfl,hal,v2,v3,rfl⟩
  obtain ⟨j,hj,rfl⟩:=mapI_at hy;have hm:j∈ord:=bh hj;have hjl:=h5.mem_iff.mp hm;have hjb:=hl j hjl;obtain ⟨q,hq,hq2⟩:=jJ rb (gE hjb);have e0:bs.getD j (0,0)=bs[j]:=by rw [ag,gE hjb];rfl
  refine ⟨_,rfl,c,_,_,_,rfl,rfl,SqT.of c1,aJ (j:=0) rfl,_,rfl,pb,_,_,_,rfl,rfl,SqT.of hpb,aJ (j:=j) hq,?_⟩;refine ⟨_,rfl,q,_,_,_,rfl,rfl,SqT.of hq2,aJ (j:=0) rfl,_,rfl,q,_,_,_,rfl,rfl,SqT.of hq2,aJ (j:=1) rfl,_,_,rfl,rfl,_,rfl,?_⟩;show if decide (bs[j].1<bs[j].2)=true then _ else _;refine ite2 (fun hc=>?_) (fun hc=>?_)
  ·exact ⟨_,rfl,k2 j hjl (by rw [e0];exact pe hc)⟩
  ·refine ⟨rfl,fun z hz=>?_,_,_,rfl⟩
   rw [bg,hj] at hz
   rcases aM.mp hz with y | y
   ·exact hal z y
   ·rw [ax.mp (show z∈[j] from y),e0]
    exact fun w=>hc (o8 w)
 ·rintro σ H1 ⟨rfl,hal,v2,v3,rfl⟩
  rw [aa,bf] at hal;exact k1 fun j hj=>hal j (h5.mem_iff.mpr hj)
theorem mN:cb ["self","case","span","at","bounds","one","other"] pzz (defScope sSidesC):=by trivial
theorem ok_sidesC (F:Fun K "sides" "Cuts.sides" sSidesC f fd)(CC:CutC K C)(G1:Fn K mg "with_bound" sWithB pzs f1 fd1):cS P w K mg base CX0 2 f fd pzz (spSidesC C):=by
 have F1:cS P w K mg base CX0 1 f1 fd1 pzs spWithB:=ok_withB G1.F;refine F.ok mN (by contradiction) (fun cdv A outer s H vs Q E hr h=>?_);obtain ⟨Hb,x,c,n,a,sp,l,rg,rs,bs,rfl,Sb,hx,hc,hn,lb,few,k⟩:=h;obtain ⟨dx,c0,tl,ol,ord,h1,h2,h3,h4,h5⟩:=hx.ex;obtain ⟨tv,t1,t2,t3⟩:=h3.ex;obtain ⟨u,ql,b1,b2,b3⟩:=t3 n (by omega);obtain ⟨vb,u0,rl,c1,c2,c3,c4⟩:=hc.ex;obtain ⟨pb,yb,rfl,hpb,hlb,rb⟩:=iE c2;obtain ⟨qn,hqn,hqn2⟩:=jJ rb (gE hn);have e0:bs.getD n (0,0)=bs[n]:=by rw [ag,gE hn];rfl
 have e1:ko bs n a=bs.set n (bs[n].1,a):=by unfold ko;rw [e0]
 have e2:eY bs n a=bs.set n (a+1,bs[n].2):=by unfold eY;rw [e0]
 refine ⟨_,PSl.h (bc ⟨(bD (i:=4) mN.nd rfl (.inl rfl) (ixZ (pv 1)))⟩
  (bc ⟨(bD (i:=5) mN.nd rfl (.inl rfl) (pc1 G1 F1 hr (af (pv 4) (af (pv 2) (af (ixZ (d9 dH (pv 4) (pv 2) (fun _ _=>rfl))) (af (pv 3) aC))))))⟩
  (bc ⟨(bD (i:=6) mN.nd rfl (.inl rfl) (pc1 G1 F1 hr (af (pv 4) (af (pv 2) (af (cp fm (pv 3) bo) (af (ixZ (d9 dH (pv 4) (pv 2) (fun _ _=>rfl))) aC))))))⟩
  (dh ⟨(cz (jk (af (dg (af (pv 6) (af (d9 fA (pe_fld (pv 0) rfl) (pv 2) (fun _ _=>rfl)) aC))) (af (dg (af (pv 5) (af (d9 fA (pe_fld (pv 0) rfl) (pv 2) (fun _ _=>rfl)) aC))) aC))))⟩)))),?_⟩
 refine ⟨_,rfl,c,_,_,_,rfl,rfl,SqT.of c1,aJ (j:=0) rfl,?_⟩;refine ⟨_,rfl,_,rfl,_,rfl,_,rfl,pb,_,_,_,rfl,rfl,SqT.of hpb,aJ (j:=n) hqn,qn,_,_,_,rfl,rfl,SqT.of hqn2,aJ (j:=0) rfl,_,rfl,.ref pb,n,bs[n].1,a,bs,rfl,c2,hn,few,fun u1 H1 S1 hu1=>?_⟩;refine ⟨_,rfl,_,rfl,_,rfl,_,_,rfl,rfl,_,rfl,_,rfl,pb,_,_,_,rfl,rfl,SqT.of (S1 _ _ hpb),aJ (j:=n) hqn,qn,_,_,_,rfl,rfl,SqT.of (S1 _ _ hqn2),aJ (j:=1) rfl,.ref pb,n,a+1,bs[n].2,bs,rfl,c2.same S1,hn,few,fun u2 H2 S2 hu2=>?_⟩;have S02:=S1.trans S2;have Sb2:=Sb.trans S02;refine ⟨_,rfl,_,rfl,x,C,dx,_,_,rfl,Sb2 _ _ h1,CC.cl,CC.n2,rfl,_,rfl,tl,_,_,_,rfl,rfl,SqL.of (Sb2 _ _ t1),aJ b1,mx,fun q3 H3 S3 h3'=>?_⟩;refine ⟨_,rfl,_,rfl,x,C,dx,_,_,rfl,S3 _ _ (Sb2 _ _ h1),CC.cl,CC.n2,rfl,_,rfl,tl,_,_,_,rfl,rfl,SqL.of (S3 _ _ (Sb2 _ _ t1)),aJ b1,mx,fun q4 H4 S4 h4'=>?_⟩;refine ⟨mx,fun L hL=>?_⟩;have S5:Same H4 (upd H4 L (.lst [.ref q3,.ref q4])):=Same.put (Same.refl H4) hL;have S25:=S3.trans (S4.trans S5);refine k L q3 q4 _ (S02.trans S25) (Same.free (S02.trans (S3.trans S4)) hL) aU ⟨u2,u,ql,S5 _ _ (S4 _ _ h3'),?_,b2,b3⟩ ⟨u1,u,ql,S5 _ _ h4',?_,b2,b3⟩
 ·rw [e2];exact hu2.same S25
 ·rw [e1];exact (hu1.same S2).same S25
abbrev sSpread:cP:=top 21
inductive spSpread (T:ai)(lp:Pos)(lq:Str)(vs:List V)(H:Hp)(Q:VK)(_:XK):Prop
 | mk (v:V)(b m:Int)(sp:List Sn)(_:vs=[v])(_:IsD H v (jL b m sp))(_:NetT b m sp)(_:L2.LamT T lp lq H)(_:∀ (L:ai) (zs:List V) (l:List Nat) (S:List Stp) (H':Hp),L2.Tb T H H'→L2.LamT T lp lq H'→H L=none→H' L=some (.lst zs)→IsDs H' zs (eQ Stp.row S)→FrstL m.toNat sp l→SprOk m.toNat sp l S→Q (.ref L) H')
structure JS (H Hc:Hp)(Da Ls:ai)(R:List Int)(S:List Stp)(n:Nat):Prop where
 same:Same H Hc
 da:∃ kvs,Hc Da=some (.dK kvs)∧(∀ x,lV kvs (.inl x)=none↔x ∉ R)∧kvs.length≤R.length+n
 ls:∃ zs,Hc Ls=some (.lst zs)∧IsDs Hc zs (eQ Stp.row S)
theorem JS.on {Hc Hc':Hp}{Da Ls:ai}{R:List Int}(j:JS H Hc Da Ls R S n)(e:Same Hc Hc'):JS H Hc' Da Ls R S n:=by
 obtain ⟨kvs,h1,h2⟩:=j.da;obtain ⟨zs,h3,h4⟩:=j.ls;exact ⟨j.same.trans e,⟨kvs,e _ _ h1,h2⟩,⟨zs,e _ _ h3,h4.same e⟩⟩
theorem JS.upL {Hc:Hp}{Da La Ls:ai}{R:List Int}(j:JS H Hc Da Ls R S n)(hL:H La=none)(hc:Hc La=some (.lst xs))(ne:Ls≠La):JS H (upd Hc La (.lst ys)) Da Ls R S n:=by
 obtain ⟨kvs,h1,h2⟩:=j.da;obtain ⟨zs,h3,h4⟩:=j.ls;exact ⟨fun a o e=>by rw [bw (bz e hL)];exact j.same a o e,⟨kvs,by rw [bw (eD h1 hc nofun)];exact h1,h2⟩,⟨zs,by rw [bw ne];exact h3,fh (fF hc) h4⟩⟩
theorem JS.upS {Hc:Hp}{Da Ls q:ai}{R:List Int}{zs:List V}{s:Stp}(j:JS H Hc Da Ls R S n)(hL:H Ls=none)(hc:Hc Ls=some (.lst zs))(hz:IsDs Hc zs (eQ Stp.row S))(hq:IsD Hc (.ref q) (.tup ((Stp.row s).map Dt.int))):JS H (upd Hc Ls (.lst (zs++[.ref q]))) Da Ls R (S++[s]) n:=by
 obtain ⟨kvs,h1,h2⟩:=j.da;have hd:IsDs Hc (zs++[.ref q]) (eQ Stp.row (S++[s])):=by
  unfold eQ at hz ⊢;rw [aA];exact hz.append (.cons hq .nil)
 exact ⟨fun a o e=>by rw [bw (bz e hL)];exact j.same a o e,⟨kvs,by rw [bw (eD h1 hc nofun)];exact h1,h2⟩,⟨_,aU,fh (fF hc) hd⟩⟩
theorem JS.upD {Hc:Hp}{Da Ls:ai}{R:List Int}{kvs:List (Key×V)}{x:Int}{R':List Int}{n':Nat}(j:JS H Hc Da Ls R S n)(hD:H Da=none)(hc:Hc Da=some (.dK kvs))(hk:∀ x,lV kvs (.inl x)=none↔x ∉ R)(hR:∀ z,z∈R'↔z∈R∨z=x)(hl:kvs.length+1≤R'.length+n'):JS H (upd Hc Da (.dK (l3 kvs (.inl x) y))) Da Ls R' S n':=by
 obtain ⟨zs,h3,h4⟩:=j.ls;have K:TupK Hc (upd Hc Da (.dK (l3 kvs (.inl x) y))):=fun q xs h=>by rw [bw (eD h hc nofun)];exact h
 refine ⟨fun a o e=>by rw [bw (bz e hD)];exact j.same a o e,⟨_,aU,fun z=>?_,?_⟩,⟨zs,by rw [bw (eD h3 hc nofun)];exact h3,fh K h4⟩⟩
 ·rw [valV_put,hR]
  by_cases e:z=x
  ·rw [o4 (by rw [e])]
   exact ⟨fun h=>(by cases h),fun h=>o6 (Or.inr e) h⟩
  ·rw [oZ (fun h=>e (Sum.inl.inj h)),hk]
   exact ⟨fun h h'=>h'.elim h e,fun h h'=>h (.inl h')⟩
 ·exact aY (j8 _ _ _) hl
theorem jq:cb ["net","taken","reached","steps","first","ahead","here","step","there"] pza (defScope sSpread):=by trivial
theorem ok_spread {f3 Tb0:ai}{fd3:bq}(F:Fun K "spread_of" "spread_of" sSpread f fd)(T:Nm mg)(T2:Nt mg)(G1:Fn K mg "forest_of" ki pza f1 fd1)(F1:cS P w K mg base CX0 6 f1 fd1 pza (jY Tb0 lp lq))(G2:Fn K mg "steps_from" nv pzm f2 fd2)(F2:cS P w K mg base CX0 2 f2 fd2 pzm spSteps)(G3:Fn K mg "leads_to" sTo pzd f3 fd3):cS P w K mg base CX0 7 f fd pza (spSpread Tb0 lp lq):=by
 have F3:cS P w K mg base CX0 1 f3 fd3 pzd spTo:=ok_to G3.F;refine F.ok jq (by contradiction) (fun cdv A outer s H0 vs Q E hr h=>?_);obtain ⟨v,b,m,sp,rfl,hv,N,hT,k⟩:=h;have hr2:Room 2 _:=hr.mono (by decide);have hr1:Room 1 _:=hr.mono (by decide);have u1:=bR (Nat.add_le_add_left (by decide:1≤64) _) hr.units;have E:=N.ends;have m1:=N.m1;have m2:=N.m2;refine ⟨_,PSl.h (bc ⟨(bD (i:=1) jq.nd rfl (.inl rfl) (pc1 G1 F1 hr (af (pv 0) aC)))⟩
  (bc ⟨(bD (i:=2) jq.nd rfl (.inl rfl) pe_dnewK)⟩
  (bc ⟨(bD (i:=3) jq.nd rfl (.inl rfl) (jk aC))⟩
  (bc ⟨(i8 bT rfl (jB rfl T2.range (af (ixZ (pv 0)) aC)) (dX (i:=4) jq.nd rfl (.inl rfl)) (PSl.h (bc ⟨(bD (i:=5) jq.nd rfl (.inl rfl) (PE.cutV (kE (pt_cmp (lJ u1 (pv 4) (pv 2)) rfl) (jk (af (pv 4) aC)) (jk aC))))⟩
  (bc ⟨(ps_dput u1 (pv 2) (pv 4) pe_bl rfl)⟩
  (dh ⟨(mQ bT (cU op_gt (eh cZ rfl T.len cQ (af (pv 5) aC)) bo (dN _)) (PSl.h (bc ⟨(bD (i:=6) jq.nd rfl (.inl rfl) (oM bC fM fJ oO (pv 5)))⟩
  (dh ⟨(i8 bT rfl (ji (pc1 G2 F2 hr2 (af (pv 0) (af (pv 1) (af (pv 6) aC))))) (dX (i:=7) jq.nd rfl (.inl rfl)) (PSl.h (bc ⟨(bD (i:=8) jq.nd rfl (.inl rfl) (pc1 G3 F3 hr1 (af (pv 0) (af (pv 7) aC))))⟩
  (dh ⟨(i7 (pt_cmp (lJ u1 (pv 8) (pv 2)) rfl) (PSl.h (bc ⟨(ps_dput u1 (pv 2) (pv 8) pe_bl rfl)⟩
  (bc ⟨(jh (mz bC cL cJ iI (pv 5) (af (pv 8) aC)))⟩
  (dh ⟨(jh (mz bC cL cJ iI (pv 3) (af (pv 7) aC)))⟩)))) fv)⟩))))⟩))))⟩)))))⟩
  (dh ⟨(cz (pv 3))⟩))))),?_⟩
 refine ⟨_,rfl,v,b,m,sp,rfl,hv,N,hT,fun u H ns tb1 hT1 hu F0=>?_⟩;obtain ⟨l,π,rfl,O,pm⟩:=F0.natsF;have fr:FrstL m.toNat sp l:=⟨F0,π,O,pm⟩;rw [dt] at hu;have hu:H u=some (.tup (l.map fun (i:Nat)=>V.int i)):=hu;have hv1:=bY (Tb.lamT hT tb1) hv;obtain ⟨t,p,ys,rfl,ht,hp,hl,hy⟩:=fj hv1;clear hy hp hl hv;have PT:=fr.pots E;have hlt:=PT.nodup.2;have few:l.length≤40:=by have:=fr.few E (by omega);omega
 have ne:∀ i∈l,(sAt sp i).s≠(sAt sp i).g:=fun i hi=>(N.all _ (dG (hlt i hi))).ne
 intro Da hDa;have hDa1:(upd H Da (.dK [])) Da=some (.dK []):=aU;have S1:Same H (upd H Da (.dK [])):=Same.put (Same.refl H) hDa;generalize upd H Da (.dK [])=H1 at hDa1 S1 ⊢;refine ⟨bK _,fun Ls hLs=>?_⟩;have hLsH:H Ls=none:=Same.free S1 hLs;have S2:Same H1 (upd H1 Ls (.lst [])):=Same.put (Same.refl H1) hLs;have J2:JS H (upd H1 Ls (.lst [])) Da Ls [] [] 0:=⟨S1.trans S2,⟨[],S2 _ _ hDa1,fun x=>⟨fun _ h=>(by cases h),fun _=>rfl⟩,aB _⟩,⟨[],aU,.nil⟩⟩;generalize upd H1 Ls (.lst [])=H2 at J2 ⊢;clear S2 hLs S1 hDa1;refine ⟨_,rfl,t,_,_,_,rfl,rfl,SqT.of (J2.same _ _ ht),aJ (j:=1) rfl,m,rfl,by omega,by omega,?_⟩;refine lQ (n:=m.toNat) (fun i σ HC=>∃ (R:List Int) (S:List Stp) (w4 w5 w6 w7 w8:Option V),σ=[some (.ref t),some (.ref u),some (.ref Da),some (.ref Ls),w4,w5,w6,w7,w8]∧JS H HC Da Ls R S i∧SI m.toNat sp l exN R [] S∧∀ x:Nat,x<i→(x:Int)∈R) ⟨[],[],none,none,none,none,none,rfl,J2,SI.start,fun x hx=>o6 hx (Nat.not_lt_zero _)⟩ ?_ ?_
 ·rintro i σ HC hi ⟨R,S,w4,w5,w6,w7,w8,rfl,JC,I0,hall⟩
  rw [iq];have hRm:=I0.few;obtain ⟨kvs,hDaC,hkv,hkl⟩:=JC.da;refine ⟨fun v H'=>∃ La A,v= .ref La∧H La=none∧La≠Ls∧JS H H' Da Ls R S i∧H' La=some (.lst (A.map V.int))∧((i:Int) ∉ R∧A=[(i:Int)]∨(i:Int)∈R∧A=[]),?_,?_⟩
  rotate_left
  ·refine ⟨_,rfl,_,rfl,Da,_,rfl,DGet.k (k:= .inl (i:Int)) hDaC,_,rfl,?_⟩
   have mk:∀ (La:ai) (xs:List V),HC La=none→JS H (upd HC La (.lst xs)) Da Ls R S i∧H La=none∧La≠Ls:=fun La xs hLa=>⟨JC.on (Same.put (Same.refl HC) hLa),Same.free JC.same hLa,fun z=>by
    obtain ⟨zs,hz,_⟩:=JC.ls;rw [z,hz] at hLa;cases hLa⟩
   cases c:lV kvs (.inl (i:Int)) with
   | none =>
    refine iteT ⟨_,rfl,szZ1,fun La hLa=>?_⟩;obtain ⟨a1,a2,a3⟩:=mk La [.int (i:Int)] hLa;exact ⟨La,[(i:Int)],rfl,a2,a3,a1,aU,.inl ⟨(hkv _).mp c,rfl⟩⟩
   | some o =>
    refine iteF ⟨bK _,fun La hLa=>?_⟩;obtain ⟨a1,a2,a3⟩:=mk La [] hLa;exact ⟨La,[],rfl,a2,a3,a1,aU,.inr ⟨eM fun z=>(by rw [(hkv _).mpr z] at c;cases c),rfl⟩⟩
  rintro _ HD ⟨La,A,rfl,hLaH,nLL,JD,hLa,hA⟩;obtain ⟨kvD,hDaD,hkD,hlD⟩:=JD.da;refine ⟨_,rfl,_,rfl,Da,_,rfl,DPut.k (k:= .inl (i:Int)) hDaD (bR (by omega:kvD.length≤999) (by decide)),?_⟩;obtain ⟨R',hR',IR,inR,hall'⟩:∃ R',(∀ z,z∈R'↔z∈R∨z=(i:Int))∧SI m.toNat sp l exN R' A S∧R.length≤R'.length∧(∀ x:Nat,x<i+1→(x:Int)∈R'):=by
   rcases hA with ⟨a1,rfl⟩ | ⟨a1,rfl⟩
   ·refine ⟨R++[(i:Int)],fun z=>by rw [aM,ax],I0.root a1 (by omega) (by omega),by rw [av];omega,fun x hx=>?_⟩
    rcases iK.mp hx with z | z
    ·exact aE _ (hall x z)
    ·rw [z];simp
   ·refine ⟨R,fun z=>⟨.inl,fun h=>h.elim id fun e=>e ▸ a1⟩,I0,aB _,fun x hx=>?_⟩
    rcases iK.mp hx with z | z
    ·exact hall x z
    ·rw [z];exact a1
  have JE:=JD.upD (y:= .bl true) (R':=R') (n':=i+1) (x:=(i:Int)) hDa hDaD hkD hR' (by omega);have hLaE:(upd HD Da (.dK (l3 kvD (.inl (i:Int)) (.bl true)))) La=some (.lst (A.map V.int)):=by rw [bw (eD hLa hDaD nofun)];exact hLa
  generalize upd HD Da (.dK (l3 kvD (.inl (i:Int)) (.bl true)))=HE at JE hLaE ⊢;have lA:A.length≤1:=by rcases hA with ⟨_,rfl⟩ | ⟨_,rfl⟩ <;> simp
  clear hA hLa JD hDaD hkD hlD inR I0 hall hkv hDaC JC;refine ⟨fun n σ HA=>∃ (R A:List Int) (S:List Stp) (w6 w7 w8:Option V),n=2 * (16 - R.length)+A.length∧n≤40∧σ=[some (.ref t),some (.ref u),some (.ref Da),some (.ref Ls),some (.int (i:Int)),some (.ref La),w6,w7,w8]∧JS H HA Da Ls R S (i+1)∧HA La=some (.lst (A.map V.int))∧SI m.toNat sp l exN R A S∧∀ x:Nat,x<i+1→(x:Int)∈R,⟨_,R',A,S,_,_,_,rfl,by omega,rfl,JE,hLaE,IR,hall'⟩,?_⟩;clear JE hLaE IR hall' hR' hkl;rintro n σ HA ⟨R,A,S,w6,w7,w8,rfl,n40,rfl,JA,hLa,IA,hall⟩;refine ⟨_,rfl,La,_,rfl,.inl (SqL.of hLa),_,_,rfl,rfl,_,rfl,?_⟩
  rcases List.eq_nil_or_concat A with rfl | ⟨A',x,rfl⟩
  ·refine oQ (by rfl) ?_
   exact ⟨R,S,_,_,_,_,_,rfl,JA,IA,hall⟩
  rw [List.concat_eq_append] at hLa n40 IA ⊢;refine iteB (o8 (by rw [aa,av];show ((A'.length+1:Nat):Int) > 0;omega)) ?_;refine ⟨_,fun σ' H' z=>z,?_⟩;rw [aA] at hLa;refine ⟨_,rfl,.inl ⟨rfl,_,SqL.of hLa⟩,La,_,.int x,rfl,rfl,hLa,by rw [av,bV (by simp)];simp,?_⟩;rw [show (A'.map V.int++[x].map V.int).dropLast=A'.map V.int from fZ];have JB:=JA.upL (ys:=A'.map V.int) hLaH hLa nLL.symm;have hLaB:(upd HA La (.lst (A'.map V.int))) La=some (.lst (A'.map V.int)):=aU;generalize upd HA La (.lst (A'.map V.int))=HB at JB hLaB ⊢;obtain ⟨IB,xR⟩:=IA.pop;have lB:2 * (16 - R.length)+A'.length+1≤40:=by rw [av] at n40;exact n40
  have eB:2 * (16 - R.length)+(A'++[x]).length=2 * (16 - R.length)+A'.length+1:=by rw [av];rfl
  rw [eB];clear JA hLa IA n40 eB;refine ⟨_,rfl,_,rfl,_,rfl,.ref t,u,b,m,sp,l,x,rfl,hv1.same JB.same,JB.same _ _ hu,hlt,few,fun L HC zs SC fL hL dz=>⟨L,rfl,⟨_,SqL.of hL⟩,?_⟩⟩;have nL1:L≠La:=fun z=>by rw [z,hLaB] at fL;cases fL
  have nL2:L≠Ls:=fun z=>by
   obtain ⟨z1,hz1,_⟩:=JB.ls;rw [z,hz1] at fL;cases fL
  have JC:=JB.on SC;have hLaC:=SC _ _ hLaB;clear JB hLaB;have lz:zs.length=(de sp l x).length:=by rw [dz.length];unfold eQ;rw [aa]
  refine kJ (K:=K) (a:=L) (xs:=zs) (fun j σ HD=>∃ (R2 A2:List Int) (S2:List Stp) (w7 w8:Option V),JS H HD Da Ls R2 S2 (i+1)∧HD La=some (.lst (A2.map V.int))∧SI m.toNat sp l (· =x) R2 A2 S2∧x∈R2∧(∀ x:Nat,x<i+1→(x:Int)∈R2)∧2 * (16 - R2.length)+A2.length≤2 * (16 - R.length)+A'.length∧(∀ s∈(de sp l x).take j,s.i∈S2.map Stp.i)∧HD L=some (.lst zs)∧IsDs HD zs (eQ Stp.row (de sp l x))∧σ=[some (.ref t),some (.ref u),some (.ref Da),some (.ref Ls),some (.int (i:Int)),some (.ref La),some (.int x),w7,w8]) ⟨R,A',S,_,_,JC,hLaC,IB,xR,hall,aB _,fun s hs=>o6 hs (by simp),hL,dz,rfl⟩ (fun j σ HD _ q=>by obtain ⟨_,_,_,_,_,_,_,_,_,_,_,_,h,_⟩:=q;exact SqL.of h) ?_ ?_
  ·clear JC hLaC IB xR hall hL dz SC
   rintro j y σ HD hy ⟨R2,A2,S2,w7,w8,JD,hLaD,ID,xD,hallD,mD,hsD,hLD,dD,rfl⟩;have hj:j<(de sp l x).length:=by have:=(ao.mp hy).1;omega
   have hsj:=gE hj;obtain ⟨y',hy',dy⟩:=dD.at (i:=j) (d:= .tup ((Stp.row (de sp l x)[j]).map Dt.int)) (by unfold eQ;rw [ay,hsj];rfl);rw [hy] at hy';cases hy';obtain ⟨q,qs,rfl,hq,rq⟩:=dy.tup_of;have eq:=rq.ints_of;subst eq;have hmem:(de sp l x)[j]∈de sp l x:=bH hj;have hin:=hlt _ (lY hmem).1.1;have more:∀ S3:List Stp,(∀ s∈S2,s∈S3)→(de sp l x)[j].i∈S3.map Stp.i→∀ s∈(de sp l x).take (j+1),s.i∈S3.map Stp.i:=fun S3 sub hj3 s hs=>by
    rw [bg,hsj] at hs
    rcases aM.mp hs with z | z
    ·obtain ⟨t',ht',e⟩:=aV.mp (hsD s z)
     exact aV.mpr ⟨t',sub _ ht',e⟩
    ·rw [ax.mp (show s∈[(de sp l x)[j]] from z)];exact hj3
   generalize (de sp l x)[j]=st at hq hin dy hmem more;refine ⟨_,rfl,_,rfl,.ref t,q,b,m,sp,st,sAt sp st.i,rfl,hv1.same JD.same,hq,iP hin,?_⟩;rw [(lx hin).1];obtain ⟨kv2,hDaD,hk2,hl2⟩:=JD.da;have hR2:=ID.fewX;refine ⟨_,rfl,_,rfl,Da,_,rfl,DGet.k (k:= .inl (fe sp st)) hDaD,_,rfl,?_⟩;cases hto:lV kv2 (.inl (fe sp st)) with
   | some o =>
    have inR:fe sp st∈R2:=eM fun z=>by rw [(hk2 _).mpr z] at hto;cases hto
    exact iteF ⟨R2,A2,S2,_,_,JD,hLaD,ID,xD,hallD,mD,more S2 (fun _ h=>h) (ID.has PT ne hmem inR),hLD,dD,rfl⟩
   | none =>
    have out:fe sp st ∉ R2:=(hk2 _).mp hto;have I3:=ID.add E hlt xD hmem out;have hR3:=I3.fewX;rw [av] at hR3;have hR3:R2.length+1≤m.toNat:=hR3;refine iteT ⟨_,rfl,_,rfl,Da,_,rfl,DPut.k (k:= .inl (fe sp st)) hDaD (bR (by omega:kv2.length≤999) (by decide)),?_⟩;have J3:=JD.upD (y:= .bl true) (R':=R2++[fe sp st]) (n':=i+1) (x:=fe sp st) hDa hDaD hk2 (fun z=>by rw [aM,ax]) (by rw [av];show _≤R2.length+1+(i+1);omega);have K3:TupK HD (upd HD Da (.dK (l3 kv2 (.inl (fe sp st)) (.bl true)))):=fun q xs h=>by rw [bw (eD h hDaD nofun)];exact h
    have hLa3:(upd HD Da (.dK (l3 kv2 (.inl (fe sp st)) (.bl true)))) La=some (.lst (A2.map V.int)):=by rw [bw (eD hLaD hDaD nofun)];exact hLaD
    have hL3:(upd HD Da (.dK (l3 kv2 (.inl (fe sp st)) (.bl true)))) L=some (.lst zs):=by rw [bw (eD hLD hDaD nofun)];exact hLD
    generalize upd HD Da (.dK (l3 kv2 (.inl (fe sp st)) (.bl true)))=H3 at J3 K3 hLa3 hL3 ⊢;have d3:=fh K3 dD;have q3:=K3 _ _ hq;refine ⟨_,rfl,.inl ⟨rfl,_,SqL.of hLa3⟩,_,rfl,La,_,_,rfl,rfl,hLa3,lG (by rw [aa];omega),?_⟩;have J4:=J3.upL (ys:=A2.map V.int++[V.int (fe sp st)]) hLaH hLa3 nLL.symm;have K4:TupK H3 (upd H3 La (.lst (A2.map V.int++[V.int (fe sp st)]))):=fF hLa3;have hLa4:(upd H3 La (.lst (A2.map V.int++[V.int (fe sp st)]))) La=some (.lst (A2.map V.int++[V.int (fe sp st)])):=aU;have hL4:(upd H3 La (.lst (A2.map V.int++[V.int (fe sp st)]))) L=some (.lst zs):=by rw [bw nL1];exact hL3
    generalize upd H3 La (.lst (A2.map V.int++[V.int (fe sp st)]))=H4 at J4 K4 hLa4 hL4 ⊢;have d4:=fh K4 d3;have q4:=K4 _ _ q3;obtain ⟨z4,hz4,dz4⟩:=J4.ls;have lz4:z4.length=S2.length:=by rw [dz4.length];unfold eQ;rw [aa]
    have lS:=ID.len;refine ⟨_,rfl,.inl ⟨rfl,_,SqL.of hz4⟩,_,rfl,Ls,_,_,rfl,rfl,hz4,lG (by omega),?_⟩;have J5:=J4.upS (s:=st) hLsH hz4 dz4 (.tup q4 (IsDs.ints (Stp.row st)));refine ⟨R2++[fe sp st],A2++[fe sp st],S2++[st],_,_,J5,?_,I3,aE _ xD,fun x hx=>aE _ (hallD x hx),?_,more _ (fun _ h=>aE _ h) (by rw [aA];exact aw _ (by simp)),?_,fh (fF hz4) d4,rfl⟩
    ·rw [bw nLL,hLa4,aA];rfl
    ·rw [av,av]
     show 2 * (16 - (R2.length+1))+(A2.length+1)≤_;omega
    ·rw [bw nL2];exact hL4
  ·rintro σ HD ⟨R2,A2,S2,w7,w8,JD,hLaD,ID,xD,hallD,mD,hsD,hLD,dD,rfl⟩
   rw [lz,bf] at hsD;exact ⟨_,by omega,R2,A2,S2,_,_,_,rfl,by omega,rfl,JD,hLaD,ID.done hsD,hallD⟩
 ·rintro σ HC ⟨R,S,w4,w5,w6,w7,w8,rfl,JC,I0,hall⟩
  obtain ⟨zs,hz,dz⟩:=JC.ls;have hLs0:H0 Ls=none:=by
   cases z:H0 Ls with
   | none=>rfl
   | some o =>
    by_cases e:Ls=Tb0
    ·subst e
     obtain ⟨ps,hps⟩:=LamT.tbl hT1;rw [hps] at hLsH;cases hLsH
    ·rw [tb1 Ls o e z] at hLsH;cases hLsH
  exact ⟨_,rfl,k Ls zs l S HC (tb1.trans (Same.tb JC.same)) (LamT.same JC.same hT1) hLs0 hz dz fr (I0.ok E hlt hall)⟩
abbrev sRest:cP:=top 23
abbrev sTabBy:cP:=top 37
inductive spTabBy (vs:List V)(H:Hp)(Q:VK)(_:XK):Prop
 | mk (v vb:V)(L:ai)(b m:Int)(sp:List Sn)(bs:List (Int×Int))(zs:List V)(S:List Stp)(_:vs=[v,.ref L,vb])(_:IsD H v (jL b m sp))(_:0<b)(_:0<m)(_:m≤16)(_:Ends m.toNat sp)(_:H L=some (.lst zs))(_:IsDs H zs (eQ Stp.row S))(_:S.length≤16)(_:(∀ s∈S,s.i<sp.length∧(s.d=1∨s.d= -1)))(_:IsD H vb (bndP bs))(_:bs.length=sp.length)(_:∀ q H',Same H H'→H' q=some (.tup ((tabOf b sp bs m.toNat S).map V.int))→Q (.ref q) H')
theorem frmS_rng (E:Ends m sp){t:Stp}(h:t.i<sp.length):0≤kM sp t∧kM sp t<m:=by
 obtain ⟨a,b,c,d⟩:=E _ (dG h);rw [←(tooS_sAt0 h).2];unfold frm;split <;> omega
theorem ixN_int {z:Int}(h0:0≤z)(h1:z<n):ixN n z=some z.toNat:=by unfold ixN;rw [o4 h0,o4 h1]
theorem atI_int {xs:List α}{z:Int}{x:α}(h0:0≤z)(h:xs[z.toNat]? =some x):atI xs z=some x:=by
 have:=(ao.mp h).1;unfold atI;rw [ixN_int h0 (by omega)];exact h
theorem map_set {l:List Int}{x:Int}:(l.map V.int).set n (V.int x)=(l.set n x).map V.int:=by rw [List.map_set]
theorem scRest:cb pzl pzl (defScope sRest):=by trivial
theorem ok_rest (F:Fun K "rest_by" "rest_by" sRest f fd):cS P w K mg base CX0 1 f fd pzl spRest:=by
 refine F.ok scRest (by contradiction) (fun cdv A outer s H vs Q E hr h=>?_);obtain ⟨b,n,rfl,hb,k⟩:=h;refine ⟨_,PSl.h (dh ⟨(cz (cp jn (pv 1) (pv 0)))⟩),?_⟩;exact ⟨_,rfl,_,rfl,_,_,rfl,rfl,hb,k⟩
theorem scTabBy:cb ["net","steps","bounds","times","step"] pzA (defScope sTabBy):=by trivial
theorem ok_tabBy {f3:ai}{fd3:bq}(F:Fun K "table_by" "table_by" sTabBy f fd)(T:Nm mg)(G1:Fn K mg "leads_to" sTo pzd f1 fd1)(G2:Fn K mg "leads_from" sFrom pzd f2 fd2)(G3:Fn K mg "rest_by" sRest pzl f3 fd3):cS P w K mg base CX0 2 f fd pzA spTabBy:=by
 have F1:cS P w K mg base CX0 1 f1 fd1 pzd spTo:=ok_to G1.F;have F2:cS P w K mg base CX0 1 f2 fd2 pzd spFrom:=ok_from G2.F;have F3:cS P w K mg base CX0 1 f3 fd3 pzl spRest:=ok_rest G3.F;refine F.ok scTabBy (by contradiction) (fun cdv A outer s H vs Q E hr h=>?_);obtain ⟨v,vb,L,b,m,sp,bs,zs,S,rfl,hv,hb,m0,m16,E,hL,dz,lS,hS,hvb,lb,k⟩:=h;have hr1:=hr;obtain ⟨t,p,ys,rfl,ht,hp,hl,hy⟩:=fj hv;obtain ⟨pb,yb,rfl,hpb,hlb,rb⟩:=iE hvb;refine ⟨_,PSl.h (bc ⟨(bD (i:=3) scTabBy.nd rfl (.inl rfl) (cp op_rep (pe_lstA (af bo aC)) (ixZ (pv 0))))⟩
  (bc ⟨(i8 bT rfl (ji (pv 1)) (dX (i:=4) scTabBy.nd rfl (.inl rfl)) (df (ps_asg (cp fm (d9 fA (pv 3) (pc1 G2 F2 hr1 (af (pv 0) (af (pv 4) aC))) (fun _ _=>rfl)) (cp iQ (ixZ (pv 4)) (ixZ (d9 dH (pv 2) (ixZ (pv 4)) (fun _ _=>rfl))))) (pg_sub (pv 3) (pc1 G1 F1 hr1 (af (pv 0) (af (pv 4) aC))) set_list))))⟩
  (dh ⟨(cz (gv iJ rfl T.ttup iA (af (jj (fr:=pza) (js:=[0]) rfl (ji (pv 3)) (by trivial) rfl (by trivial) rfl (by exists sTabBy) (by trivial) rfl (by trivial) (fun _ _ _ _ _=>⟨(pc1 G3 F3 hr1 (af (d9 (r:=nM K) dH (pv 1) bo (fun _ _=>rfl)) (af (pv 0) aC))),ia⟩)) aC)))⟩))),?_⟩
 refine ⟨szZ1,fun q1 H1 S1 h1=>⟨_,rfl,t,_,_,_,rfl,rfl,SqT.of (S1 _ _ ht),aJ (j:=1) rfl,q1,m,_,rfl,rfl,h1,by omega,by omega,?_,fun Lt hLt=>?_⟩⟩
 ·show 1 * m.toNat≤bj
  exact eU (by omega)
 have hLtH:H Lt=none:=Same.free S1 hLt;have S2:Same H (upd H1 Lt (.lst (bP m.toNat [V.int 0]).flatten)):=S1.trans (Same.put (Same.refl H1) hLt);have h2:(upd H1 Lt (.lst (bP m.toNat [V.int 0]).flatten)) Lt=some (.lst ((bP m.toNat (0:Int)).map V.int)):=by
  rw [aU,List.map_replicate,List.flatten_replicate_singleton]
 generalize upd H1 Lt (.lst (bP m.toNat [V.int 0]).flatten)=H2 at S2 h2 ⊢;have lz:zs.length=S.length:=by rw [dz.length];unfold eQ;rw [aa]
 have len:∀ j,((S.take j).foldl (setT sp (lowB bs)) (bP m.toNat 0)).length=m.toNat:=fun j=>by rw [kB (m:=0),gO]
 refine ⟨_,rfl,L,rfl,⟨_,SqL.of (S2 _ _ hL)⟩,?_⟩;refine kJ (K:=K) (a:=L) (xs:=zs) (fun j σ HD=>Same H HD∧HD Lt=some (.lst (((S.take j).foldl (setT sp (lowB bs)) (bP m.toNat 0)).map V.int))∧∃ w4,σ=[some (.ref t),some (.ref L),some (.ref pb),some (.ref Lt),w4]) ⟨S2,h2,none,rfl⟩ (fun j σ HD _ ⟨h,_⟩=>SqL.of (h _ _ hL)) ?_ ?_
 ·rintro j y σ HD hy' ⟨SD,hD,w4,rfl⟩
  have hj:j<S.length:=by have:=(ao.mp hy').1;omega
  have hsj:=gE hj;obtain ⟨y',hy2,dy⟩:=dz.at (i:=j) (d:= .tup ((Stp.row S[j]).map Dt.int)) (by unfold eQ;rw [ay,hsj];rfl);rw [hy'] at hy2;cases hy2;obtain ⟨q,qs,rfl,hq,rq⟩:=dy.tup_of;have eq:=rq.ints_of;subst eq;obtain ⟨hin,hd⟩:=hS _ (bH hj);have fold:(S.take (j+1)).foldl (setT sp (lowB bs)) (bP m.toNat 0)=setT sp (lowB bs) ((S.take j).foldl (setT sp (lowB bs)) (bP m.toNat 0)) S[j]:=by
   rw [bg,hsj,dJ];rfl
  rw [fold];have lj:=len j;generalize (S.take j).foldl (setT sp (lowB bs)) (bP m.toNat 0)=ts at hD lj ⊢;generalize S[j]=st at hq hin hd;obtain ⟨f0,f1'⟩:=frmS_rng E hin;obtain ⟨t0,t1⟩:=kA E hin;have hbi:st.i<bs.length:=by omega
  obtain ⟨qb,hqb,hqb2⟩:=jJ rb (gE hbi);have el:lowB bs st.i=bs[st.i].1:=by unfold lowB;rw [ag,gE hbi];rfl
  have hat:∀ z:Int,0≤z→z<m.toNat→(ts.map V.int)[z.toNat]? =some (V.int (tm ts z)):=fun z z0 z1=>by
   rw [ay,gE (by omega:z.toNat<ts.length)];unfold tm;rw [ag,gE (by omega:z.toNat<ts.length)];rfl
  refine ⟨_,rfl,_,rfl,_,rfl,.ref t,q,b,m,sp,st,sAt sp st.i,rfl,hv.same SD,SD _ _ hq,iP hin,?_⟩;rw [(lx hin).2];refine ⟨Lt,_,_,_,rfl,rfl,SqL.of hD,atI_int f0 (hat _ f0 f1'),?_⟩;refine ⟨_,rfl,q,_,_,_,rfl,rfl,SqT.of (SD _ _ hq),aJ (j:=1) rfl,_,rfl,_,rfl,q,_,_,_,rfl,rfl,SqT.of (SD _ _ hq),aJ (j:=0) rfl,pb,_,_,_,rfl,rfl,SqT.of (SD _ _ hpb),aJ (j:=st.i) hqb,qb,_,_,_,rfl,rfl,SqT.of (SD _ _ hqb2),aJ (j:=0) rfl,_,_,rfl,rfl,?_,_,_,rfl,rfl,?_⟩
  ·exact .inl (by rcases hd with e | e <;> rw [e] <;> decide)
  refine ⟨_,rfl,_,rfl,_,rfl,.ref t,q,b,m,sp,st,sAt sp st.i,rfl,hv.same SD,SD _ _ hq,iP hin,?_⟩;rw [(lx hin).1];refine ⟨Lt,_,_,_,rfl,rfl,hD,ixN_int t0 (by rw [aa];omega),?_⟩;rw [map_set,←el];exact ⟨fun a o e=>by rw [bw (bz e hLtH)];exact SD _ _ e,aU,_,rfl⟩
 ·rintro σ HD ⟨SD,hD,w4,rfl⟩
  rw [lz,bf] at hD;refine ⟨_,rfl,Lt,rfl,⟨_,SqL.of hD⟩,?_⟩;have lt:(jy sp (lowB bs) m.toNat S).length=m.toNat:=by have:=len S.length;rwa [bf] at this
  refine jR (K:=K) (a:=Lt) (xs:=(jy sp (lowB bs) m.toNat S).map V.int) (fun i zs HC=>HC=HD∧zs=(((jy sp (lowB bs) m.toNat S).take i).map (· % b)).map V.int) ⟨rfl,rfl⟩ (fun i zs HC hi ⟨e1,e2⟩=>⟨by rw [e1];exact SqL.of hD,by rw [e2,aa,aa,bG];omega⟩) (by rw [aa,lt];exact eU (by omega)) (fun i x zs HC hx ⟨e1,e2⟩=>?_) (fun zs HC ⟨e1,e2⟩ D hD2=>?_)
  ·subst e1
   rw [ay] at hx;obtain ⟨z,hz,rfl⟩:=bB.mp hx;refine gB ⟨_,rfl,t,_,_,_,rfl,rfl,SqT.of (SD _ _ ht),aJ (j:=0) rfl,_,rfl,b,z,rfl,hb,?_⟩;rw [e2,bg,hz,aA,aA];exact ⟨rfl,rfl⟩
  ·subst e1
   rw [aa,bf] at e2;have S3:Same HC (upd HC D (.lst zs)):=Same.put (Same.refl HC) hD2;refine ⟨D,_,rfl,.inl (.inl aU),fun q H4 S4 h4=>?_⟩;exact k q H4 (SD.trans (S3.trans S4)) (by rw [h4,e2];rfl)
abbrev sTabF:cP:=top 38
theorem CutD.move {x:ai}{rg:List (Nat×List Stp)}(a:CutD H C x sp l rg)(e:Kp H H')(hx:∀ o,H x=some o→H' x=some o):CutD H' C x sp l rg:=by
 obtain ⟨dx,c0,tl,ol,ord,h1,h2,h3,h4,h5⟩:=a.ex;exact ⟨dx,c0,tl,ol,ord,hx _ h1,h2.kp e,h3.kp e,e.lst _ _ h4,h5⟩
structure CutK (P:aW)(w:bx)(K:ak)(mg:Str→Option ae)(base:bL)(T0:ai)(p0:Pos)(q0:Str)(T1:ai)(p1:Pos)(q1:Str)(C fi g1 g2:ai)(di d1 d2:bq):Prop where
 cc:CutC K C
 mke:Mk K C fi
 gl:mg "Cuts" =some (.ref C)
 ini:cS P w K mg base CX0 9 fi di ["self","net"] (spInitC T0 p0 q0 T1 p1 q1 C)
 bi:Binds K di ["self","net"] []
 m1:Meth K C "span_to_cut" g1
 f1:cS P w K mg base CX0 1 g1 d1 ["self","case"] (spSpanC C)
 b1:Binds K d1 ["self","case"] []
 m2:Meth K C "sides" g2
 f2:cS P w K mg base CX0 2 g2 d2 pzz (spSidesC C)
 b2:Binds K d2 pzz []
theorem nk:cb ["net","most","cuts","steps","tables","ahead","case","span"] pzn (defScope sTabF):=by trivial
theorem ok_tabF {f3 f4 f5 T0 T1 fi g1 g2:ai}{fd3 fd4 fd5 di d1 d2:bq}{p0 p1:Pos}{q0 q1:Str}(F:Fun K "tables_that_fit" "tables_that_fit" sTabF f fd)(T:Nm mg)(ne:T0≠T1)(CK:CutK P w K mg base T0 p0 q0 T1 p1 q1 C fi g1 g2 di d1 d2)
  (G2:Fn K mg "spread_of" sSpread pza f2 fd2) (F2:cS P w K mg base CX0 7 f2 fd2 pza (spSpread T0 p0 q0))
  (G3:Fn K mg "dead_leaf" sDeadL pzj f3 fd3) (F3:cS P w K mg base CX0 4 f3 fd3 pzj nc)
  (G4:Fn K mg "table_by" sTabBy pzA f4 fd4) (F4:cS P w K mg base CX0 2 f4 fd4 pzA spTabBy)
  (G5:Fn K mg "middle_of" sMid pzp f5 fd5):cS P w K mg base CX0 11 f fd pzn (spTabF T0 p0 q0 T1 p1 q1):=by
 have F5:cS P w K mg base CX0 1 f5 fd5 pzp spMid:=ok_mid G5.F;refine F.ok nk (by contradiction) (fun cdv A outer s H vs Q E hr h=>?_);obtain ⟨v,b,m,sp,most,rfl,hv,N,hmost,hcases,hT0,hT1,k⟩:=h;have hr1:Room 1 _:=hr.mono (by decide);have hr2:Room 2 _:=hr.mono (by decide);have hr4:Room 4 _:=hr.mono (by decide);have hr7:Room 7 _:=hr.mono (by decide);have E:=N.ends;have nfew:=N.few;have m1:=N.m1;have m2:=N.m2;have nb1:=N.b1;refine ⟨_,PSl.h (bc ⟨(bD (i:=2) nk.nd rfl (.inl rfl) (pe_make CK.mke CK.ini hr rfl CK.gl CK.bi .nil pass0 (af (pv 0) aC)))⟩
  (bc ⟨(bD (i:=3) nk.nd rfl (.inl rfl) (pc1 G2 F2 hr7 (af (pv 0) aC)))⟩
  (bc ⟨(bD (i:=4) nk.nd rfl (.inl rfl) (jk aC))⟩
  (bc ⟨(bD (i:=5) nk.nd rfl (.inl rfl) (jk (af (pe_fld (pv 2) rfl) aC)))⟩
  (bc ⟨(mQ bT (PW.pt (pw_and (cU op_gt (eh cZ rfl T.len cQ (af (pv 5) aC)) bo (dN _)) (pw_and1 (cU op_lt (eh cZ rfl T.len cQ (af (pv 4) aC)) (pv 1) (dN _))))) (PSl.h (bc ⟨(bD (i:=6) nk.nd rfl (.inl rfl) (oM bC fM fJ oO (pv 5)))⟩
  (dh ⟨(i7 (cU op_isN (pc1 G3 F3 hr4 (af (pv 0) (af (pv 6) aC))) kL (dN _)) (PSl.h (bc ⟨(bD (i:=7) nk.nd rfl (.inl rfl) (pe_meth (pv 2) CK.cc.cl CK.m1 CK.f1 hr1 CK.b1 .nil pass0 (af (pv 6) aC)))⟩
  (dh ⟨(i7 (cU op_isN (pv 7) kL (dN _)) (df (jh (mz bC cL cJ iI (pv 4) (af (pc1 G4 F4 hr2 (af (pv 0) (af (pv 3) (af (ixZ (pv 6)) aC)))) aC)))) (df (jh (mz bC PySem.F.slot_list_extend PySem.F.type_list_extend mt_extend (pv 5) (af (pe_meth (pv 2) CK.cc.cl CK.m2 CK.f2 hr2 CK.b2 .nil pass0 (af (pv 6) (af (pv 7) (af (pc1 G5 F5 hr1 (af (pv 6) (af (pv 7) aC))) aC)))) aC)))))⟩))) fv)⟩))))⟩
  (dh ⟨(cz (pv 4))⟩)))))),?_⟩
 refine ⟨_,rfl,fun x dx hx hdx nxd=>?_⟩;have S0:Same H (upd (upd H dx (.own x)) x (.ins C dx [])):=by
  have Sa:Same H (upd H dx (.own x)):=Same.put (Same.refl H) hdx;exact Same.put Sa (by rw [bw (cw nxd)];exact hx)
 have hx0:(upd (upd H dx (.own x)) x (.ins C dx [])) x=some (.ins C dx []):=aU;generalize upd (upd H dx (.own x)) x (.ins C dx [])=H0 at S0 hx0 ⊢;refine ⟨x,dx,v,b,m,sp,rfl,hx0,hv.same S0,N,LamT.same S0 hT0,LamT.same S0 hT1,fun l rg H1 st1 kp1 hT01 hT11 R cd1=>⟨rfl,?_⟩⟩;have f:=R.ff N;have fr:=R.fr;have lrg:rg.length≤40:=by
  have:rg.length=(nL sp l).length:=by rw [←R.ks,aa]
  have h2:(nL sp l).length≤sp.length:=by unfold nL;exact aY (eV _ _) (by rw [bt];exact aB _)
  omega
 have tl:l.length≤15:=by have:=fr.few E (by omega);omega
 have hlt:=f.acy.nodup.2;have st1':∀ a o,a≠T0→a≠T1→H a=some o→H1 a=some o:=fun a o n0 n1 e=>st1 a o n0 n1 (bz e hx) (S0 _ _ e)
 have kp1':Kp H H1:=(Same.kp S0).trans kp1;have hv1:=bY kp1'.tup hv;refine ⟨_,rfl,v,b,m,sp,rfl,hv1,N,hT01,fun Ls zsS l' S H2 tb2 hT02 fLs hLs dS fr' SO=>?_⟩;have el:l'=l:=FrstL.one fr' fr;subst el;have kp2:Kp H1 H2:=Tb.kp hT01 tb2;have hT12:=LamT.ntb hT11 hT01 (cw ne) tb2;have cd2:CutD H2 C x sp l' rg:=cd1.move kp2 fun o e=>tb2 x o (by
  obtain ⟨_,_,_,_,_,h1,_⟩:=cd1.ex;obtain ⟨ps,h⟩:=LamT.tbl hT01;exact eD h1 h nofun) e
 have st2:∀ a o,a≠T0→a≠T1→H a=some o→H2 a=some o:=fun a o n0 n1 e=>tb2 a o n0 (st1' a o n0 n1 e)
 have kp2':=kp1'.trans kp2;have hv2:=bY kp2.tup hv1;clear kp2 tb2 cd1 hT01 hT11 hv1 kp1' st1' kp1 st1 hv S0 fr' hx0;obtain ⟨dx',c0,tl',ol,ord,h1,h2,h3,h4,h5⟩:=cd2.ex;refine ⟨bK _,fun Lt hLt=>?_⟩;have S3:Same H2 (upd H2 Lt (.lst [])):=Same.put (Same.refl H2) hLt;have hLt3:(upd H2 Lt (.lst [])) Lt=some (.lst []):=aU;generalize upd H2 Lt (.lst [])=H3 at S3 hLt3 ⊢;refine ⟨_,rfl,x,C,dx',_,_,rfl,S3 _ _ h1,CK.cc.cl,CK.cc.n1,rfl,szZ1,fun Ah hAh=>?_⟩;have hAh2:H2 Ah=none:=Same.free S3 hAh;have nLA:Lt≠Ah:=fun z=>by rw [←z,hLt3] at hAh;cases hAh
 have S4:Same H3 (upd H3 Ah (.lst [.ref c0])):=Same.put (Same.refl H3) hAh;have hAh4:(upd H3 Ah (.lst [.ref c0])) Ah=some (.lst [.ref c0]):=aU;generalize upd H3 Ah (.lst [.ref c0])=H4 at S4 hAh4 ⊢;have S24:=S3.trans S4;have cl4:CsL H2 H4 [.ref c0] [(sp.map fun z=>(z.l,z.o),rg)]:=by
  obtain ⟨vb,u,rl,a1,a2,a3,a4⟩:=h2.ex;exact .cons ⟨c0,rfl,vb,u,rl,S24 _ _ a1,a2.same S24,a3,a4⟩ .nil
 have sz0:szC l' [(sp.map fun z=>(z.l,z.o),rg)]≤8191:=by
  have e:=j5 l' hlt fun y hy=>(N.all y hy).lo
  have:=hcases l' fr;show (2 * fc (sp.map fun z=>(z.l,z.o)) l' - 1)+0≤8191;omega
 refine ⟨fun n σ Hc=>∃ (cs:List Cse) (Ts:List (List Int)) (zs tv:List V) (w6 w7:Option V),n=szC l' cs∧n≤8191∧σ=[some v,some (.int (most:Nat)),some (.ref x),some (.ref Ls),some (.ref Lt),some (.ref Ah),w6,w7]∧Same H2 Hc∧Hc Ah=some (.lst zs)∧CsL H2 Hc zs cs∧Hc Lt=some (.lst tv)∧IsDs Hc tv (eQ id Ts)∧SrcI b m sp l' rg cs Ts∧Ts.length≤most,⟨_,_,[],_,[],_,_,rfl,sz0,rfl,S24,hAh4,cl4,S4 _ _ hLt3,.nil,SrcI.start N lrg,bK _⟩,?_⟩;clear cl4 hAh4 S4 S24 hLt3 S3 hAh sz0;rintro n σ Hc ⟨cs,Ts,zs,tv,w6,w7,rfl,n8,rfl,Sc,hAc,clc,hLc,dtv,I,hTs⟩;have lzs:zs.length=cs.length:=Paired.len clc;have ltv:tv.length=Ts.length:=by rw [dtv.length];unfold eQ;rw [aa]
 have lcs:=szC_len hlt cs I.ok;have pF:fc (sp.map fun z=>(z.l,z.o)) l'≤4096:=by
  have e:=j5 l' hlt fun y hy=>(N.all y hy).lo
  have:=hcases l' fr;omega
 have fin:(Ts.length<most∨most=4096→cs=[])→Q (.ref Lt) Hc:=fun he=>k Lt tv l' rg Ts Hc (fun a o n0 n1 e=>Sc _ _ (st2 a o n0 n1 e)) (kp2'.trans (Same.kp Sc)) (LamT.same Sc hT02) (LamT.same Sc hT12) hLc dtv R I.tabs hTs fun lt T hT=>by
  rcases I.hold T hT with h | ⟨c,hc,_⟩
  ·exact h
  ·rw [he lt] at hc;cases hc
 refine ⟨_,rfl,Ah,_,rfl,.inl (SqL.of hAc),_,_,rfl,rfl,_,rfl,?_⟩
 rcases List.eq_nil_or_concat cs with rfl | ⟨cs',c,rfl⟩
 ·have:zs=[]:=iN.mp lzs
  subst this;refine oQ (by rfl) (iteF ⟨_,rfl,fin fun _=>rfl⟩)
 rw [List.concat_eq_append] at *;obtain ⟨zs',y,rfl,clc',q,rfl,ce⟩:=Paired.snoc_of clc;refine iteB (o8 (by rw [av];show ((zs'.length+1:Nat):Int) > 0;omega)) ?_;refine ⟨_,rfl,Lt,_,rfl,.inl (SqL.of hLc),_,rfl,_,_,rfl,rfl,_,rfl,?_⟩
 by_cases hlm:Ts.length<most
 rotate_left
 ·exact oQ (o9 (by omega)) ⟨_,rfl,fin fun z=>o6 z fun z=>by
   rcases z with z | z
   ·exact hlm z
   ·have h0:=I.cnt
    rw [nR] at h0;have h1:=iF (I.ok c (by simp)).ob hlt;have e1:psC l' [c]=fc c.1 l'+0:=rfl;omega⟩
 refine iteB (o8 (by omega)) ⟨_,fun σ' H' z=>z,?_⟩;refine ⟨_,rfl,.inl ⟨rfl,_,SqL.of hAc⟩,Ah,_,.ref q,rfl,rfl,hAc,by rw [av,bV (by simp)];simp,?_⟩;rw [fZ];have K5:TupK Hc (upd Hc Ah (.lst zs')):=fF hAc;have S5:Same H2 (upd Hc Ah (.lst zs')):=fun a o e=>by rw [bw (bz e hAh2)];exact Sc _ _ e
 have hA5:(upd Hc Ah (.lst zs')) Ah=some (.lst zs'):=aU;have hL5:(upd Hc Ah (.lst zs')) Lt=some (.lst tv):=by rw [bw nLA];exact hLc
 have cl5:=CsL.keep K5 (show CsL H2 Hc zs' cs' from clc');have ce5:=ce.keep K5;have dtv5:=fh K5 dtv;generalize upd Hc Ah (.lst zs')=H5 at K5 S5 hA5 hL5 cl5 ce5 dtv5 ⊢;have C:=I.ok c (by simp);have less:=I.less f;have lcs':cs'.length+1≤8191:=by rw [av] at lcs;show cs'.length+[c].length≤8191;omega
 have lz':zs'.length=cs'.length:=Paired.len cl5;clear clc clc' ce hAc hLc dtv K5 lzs fin;refine ⟨_,rfl,_,rfl,v,q,b,m,sp,c.1,c.2,rfl,hv2.same S5,by omega,by have:=N.b2;omega,ce5.dn S5,C.few,fun z hz=>by rw [C.ob.len];exact ((f.rk z (C.sub z hz)).rg N tl).inn,fun r H6 S6 hd=>⟨rfl,_,rfl,?_⟩⟩;have S26:=S5.trans S6;have hA6:=S6 _ _ hA5;have hL6:=S6 _ _ hL5;have ce6:=ce5.keep (Same.tupK S6);have cl6:=CsL.keep (Same.tupK S6) cl5;have dtv6:=dtv5.same S6;clear ce5 cl5 dtv5 hA5 hL5
 rcases hd with ⟨rfl,al⟩ | ⟨z,hz,dz,hdz⟩
 rotate_left
 ·have:r≠ .non:=fun e=>by rw [e] at dz;cases dz
  refine oQ (o9 this) ?_;exact ⟨_,less,cs',Ts,zs',tv,_,_,rfl,by omega,rfl,S26,hA6,cl6,hL6,dtv6,I.dead N f hz hdz,hTs⟩
 refine iteB (o8 rfl) ?_;refine ⟨_,rfl,x,dx',_,rfl,S26 _ _ h1,rfl,_,rfl,x,q,sp,l',rg,c.2,c.1,rfl,cd2.same S26,ce6.dn S26,fun j hj=>by rw [C.ob.len];exact hlt j hj,by omega,fun fx=>?_,fun j hj hlj=>?_⟩
 ·refine ⟨_,rfl,rfl,_,rfl,iteB (o8 rfl) ?_⟩
  obtain ⟨vb,u,rl,a1,a2,a3,a4⟩:=ce6.ex;refine ⟨_,rfl,.inl ⟨rfl,_,SqL.of hL6⟩,_,rfl,_,rfl,_,rfl,q,_,_,_,rfl,rfl,SqT.of a1,aJ (j:=0) rfl,v,vb,Ls,b,m,sp,c.1,zsS,S,rfl,hv2.same S26,by omega,by omega,m2,E,S26 _ _ hLs,dS.same S26,by have:=SO.len;omega,fun s' hs'=>⟨hlt _ (SO.inn s' hs').1,(SO.inn s' hs').2⟩,a2,C.ob.len,fun qt H7 S7 h7=>?_⟩;refine ⟨Lt,_,_,rfl,rfl,S7 _ _ hL6,bR (m:=4096) (by omega) (by decide),?_⟩;have K8:TupK H7 (upd H7 Lt (.lst (tv++[.ref qt]))):=fF (S7 _ _ hL6);refine ⟨_,less,cs',Ts++[tabOf b sp c.1 m.toNat S],zs',tv++[.ref qt],_,_,rfl,by omega,rfl,fun a o e=>?_,?_,CsL.keep K8 (CsL.keep (Same.tupK S7) cl6),aU,?_,I.leaf N f SO al fx,by rw [av];exact hlm⟩
  ·rw [bw (bz e hLt)];exact S7 _ _ (S26 _ _ e)
  ·rw [bw (cw nLA)];exact S7 _ _ hA6
  ·refine fh K8 ?_
   unfold eQ;rw [aA];exact (dtv6.same S7).append (.cons (.tup h7 (IsDs.ints _)) .nil)
 ·refine ⟨_,rfl,rfl,_,rfl,oQ (o9 nofun) ?_⟩
  have hjb:j<c.1.length:=by rw [C.ob.len];exact hlt j hj
  refine ⟨_,rfl,.inl ⟨rfl,_,SqL.of hA6⟩,_,rfl,x,dx',_,rfl,S26 _ _ h1,rfl,_,rfl,_,rfl,_,rfl,_,rfl,q,j,c.1,c.2,rfl,ce6.dn S26,hjb,?_⟩;obtain ⟨a,ha⟩:∃ a,a=((c.1.getD j (0,0)).1+(c.1.getD j (0,0)).2) / 2:=⟨_,rfl⟩;rw [←ha];refine ⟨H2,x,q,j,a,sp,l',rg,c.2,c.1,rfl,S26,cd2,ce6.dn S26,hjb,C.ob.len,by rw [C.ob.len];exact nfew,fun L q1 q2 H7 S7 fL hL e1 e2=>?_⟩;have nLA2:L≠Ah:=fun z=>by rw [z,hA6] at fL;cases fL
  refine ⟨Ah,L,_,_,rfl,rfl,S7 _ _ hA6,hL,aY (m:=10000) (by show zs'.length+2≤10000;omega) (by decide),?_⟩;have K8:TupK H7 (upd H7 Ah (.lst (zs'++[.ref q1,.ref q2]))):=fF (S7 _ _ hA6);obtain ⟨I',less'⟩:=I.cut N f lrg al hj (a:=a) (by omega) (by omega);refine ⟨_,less',_,Ts,_,tv,_,_,rfl,by omega,rfl,fun a o e=>?_,aU,?_,?_,fh K8 (dtv6.same S7),I',hTs⟩
  ·rw [bw (bz e hAh2)];exact S7 _ _ (S26 _ _ e)
  ·exact Paired.app (CsL.keep K8 (CsL.keep (Same.tupK S7) cl6)) (.cons ⟨q1,rfl,e1.keep K8⟩ (.cons ⟨q2,rfl,e2.keep K8⟩ .nil))
  ·rw [bw nLA];exact S7 _ _ hL6
abbrev sTreeF:cP:=top 39
theorem nj:cb ["marks","trees","mark","one","other"] ["marks"] (defScope sTreeF):=by trivial
theorem ok_treeF (F:Fun K "tree_from" "tree_from" sTreeF f fd)(RV:mg "reversed" =none):cS P w K mg base CX0 1 f fd ["marks"] spTreeF:=by
 refine F.ok nj (by contradiction) (fun cdv A outer s H vs Q E hr h=>?_);obtain ⟨L,ys,ms,t,rfl,hL,dys,ems,hlw,few,k⟩:=h;refine ⟨_,PSl.h (bc ⟨(bD (i:=1) nj.nd rfl (.inl rfl) (jk aC))⟩
  (bc ⟨(i8 bT rfl (pi_revL rfl RV (af (pv 0) aC)) (dX (i:=2) nj.nd rfl (.inl rfl)) (df (i7 (cU mB (ixZ (pv 2)) lI (dN _)) (PSl.h (bc ⟨(bD (i:=3) nj.nd rfl (.inl rfl) (oM bC fM fJ oO (pv 1)))⟩
  (bc ⟨(bD (i:=4) nj.nd rfl (.inl rfl) (oM bC fM fJ oO (pv 1)))⟩
  (dh ⟨(jh (mz bC cL cJ iI (pv 1) (af (cp km (pv 2) (dg (af (pv 3) (af (pv 4) aC)))) aC)))⟩)))) (df (jh (mz bC cL cJ iI (pv 1) (af (pv 2) aC)))))))⟩
  (dh ⟨(cz (d9 fA (pv 1) bo (fun _ _=>rfl)))⟩))),?_⟩
 refine ⟨bK _,fun Lt hLt=>?_⟩;have nLL:L≠Lt:=bz hL hLt;have S1:Same H (upd H Lt (.lst [])):=Same.put (Same.refl H) hLt;have h1:(upd H Lt (.lst [])) Lt=some (.lst []):=aU;generalize upd H Lt (.lst [])=H1 at S1 h1 ⊢;have lys:ys.length=ms.length:=by rw [dys.length,aa]
 have tot:ms.reverse.foldl stpT (some [])=some [t]:=by rw [ems];exact stp_pre t []
 refine ⟨_,rfl,L,ys,rfl,SqL.of (S1 _ _ hL),?_⟩;refine for_revL (K:=K) (a:=L) (xs:=ys) (fun i σ H2=>Same H H2∧∃ (zs:List V) (st:List Tq) (v2 v3 v4:Option V),σ=[some (.ref L),some (.ref Lt),v2,v3,v4]∧H2 Lt=some (.lst zs)∧(ms.reverse.take i).foldl stpT (some [])=some st∧IsDs H2 zs (st.reverse.map jV)∧st.length≤i∧∀ t∈st,pl (jV t)=true) ⟨S1,[],[],none,none,none,rfl,h1,rfl,.nil,aB _,fun _ h=>o6 h (by simp)⟩ (fun i σ H2 _ ⟨S2,_⟩=>SqL.of (S2 _ _ hL)) ?_ ?_
 ·rintro i x σ H2 hx ⟨S2,zs,st,v2,v3,v4,rfl,hz,hst,dz,lst,pls'⟩
  have hi:i<ys.length:=by have:=(ao.mp hx).1;rwa [gn] at this
  have hm:ms.reverse[i]? =some (ms.reverse[i]'(by rw [gn];omega)):=gE _;obtain ⟨mk,hmk⟩:∃ mk,ms.reverse[i]? =some mk:=⟨_,hm⟩;clear hm;have dx:IsD H2 x (mrkD mk):=by
   have hj:ys.length - 1 - i<ys.length:=by omega
   rw [List.getElem?_reverse (by omega)] at hx;rw [List.getElem?_reverse (by omega)] at hmk;obtain ⟨y,hy,dy⟩:=(dys.same S2).at (i:=ys.length - 1 - i) (d:=mrkD mk) (by rw [ay,lys,hmk];rfl);rw [hx] at hy;cases hy;exact dy
  obtain ⟨st',est,est2⟩:=stp_at tot hmk hst;have lzs:zs.length≤10000:=by
   have:=dz.length;rw [aa,gn] at this;omega
  cases mk with
  | leaf d =>
   have e:st'= .leaf d::st:=by
    have:some (Tq.leaf d::st)=some st':=est;cases this;rfl
   subst e;obtain ⟨pd,w1,x1,ed,nw⟩:=hlw d (List.mem_reverse.mp (bh hmk));have dx:IsD H2 x d:=dx;rw [ed] at dx;obtain ⟨q,xs,rfl,hq,rq⟩:=IsD.tup_of dx;cases rq with
   | cons d0 rq =>
    cases d0;refine ⟨_,rfl,q,_,_,_,rfl,rfl,SqT.of hq,aJ (j:=0) rfl,rfl,_,rfl,oQ (o9 (fun z=>nw (by injection z))) ?_⟩;refine ⟨_,rfl,.inl ⟨rfl,_,SqL.of hz⟩,_,rfl,Lt,zs,_,rfl,rfl,hz,(bR lzs (by decide)),?_⟩;have KC:TupK H2 (upd H2 Lt (.lst (zs++[.ref q]))):=fF hz;refine ⟨fun a o e=>by rw [bw (bz e hLt)];exact S2 _ _ e,zs++[.ref q],_,_,_,_,rfl,aU,est2,?_,by rw [aS];omega,fun t ht=>?_⟩
    ·rw [iW,aA]
     refine (IsDs.keepP KC dz (j6 _ fun t ht=>pls' t (List.mem_reverse.mp ht))).append (.cons ?_ .nil);rw [←ed] at dx;exact IsD.keepP KC dx pd
    ·rcases az.mp ht with rfl | ht
     ·exact pd
     ·exact pls' t ht
  | cut kc ac =>
   obtain ⟨x1,y1,s1,rfl,e⟩:∃ x1 y1 s1,st=x1::y1::s1∧st'= .cut kc ac x1 y1::s1:=by
    rcases st with _ | ⟨x1,_ | ⟨y1,s1⟩⟩
    ·cases est
    ·cases est
    ·refine ⟨x1,y1,s1,rfl,?_⟩
     have:some (Tq.cut kc ac x1 y1::s1)=some st':=est;cases this;rfl
   subst e;have dx:IsD H2 x (.tup [.str "cut",.int (kc:Nat),.int ac]):=dx;obtain ⟨q,xs,rfl,hq,rq⟩:=IsD.tup_of dx;obtain rfl:xs=[.str "cut",.int (kc:Nat),.int ac]:=by
    cases rq with
    | cons d0 rq =>
     cases d0;cases rq with
     | cons d1 rq =>
      cases d1;cases rq with
      | cons d2 rq=>cases d2;cases rq;rfl
   rw [iW,iW,aA,aA] at dz;obtain ⟨zs1,vx,rfl,dz1,dvx⟩:=IsDs.snocD dz;obtain ⟨zs2,vy,rfl,dz2,dvy⟩:=IsDs.snocD dz1;have px:=pls' x1 (by simp);have py:=pls' y1 (by simp);refine ⟨_,rfl,q,_,_,_,rfl,rfl,SqT.of hq,aJ (j:=0) rfl,rfl,_,rfl,iteB (o8 rfl) ?_⟩;refine ⟨_,rfl,.inl ⟨rfl,_,SqL.of hz⟩,Lt,_,vx,rfl,rfl,hz,by rw [av,bV (by simp)];simp,?_⟩;rw [fZ];have K3:TupK H2 (upd H2 Lt (.lst (zs2++[vy]))):=fF hz;have S3:Same H (upd H2 Lt (.lst (zs2++[vy]))):=fun a o e=>by rw [bw (bz e hLt)];exact S2 _ _ e
   have h3:(upd H2 Lt (.lst (zs2++[vy]))) Lt=some (.lst (zs2++[vy])):=aU;generalize upd H2 Lt (.lst (zs2++[vy]))=H3 at K3 S3 h3 ⊢;refine ⟨_,rfl,.inl ⟨rfl,_,SqL.of h3⟩,Lt,_,vy,rfl,rfl,h3,by rw [av,bV (by simp)];simp,?_⟩;rw [fZ];have K4:TupK H2 (upd H3 Lt (.lst zs2)):=K3.trans (fF h3);have S4:Same H (upd H3 Lt (.lst zs2)):=fun a o e=>by rw [bw (bz e hLt)];exact S3 _ _ e
   have h4:(upd H3 Lt (.lst zs2)) Lt=some (.lst zs2):=aU;generalize upd H3 Lt (.lst zs2)=H4 at K4 S4 h4 ⊢;refine ⟨_,rfl,.inl ⟨rfl,_,SqL.of h4⟩,_,rfl,_,rfl,_,rfl,mx,fun q5 H5 S5 h5=>?_⟩;refine ⟨q,q5,_,_,rfl,rfl,S5 _ _ (K4 _ _ hq),h5,szZ5,fun q6 H6 S6 h6=>?_⟩;have S46:=S5.trans S6;refine ⟨Lt,zs2,_,rfl,rfl,S46 _ _ h4,(bR (by rw [av,av] at lzs;omega:zs2.length≤10000) (by decide)),?_⟩;have K26:TupK H2 H6:=fun a xs e=>S46 _ _ (K4 _ _ e)
   have KC:TupK H6 (upd H6 Lt (.lst (zs2++[.ref q6]))):=fF (S46 _ _ h4);have K2C:=K26.trans KC;refine ⟨fun a o e=>by rw [bw (bz e hLt)];exact S46 _ _ (S4 _ _ e),zs2++[.ref q6],_,_,_,_,rfl,aU,est2,?_,by simp only [aS] at lst ⊢;omega,fun t ht=>?_⟩
   ·rw [iW,aA]
    refine (IsDs.keepP K2C dz2 (j6 _ fun t ht=>pls' t (by simp [List.mem_reverse.mp ht]))).append (.cons ?_ .nil);exact .tup (KC _ _ h6) (.cons (.str _) (.cons (.int _) (.cons (.int _) (.cons (IsD.keepP K2C dvx px) (.cons (IsD.keepP K2C dvy py) .nil)))))
   ·rcases az.mp ht with rfl | ht
    ·exact pl_cut px py
    ·exact pls' t (by simp [ht])
 ·rintro σ H2 ⟨S2,zs,st,v2,v3,v4,rfl,hz,hst,dz,lst,pls'⟩
  rw [lys,←gn,bf,tot] at hst;cases hst;cases dz with
  | cons d0 dn =>
   cases dn;exact ⟨_,rfl,Lt,_,_,_,rfl,rfl,SqL.of hz,aJ (j:=0) rfl,k _ H2 S2 d0⟩
abbrev sTreeB:cP:=top 40
theorem jZ:cb ["net","leaf_in","cuts","marks","ahead","case","mark","span","at"] pzo (defScope sTreeB):=by trivial
theorem ok_treeBy {f5 f6 T0 T1 fi g1 g2:ai}{fd5 fd6 di d1 d2:bq}{p0 p1:Pos}{q0 q1:Str}(F:Fun K "tree_by" "tree_by" sTreeB f fd)(T:Nm mg)(CK:CutK P w K mg base T0 p0 q0 T1 p1 q1 C fi g1 g2 di d1 d2)
  (G5:Fn K mg "middle_of" sMid pzp f5 fd5) (G6:Fn K mg "tree_from" sTreeF ["marks"] f6 fd6) (F6:cS P w K mg base CX0 1 f6 fd6 ["marks"] spTreeF):cS P w K mg base CX0 11 f fd pzo (mI P w K mg base T0 p0 q0 T1 p1 q1):=by
 have F5:cS P w K mg base CX0 1 f5 fd5 pzp spMid:=ok_mid G5.F;refine F.ok jZ (by contradiction) (fun cdv A outer s H vs Q E hr h=>?_);obtain ⟨v,g,b,m,sp,R,rfl,hv,N,hcases,hT0,hT1,LM,k⟩:=h;have hr1:Room 1 _:=hr.mono (by decide);have hr2:Room 2 _:=hr.mono (by decide);have hr6:Room 6 _:=hr.mono (by decide);have E:=N.ends;have nfew:=N.few;have m1:=N.m1;have m2:=N.m2;have nb1:=N.b1;refine ⟨_,PSl.h (bc ⟨(bD (i:=2) jZ.nd rfl (.inl rfl) (pe_make CK.mke CK.ini hr rfl CK.gl CK.bi .nil pass0 (af (pv 0) aC)))⟩
  (bc ⟨(bD (i:=3) jZ.nd rfl (.inl rfl) (jk aC))⟩
  (bc ⟨(bD (i:=4) jZ.nd rfl (.inl rfl) (jk (af (pe_fld (pv 2) rfl) aC)))⟩
  (bc ⟨(mQ bT (cU op_gt (eh cZ rfl T.len cQ (af (pv 4) aC)) bo (dN _)) (PSl.h (bc ⟨(bD (i:=5) jZ.nd rfl (.inl rfl) (oM bC fM fJ oO (pv 4)))⟩
  (bc ⟨(bD (i:=6) jZ.nd rfl (.inl rfl) (pe_callV (i:=1) LM hr6 (pv 5)))⟩
  (bc ⟨(kR (i7 (cU op_isN (pv 6) kL (dN _)) (PSl.h (bc ⟨(bD (i:=7) jZ.nd rfl (.inl rfl) (pe_meth (pv 2) CK.cc.cl CK.m1 CK.f1 hr1 CK.b1 .nil pass0 (af (pv 5) aC)))⟩
  (bc ⟨(bD (i:=8) jZ.nd rfl (.inl rfl) (pc1 G5 F5 hr1 (af (pv 5) (af (pv 7) aC))))⟩
  (bc ⟨(bD (i:=6) jZ.nd rfl (.inl rfl) (dg (af lI (af (pv 7) (af (pv 8) aC)))))⟩
  (dh ⟨(jh (mz bC PySem.F.slot_list_extend PySem.F.type_list_extend mt_extend (pv 4) (af (pe_meth (pv 2) CK.cc.cl CK.m2 CK.f2 hr2 CK.b2 .nil pass0 (af (pv 5) (af (pv 7) (af (pv 8) aC)))) aC)))⟩))))) fv))⟩
  (dh ⟨(jh (mz bC cL cJ iI (pv 3) (af (pv 6) aC)))⟩))))))⟩
  (dh ⟨(cz (pc1 G6 F6 hr1 (af (pv 3) aC)))⟩))))),?_⟩
 refine ⟨_,rfl,fun x dx hx hdx nxd=>?_⟩;have S0:Same H (upd (upd H dx (.own x)) x (.ins C dx [])):=by
  have Sa:Same H (upd H dx (.own x)):=Same.put (Same.refl H) hdx;exact Same.put Sa (by rw [bw (cw nxd)];exact hx)
 have hx0:(upd (upd H dx (.own x)) x (.ins C dx [])) x=some (.ins C dx []):=aU;generalize upd (upd H dx (.own x)) x (.ins C dx [])=H0 at S0 hx0 ⊢;refine ⟨x,dx,v,b,m,sp,rfl,hx0,hv.same S0,N,LamT.same S0 hT0,LamT.same S0 hT1,fun l rg H2 st1 kp1 hT02 hT12 RR cd2=>⟨rfl,?_⟩⟩;have f:=RR.ff N;have fr:=RR.fr;have lrg:rg.length≤40:=by
  have:rg.length=(nL sp l).length:=by rw [←RR.ks,aa]
  have h2:(nL sp l).length≤sp.length:=by unfold nL;exact aY (eV _ _) (by rw [bt];exact aB _)
  omega
 have tl:l.length≤15:=by have:=fr.few E (by omega);omega
 have hlt:=f.acy.nodup.2;have st2:StayT T0 T1 H H2:=fun a o n0 n1 e=>st1 a o n0 n1 (bz e hx) (S0 _ _ e)
 have kp2':Kp H H2:=(Same.kp S0).trans kp1;have hv2:=bY kp2'.tup hv;clear st1 kp1 S0 hx0 hv;obtain ⟨dx',c0,tl',ol,ord,h1,h2,h3,h4,h5⟩:=cd2.ex;refine ⟨bK _,fun Lt hLt=>?_⟩;have S3:Same H2 (upd H2 Lt (.lst [])):=Same.put (Same.refl H2) hLt;have hLt3:(upd H2 Lt (.lst [])) Lt=some (.lst []):=aU;generalize upd H2 Lt (.lst [])=H3 at S3 hLt3 ⊢;refine ⟨_,rfl,x,C,dx',_,_,rfl,S3 _ _ h1,CK.cc.cl,CK.cc.n1,rfl,szZ1,fun Ah hAh=>?_⟩;have hAh2:H2 Ah=none:=Same.free S3 hAh;have nLA:Lt≠Ah:=fun z=>by rw [←z,hLt3] at hAh;cases hAh
 have S4:Same H3 (upd H3 Ah (.lst [.ref c0])):=Same.put (Same.refl H3) hAh;have hAh4:(upd H3 Ah (.lst [.ref c0])) Ah=some (.lst [.ref c0]):=aU;generalize upd H3 Ah (.lst [.ref c0])=H4 at S4 hAh4 ⊢;have S24:=S3.trans S4;have cl4:CsL H2 H4 [.ref c0] [(sp.map fun z=>(z.l,z.o),rg)]:=by
  obtain ⟨vb,u,rl,a1,a2,a3,a4⟩:=h2.ex;exact .cons ⟨c0,rfl,vb,u,rl,S24 _ _ a1,a2.same S24,a3,a4⟩ .nil
 have pr0:fc (sp.map fun z=>(z.l,z.o)) l≤4096:=by
  have e:=j5 l hlt fun y hy=>(N.all y hy).lo
  have:=hcases l fr;omega
 have sz0:szC l [(sp.map fun z=>(z.l,z.o),rg)]+0≤8191:=by
  show (2 * fc (sp.map fun z=>(z.l,z.o)) l - 1)+0+0≤8191;omega
 have ok0:∀ c∈[(sp.map (fun z=>(z.l,z.o)),rg)],CaseOk b sp l rg c:=(SrcI.start (b:=b) (l:=l) N lrg).ok;refine ⟨fun n σ Hc=>∃ (cs:List Cse) (ms:List Mrk) (zs mv:List V) (w5 w6 w7 w8:Option V),n=szC l cs∧n+ms.length≤8191∧σ=[some v,some (.ref g),some (.ref x),some (.ref Lt),some (.ref Ah),w5,w6,w7,w8]∧Same H2 Hc∧Hc Ah=some (.lst zs)∧CsL H2 Hc zs cs∧Hc Lt=some (.lst mv)∧IsDs Hc mv (ms.map mrkD)∧(∀ c∈cs,CaseOk b sp l rg c)∧Wn R l (sp.map (fun z=>(z.l,z.o)),rg) ms cs.reverse∧(∀ d,Mrk.leaf d∈ms→LeafW d)∧pls (ms.map mrkD)=true,⟨_,_,[],_,[],_,_,_,_,rfl,sz0,rfl,S24,hAh4,cl4,S4 _ _ hLt3,.nil,ok0,Wn.start,fun _ h=>o6 h (by simp),rfl⟩,?_⟩;clear cl4 hAh4 S4 S24 hLt3 S3 hAh sz0 ok0;rintro n σ Hc ⟨cs,ms,zs,mv,w5,w6,w7,w8,rfl,n8,rfl,Sc,hAc,clc,hLc,dmv,ok,W,lw,pm⟩;have lzs:zs.length=cs.length:=Paired.len clc;have lmv:mv.length=ms.length:=by rw [dmv.length,aa]
 have lcs:=szC_len hlt cs ok;refine ⟨_,rfl,Ah,_,rfl,.inl (SqL.of hAc),_,_,rfl,rfl,_,rfl,?_⟩
 rcases List.eq_nil_or_concat cs with rfl | ⟨cs',c,rfl⟩
 ·have:zs=[]:=iN.mp lzs
  subst this;obtain ⟨t,et,gt⟩:=Wn.fin W;refine oQ (by rfl) ⟨_,rfl,Lt,mv,ms,t,rfl,hLc,dmv,et,lw,by omega,fun u H9 S9 h9=>?_⟩;have S29:=Sc.trans S9;refine k u t H9 (st2.trans (Same.stayT S29)) (kp2'.trans (Same.kp S29)) (LamT.same S29 hT02) (LamT.same S29 hT12) h9 (pl_pre t (by rw [←et];exact lw)) (gt 21 ?_);have:2 ^ 21 * fc (sp.map fun z=>(z.l,z.o)) l≤2 ^ 21 * 4096:=Nat.mul_le_mul_left _ pr0;exact aY this (by decide)
 rw [List.concat_eq_append] at *;obtain ⟨zs',y,rfl,clc',q,rfl,ce⟩:=Paired.snoc_of clc;refine iteB (o8 (by rw [av];show ((zs'.length+1:Nat):Int) > 0;omega)) ⟨_,fun σ' H' z=>z,?_⟩;refine ⟨_,rfl,.inl ⟨rfl,_,SqL.of hAc⟩,Ah,_,.ref q,rfl,rfl,hAc,by rw [av,bV (by simp)];simp,?_⟩;rw [fZ];have K5:TupK Hc (upd Hc Ah (.lst zs')):=fF hAc;have S5:Same H2 (upd Hc Ah (.lst zs')):=fun a o e=>by rw [bw (bz e hAh2)];exact Sc _ _ e
 have hA5:(upd Hc Ah (.lst zs')) Ah=some (.lst zs'):=aU;have hL5:(upd Hc Ah (.lst zs')) Lt=some (.lst mv):=by rw [bw nLA];exact hLc
 have cl5:=CsL.keep K5 (show CsL H2 Hc zs' cs' from clc');have ce5:=ce.keep K5;have dmv5:=IsDs.keepP K5 dmv pm;generalize upd Hc Ah (.lst zs')=H5 at K5 S5 hA5 hL5 cl5 ce5 dmv5 ⊢;have C':=ok c (by simp);have less:=sz_less (cs:=cs') f C';rw [List.reverse_append] at W;have W:Wn R l (sp.map (fun z=>(z.l,z.o)),rg) ms (c::cs'.reverse):=W;have ok':∀ d∈cs',CaseOk b sp l rg d:=fun d hd=>ok d (aE _ hd)
 have lcs':cs'.length+1≤8191:=by rw [av] at lcs;show cs'.length+[c].length≤8191;omega
 have lz':zs'.length=cs'.length:=Paired.len cl5;have stH5:StayT T0 T1 H H5:=st2.trans (Same.stayT S5);clear clc clc' ce hAc hLc dmv K5 lzs ok;refine ⟨rfl,stH5,_,rfl,stH5,l,rg,q,c,rfl,RR,ce5.dn S5,C',hv2.same S5,fun r H6 S6 hd=>?_⟩;have S26:=S5.trans S6;have hA6:=S6 _ _ hA5;have hL6:=S6 _ _ hL5;have ce6:=ce5.keep (Same.tupK S6);have cl6:=CsL.keep (Same.tupK S6) cl5;have dmv6:=dmv5.same S6;clear ce5 cl5 dmv5 hA5 hL5 stH5;refine ⟨fun σ' H'=>∃ (cs2:List Cse) (mk:Mrk) (zs2:List V) (v6:V) (w7 w8:Option V),szC l cs2<szC l (cs'++[c])∧σ'=[some v,some (.ref g),some (.ref x),some (.ref Lt),some (.ref Ah),some (.ref q),some v6,w7,w8]∧Same H2 H'∧H' Ah=some (.lst zs2)∧CsL H2 H' zs2 cs2∧H' Lt=some (.lst mv)∧IsDs H' mv (ms.map mrkD)∧IsD H' v6 (mrkD mk)∧(∀ c∈cs2,CaseOk b sp l rg c)∧Wn R l (sp.map (fun z=>(z.l,z.o)),rg) (ms++[mk]) cs2.reverse∧(∀ d,mk= .leaf d→LeafW d)∧pl (mrkD mk)=true,?_,?_⟩
 ·rintro σ' H7 ⟨cs2,mk,zs2,v6,w7,w8,less2,rfl,S7,hA7,cl7,hL7,dm7,d6,ok2,W2,lw2,pm2⟩
  refine ⟨_,rfl,.inl ⟨rfl,_,SqL.of hL7⟩,_,rfl,Lt,mv,_,rfl,rfl,hL7,(bR (by omega:mv.length≤10000) (by decide)),?_⟩;have K8:TupK H7 (upd H7 Lt (.lst (mv++[v6]))):=fF hL7;refine ⟨_,less2,cs2,ms++[mk],zs2,mv++[v6],_,_,_,_,rfl,by rw [av];show _+(ms.length+1)≤8191;omega,rfl,fun a o e=>by rw [bw (bz e hLt)];exact S7 _ _ e,by rw [bw (cw nLA)];exact hA7,CsL.keep K8 cl7,aU,?_,ok2,W2,fun d hd=>?_,?_⟩
  ·rw [aA]
   exact (IsDs.keepP K8 dm7 pm).append (.cons (IsD.keepP K8 d6 pm2) .nil)
  ·rcases aM.mp hd with z | z
   ·exact lw d z
   ·exact lw2 d (ax.mp z).symm
  ·rw [aA,pls_appT,pm,Bool.true_and]
   show (pl (mrkD mk) && true)=true;rw [pm2];rfl
 refine ⟨_,rfl,rfl,_,rfl,?_⟩
 rcases hd with ⟨d,dr,dw,dR⟩ | ⟨rfl,al,k0,hk0,hlk0⟩
 ·have nr:r≠ .non:=fun e=>by
   obtain ⟨_,w',x',ed,_⟩:=dw;rw [e,ed] at dr;cases dr
  refine oQ (o9 nr) ?_;exact ⟨cs',.leaf d,zs',r,_,_,less,rfl,S26,hA6,cl6,hL6,dmv6,dr,ok',W.leaf dR,(fun d' e=>by cases e;exact dw),dw.1⟩
 refine iteB (o8 rfl) ?_;refine ⟨_,rfl,x,dx',_,rfl,S26 _ _ h1,rfl,_,rfl,x,q,sp,l,rg,c.2,c.1,rfl,cd2.same S26,ce6.dn S26,fun j hj=>by rw [C'.ob.len];exact hlt j hj,by omega,fun fx=>o6 hlk0 (fx k0 hk0),fun j hj hlj=>?_⟩;have hjb:j<c.1.length:=by rw [C'.ob.len];exact hlt j hj
 refine ⟨_,rfl,_,rfl,q,j,c.1,c.2,rfl,ce6.dn S26,hjb,?_⟩;obtain ⟨a,ha⟩:∃ a,a=((c.1.getD j (0,0)).1+(c.1.getD j (0,0)).2) / 2:=⟨_,rfl⟩;rw [←ha];refine ⟨_,rfl,_,rfl,(by show 3≤bj;decide),fun qm H7 S7 hm7=>?_⟩;have S27:=S26.trans S7;refine ⟨_,rfl,.inl ⟨rfl,_,SqL.of (S7 _ _ hA6)⟩,_,rfl,x,dx',_,rfl,S27 _ _ h1,rfl,_,rfl,_,rfl,_,rfl,H2,x,q,j,a,sp,l,rg,c.2,c.1,rfl,S27,cd2,(ce6.keep (Same.tupK S7)).dn S27,hjb,C'.ob.len,by rw [C'.ob.len];exact nfew,fun L q1 q2 H8 S8 fL hL e1 e2=>?_⟩;have nLA2:L≠Ah:=fun z=>by rw [z,S7 _ _ hA6] at fL;cases fL
 have hA8:=S8 _ _ (S7 _ _ hA6);refine ⟨Ah,L,_,_,rfl,rfl,hA8,hL,aY (m:=10000) (by show zs'.length+2≤10000;omega) (by decide),?_⟩;have K9:TupK H8 (upd H8 Ah (.lst (zs'++[.ref q1,.ref q2]))):=fF hA8;have K68:TupK H6 H8:=fun a xs e=>S8 _ _ (S7 _ _ e)
 obtain ⟨okn,lessn,p2⟩:=sz_cut f lrg C' al hj (a:=a) (by omega) (by omega) ok';obtain ⟨mid1,mid2⟩:=prodC_mid C'.ob f.acy.nodup.1 hlt hj hlj ha;refine ⟨_,.cut j a,_,.ref qm,_,_,lessn,rfl,fun a o e=>?_,aU,?_,?_,?_,?_,okn,?_,(fun d e=>by cases e),rfl⟩
 ·rw [bw (bz e hAh2)];exact S8 _ _ (S27 _ _ e)
 ·exact Paired.app (CsL.keep K9 (CsL.keep K68 cl6)) (.cons ⟨q1,rfl,e1.keep K9⟩ (.cons ⟨q2,rfl,e2.keep K9⟩ .nil))
 ·rw [bw nLA];exact S8 _ _ (S7 _ _ hL6)
 ·exact IsDs.keepP K9 (IsDs.keepP K68 dmv6 pm) pm
 ·exact .tup (K9 _ _ (S8 _ _ hm7)) (.cons (.str _) (.cons (.int _) (.cons (.int _) .nil)))
 ·rw [List.reverse_append]
  exact W.cut hjb (by omega) (by omega) p2 mid1 mid2
abbrev sCases:cP:=top 19
theorem IsFor.nats (a:IsFor m sp ns):∃ (l π:List Nat),ns=l.map (fun (i:Nat)=>(i:Int))∧Ordd sp π∧l.Perm (jQ sp m π).2:=by
 obtain ⟨π,o,p,_⟩:=a;have nn:∀ x∈ns,0≤x:=fun x hx=>by
  obtain ⟨i,_,rfl⟩:=aV.mp (p.mem_iff.mp hx);omega
 refine ⟨ns.map Int.toNat,π,?_,o,?_⟩
 ·rw [dt]
  conv=>lhs;rw [←List.map_id ns]
  exact fu fun x hx=>(fB (nn x hx)).symm
 ·have q:=p.map Int.toNat
  rw [dt] at q;have e:((jQ sp m π).2.map (Int.toNat ∘ fun (i:Nat)=>(i:Int)))=(jQ sp m π).2:=by
   conv=>rhs;rw [←List.map_id (jQ sp m π).2]
   exact fu fun x _=>rfl
  rw [e] at q;exact q
theorem gone_few (E:Ends m sp)(h:∀ i∈π,i<sp.length):(jQ sp m π).2.length≤m:=by
 obtain ⟨D,_,_,l⟩:=gone_cnt E π (jM m) [] (j9 m) h (Cnt.start m);have l:D.length+(jQ sp m π).2.length=m:=l;omega
theorem gone_lt (h:∀ i∈π,i<sp.length):∀ i∈(jQ sp m π).2,i<sp.length:=fun i hi=>by
 rcases (jN sp π (jM m,[])).1 i hi with z | z
 ·cases z
 ·exact h i z
def WOk (sp:List Sn):Prop:=∀ x∈sp,0≤x.o - x.l∧x.o - x.l+1≤10 ^ 61
theorem NetT.wok {m:Int}(N:NetT b m sp)(h:b≤10 ^ 61):WOk sp:=fun x hx=>by
 have s:=N.all x hx;have:=s.lo;have:=s.ob;omega
theorem prodW_abs {sp:List Sn}(w:WOk sp):∀ {l:List Nat},(∀ i∈l,i<sp.length)→(jE sp l).natAbs≤(10 ^ 61) ^ l.length
 | [],_=>by show 1≤(10 ^ 61) ^ 0;decide
 | i::l,h=>by
  rw [l5,Int.natAbs_mul,aS,Nat.pow_succ,jd ((10 ^ 61) ^ l.length)];refine Nat.mul_le_mul ?_ (prodW_abs w fun j hj=>h j (au _ hj));have:=w _ (dG (h i bp));show ((sAt sp i).o - (sAt sp i).l+1).natAbs≤_;omega
theorem pow_33 {k:Nat}(h:n≤(10 ^ 61) ^ k)(hk:k≤16):n<10 ^ 1000:=by
 refine bR h ?_;rw [←Nat.pow_mul];exact Nat.pow_lt_pow_right (by decide) (by omega)
inductive spCases (T:ai)(lp:Pos)(lq:Str)(vs:List V)(H:Hp)(Q:VK)(_:XK):Prop
 | mk (v b m sp:_)(_:vs=[v])(_:IsD H v (jL b m sp))(_:NetT b m sp)(_:b≤10 ^ 61)(_:L2.LamT T lp lq H)(_:∀ H' (l:List Nat),L2.Tb T H H'→L2.LamT T lp lq H'→FrstL m.toNat sp l→Q (.int (jE sp l)) H')
theorem scCases:cb ["net","cases","span"] pza (defScope sCases):=by trivial
theorem ok_cases {Tb0:ai}(F:Fun K "cases_of" "cases_of" sCases f fd)(G1:Fn K mg "forest_of" ki pza f1 fd1)(F1:cS P w K mg base CX0 6 f1 fd1 pza (jY Tb0 lp lq))(G2:Fn K mg "width_of" sWidth pzh f2 fd2) :
  cS P w K mg base CX0 7 f fd pza (spCases Tb0 lp lq):=by
 have F2:cS P w K mg base CX0 1 f2 fd2 pzh spWidth:=ok_width G2.F;refine F.ok scCases (by contradiction) (fun cdv A outer s H vs Q E hr h=>?_);obtain ⟨v,b,m,sp,rfl,hv,N,b33,hT,k⟩:=h;have hr1:Room 1 _:=hr.mono (by decide);have E:=N.ends;have m2:=N.m2;have m1:=N.m1;have wk:=N.wok b33;refine ⟨_,PSl.h (bc ⟨(bD (i:=1) scCases.nd rfl (.inl rfl) bo)⟩
  (bc ⟨(i8 bT rfl (jO (pc1 G1 F1 hr (af (pv 0) aC))) (dX (i:=2) scCases.nd rfl (.inl rfl)) (df (nQ (i:=1) scCases.nd rfl (.inl rfl) (cp fm (pc1 G2 F2 hr1 (af (pv 0) (af (pv 2) aC))) bo) ip_mulG)))⟩
  (dh ⟨(cz (pv 1))⟩))),?_⟩
 refine ⟨_,rfl,v,b,m,sp,rfl,hv,N,hT,fun u H1 ns tb hT1 hu F0=>?_⟩;obtain ⟨l,π,rfl,O,pm⟩:=F0.nats;have hp:∀ i∈π,i<sp.length:=fun i hi=>O.lt hi
 have hlt:∀ i∈l,i<sp.length:=fun i hi=>gone_lt hp i (pm.mem_iff.mp hi)
 have few:l.length≤16:=by have:=gone_few E hp;rw [pm.length_eq];omega
 have hv1:=bY (Tb.tupK (LamT.tbl hT) tb) hv;rw [dt] at hu;refine ⟨u,rfl,⟨_,SqT.of hu⟩,?_⟩;refine oi (K:=K) (a:=u) (xs:=l.map (V.int ∘ fun (i:Nat)=>(i:Int))) (fun i σ HA=>HA=H1∧∃ v2,σ=[some v,some (.int (jE sp (l.take i))),v2]) ⟨rfl,none,rfl⟩ (fun i σ HA _ ⟨e,_⟩=>by rw [e];exact SqT.of hu) ?_ ?_
 ·rintro i x σ HA hx ⟨rfl,v2,rfl⟩
  rw [ay] at hx;obtain ⟨j,hj,rfl⟩:=bB.mp hx;have hjl:=bh hj;have hjn:=hlt j hjl;have w0:=wk _ (dG hjn);refine ⟨_,rfl,_,rfl,_,rfl,v,b,m,sp,j,sAt sp j,rfl,hv1,iP hjn,_,_,rfl,rfl,?_⟩;refine ⟨_,_,rfl,rfl,⟨?_,?_⟩,rfl,some (.int j),?_⟩
  ·exact pow_33 (prodW_abs wk (l:=l.take i) fun k hk=>hlt k (jx hk)) (by rw [bG];omega)
  ·exact pow_33 (k:=1) (by rw [Nat.pow_one];omega) (by decide)
  ·rw [bg,hj]
   show _=[some v,some (.int (jE sp (l.take i++[j]))),_];rw [prodW_snoc];rfl
 ·rintro σ HA ⟨rfl,v2,rfl⟩
  rw [aa,bf];exact ⟨_,rfl,k HA l tb hT1 ⟨F0,π,O,pm⟩⟩
abbrev jA:cP:=top 41
def lamE5:List cP→Expr
 | [_,_,_,_,.Return (some (.Tuple [_,.Call _ [_,e] _ _] _ _)) _]=>e
 | _=> .Constant .none 0 ⟨0,0,0,0⟩
def lamP5:Expr→Pos
 | .Lambda _ _ _ p=>p
 | _=>⟨0,0,0,0⟩
def lamS5:Expr→eZ
 | .Lambda _ _ s _=>s
 | _=>{ kind:= .function,names:=[],isGenerator:=false,isCoroutine:=false }
def lamA5:Expr→eX
 | .Lambda a _ _ _=>a
 | _=>{ posonlyargs:=[],args:=[],vararg:=none,kwonlyargs:=[],kw_defaults:=[],kwarg:=none,defaults:=[] }
def lamB5:Expr→Expr
 | .Lambda _ e _ _=>e
 | e=>e
abbrev laT:eX:=lamA5 (lamE5 (fk jA))
abbrev lbT:Expr:=lamB5 (lamE5 (fk jA))
abbrev lpT:Pos:=lamP5 (lamE5 (fk jA))
abbrev lsT:eZ:=lamS5 (lamE5 (fk jA))
abbrev lqT:Str:=(("table_for" :Str) ++ ".<locals>.") ++ "<lambda>"
theorem mO (N:∀ b o,fz b=some o→H b=none):Same H (ptF H fz):=fun a o e=>by
 cases q:fz a with
 | none=>rw [gL q];exact e
 | some o'=>rw [N a o' q] at e;cases e
theorem ctF_kp (F:Fz fz H):Kp H (ctF H fz):=⟨fun q xs e=>F.cut e (fun _ z=>by cases z),fun q xs e=>F.cut e (fun _ z=>by cases z),fun q _ xs e=>F.cut e (fun _ z=>by cases z)⟩
theorem ptF_back (F:Fz fz H)(S:Same (ctF H fz) H'):Same H (ptF H' fz):=fun a o e=>by
 cases q:fz a with
 | some o'=>rw [F a o' q] at e;cases e;exact nP q
 | none=>rw [gL q];exact S a o (by rw [gM q];exact e)
theorem LamT.cutF (F:Fz fz H)(cl:∀ c o,fz c=some o→∃ v,o.data= .cell v)(h:L2.LamT T lp lq H):L2.LamT T lp lq (ctF H fz):=by
 rcases h with h | ⟨c,h,oc,vs,t,e,hd,r⟩
 ·exact .inl (F.cut h (fun _ z=>by cases z))
 ·refine .inr ⟨c,F.cut h (fun _ z=>by cases z),oc,vs,t,?_,hd,r⟩
  cases q:fz c with
  | none=>rw [gM q];exact e
  | some o' =>
   obtain ⟨v,hv⟩:=cl c o' q;rw [F c o' q] at e;cases e;rw [hd] at hv;cases hv
theorem LmOk.imp {k:Nat}{Hf Hg:Hp→Prop}{sp:Sp}(L:LmOk P w K mg base k f Hf sp)(h:∀ H,Hg H→Hf H):LmOk P w K mg base k f Hg sp:=⟨fun H hh g=>L.isFn H hh (h H g),fun A outer s H u v Q hr e0 g=>L.run A outer s H u v Q hr e0 (h H g)⟩
inductive mZ (T0:ai)(p0:Pos)(q0:Str)(T1:ai)(p1:Pos)(q1:Str)(T2:ai)(vs:List V)(H:Hp)(Q:VK)(_:XK):Prop
 | mk (v:V)(b m:Int)(sp:List Sn)(_:vs=[v])(_:IsD H v (jL b m sp))(_:NetT b m sp)(_:(∀ l,FrstL m.toNat sp l→jE sp l≤4096))(_:L2.LamT T0 p0 q0 H)(_:L2.LamT T1 p1 q1 H)(_:L2.LamT T2 lpT lqT H)(_:∀ (q:ai) (H':Hp),(∀ a o,a≠T0→a≠T1→a≠T2→H a=some o→H' a=some o)→Kp H H'→L2.LamT T0 p0 q0 H'→L2.LamT T1 p1 q1 H'→L2.LamT T2 lpT lqT H'→((∃ (qt:ai) (t:List Int),H' q=some (.tup [.str "table",.ref qt])∧H' qt=some (.tup (t.map V.int))∧TabOk b m sp t)∨∃ (u:V) (t:Tq),H' q=some (.tup [.str "none",u])∧IsD H' u (jV t)∧pl (jV t)=true∧(∀ T,¬ g9 b T sp=true)∧GoodT (RDead b sp) t (sp.map fun z=>(z.l,z.o)) 21)→Q (.ref q) H')
theorem ps_out:PS X st (fun _ _ _=>False):=fun _ _ _ _ _ _ h=>h.elim
theorem scTabFor:cb ["net","many","tables"] pza (defScope jA):=by trivial
theorem ok_tabForN {f3 f4 c T0 T1 T2:ai}{fd3 fd4:bq}{p0 p1:Pos}{q0 q1:Str}(F:Fun K "table_for" "table_for" jA f fd)(hcd:fd.code= .ref c)(CH:dY K c T2=true)(B:BM mg base)(T:Nm mg)(MC:∃ t,mg "MOST_CASES" =some (.int 4096 t))(ne:T0≠T1)(n2:T2≠T0)(n3:T2≠T1)
  (G1:Fn K mg "cases_of" sCases pza f1 fd1) (F1:cS P w K mg base CX0 7 f1 fd1 pza (spCases T0 p0 q0))
  (G2:Fn K mg "tables_that_fit" sTabF pzn f2 fd2) (F2:cS P w K mg base CX0 11 f2 fd2 pzn (spTabF T0 p0 q0 T1 p1 q1))
  (G3:Fn K mg "tree_by" sTreeB pzo f3 fd3) (F3:cS P w K mg base CX0 11 f3 fd3 pzo (mI P w K mg base T0 p0 q0 T1 p1 q1))
  (G4:Fn K mg "dead_leaf" sDeadL pzj f4 fd4) (F4:cS P w K mg base CX0 4 f4 fd4 pzj nc):cS P w K mg base CX0 12 f fd pza (mZ T0 p0 q0 T1 p1 q1 T2):=by
 refine okC F hcd scTabFor (by contradiction) (fun A outer s H vs Q E hr h=>?_);obtain ⟨v,b,m,sp,rfl,hv,N,hc,hT0,hT1,hT2,k⟩:=h;have hr7:Room 7 _:=hr.mono (by decide);refine ⟨_,PSl.h (bc ⟨(bD (i:=1) scTabFor.nd rfl (.inl rfl) (pc1 G1 F1 hr7 (af (pv 0) aC)))⟩
  (bc ⟨(i7 (cU op_gt (pv 1) (pe_gint MC) (dN _)) (df ps_out) fv)⟩
  (bc ⟨(bD (i:=2) scTabFor.nd rfl (.inl rfl) (pc1 G2 F2 hr (af (pv 0) (af bo aC))))⟩
  (bc ⟨(i7 (cU op_gt (eh cZ rfl T.len cQ (af (pv 2) aC)) bo (dN _)) (df (cz (dg (af lI (af (d9 fA (pv 2) bo (fun _ _=>rfl)) aC))))) fv)⟩
  (dh ⟨(cz (dg (af lI (af (pe_callZ (scope:=lsT) (fr:=pza) (js:=[0]) F3 hr (fun _=>rfl) rfl G3.mg G3.F.kp G3.b rfl (by trivial) (by exists jA) (af (pv 0) (af (pe_lam (T:=T2) rfl rfl CH B (by exists jA)) aC))) aC))))⟩))))),?_⟩
 refine ⟨_,rfl,v,b,m,sp,rfl,hv,N,by have:=N.b2;omega,hT0,fun H1 l tb1 hT01 fr=>?_⟩;have kp1:=Tb.kp hT0 tb1;have hT11:=LamT.ntb hT1 hT0 (cw ne) tb1;have hT21:=LamT.ntb hT2 hT0 n2 tb1;have cl:=hc l fr;refine ⟨_,rfl,_,_,rfl,rfl,_,rfl,oQ (o9 (by omega)) ?_⟩;refine ⟨_,rfl,v,b,m,sp,1,rfl,bY kp1.tup hv,N,by decide,hc,hT01,hT11,fun L tv l' rg Ts H2 st2 kp2 hT02 hT12 hL dL R tabs few hold=>?_⟩;have hT22:L2.LamT T2 lpT lqT H2:=by
  obtain ⟨ps0,e0⟩:=LamT.tbl hT01;obtain ⟨ps1,e1⟩:=LamT.tbl hT11
  rcases hT21 with h | ⟨c',h,oc,vs,t,e,r⟩
  ·exact .inl (st2 _ _ n2 n3 h)
  ·exact .inr ⟨c',st2 _ _ n2 n3 h,oc,vs,t,st2 _ _ (eD e e0 nofun) (eD e e1 nofun) e,r⟩
 have ltv:tv.length=Ts.length:=by rw [dL.length];unfold eQ;rw [aa]
 refine ⟨_,rfl,L,_,rfl,.inl (SqL.of hL),_,_,rfl,rfl,_,rfl,?_⟩;cases Ts with
 | cons t Ts =>
  refine iteB (o8 (by rw [ltv,aS];show ((Ts.length+1:Nat):Int) > 0;omega)) ?_;cases dL with
  | cons d0 ds =>
   rename_i y ys;obtain ⟨qt,qs,rfl,hq,rq⟩:=IsD.tup_of d0;have eq:=rq.ints_of;subst eq;refine ⟨_,rfl,L,_,_,_,rfl,rfl,SqL.of hL,aJ (j:=0) rfl,mx,fun q H3 S3 h3=>?_⟩;exact k q H3 (fun a o n0 n1 _ e=>S3 _ _ (st2 a o n0 n1 (tb1 a o n0 e))) (kp1.trans (kp2.trans (Same.kp S3))) (LamT.same S3 hT02) (LamT.same S3 hT12) (LamT.same S3 hT22) (.inl ⟨qt,t,h3,S3 _ _ hq,tabs t (by simp)⟩)
 | nil =>
  refine oQ (o9 (by rw [ltv];decide)) ?_;have nof:∀ T',¬ g9 b T' sp=true:=fun T' hT'=>by
   obtain ⟨t,ht,_⟩:=hold (.inl (by decide)) T' hT';cases ht
  have hv2:=bY kp2.tup (bY kp1.tup hv);refine ⟨_,rfl,hT22,fun g cl' H3 tb3 hT23 LF LE=>⟨cl',[v],LE,rfl,fun fz C0 N0=>?_⟩⟩;have kp3:=Tb.kp hT22 tb3;have hT03:=LamT.ntb hT02 hT22 (cw n2) tb3;have hT13:=LamT.ntb hT12 hT22 (cw n3) tb3;have SP:=mO N0;have hT04:=LamT.same SP hT03;have hT14:=LamT.same SP hT13;have LF:LamF lqT laT lbT lsT cl' g H3:=LF;have LF4:=LF.same SP;have hv4:=(bY kp3.tup hv2).same SP;have m2:=N.m2;have m1:=N.m1;have LM:LmOk P w K mg base 6 g (StayT T0 T1 (ptF H3 fz)) (mL v b m sp (RDead b sp)):=by
   refine LmOk.mono (j:=5) (LmOk.imp (lam_run (k:=4) (q:=lqT) (params:=laT) (body:=lbT) (scope:=lsT) (cl:=cl') (fz:=fz) (x := "case") (fr:=pza) (ws:=[v]) (fun _ _ _ _=>rfl) rfl rfl rfl (by trivial) rfl (by decide) C0 (fun y hy hf=>?_) (by trivial) (fun L' cd A' outer' s' H' hr'=>pc1 G4 F4 hr' (af (pv 1) (af (pv 0) aC))) (fun v' Hx Qx _ Zx hsp=>?_)) fun Hx st=>?_) (by decide)
   ·have e:y.1 = "net" := (by trivial:∀ y:Str×cx,y∈lsT.names→y.2=cx.free→y.1 = "net") y hy hf
    obtain ⟨cc,_,_,ec,_⟩:=C0.val 0 "net" v rfl rfl;exact ⟨cc,by rw [e];exact ec⟩
   ·obtain ⟨l2,rg2,q2,c2,e2,R2,cd2,ok2,hvx,kk⟩:=hsp
    cases e2;have KX:=ctF_kp Zx;have f2:=R2.ff N;have tl:l2.length≤15:=by have:=R2.fr.few N.ends (by omega);omega
    refine ⟨_,rfl,_,rfl,v,q2,b,m,sp,c2.1,c2.2,rfl,bY KX.tup hvx,by have:=N.b1;omega,by have:=N.b2;omega,cd2.kp KX,ok2.few,fun z hz=>by rw [ok2.ob.len];exact ((f2.rk z (ok2.sub z hz)).rg N tl).inn,fun r H' S' hd fr'=>?_⟩;refine kk r _ (ptF_back Zx S') ?_
    rcases hd with ⟨rfl,al⟩ | ⟨z,hz,dz,hdz⟩
    ·refine .inr ⟨rfl,al,eM fun nz=>?_⟩
     have ht2:=f2.acy.nodup.2;have fix:∀ j∈l2,(c2.1.getD j (0,0)).1=(c2.1.getD j (0,0)).2:=fun j hj=>by
      have h1:=(ok2.ob.lo j (ht2 j hj)).2.1;have h2:¬ ((c2.1.getD j (0,0)).1<(c2.1.getD j (0,0)).2):=fun z=>nz ⟨j,hj,z⟩
      omega
     obtain ⟨ts,_,_,hf,_⟩:=tight N f2 ok2.ob ⟨fix,ok2.all al⟩;exact nof ts hf
    ·exact .inl ⟨_,IsD.keepP (Same.tupK (mO fr')) dz (ma z.2).1,ma z.2,z.2,rfl,(f2.rk z (ok2.sub z hz)).rg N tl,hdz⟩
   ·obtain ⟨ps0,e0⟩:=LamT.tbl hT04
    obtain ⟨ps1,e1⟩:=LamT.tbl hT14;have fz':∀ a o u,ptF H3 fz a=some (.frz o u)→Hx a=some (.frz o u):=fun a o u e=>st a _ (eD e e0 nofun) (eD e e1 nofun) e
    obtain ⟨pm,cd,ct,e,oc,vs,t,ec,r⟩:=LF4;exact ⟨⟨pm,cd,ct,fz' _ _ _ e,oc,vs,t,fz' _ _ _ ec,r⟩,fun a o z=>fz' _ _ _ (nP z)⟩
  refine ⟨v,g,b,m,sp,RDead b sp,rfl,hv4,N,hc,hT04,hT14,LM,fun u t H5 st5 kp5 hT05 hT15 du plu gd Z5=>?_⟩;have KC:=ctF_kp Z5;have hT25:L2.LamT T2 lpT lqT H5:=by
   obtain ⟨ps0,e0⟩:=LamT.tbl hT04;obtain ⟨ps1,e1⟩:=LamT.tbl hT14
   rcases LamT.same SP hT23 with h | ⟨c',h,oc,vs,t,e,r⟩
   ·exact .inl (st5 _ _ n2 n3 h)
   ·exact .inr ⟨c',st5 _ _ n2 n3 h,oc,vs,t,st5 _ _ (eD e e0 nofun) (eD e e1 nofun) e,r⟩
  refine ⟨mx,fun q H6 S6 h6=>?_⟩;have kpa:Kp H H6:=kp1.trans (kp2.trans (kp3.trans ((Same.kp SP).trans (kp5.trans (KC.trans (Same.kp S6))))));have sta:∀ a o,a≠T0→a≠T1→a≠T2→H a=some o→H6 a=some o:=fun a o n0 n1 n2' e=>by
   have e3:=tb3 a o n2' (st2 a o n0 n1 (tb1 a o n0 e));have e5:=st5 a o n0 n1 (SP _ _ e3);refine S6 _ _ ?_;have fo:fz a=none:=by
    cases z:fz a with
    | none=>rfl
    | some o'=>rw [N0 a o' z] at e3;cases e3
   rw [gM fo];exact e5
  exact k q H6 sta kpa (LamT.same S6 (LamT.cutF Z5 C0.cell hT05)) (LamT.same S6 (LamT.cutF Z5 C0.cell hT15)) (LamT.same S6 (LamT.cutF Z5 C0.cell hT25)) (.inr ⟨u,t,h6,(IsD.keepP KC.tup du plu).same S6,plu,nof,gd⟩)
abbrev nB:cP:=top 43
abbrev sLeafBy:cP:=top 44
inductive spPriceL (vs:List V)(H:Hp)(Q:VK)(_:XK):Prop
 | mk (v vb:V)(u:ai)(b m:Int)(sp:List Sn)(l:List Nat)(rg:List (Nat×List Stp))(bs:List (Int×Int))(rl:List V)(_:vs=[v,.ref u,vb])(_:IsD H v (jL b m sp))(_:NetT b m sp)(_:FF m sp l rg)(_:H u=some (.lst rl))(_:IsDs H rl (rg.map wayQ))(_:IsD H vb (bndP bs))(_:bs.length=sp.length)(_:∀ r H',Same H H'→IsD H' r (leafP (.price (mq b sp bs rg)))→Q r H')
inductive spLeafBy (vs:List V)(H:Hp)(Q:VK)(_:XK):Prop
 | mk (v:V)(u q:ai)(w:Int)(b m:Int)(sp:List Sn)(l:List Nat)(rg rg':List (Nat×List Stp))(c:Cse)(rl:List V)(_:vs=[v,.ref u,.int w,.ref q])(_:IsD H v (jL b m sp))(_:NetT b m sp)(_:FR m sp l rg)(_:FR m sp l rg')(_:H u=some (.lst rl))(_:IsDs H rl (rg.map wayQ))(_:CsD H q c.1 c.2)(_:CaseOk b sp l rg' c)(_:∀ r H',Same H H'→((∃ d,IsD H' r d∧LeafW d∧RBest b sp w c.1 d)∨(r= .non∧(∀ z∈c.2,i9 b c.1 z.2=false)∧kf b sp c.1 (mq b sp c.1 rg)<w))→Q r H')
theorem sureR_next {bs:List (Int×Int)}{rg:List (Nat×List Stp)}(hi:i<rg.length):jD b sp bs (rg.take (i+1))=jD b sp bs (rg.take i)++(if sureB b bs rg[i].2=true then [((sAt sp rg[i].1).w,rg[i].2)] else []):=by
 unfold jD j4;rw [bg,gE hi,iM,aA];congr 1;show ([rg[i]].filter _).map _=_;rw [gu,List.filter_nil]
 by_cases e:sureB b bs rg[i].2=true
 ·rw [o4 e,o4 e];rfl
 ·rw [oZ e,oZ e];rfl
theorem ob_bu {m:Int}{bs:List (Int×Int)}(N:NetT b m sp)(O:OB sp l bs):BsU bs:=fun q hq=>by
 obtain ⟨k,hk,rfl⟩:=List.mem_iff_getElem.mp hq;have hk':k<sp.length:=by rw [←O.len];exact hk
 have h:=O.lo k hk';have e:bs.getD k (0,0)=bs[k]:=by rw [ag,gE hk];rfl
 rw [e] at h;have s:=N.all _ (dG hk');have:=s.l0;have:=s.o60;exact ⟨by omega,h.2.1,by omega⟩
theorem scPriceL:cb ["net","rings","bounds","rows"] pzB (defScope nB):=by trivial
theorem ok_priceL (F:Fun K "price_leaf" "price_leaf" nB f fd)(T:Nm mg)(G1:Fn K mg "is_sure" sSure pzb f1 fd1)(F1:cS P w K mg base CX0 3 f1 fd1 pzb spSure):cS P w K mg base CX0 4 f fd pzB spPriceL:=by
 refine F.ok scPriceL (by contradiction) (fun cdv A outer s H vs Q E hr h=>?_);obtain ⟨v,vb,u,b,m,sp,l,rg,bs,rl,rfl,hv,N,ff,hu,dl,hb,lb,k⟩:=h;obtain ⟨t,p,ys,rfl,ht,hp,hl,hy⟩:=fj hv;have b1:=N.b1;have m2:=N.m2;have fw:=ff.few;have lrl:rl.length=rg.length:=by rw [dl.length,aa]
 have few:=rg_few N ff;refine ⟨_,PSl.h (bc ⟨(l4 (iy:=3) (fr:=["net","bounds"]) (js:=[0,2]) scPriceL.nd rfl (.inl rfl) rfl (ji (pv 1)) (by trivial) rfl (by trivial) rfl (by exists nB) (by trivial) rfl (by trivial) (fun _ _ _ _ _=>⟨(dg (af (d9 (r:=nM K) dH (d9 (r:=nM K) dH (d9 (r:=nM K) dH (pv 1) bo (fun _ _=>rfl)) (d9 (r:=nM K) dH (d9 (r:=nM K) dH (pv 0) bo (fun _ _=>rfl)) bo (fun _ _=>rfl)) (fun _ _=>rfl)) bo (fun _ _=>rfl)) (af (pv 0) aC))),(nN (pt_val (pc1 G1 F1 hr (af (pv 1) (af (pv 2) (af (pv 0) aC))))))⟩))⟩
  (dh ⟨(cz (dg (af lI (af (gv iJ rfl T.ttup iA (af (jj (fr:=[]) (js:=[]) rfl (ji (pv 3)) (by trivial) rfl (by trivial) rfl (by exists nB) (by trivial) rfl (by trivial) (fun _ _ _ _ _=>⟨(pv 0),(nN (cU op_gt (d9 (r:=nM K) dH (pv 0) bo (fun _ _=>rfl)) bo (dN _)))⟩)) aC)) aC))))⟩)),?_⟩
 refine ⟨_,rfl,u,rfl,⟨_,SqL.of hu⟩,?_⟩;refine jR (K:=K) (a:=u) (xs:=rl) (fun i zs HC=>Same H HC∧zs.length≤i∧IsDs HC zs ((jD b sp bs (rg.take i)).map rowD)) ⟨Same.refl H,bK _,.nil⟩ (fun i zs HC hi ⟨e1,e2,_⟩=>⟨SqL.of (e1 _ _ hu),e2⟩) (by rw [lrl];exact eU (by omega)) (fun i x zs HC hx ⟨SC,lz,dz⟩=>?_) (fun zs HC ⟨SC,lz,dz⟩ D hD=>?_)
 ·have hi:i<rg.length:=by rw [←lrl];exact (ao.mp hx).1
  obtain ⟨d,ed,dx⟩:=dl.get hx;rw [ay,gE hi] at ed;cases ed;have dx:IsD H x (mf rg[i].2):=dx;have K1:=ff.rk _ (bH hi);have rgi:=K1.rg N (by omega);obtain ⟨pp,ep,_⟩:=K1.way;have dx0:=dx;obtain ⟨pw,yw,rfl,hpw,hlw,rw'⟩:=iE dx;obtain ⟨q0,hq0,hq0'⟩:=jJ rw' (show rg[i].2[0]? =some ⟨rg[i].1,1⟩ by rw [ep];rfl);obtain ⟨qs,hqs,hqs'⟩:=hy rg[i].1 (sAt sp rg[i].1) (iP K1.lt);refine ⟨_,rfl,_,rfl,_,rfl,.ref t,vb,.ref pw,b,m,sp,bs,rg[i].2,rfl,hv.same SC,by omega,by have:=N.b2;omega,hb.same SC,dx0.same SC,by rw [lb];exact rgi.inn,fun H4 S4=>⟨_,rfl,?_⟩⟩;have S04:=SC.trans S4;rw [sureR_next hi];cases hs:sureB b bs rg[i].2 with
  | true =>
   rw [o4 rfl];refine iteT ⟨_,rfl,t,_,_,_,rfl,rfl,SqT.of (S04 _ _ ht),aJ (j:=2) rfl,_,rfl,pw,_,_,_,rfl,rfl,SqT.of (S04 _ _ hpw),aJ (j:=0) hq0,q0,_,_,_,rfl,rfl,SqT.of (S04 _ _ hq0'),aJ (j:=0) rfl,p,_,_,_,rfl,rfl,SqT.of (S04 _ _ hp),aJ (j:=rg[i].1) hqs,qs,_,_,_,rfl,rfl,SqT.of (S04 _ _ hqs'),aJ (j:=4) rfl,_,rfl,mx,fun q5 H5 S5 h5=>⟨S04.trans S5,by rw [av];exact Nat.succ_le_succ lz,?_⟩⟩;rw [aA];exact ((dz.same S4).same S5).append (.cons (.tup h5 (.cons (.int _) (.cons (dx0.same (S04.trans S5)) .nil))) .nil)
  | false =>
   rw [oZ aP,dU];exact iteF ⟨S04,by omega,dz.same S4⟩
 ·have S3:Same H (upd HC D (.lst zs)):=SC.put hD
  have hD3:(upd HC D (.lst zs)) D=some (.lst zs):=aU;have dz3:=dz.same (Same.put (o:= .lst zs) (Same.refl HC) hD);generalize upd HC D (.lst zs)=H3 at S3 hD3 dz3 ⊢;rw [lrl,bf] at dz3;have lzs:zs.length=(jD b sp bs rg).length:=by rw [dz3.length,aa]
  have ls:(jD b sp bs rg).length≤40:=by
   unfold jD j4;rw [aa];exact aY (eV _ _) few
  refine ⟨_,rfl,D,rfl,⟨_,SqL.of hD3⟩,?_⟩;refine jR (K:=K) (a:=D) (xs:=zs) (fun i ws HC=>HC=H3∧ws.length≤i∧IsDs H3 ws ((((jD b sp bs rg).take i).filter posR).map rowD)) ⟨rfl,bK _,.nil⟩ (fun i ws HC hi ⟨e1,e2,_⟩=>⟨by rw [e1];exact SqL.of hD3,e2⟩) (by rw [lzs];exact eU (by omega)) (fun i x ws HC hx ⟨e1,lw,dw⟩=>?_) (fun ws HC ⟨e1,lw,dw⟩ D2 hD2=>?_)
  ·subst e1
   have hi:i<(jD b sp bs rg).length:=by rw [←lzs];exact (ao.mp hx).1
   obtain ⟨d,ed,dx⟩:=dz3.get hx;rw [ay,gE hi] at ed;cases ed;have dx0:=dx;obtain ⟨q,xs,rfl,hq,rx⟩:=IsD.tup_of (show IsD HC x (.tup [.int (jD b sp bs rg)[i].1,mf (jD b sp bs rg)[i].2]) from dx);obtain ⟨y2,rfl⟩:∃ y2,xs=[.int (jD b sp bs rg)[i].1,y2]:=by
    cases rx with
    | cons a rx=>cases a;cases rx with
     | cons _ rx=>cases rx;exact ⟨_,rfl⟩
   refine ⟨_,rfl,q,_,_,_,rfl,rfl,SqT.of hq,aJ (j:=0) rfl,_,_,rfl,rfl,_,rfl,?_⟩;have nx:((jD b sp bs rg).take (i+1)).filter posR=((jD b sp bs rg).take i).filter posR++(if decide ((jD b sp bs rg)[i].1 > 0)=true then [(jD b sp bs rg)[i]] else []):=by
    rw [bg,gE hi,iM];show _++[(jD b sp bs rg)[i]].filter _=_;rw [gu,List.filter_nil];rfl
   rw [nx];cases hc:decide ((jD b sp bs rg)[i].1 > 0) with
   | true =>
    rw [o4 rfl];refine iteT ⟨_,rfl,rfl,by rw [av];exact Nat.succ_le_succ lw,?_⟩;rw [aA];exact dw.append (.cons dx0 .nil)
   | false =>
    rw [oZ aP,dU];exact iteF ⟨rfl,by omega,dw⟩
  ·subst e1
   refine ⟨D2,_,rfl,SqL.of aU,fun p3 H4 S4 h4=>⟨mx,fun q5 H5 S5 h5=>?_⟩⟩;have S35:=(Same.put (o:= .lst ws) (Same.refl HC) hD2).trans (S4.trans S5);rw [lzs,bf] at dw;exact k (.ref q5) H5 (S3.trans S35) (.tup h5 (.cons (.str _) (.cons (.tup (S5 _ _ h4) (dw.same S35)) .nil)))
theorem scLeafBy:cb ["net","rings","wait","case","dead","leaf"] pzt (defScope sLeafBy):=by trivial
theorem ok_leafBy {f3:ai}{fd3:bq}(F:Fun K "leaf_by" "leaf_by" sLeafBy f fd)(G1:Fn K mg "dead_leaf" sDeadL pzj f1 fd1)(F1:cS P w K mg base CX0 4 f1 fd1 pzj nc)
  (G2:Fn K mg "price_leaf" nB pzB f2 fd2) (F2:cS P w K mg base CX0 4 f2 fd2 pzB spPriceL)
  (G3:Fn K mg "worth_of" sWorth pzx f3 fd3) (F3:cS P w K mg base CX0 3 f3 fd3 pzx spWorth):cS P w K mg base CX0 5 f fd pzt spLeafBy:=by
 refine F.ok scLeafBy (by contradiction) (fun cdv A outer s H vs Q E hr h=>?_);obtain ⟨v,u,q,w0,b,m,sp,l,rg,rg',c,rl,rfl,hv,N,R,R',hu,dl,cd,ok,k⟩:=h;have hr3:Room 3 _:=hr.mono (by decide);have ff:=R.ff N;have ff':=R'.ff N;have b1:=N.b1;have m2:=N.m2;have fw:=ff.few;refine ⟨_,PSl.h (bc ⟨(bD (i:=4) scLeafBy.nd rfl (.inl rfl) (pc1 G1 F1 hr (af (pv 0) (af (pv 3) aC))))⟩
  (bc ⟨(i7 (cU op_notN (pv 4) kL (dN _)) (df (cz (pv 4))) fv)⟩
  (bc ⟨(bD (i:=5) scLeafBy.nd rfl (.inl rfl) (pc1 G2 F2 hr (af (pv 0) (af (pv 1) (af (ixZ (pv 3)) aC)))))⟩
  (dh ⟨(cz (kE (cU op_ge (pc1 G3 F3 hr3 (af (pv 0) (af (ixZ (pv 3)) (af (pv 5) aC)))) (pv 2) (dN _)) (pv 5) kL))⟩)))),?_⟩
 refine ⟨_,rfl,_,rfl,v,q,b,m,sp,c.1,c.2,rfl,hv,by omega,by have:=N.b2;omega,cd,ok.few,fun z hz=>by rw [ok.ob.len];exact ((ff'.rk z (ok.sub z hz)).rg N (by omega)).inn,fun r H1 S1 hd=>?_⟩
 rcases hd with ⟨rfl,al⟩ | ⟨z,hz,dz,hdz⟩
 rotate_left
 ·have nn:r≠ .non:=fun e=>by rw [e] at dz;cases dz
  refine ⟨_,rfl,rfl,_,rfl,iteB (by rw [o9 nn];rfl) ?_⟩;exact ⟨_,rfl,k r H1 S1 (.inl ⟨_,dz,ma z.2,.inl ⟨z.2,rfl,(ff'.rk z (ok.sub z hz)).rg N (by omega),hdz⟩⟩)⟩
 refine ⟨_,rfl,rfl,_,rfl,oQ (by rw [o8 rfl];rfl) ?_⟩;obtain ⟨vb,u',rl',a1,a2,a3,a4⟩:=(cd.same S1).ex;refine ⟨_,rfl,_,rfl,_,rfl,q,_,_,_,rfl,rfl,SqT.of a1,aJ (j:=0) rfl,v,vb,u,b,m,sp,l,rg,c.1,rl,rfl,hv.same S1,N,ff,S1 _ _ hu,dl.same S1,a2,ok.ob.len,fun r2 H2 S2 d2=>?_⟩;obtain ⟨pok,pfew⟩:=price_ok (bs:=c.1) N ff;refine ⟨_,rfl,_,rfl,q,_,_,_,rfl,rfl,SqT.of (S2 _ _ a1),aJ (j:=0) rfl,_,rfl,v,vb,r2,b,m,sp,c.1,mq b sp c.1 rg,rfl,⟨(hv.same S1).same S2,a2.same S2,d2,by omega,by have:=N.b2;omega,ok.ob.len,N.few,ob_bu N ok.ob,N.ws,fun r hr=>⟨(pok r hr).1.inn,(pok r hr).1.one,(pok r hr).1.few,(pok r hr).2.2.1,(pok r hr).2.2.2⟩,by omega⟩,fun H3 S3=>?_⟩;refine ⟨_,rfl,_,_,rfl,rfl,_,rfl,?_⟩;have S03:=S1.trans (S2.trans S3)
 by_cases e:kf b sp c.1 (mq b sp c.1 rg) ≥ w0
 ·exact iteB (o8 e) ⟨_,rfl,k r2 H3 S03 (.inl ⟨_,d2.same S3,leafW_price _,.inr ⟨_,rfl,pok,pfew,e⟩⟩)⟩
 ·exact oQ (o9 e) (k .non H3 S03 (.inr ⟨rfl,al,by omega⟩))
abbrev sWaitOf:cP:=top 26
abbrev sWaitIn:cP:=top 24
abbrev sWaits:cP:=top 25
theorem mM:cb ["net","table","span","start","goal","least"] pzC (defScope sWaitIn):=by trivial
theorem ok_waitIn (F:Fun K "wait_in" "wait_in" sWaitIn f fd)(G1:Fn K mg "rest_by" sRest pzl f1 fd1):cS P w K mg base CX0 2 f fd pzC spWaitIn:=by
 have F1:cS P w K mg base CX0 1 f1 fd1 pzl spRest:=ok_rest G1.F;refine F.ok mM (by contradiction) (fun cdv A outer s H vs Q E hr h=>?_);obtain ⟨v,u,b,m,sp,ts,i,x,rfl,hv,hu,R,hx,k⟩:=h;obtain ⟨t,p,ys,rfl,ht,hp,hl,hy⟩:=fj hv;obtain ⟨q,hq,hq2⟩:=hy i x hx;obtain ⟨s0,s1,g0,g1⟩:=R.ends x (bh hx);refine ⟨_,PSl.h (bc ⟨(bD (i:=3) mM.nd rfl (.inl rfl) (ixZ (d9 dH (ixZ (pv 0)) (pv 2) (fun _ _=>rfl))))⟩
  (bc ⟨(bD (i:=4) mM.nd rfl (.inl rfl) (ixZ (d9 dH (ixZ (pv 0)) (pv 2) (fun _ _=>rfl))))⟩
  (bc ⟨(bD (i:=5) mM.nd rfl (.inl rfl) (ixZ (d9 dH (ixZ (pv 0)) (pv 2) (fun _ _=>rfl))))⟩
  (dh ⟨(cz (pc1 G1 F1 hr (af (ixZ (pv 0)) (af (cp iH (cp iH (d9 dH (pv 1) (pv 4) (fun _ _=>rfl)) (d9 dH (pv 1) (pv 3) (fun _ _=>rfl))) (pv 5)) aC))))⟩)))),?_⟩
 refine ⟨_,rfl,t,_,_,_,rfl,rfl,SqT.of ht,aJ (j:=2) rfl,_,rfl,p,_,_,_,rfl,rfl,SqT.of hp,aJ (j:=i) hq,q,_,_,_,rfl,rfl,SqT.of hq2,aJ (j:=0) rfl,?_⟩;refine ⟨_,rfl,t,_,_,_,rfl,rfl,SqT.of ht,aJ (j:=2) rfl,_,rfl,p,_,_,_,rfl,rfl,SqT.of hp,aJ (j:=i) hq,q,_,_,_,rfl,rfl,SqT.of hq2,aJ (j:=1) rfl,?_⟩;refine ⟨_,rfl,t,_,_,_,rfl,rfl,SqT.of ht,aJ (j:=2) rfl,_,rfl,p,_,_,_,rfl,rfl,SqT.of hp,aJ (j:=i) hq,q,_,_,_,rfl,rfl,SqT.of hq2,aJ (j:=2) rfl,?_⟩;refine ⟨_,rfl,t,_,_,_,rfl,rfl,SqT.of ht,aJ (j:=0) rfl,?_⟩;refine ⟨_,rfl,_,rfl,u,_,_,_,rfl,rfl,SqT.of hu,ow g0 g1,_,rfl,_,rfl,u,_,_,_,rfl,rfl,SqT.of hu,ow s0 s1,_,_,rfl,rfl,_,rfl,_,_,rfl,rfl,?_⟩;exact ⟨b,_,rfl,R.b1,k⟩
theorem scWaits:cb pzf pzf (defScope sWaits):=by trivial
theorem ok_waits (F:Fun K "waits_of" "waits_of" sWaits f fd)(T:Nm mg)(T2:Nt mg)(G1:Fn K mg "rest_by" sRest pzl f1 fd1)(G2:Fn K mg "wait_in" sWaitIn pzC f2 fd2):cS P w K mg base CX0 3 f fd pzf spWaits:=by
 have F2:cS P w K mg base CX0 2 f2 fd2 pzC spWaitIn:=ok_waitIn G2.F G1;refine F.ok scWaits (by contradiction) (fun cdv A outer s H vs Q E hr h=>?_);obtain ⟨v,u,b,m,sp,ts,rfl,hv,hu,R,k⟩:=h;obtain ⟨t,p,ys,rfl,ht,hp,hl,hy⟩:=fj hv;refine ⟨_,PSl.h (dh ⟨(cz (gv iJ rfl T.ttup iA (af (jj (fr:=pzf) (js:=[0,1]) rfl (jB rfl T2.range (af (eh cZ rfl T.len cQ (af (ixZ (pv 0)) aC)) aC)) (by trivial) rfl (by trivial) rfl (by exists sWaits) (by trivial) rfl (by trivial) (fun _ _ _ _ _=>⟨(pc1 G2 F2 hr (af (pv 1) (af (pv 2) (af (pv 0) aC)))),ia⟩)) aC)))⟩),?_⟩;have few:=R.few;refine ⟨_,rfl,t,_,_,_,rfl,rfl,SqT.of ht,aJ (j:=2) rfl,p,_,rfl,.inr (SqT.of hp),_,rfl,by omega,by omega,?_⟩;refine kK (n:=((ys.length:Int)).toNat) (fun i zs H2=>H2=H∧zs=(jG b ts (sp.take i)).map V.int) ⟨rfl,rfl⟩ (fun i zs H2 hi ⟨e1,e2⟩=>?_) (by rw [cM,hl];exact eU few) (fun i zs H2 hi ⟨e1,e2⟩=>?_) (fun zs H2 ⟨e1,e2⟩ D hD=>?_)
 ·rw [e2,aa];unfold jG;rw [aa,bG];omega
 ·subst e1
  rw [cM,hl] at hi;refine gB ?_;refine ⟨_,rfl,_,rfl,_,rfl,.ref t,u,b,m,sp,ts,i,sp[i],?_,hv,hu,R,gE hi,rfl,?_⟩
  ·rw [iq];rfl
  ·rw [e2];unfold jG
   rw [bg,gE hi,aA,aA];rfl
 ·subst e1
  refine ⟨D,_,rfl,SqL.of aU,fun p3 H3 S3 h3=>?_⟩;refine k p3 H3 ((Same.put (Same.refl H2) hD).trans S3) ?_;rw [h3,e2,cM,hl,bf]
theorem scWaitOf:cb pzf pzf (defScope sWaitOf):=by trivial
theorem ok_waitOf (F:Fun K "wait_of" "wait_of" sWaitOf f fd)(T:Nm mg)(T2:Nt mg)(G1:Fn K mg "waits_of" sWaits pzf f1 fd1)(F1:cS P w K mg base CX0 3 f1 fd1 pzf spWaits):cS P w K mg base CX0 4 f fd pzf ly:=by
 refine F.ok scWaitOf (by contradiction) (fun cdv A outer s H vs Q E hr h=>?_);obtain ⟨v,u,b,m,sp,ts,rfl,hv,hu,R,hw,k⟩:=h;obtain ⟨t,p,ys,e0,ht,hp,hl,hy⟩:=fj hv;subst e0;refine ⟨_,PSl.h (dh ⟨(cz (eh (call_sum rfl) rfl T2.sum boot_sum (af (pe_compT (xs:=["span","wait"]) (fr:=[]) (js:=[]) rfl (pi_zip2 rfl T2.zip (af (ixZ (pv 0)) (af (pc1 G1 F1 hr (af (pv 0) (af (pv 1) aC))) aC))) (by trivial) rfl (by trivial) (by exists sWaitOf) rfl (by trivial) (fun _ _ _ _ _=>pg_two rfl (by trivial) rfl rfl) (fun _ _ _ _ _=>⟨(cp iQ (d9 (r:=nM K) dH (pv 0) bo (fun _ _=>rfl)) (pv 1)),ia⟩)) aC)))⟩),?_⟩;have few:=R.few;refine ⟨_,rfl,t,_,_,_,rfl,rfl,SqT.of ht,aJ (j:=2) rfl,_,rfl,_,rfl,_,u,b,m,sp,ts,rfl,hv,hu,R,fun p1 H1 S1 h1=>?_⟩;refine ⟨⟨false,p⟩,⟨false,p1⟩,_,_,rfl,S1 _ _ hp,h1,?_⟩;refine oU (K:=K) (c1:=⟨false,p⟩) (c2:=⟨false,p1⟩) (xs:=ys) (ys:=(jG b ts sp).map V.int) (fun i zs H2=>Same H1 H2∧zs=((sp.take i).map fun x=>x.w * fb b ts x).map V.int) ⟨Same.refl H1,rfl⟩ (fun i zs H2 hi ⟨S2,e2⟩=>⟨S2 _ _ (S1 _ _ hp),S2 _ _ h1,?_⟩) (by unfold jG;rw [aa,aa,hl]) (by rw [hl];exact eU few) (fun i x y zs pz H2 hx hx' ⟨S2,e2⟩ hpz=>?_) (fun zs H2 ⟨S2,e2⟩ D hD=>?_)
 ·rw [e2,aa,aa,bG];omega
 ·have hi:i<sp.length:=by rw [←hl];exact (ao.mp hx).1
  obtain ⟨q,hq,hq2⟩:=hy i sp[i] (gE hi);rw [hx] at hq;cases hq;unfold jG at hx';rw [ay,ay,gE hi] at hx';cases hx';have S3:Same H1 (upd H2 pz (.tup [.ref q,.int (fb b ts sp[i])])):=S2.put hpz;generalize upd H2 pz (.tup [.ref q,.int (fb b ts sp[i])])=H3 at S3 ⊢;have hq3:=S3 _ _ (S1 _ _ hq2);obtain ⟨w0,w1⟩:=hw sp[i] (bH hi);refine gB ?_;refine ⟨_,rfl,q,_,_,_,rfl,rfl,SqT.of hq3,aJ (j:=4) rfl,_,rfl,_,_,rfl,rfl,.inl ⟨by omega,by omega⟩,S3,?_⟩;rw [e2,bg,gE hi,aA,aA];rfl
 ·refine ⟨D,_,rfl,SqL.of (by rw [e2];exact aU),?_⟩
  have e3:((sp.take ys.length).map fun x=>x.w * fb b ts x).sum=dW b ts sp:=by
   unfold dW;rw [hl,bf]
  rw [e3];exact k _ (S1.trans (S2.put hD))
abbrev kl:cP:=top 45
def lamE6:List cP→Expr
 | [_,_,_,_,_,.Return (some (.Tuple [_,_,_,.Call _ [_,e] _ _] _ _)) _]=>e
 | _=> .Constant .none 0 ⟨0,0,0,0⟩
abbrev laB:eX:=lamA5 (lamE6 (fk kl))
abbrev lbB:Expr:=lamB5 (lamE6 (fk kl))
abbrev lsB:eZ:=lamS5 (lamE6 (fk kl))
abbrev lqB:Str:=(("best_for" :Str) ++ ".<locals>.") ++ "<lambda>"
theorem LmOk.imp2 {k:Nat}{Hf Hg:Hp→Prop}{sp sp':Sp}(L:LmOk P w K mg base k f Hf sp')(h:∀ H,Hg H→Hf H)(h2:∀ v H Q,Hg H→sp [v] H Q E0→sp' [v] H Q E0):LmOk P w K mg base k f Hg sp:=⟨fun H hh g=>L.isFn H hh (h H g),fun A outer s H u v Q hr e0 g ru hsp=>L.run A outer s H u v Q hr e0 (h H g) ru (h2 v H Q g hsp)⟩
theorem LamT.stayF (k:L2.LamT T lp lq H)(hT:∀ ps,H T=some (.tbl ps)→H' T=some (.tbl ps))(hf:∀ a o u,H a=some (.frz o u)→H' a=some (.frz o u)):L2.LamT T lp lq H':=by
 rcases k with k | ⟨c,k,oc,vs,t,e,r⟩
 ·exact .inl (hT _ k)
 ·exact .inr ⟨c,hT _ k,oc,vs,t,hf _ _ _ e,r⟩
theorem LamG.cutF (F:Fz fz H)(cl:∀ c o,fz c=some o→∃ v,o.data= .cell v)(h:L2.LamG T lq H):L2.LamG T lq (ctF H fz):=by
 obtain ⟨l,e,r⟩:=h;refine ⟨l,F.cut e (fun _ z=>by cases z),fun x hx=>?_⟩;obtain ⟨oc,vs,t,e2,hd,z⟩:=r x hx;refine ⟨oc,vs,t,?_,hd,z⟩;cases q:fz x.2 with
 | none=>rw [gM q];exact e2
 | some o' =>
  obtain ⟨v,hv⟩:=cl _ o' q;rw [F _ o' q] at e2;cases e2;rw [hd] at hv;cases hv
theorem lay_all {m:Int}{rg:List (Nat×List Stp)}{t T:List Int}(N:NetT b m sp)(f:FF m sp l rg)(h1:g9 b t sp=true)(h2:g9 b T sp=true)(e:∀ k∈l,ig b t sp k=ig b T sp k):∀ k,k<sp.length→ig b t sp k=ig b T sp k:=fun k hk=>by
 by_cases c:k∈l
 ·exact e k c
 have hb:0<b:=by have:=N.b1;omega
 have m2:=N.m2;have fw:=f.few;obtain ⟨r,hr⟩:=f.all k hk c;have R:=f.rk _ hr;have rgk:=R.rg N (by omega);obtain ⟨p,ep,P⟩:=R.way;have ep:r=⟨k,1⟩::p:=ep;obtain ⟨x0,al⟩:=rgk.rnd;obtain ⟨Z1,a1⟩:=alg_way (b:=b) (ts:=t) (sp:=sp) r x0 x0 rgk.inn al;obtain ⟨Z2,a2⟩:=alg_way (b:=b) (ts:=T) (sp:=sp) r x0 x0 rgk.inn al;have same:∀ (q:List Stp),(∀ s∈q,s.i∈l)→alg (ig b t sp) q=alg (ig b T sp) q:=fun q=>by
  induction q with
  | nil=>intro _;rfl
  | cons s q ih =>
   intro hs;show s.d * ig b t sp s.i+alg _ q=s.d * ig b T sp s.i+alg _ q;rw [ih fun z hz=>hs z (au _ hz),e s.i (hs s (by simp))]
 have sp':=same p fun s hs=>(P.inn s hs).1
 rw [ep] at a1 a2;have a1:1 * ig b t sp k+alg (ig b t sp) p=tm t x0 - tm t x0+b * Z1:=a1;have a2:1 * ig b T sp k+alg (ig b T sp) p=tm T x0 - tm T x0+b * Z2:=a2;have i1:=lay_in hb h1 k (by rw [aa];exact hk);have i2:=lay_in hb h2 k (by rw [aa];exact hk);have s:=N.all _ (dG hk);have eb:(sp.map fun x=>(x.l,x.o)).getD k (0,0)=((sAt sp k).l,(sAt sp k).o):=by
  rw [ag,ay,iP hk];rfl
 rw [eb] at i1 i2;have i1:(sAt sp k).l≤ig b t sp k∧ig b t sp k≤(sAt sp k).o:=i1;have i2:(sAt sp k).l≤ig b T sp k∧ig b T sp k≤(sAt sp k).o:=i2;have ob:=s.ob;have d:ig b t sp k - ig b T sp k=b * (Z1 - Z2):=by rw [Int.mul_sub];omega
 rcases Int.lt_or_le 0 (Z1 - Z2) with z | z
 ·have:b * 1≤b * (Z1 - Z2):=gC (by omega) (by omega)
  omega
 ·rcases Int.lt_or_le (Z1 - Z2) 0 with z' | z'
  ·have:b * (Z1 - Z2)≤b * (-1):=gC (by omega) (by omega)
   omega
  ·have:Z1 - Z2=0:=by omega
   rw [this,gf] at d;omega
theorem wait_same {t T:List Int}(e:∀ k,k<sp.length→ig b t sp k=ig b T sp k):dW b t sp=dW b T sp:=by
 rw [wait_sum,wait_sum,←kD,←kD];congr 1;refine fu fun k hk=>?_
 rw [e k (bQ.mp hk)]
structure BestA (H:Hp)(q:ai)(b m:Int)(sp:List Sn)(qt:ai)(ts:List Int)(u:V)(t:Tq):Prop where
 q:H q=some (.tup [.str "best",.ref qt,.int (dW b ts sp),u])
 qt:H qt=some (.tup (ts.map V.int))
 tab:TabOk b m sp ts
 least:∀ T,g9 b T sp=true→dW b ts sp≤dW b T sp
 tree:IsD H u (jV t)
 pl:pl (jV t)=true
 good:GoodT (RBest b sp (dW b ts sp)) t (sp.map fun z=>(z.l,z.o)) 21
structure NoneA (H:Hp)(q:ai)(b:Int)(sp:List Sn)(u:V)(t:Tq):Prop where
 q:H q=some (.tup [.str "none",u])
 tree:IsD H u (jV t)
 pl:pl (jV t)=true
 no:∀ T,¬ g9 b T sp=true
 good:GoodT (RDead b sp) t (sp.map fun z=>(z.l,z.o)) 21
inductive spBest (T0:ai)(p0:Pos)(q0:Str)(T1:ai)(p1:Pos)(q1:Str)(T2 T3:ai)(vs:List V)(H:Hp)(Q:VK)(_:XK):Prop
 | mk (v:V)(b m:Int)(sp:List Sn)(_:vs=[v])(_:IsD H v (jL b m sp))(_:NetT b m sp)(_:(∀ l,FrstL m.toNat sp l→jE sp l≤4096))(_:L2.LamT T0 p0 q0 H)(_:L2.LamT T1 p1 q1 H)(_:L2.LamT T2 lpT lqT H)(_:L2.LamG T3 lqB H)(_:∀ (q:ai) (H':Hp),Kp H H'→L2.LamT T0 p0 q0 H'→L2.LamT T1 p1 q1 H'→L2.LamT T2 lpT lqT H'→L2.LamG T3 lqB H'→((∃ u t,NoneA H' q b sp u t)∨∃ qt ts u t,BestA H' q b m sp qt ts u t)→Q (.ref q) H')
theorem nu:cb ["net","found","table","wait","rings"] pza (defScope kl):=by trivial
theorem ok_best {f3 f4 f5 f6 c T0 T1 T2 T3:ai}{fd3 fd4 fd5 fd6:bq}{p0 p1:Pos}{q0 q1:Str}(F:Fun K "best_for" "best_for" kl f fd)(hcd:fd.code= .ref c)(CH:dY K c T3=true)(B:BM mg base)(T:Nm mg)(MC:∃ t,mg "MOST_CASES" =some (.int 4096 t))(ne:T0≠T1)(n2:T2≠T0)(n3:T2≠T1)(m0:T3≠T0)(m1:T3≠T1)(m2:T3≠T2)
  (G1:Fn K mg "table_for" jA pza f1 fd1) (F1:cS P w K mg base CX0 12 f1 fd1 pza (mZ T0 p0 q0 T1 p1 q1 T2))
  (G2:Fn K mg "tables_that_fit" sTabF pzn f2 fd2) (F2:cS P w K mg base CX0 11 f2 fd2 pzn (spTabF T0 p0 q0 T1 p1 q1))
  (G3:Fn K mg "tree_by" sTreeB pzo f3 fd3) (F3:cS P w K mg base CX0 11 f3 fd3 pzo (mI P w K mg base T0 p0 q0 T1 p1 q1))
  (G4:Fn K mg "leaf_by" sLeafBy pzt f4 fd4) (F4:cS P w K mg base CX0 5 f4 fd4 pzt spLeafBy)
  (G5:Fn K mg "wait_of" sWaitOf pzf f5 fd5) (F5:cS P w K mg base CX0 4 f5 fd5 pzf ly)
  (G6:Fn K mg "rings_of" ny pza f6 fd6) (F6:cS P w K mg base CX0 8 f6 fd6 pza (mJ T0 p0 q0)):cS P w K mg base CX0 13 f fd pza (spBest T0 p0 q0 T1 p1 q1 T2 T3):=by
 refine okC F hcd nu (by contradiction) (fun A outer s H vs Q E hr h=>?_);obtain ⟨v,b,m,sp,rfl,hv,N,hc,hT0,hT1,hT2,hT3,k⟩:=h;have hr4:Room 4 _:=hr.mono (by decide);have hr8:Room 8 _:=hr.mono (by decide);have hr11:Room 11 _:=hr.mono (by decide);refine ⟨_,PSl.h (bc ⟨(bD (i:=1) nu.nd rfl (.inl rfl) (pc1 G1 F1 hr (af (pv 0) aC)))⟩
  (bc ⟨(i7 (cU mB (ixZ (pv 1)) lI (dN _)) (df (cz (pv 1))) fv)⟩
  (bc ⟨(bD (i:=2) nu.nd rfl (.inl rfl) (pe_minL (js:=[0]) (fr:=pza) (x := "other") (c:=c) (P:=T3) rfl hr.depth rfl T.min (pc1 G2 F2 hr11 (af (pv 0) (af (pe_gint MC) aC))) rfl rfl CH B (fun _ _ _ _ _ _=>rfl) rfl rfl rfl (by trivial) rfl (by decide) (by exists kl) rfl (by trivial)
   (fun cl L f' cd s' H'=>pc1 G5 F5 (((hr.in1).in1).deeper _ |>.mono (by decide)) (af (pv 1) (af (pv 0) aC)))))⟩
  (bc ⟨(bD (i:=3) nu.nd rfl (.inr rfl) (pc1 G5 F5 hr4 (af (pv 0) (af (pv 2) aC))))⟩
  (bc ⟨(bD (i:=4) nu.nd rfl (.inr rfl) (pc1 G6 F6 hr8 (af (pv 0) aC)))⟩
  (dh ⟨(cz (dg (af lI (af (pv 2) (af (pv 3) (af (pe_callZ (scope:=lsB) (fr:=["net","rings","wait"]) (js:=[0,4,3]) F3 hr11 (fun _=>rfl) rfl G3.mg G3.F.kp G3.b rfl (by trivial) (by exists kl) (af (pv 0) (af (pe_lamG (T:=T3) rfl rfl CH B (by exists kl)) aC))) aC))))))⟩)))))),?_⟩
 obtain ⟨ps0,et0⟩:=LamT.tbl hT0;obtain ⟨ps1,et1⟩:=LamT.tbl hT1;obtain ⟨ps2,et2⟩:=LamT.tbl hT2;refine ⟨_,rfl,v,b,m,sp,rfl,hv,N,hc,hT0,hT1,hT2,fun q H1 st1 kp1 hT01 hT11 hT21 ans=>?_⟩;have hT31:L2.LamG T3 lqB H1:=hT3.stay (fun ps e=>st1 _ _ m0 m1 m2 e) fun a o u e=>st1 _ _ (eD e et0 nofun) (eD e et1 nofun) (eD e et2 nofun) e
 have hv1:=bY kp1.tup hv
 rcases ans with ⟨qt0,t0,hq,hqt,tok0⟩ | ⟨u,t,hq,du,plu,nof,gd⟩
 rotate_left
 ·refine ⟨_,rfl,q,_,_,_,rfl,rfl,SqT.of hq,aJ (j:=0) rfl,rfl,_,rfl,iteB (o8 rfl) ?_⟩
  exact ⟨_,rfl,k q H1 kp1 hT01 hT11 hT21 hT31 (.inl ⟨u,t,hq,du,plu,nof,gd⟩)⟩
 refine ⟨_,rfl,q,_,_,_,rfl,rfl,SqT.of hq,aJ (j:=0) rfl,rfl,_,rfl,oQ (o9 nofun) ?_⟩;obtain ⟨qs0,eu0⟩:=LamT.tbl hT01;obtain ⟨qs1,eu1⟩:=LamT.tbl hT11;refine ⟨_,rfl,v,b,m,sp,4096,rfl,hv1,N,by decide,hc,hT01,hT11,fun L tv l rg Ts H2 st2 kp2 hT02 hT12 hL dL R tabs few hold=>?_⟩;have fz2:∀ a o u,H1 a=some (.frz o u)→H2 a=some (.frz o u):=fun a o u e=>st2 _ _ (eD e eu0 nofun) (eD e eu1 nofun) e
 have hT22:L2.LamT T2 lpT lqT H2:=LamT.stayF hT21 (fun ps e=>st2 _ _ n2 n3 e) fz2;have hT32:L2.LamG T3 lqB H2:=hT31.stay (fun ps e=>st2 _ _ m0 m1 e) fz2;have hv2:=bY kp2.tup hv1;have ff:=R.ff N;have holdA:=hold (.inr rfl);have ltv:tv.length=Ts.length:=by rw [dL.length];unfold eQ;rw [aa]
 have hne:tv≠[]:=fun z=>by
  obtain ⟨t,ht,_⟩:=holdA t0 tok0.2.2;rw [z] at ltv;rw [iN.mp ltv.symm] at ht;cases ht
 have nm1:=N.m1;have rdyT:∀ t∈Ts,Rdy b t sp:=fun t ht=>N.rdy (by have:=(tabs t ht).1;omega)
 have getT:∀ (i:Nat) x,tv[i]? =some x→∃ qx,x= .ref qx∧H2 qx=some (.tup ((Ts.getD i []).map V.int))∧Ts.getD i []∈Ts:=fun i x hx=>by
  have hi:i<Ts.length:=by rw [←ltv];exact (ao.mp hx).1
  obtain ⟨d,ed,dx⟩:=dL.get hx;unfold eQ at ed;rw [ay,gE hi] at ed;cases ed;obtain ⟨qx,xs,rfl,hqx,rx⟩:=dx.tup_of;have:=rx.ints_of;subst this;have e:Ts.getD i []=Ts[i]:=by rw [ag,gE hi];rfl
  rw [e];exact ⟨qx,rfl,hqx,bH hi⟩
 obtain ⟨qs3,eu3⟩:=hT32.tbl;refine ⟨L,tv,fun i=>dW b (Ts.getD i []) sp,rfl,hL,hne,hT32,fun i x hx H3 tb=>?_,fun H4 i x tb4 hT34 hx mini=>?_⟩
 ·obtain ⟨qx,rfl,hqx,memx⟩:=getT i x hx
  have nqx:qx≠T3:=eD hqx eu3 nofun;refine ⟨_,rfl,_,rfl,v,qx,b,m,sp,_,rfl,bY (fun a xs e=>tb _ _ (eD e eu3 nofun) e) hv2,tb _ _ nqx hqx,rdyT _ memx,N.ws,fun H' S'=>⟨S',rfl⟩⟩
 obtain ⟨qx,rfl,hqx,memx⟩:=getT i x hx;obtain ⟨ts,ets⟩:∃ ts,ts=Ts.getD i []:=⟨_,rfl⟩;have mini:∀ j,j<tv.length→dW b (Ts.getD i []) sp≤dW b (Ts.getD j []) sp:=mini;rw [←ets] at hqx memx mini;have tok:=tabs ts memx;have kp4:Kp H2 H4:=⟨fun a xs e=>tb4 _ _ (eD e eu3 nofun) e,fun a xs e=>tb4 _ _ (eD e eu3 nofun) e,fun a _ xs e=>tb4 _ _ (eD e eu3 nofun) e⟩;have least:∀ T',g9 b T' sp=true→dW b ts sp≤dW b T' sp:=fun T' hT'=>by
  obtain ⟨t',ht',el⟩:=holdA T' hT';rw [←wait_same (lay_all N ff (tabs t' ht').2.2 hT' el)];obtain ⟨j,hj,rfl⟩:=List.mem_iff_getElem.mp ht';have:=mini j (by omega);have e:Ts.getD j []=Ts[j]:=by rw [ag,gE hj];rfl
  rw [e] at this;exact this
 have fz4:∀ a o u,H2 a=some (.frz o u)→H4 a=some (.frz o u):=fun a o u e=>tb4 _ _ (eD e eu3 nofun) e
 have hT04:L2.LamT T0 p0 q0 H4:=LamT.stayF hT02 (fun ps e=>tb4 _ _ (cw m0) e) fz4;have hT14:L2.LamT T1 p1 q1 H4:=LamT.stayF hT12 (fun ps e=>tb4 _ _ (cw m1) e) fz4;have hT24:L2.LamT T2 lpT lqT H4:=LamT.stayF hT22 (fun ps e=>tb4 _ _ (cw m2) e) fz4;have hv4:=bY kp4.tup hv2;have hqx4:=kp4.tup _ _ hqx;refine ⟨_,rfl,_,rfl,v,qx,b,m,sp,ts,rfl,hv4,hqx4,rdyT ts memx,N.ws,fun H5 S5=>?_⟩;obtain ⟨w0,ew0⟩:∃ w0,w0=dW b ts sp:=⟨_,rfl⟩;rw [←ew0];refine ⟨_,rfl,v,b,m,sp,rfl,hv4.same S5,N,LamT.same S5 hT04,fun u6 rl l6 rg6 H6 tb6 hT06 fr6 hu6 dl6 R6=>?_⟩;have hT05:=LamT.same S5 hT04;obtain ⟨qs5,eu5⟩:=LamT.tbl hT05;have kp6:Kp H5 H6:=Tb.kp hT05 tb6;have fz6:∀ a o u,H5 a=some (.frz o u)→H6 a=some (.frz o u):=fun a o u e=>tb6 _ _ (eD e eu5 nofun) e
 have hT16:L2.LamT T1 p1 q1 H6:=LamT.stayF (LamT.same S5 hT14) (fun ps e=>tb6 _ _ (cw ne) e) fz6;have hT26:L2.LamT T2 lpT lqT H6:=LamT.stayF (LamT.same S5 hT24) (fun ps e=>tb6 _ _ n2 e) fz6;have hT36:L2.LamG T3 lqB H6:=(hT34.same S5).stay (fun ps e=>tb6 _ _ m0 e) fz6;have hv6:=bY kp6.tup (hv4.same S5);have hqx6:=kp6.tup _ _ (S5 _ _ hqx4);refine ⟨_,rfl,_,rfl,_,rfl,hT36,fun g cl' H7 tb7 hT37 LF LE=>⟨cl',[v,.ref u6,.int w0],LE,rfl,fun fz C0 N0=>?_⟩⟩;obtain ⟨qs6,eu6⟩:=hT36.tbl;have fz7:∀ a o u,H6 a=some (.frz o u)→H7 a=some (.frz o u):=fun a o u e=>tb7 _ _ (eD e eu6 nofun) e
 have kp7:Kp H6 H7:=⟨fun a xs e=>tb7 _ _ (eD e eu6 nofun) e,fun a xs e=>tb7 _ _ (eD e eu6 nofun) e,fun a _ xs e=>tb7 _ _ (eD e eu6 nofun) e⟩;have SP:=mO N0;have hT08:L2.LamT T0 p0 q0 (ptF H7 fz):=LamT.same SP (LamT.stayF hT06 (fun ps e=>tb7 _ _ (cw m0) e) fz7);have hT18:L2.LamT T1 p1 q1 (ptF H7 fz):=LamT.same SP (LamT.stayF hT16 (fun ps e=>tb7 _ _ (cw m1) e) fz7);have hT28:L2.LamT T2 lpT lqT (ptF H7 fz):=LamT.same SP (LamT.stayF hT26 (fun ps e=>tb7 _ _ (cw m2) e) fz7);have hT38:L2.LamG T3 lqB (ptF H7 fz):=hT37.same SP;have LF:LamF lqB laB lbB lsB cl' g H7:=LF;have LF8:=LF.same SP;have hv8:=(bY kp7.tup hv6).same SP;have hu8:ptF H7 fz u6=some (.lst rl):=SP _ _ (kp7.lst _ _ hu6);have dl8:IsDs (ptF H7 fz) rl (rg6.map wayQ):=(wayQ_kp kp7 dl6).same SP;obtain ⟨qs8,eu8⟩:=LamT.tbl hT08;obtain ⟨qt8,ev8⟩:=LamT.tbl hT18;have nm2:=N.m2;have LM:LmOk P w K mg base 6 g (StayT T0 T1 (ptF H7 fz)) (mL v b m sp (RBest b sp w0)):=by
  refine LmOk.imp2 (sp':=fun vs Hx Qx E=>(Hx u6=some (.lst rl)∧IsDs Hx rl (rg6.map wayQ))∧mL v b m sp (RBest b sp w0) vs Hx Qx E) (lam_run (k:=5) (q:=lqB) (params:=laB) (body:=lbB) (scope:=lsB) (cl:=cl') (fz:=fz) (x := "case") (fr:=["net","rings","wait"]) (ws:=[v,.ref u6,.int w0]) (fun _ _ _ _=>rfl) rfl rfl rfl (by trivial) rfl (by decide) C0 (fun y hy hf=>?_) (by trivial) (fun L' cd A' outer' s' H' hr'=>pc1 G4 F4 hr' (af (pv 1) (af (pv 2) (af (pv 3) (af (pv 0) aC))))) (fun v' Hx Qx _ Zx hsp=>?_)) (fun Hx st=>?_) fun v' Hx Qx st hsp=>⟨⟨?_,?_⟩,hsp⟩
  ·have e:y.1 = "net" ∨y.1 = "rings" ∨y.1 = "wait" := (by trivial:∀ y:Str×cx,y∈lsB.names→y.2=cx.free→y.1 = "net" ∨y.1 = "rings" ∨y.1 = "wait") y hy hf
   rcases e with e | e | e
   ·obtain ⟨cc,_,_,ec,_⟩:=C0.val 0 "net" v rfl rfl
    exact ⟨cc,by rw [e];exact ec⟩
   ·obtain ⟨cc,_,_,ec,_⟩:=C0.val 1 "rings" (.ref u6) rfl rfl
    exact ⟨cc,by rw [e];exact ec⟩
   ·obtain ⟨cc,_,_,ec,_⟩:=C0.val 2 "wait" (.int w0) rfl rfl
    exact ⟨cc,by rw [e];exact ec⟩
  ·obtain ⟨⟨hux,dlx⟩,l2,rg2,q2,c2,e2,R2,cd2,ok2,hvx,kk⟩:=hsp
   cases e2;have KX:=ctF_kp Zx;have el:l2=l6:=FrstL.one R2.fr R6.fr;subst el;have f6:=R6.ff N;have f2:=R2.ff N;refine ⟨_,rfl,_,rfl,_,rfl,_,rfl,v,u6,q2,w0,b,m,sp,l2,rg6,rg2,c2,rl,rfl,bY KX.tup hvx,N,R6,R2,KX.lst _ _ hux,wayQ_kp KX dlx,cd2.kp KX,ok2,fun r H' S' ans fr'=>?_⟩;refine kk r _ (ptF_back Zx S') ?_
   rcases ans with ⟨d,dd,dw,rb⟩ | ⟨rfl,al,lt⟩
   ·exact .inl ⟨d,IsD.keepP (Same.tupK (mO fr')) dd dw.1,dw,rb⟩
   ·refine .inr ⟨rfl,al,eM fun nz=>?_⟩
    have ht2:=f2.acy.nodup.2;have fix:∀ j∈l2,(c2.1.getD j (0,0)).1=(c2.1.getD j (0,0)).2:=fun j hj=>by
     have h1:=(ok2.ob.lo j (ht2 j hj)).2.1;have h2:¬ ((c2.1.getD j (0,0)).1<(c2.1.getD j (0,0)).2):=fun z=>nz ⟨j,hj,z⟩
     omega
    obtain ⟨ts',hf',hw'⟩:=price_tight N f6 ok2.ob (fx_other N f6 f2 ok2.ob ⟨fix,ok2.all al⟩);have:=least ts' hf';omega
  ·have fz':∀ a o u,ptF H7 fz a=some (.frz o u)→Hx a=some (.frz o u):=fun a o u e=>st a _ (eD e eu8 nofun) (eD e ev8 nofun) e
   obtain ⟨pm,cd,ct,e,oc,vs,t,ec,r⟩:=LF8;exact ⟨⟨pm,cd,ct,fz' _ _ _ e,oc,vs,t,fz' _ _ _ ec,r⟩,fun a o z=>fz' _ _ _ (nP z)⟩
  ·exact st _ _ (eD hu8 eu8 nofun) (eD hu8 ev8 nofun) hu8
  ·exact IsDs.keepP (fun a xs e=>st _ _ (eD e eu8 nofun) (eD e ev8 nofun) e) dl8 (j6 rg6 fun q _=>kU _ _)
 refine ⟨v,g,b,m,sp,RBest b sp w0,rfl,hv8,N,hc,hT08,hT18,LM,fun u t H9 st9 kp9 hT09 hT19 du plu gd Z9=>?_⟩;have KC:=ctF_kp Z9;have fz9:∀ a o u,ptF H7 fz a=some (.frz o u)→H9 a=some (.frz o u):=fun a o u e=>st9 _ _ (eD e eu8 nofun) (eD e ev8 nofun) e
 have hT29:L2.LamT T2 lpT lqT H9:=LamT.stayF hT28 (fun ps e=>st9 _ _ n2 n3 e) fz9;have hT39:L2.LamG T3 lqB H9:=hT38.stay (fun ps e=>st9 _ _ m0 m1 e) fz9;refine ⟨szZ4,fun qa HA SA hA=>?_⟩;have kpA:Kp H HA:=kp1.trans (kp2.trans (kp4.trans ((Same.kp S5).trans (kp6.trans (kp7.trans ((Same.kp SP).trans (kp9.trans (KC.trans (Same.kp SA)))))))));have hqxA:HA qx=some (.tup (ts.map V.int)):=SA _ _ (KC.tup _ _ (kp9.tup _ _ (SP _ _ (kp7.tup _ _ hqx6))));refine k qa HA kpA (LamT.same SA (LamT.cutF Z9 C0.cell hT09)) (LamT.same SA (LamT.cutF Z9 C0.cell hT19)) (LamT.same SA (LamT.cutF Z9 C0.cell hT29)) ((LamG.cutF Z9 C0.cell hT39).same SA) (.inr ⟨qx,ts,u,t,?_,hqxA,tok,least,(IsD.keepP KC.tup du plu).same SA,plu,?_⟩)
 ·rw [←ew0];exact hA
 ·rw [←ew0];exact gd
def wgt (f:Int→Int)(x:Sn):Sn:=⟨x.s,x.g,x.l,x.o,f x.w⟩
theorem lR {f:Int→Int}:g9 b ts (sp.map (wgt f))=g9 b ts sp:=by
 unfold g9;rw [List.any_map];rfl
theorem wait_wgt {b n:Int}{ts:List Int}:∀ (sp:List Sn),dW b ts (sp.map (wgt (· * n)))=dW b ts sp * n
 | []=>(eP n).symm
 | x::sp=>by
  have e:=wait_wgt (b:=b) (n:=n) (ts:=ts) sp;have a:∀ (y:Sn) (l:List Sn),dW b ts (y::l)=y.w * fb b ts y+dW b ts l:=fun _ _=>rfl
  rw [bX,a,a,e,Int.add_mul];show x.w * n * fb b ts x+_=_;rw [Int.mul_right_comm]
theorem wait_cons {y:Sn}{l:List Sn}:dW b ts (y::l)=y.w * fb b ts y+dW b ts l:=rfl
theorem fits_cons {y:Sn}{l:List Sn}:g9 b ts (y::l)=true↔fb b ts y≤y.o - y.l∧g9 b ts l=true:=by
 unfold g9;rw [iB,Bool.not_or,dB];unfold brk;rw [gT,decide_eq_false_iff_not,Int.not_lt]
theorem net_wgt {m:Int}{f:Int→Int}(N:NetT b m sp)(h:∀ x∈sp,0≤f x.w∧f x.w≤1000000000000):NetT b m (sp.map (wgt f)):=⟨N.b1,N.b2,N.m1,N.m2,by rw [aa];exact N.few,fun y hy=>by
 obtain ⟨x,hx,rfl⟩:=aV.mp hy;obtain ⟨a,c⟩:=h x hx;have s:=N.all x hx;exact ⟨s.s0,s.s1,s.g0,s.g1,s.ne,s.l0,s.lo,s.ob,s.o60,a,c⟩⟩
theorem l9 {m L:Int}{f:Int→Int}(h:kz m sp L):kz m (sp.map (wgt f)) L:=by
 rcases h with h | h
 ·refine .inl fun y hy=>?_
  obtain ⟨x,hx,rfl⟩:=aV.mp hy;exact h x hx
 ·refine .inr fun k a c=>?_
  obtain ⟨x,hx,p,q⟩:=h k a c;exact ⟨_,aV.mpr ⟨x,hx,rfl⟩,p,q⟩
theorem narrow_wide {m L L':Int}{x:Sn}(h:kz m sp L)(l:L≤L')(hx:x.o - x.l≤L'):kz m (x::sp) L':=by
 rcases h with h | h
 ·refine .inl fun y hy=>?_
  rcases az.mp hy with rfl | hy
  ·exact hx
  ·have:=h y hy;omega
 ·refine .inr fun k a c=>?_
  obtain ⟨x,hx,p,q⟩:=h k a c;exact ⟨x,au _ hx,by omega,q⟩
theorem few_wide {m:Int}(N:NetT b m sp)(m5:m≤5)(m2:2≤m)(na:kz m sp (if ie m - 1<6 then 6 else ie m - 1)):∀ l,FrstL m.toNat sp l→jE sp l≤4096:=by
 intro l F;have em:((m.toNat:Nat):Int)=m:=fB (by omega);have nar:=oh N.ends (by rw [em];exact na) F;have few:=F.few N.ends (by omega);have:=(nS (sp:=sp) l fun i hi=>by
  obtain ⟨a,c⟩:=nar i hi;refine ⟨?_,c⟩;have:=(N.all _ (dG a)).lo;show 0≤(sAt sp i).o - (sAt sp i).l;omega).2
 have p:∀ m∈aR 6,2≤m→∀ k∈aR m,((if ie (m:Nat) - 1<6 then 6 else ie (m:Nat) - 1)+1) ^ k≤4096:=by trivial
 have p:=p m.toNat (bQ.mpr (by omega)) (by omega) l.length (bQ.mpr few);rw [em] at p;exact Int.le_trans this p
def Lst (b:Int)(sp:List Sn)(w:Int):Prop:=(∃ t,g9 b t sp=true∧dW b t sp=w)∧∀ T,g9 b T sp=true→w≤dW b T sp
theorem Lst.one {w w':Int}(h:Lst b sp w)(h':Lst b sp w'):w=w':=by
 obtain ⟨⟨t,a,c⟩,d⟩:=h;obtain ⟨⟨t',a',c'⟩,d'⟩:=h';have:=d t' a';have:=d' t a;omega
theorem Lst.wgt {n w:Int}(n0:0≤n)(h:Lst b sp w):Lst b (sp.map (wgt (· * n))) (w * n):=by
 obtain ⟨⟨t,a,c⟩,d⟩:=h;refine ⟨⟨t,by rw [lR];exact a,by rw [wait_wgt,c]⟩,fun T hT=>?_⟩;rw [lR] at hT;rw [wait_wgt];exact Int.mul_le_mul_of_nonneg_right (d T hT) n0
theorem Lst.more {w w':Int}{x:Sn}(b1:1≤b)(x0:0≤x.w)(h:Lst b sp w)(h':Lst b (x::sp) w'):w≤w':=by
 obtain ⟨⟨t,a,c⟩,_⟩:=h';rw [fits_cons] at a;have:=h.2 t a.2;rw [wait_cons] at c;have:0≤x.w * fb b t x:=Int.mul_nonneg x0 (cG _ (by omega));omega
theorem nil_one {m:Int}(N:NetT b m sp)(h:m<2):sp=[]:=by
 cases sp with
 | nil=>rfl
 | cons x l =>
  have s:=N.all x (by simp);have:=s.s0;have:=s.s1;have:=s.g0;have:=s.g1;have:=s.ne;omega
abbrev sWeigh:cP:=top 59
abbrev sAsk:cP:=top 60
inductive spWeigh (vs:List V)(H:Hp)(Q:VK)(_:XK):Prop
 | mk (v:V)(b m n:Int)(sp:List Sn)(_:vs=[v,.int n])(_:IsD H v (jL b m sp))(_:sp.length≤40)(_:0≤n)(_:n≤10 ^ 4)(_:(∀ x∈sp,0≤x.w∧x.w≤1000000000000))(_:∀ (v':V) (H':Hp),Same H H'→IsD H' v' (jL b m (sp.map (wgt (· * n))))→Q v' H')
inductive spAsk (T0:ai)(p0:Pos)(q0:Str)(T1:ai)(p1:Pos)(q1:Str)(T2 T3:ai)(vs:List V)(H:Hp)(Q:VK)(_:XK):Prop
 | mk (v:V)(b m:Int)(sp:List Sn)(_:vs=[v])(_:IsD H v (jL b m sp))(_:NetT b m sp)(_:(∀ l,FrstL m.toNat sp l→jE sp l≤4096))(_:(∃ t,g9 b t sp=true))(_:L2.LamT T0 p0 q0 H)(_:L2.LamT T1 p1 q1 H)(_:L2.LamT T2 lpT lqT H)(_:L2.LamG T3 lqB H)(_:∀ (w:Int) (H':Hp),Kp H H'→L2.LamT T0 p0 q0 H'→L2.LamT T1 p1 q1 H'→L2.LamT T2 lpT lqT H'→L2.LamG T3 lqB H'→Lst b sp w→Q (.int w) H')
theorem scWeigh:cb ["_law_net_here","_law_number","_law_spans"] pzD (defScope sWeigh):=by trivial
theorem ok_weigh (F:Fun K "_law_weighed" "_law_weighed" sWeigh f fd)(T:Nm mg):cS P w K mg base CX0 1 f fd pzD spWeigh:=by
 refine F.ok scWeigh (by contradiction) (fun cdv A outer s H vs Q E hr h=>?_);obtain ⟨v,b,m,n,sp,rfl,hv,few,n0,n1,hw,k⟩:=h;obtain ⟨t,p,ys,rfl,ht,hp,hl,hy⟩:=fj hv;refine ⟨_,PSl.h (bc ⟨(l4 (iy:=2) (fr:=["_law_number"]) (js:=[1]) scWeigh.nd rfl (.inl rfl) rfl (jO (ixZ (pv 0))) (by trivial) rfl (by trivial) rfl (by exists sWeigh) (by trivial) rfl (by trivial) (fun _ _ _ _ _=>⟨(cp (r:=rCatA K) km (mR sl_tupN (pv 0) po_none (po_some bo)) (dg (af (cp iQ (d9 (r:=nM K) dH (pv 0) bo (fun _ _=>rfl)) (pv 1)) aC))),ia⟩))⟩
  (dh ⟨(cz (dg (af (ixZ (pv 0)) (af (ixZ (pv 0)) (af (gv iJ rfl T.ttup iA (af (pv 2) aC)) aC)))))⟩)),?_⟩
 refine ⟨_,rfl,t,_,_,_,rfl,rfl,SqT.of ht,aJ (j:=2) rfl,p,rfl,⟨_,SqT.of hp⟩,?_⟩;refine ka (K:=K) (a:=p) (xs:=ys) (fun i zs H2=>Same H H2∧IsDs H2 zs (eQ Sn.row ((sp.take i).map (wgt (· * n))))) ⟨Same.refl H,.nil⟩ (fun i zs H2 hi ⟨e1,e2⟩=>?_) (by rw [hl];exact eU (aY few (by decide))) (fun i x zs H2 hx ⟨e1,e2⟩=>?_) (fun zs H2 ⟨e1,e2⟩ D hD=>?_)
 ·refine ⟨SqT.of (e1 _ _ hp),?_⟩
  rw [e2.length];unfold eQ;rw [aa,aa,bG];omega
 ·have hi:i<sp.length:=by rw [←hl];exact (ao.mp hx).1
  obtain ⟨q,hq,hq2⟩:=hy i sp[i] (gE hi);rw [hx] at hq;cases hq;refine gB ?_;have hq2:=e1 _ _ hq2;refine ⟨_,rfl,_,rfl,q,_,rfl,hq2,fun c3 H3 S3 h3=>?_⟩;refine ⟨_,rfl,q,_,_,_,rfl,rfl,SqT.of (S3 _ _ hq2),aJ (j:=4) rfl,_,rfl,_,_,rfl,rfl,.inr ⟨by omega,by omega⟩,szZ1,fun c4 H4 S4 h4=>?_⟩;refine ⟨c3,c4,_,_,rfl,rfl,S4 _ _ h3,h4,szZ5,fun q5 H5 S5 h5=>?_⟩;have S25:=(S3.trans S4).trans S5;refine ⟨e1.trans S25,?_⟩;unfold eQ;rw [bg,gE hi,aA,aA];exact (e2.same S25).append (.cons (.tup h5 (IsDs.ints (wgt (· * n) sp[i]).row)) .nil)
 ·have S3:Same H2 (upd H2 D (.lst zs)):=Same.put (Same.refl H2) hD
  have h3:(upd H2 D (.lst zs)) D=some (.lst zs):=aU;generalize upd H2 D (.lst zs)=H3 at S3 h3 ⊢;have ht3:=S3 _ _ (e1 _ _ ht);refine ⟨_,rfl,t,_,_,_,rfl,rfl,SqT.of ht3,aJ (j:=0) rfl,_,rfl,t,_,_,_,rfl,rfl,SqT.of ht3,aJ (j:=1) rfl,_,rfl,D,_,rfl,SqL.of h3,fun p4 H4 S4 h4=>⟨(by show 3≤bj;decide),fun t5 H5 S5 h5=>?_⟩⟩;rw [hl,bf] at e2;have S35:=S3.trans (S4.trans S5);exact k (.ref t5) H5 (e1.trans S35) (.tup h5 (.cons (.int b) (.cons (.int m) (.cons (.tup (S5 _ _ h4) (e2.same S35)) .nil))))
theorem scAsk:cb ["_law_net_here","_law_told"] pzE (defScope sAsk):=by trivial
theorem ok_ask {T0 T1 TT T3:ai}{p0 p1:Pos}{q0 q1:Str}(F:Fun K "_law_asked" "_law_asked" sAsk f fd)(T:Nm mg)(G1:Fn K mg "best_for" kl pza f1 fd1)(F1:cS P w K mg base CX0 13 f1 fd1 pza (spBest T0 p0 q0 T1 p1 q1 TT T3)):cS P w K mg base CX0 14 f fd pzE (spAsk T0 p0 q0 T1 p1 q1 TT T3):=by
 refine F.ok scAsk (by contradiction) (fun cdv A outer s H vs Q E hr h=>?_);obtain ⟨v,b,m,sp,rfl,hv,N,cas,⟨t0,f0⟩,hT0,hT1,hT2,hT3,k⟩:=h;refine ⟨_,PSl.h (bc ⟨(bD (i:=1) scAsk.nd rfl (.inl rfl) (pc1 G1 F1 hr (af (pv 0) aC)))⟩
  (bc ⟨(i7 (PW.pt (pw_or (pt_not (pt_val (pe_isTup T (pv 1)))) (pw_or (cU op_ne (eh cZ rfl T.len cQ (af (pv 1) aC)) bo (dN _)) (pw_or1 (cU op_ne (ixZ (pv 1)) lI (dN _)))))) (df (cz kL)) fv)⟩
  (dh ⟨(cz (ixZ (pv 1)))⟩))),?_⟩
 refine ⟨_,rfl,v,b,m,sp,rfl,hv,N,cas,hT0,hT1,hT2,hT3,fun q3 H3 kp a0 a1 a2 a3 ans=>?_⟩
 rcases ans with ⟨_,_,an⟩ | ⟨qt,ts,u3,t,ba⟩
 ·exact o6 f0 (an.no t0)
 have hq3:=ba.q;have ty:tyn H3 (.ref q3)=some "tuple" := by simp only [tyn];rw [hq3]
 refine ⟨_,rfl,_,_,rfl,ty,_,rfl,oQ rfl ?_⟩;refine ⟨_,rfl,q3,_,rfl,.inr (SqT.of hq3),rfl,_,rfl,oQ rfl ?_⟩;refine ⟨_,rfl,q3,_,_,_,rfl,rfl,SqT.of hq3,aJ (j:=0) rfl,rfl,_,rfl,oQ rfl ?_⟩;exact ⟨_,rfl,q3,_,_,_,rfl,rfl,SqT.of hq3,aJ (j:=2) rfl,k _ H3 kp a0 a1 a2 a3 ⟨⟨ts,ba.tab.2.2,rfl⟩,ba.least⟩⟩
abbrev sLaw:cP:=top 61
inductive spLawTs (Ts:List ai)(K:ak)(vs:List V)(H:Hp)(Q:VK)(_:XK):Prop
 | mk (a:ai)(ns:List Int)(_:vs=[.ref a])(_:SqL K H a (ns.map V.int))(_:(∀ T∈Ts,H T=some (.tbl #[])))(_:∀ H',Q (.bl true) H')
structure L4 (T0:ai)(p0:Pos)(q0:Str)(T1:ai)(p1:Pos)(q1:Str)(T2 T3:ai)(H:Hp):Prop where
 a:L2.LamT T0 p0 q0 H
 b:L2.LamT T1 p1 q1 H
 c:L2.LamT T2 lpT lqT H
 d:L2.LamG T3 lqB H
theorem L4.mv {T0 T1 T2 T3 p:ai}{p0 p1:Pos}{q0 q1:Str}{n:Int}(h:L4 T0 p0 q0 T1 p1 q1 T2 T3 H)(hp:H p=some (.lst [.int n]))(M:Mv p H H'):L4 T0 p0 q0 T1 p1 q1 T2 T3 H':=by
 have e:∀ a o,H a=some o→o≠ .lst [.int n]→H' a=some o:=fun a o e d=>M.1 a o (fun z=>by rw [z,hp] at e;exact d (bZ e).symm) e
 have e1:∀ (T:ai) ps,H T=some (.tbl ps)→H' T=some (.tbl ps):=fun T ps z=>e _ _ z nofun
 have e2:∀ a o u,H a=some (.frz o u)→H' a=some (.frz o u):=fun a o u z=>e _ _ z nofun
 exact ⟨LamT.stayF h.a (e1 _) e2,LamT.stayF h.b (e1 _) e2,LamT.stayF h.c (e1 _) e2,h.d.stay (e1 _) e2⟩
theorem L4.same {T0 T1 T2 T3:ai}{p0 p1:Pos}{q0 q1:Str}(h:L4 T0 p0 q0 T1 p1 q1 T2 T3 H)(S:Same H H'):L4 T0 p0 q0 T1 p1 q1 T2 T3 H':=⟨LamT.same S h.a,LamT.same S h.b,LamT.same S h.c,h.d.same S⟩
theorem nq:cb ["_law_script","_law_net_here","_law_times","_law_spans","_law_least","_law_pot_here","_law_number","_law_more_here","_law_wider","_law_other"] ["_law_script"] (defScope sLaw):=by trivial
theorem ok_law {f3 f4 f5 f6 f7 T0 T1 TT T3:ai}{fd3 fd4 fd5 fd6 fd7:bq}{p0 p1:Pos}{q0 q1:Str}(F:Fun K "law" "law" sLaw f fd)(T:Nm mg)
  (G1:Fn K mg "_law_net" sNetH pzq f1 fd1) (F1:cS P w K mg base CX0 4 f1 fd1 pzq (spNetH K))
  (G2:Fn K mg "_law_asked" sAsk pzE f2 fd2) (F2:cS P w K mg base CX0 14 f2 fd2 pzE (spAsk T0 p0 q0 T1 p1 q1 TT T3))
  (G3:Fn K mg "_law_pot" sPotT pze f3 fd3) (F3:cS P w K mg base CX0 2 f3 fd3 pze (spPotT K))
  (G4:Fn K mg "_law_take" sTake pzc f4 fd4)
  (G5:Fn K mg "_law_weighed" sWeigh pzD f5 fd5) (F5:cS P w K mg base CX0 1 f5 fd5 pzD spWeigh)
  (G6:Fn K mg "_law_more" sMore pzk f6 fd6) (F6:cS P w K mg base CX0 3 f6 fd6 pzk spMoreT)
  (G7:Fn K mg "_law_wait" sWaitN pzg f7 fd7) (F7:cS P w K mg base CX0 2 f7 fd7 pzg ly):cS P w K mg base CX0 15 f fd ["_law_script"] (spLawTs [T0,T1,TT,T3] K):=by
 have F4:cS P w K mg base CX0 1 f4 fd4 pzc mh:=kX G4.F;refine F.ok nq (by contradiction) (fun cdv A outer s H vs Q E hr h=>?_);obtain ⟨a,ns,rfl,ha,hT,k⟩:=h;have hr1:Room 1 _:=hr.mono (by decide);have hr2:Room 2 _:=hr.mono (by decide);have hr3:Room 3 _:=hr.mono (by decide);have hr4:Room 4 _:=hr.mono (by decide);have hr14:Room 14 _:=hr.mono (by decide);refine ⟨_,PSl.h (bc ⟨(ps_asg (pc1 G1 F1 hr4 (af (pv 0) (af bo (af bo (af bo aC))))) (pg_tup rfl (iG (dX (i:=1) nq.nd rfl (.inl rfl)) (iG (dX (i:=2) nq.nd rfl (.inl rfl)) nU))))⟩
  (bc ⟨(l4 (iy:=3) (fr:=[]) (js:=[]) nq.nd rfl (.inl rfl) rfl (jO (ixZ (pv 1))) (by trivial) rfl (by trivial) rfl (by exists sLaw) (by trivial) rfl (by trivial) (fun _ _ _ _ _=>⟨(cp (r:=rCatA K) km (mR sl_tupN (pv 0) po_none (po_some bo)) (dg (af (cp jn (d9 (r:=nM K) dH (pv 0) bo (fun _ _=>rfl)) (cp nV bo bo)) aC))),ia⟩))⟩
  (bc ⟨(bD (i:=1) nq.nd rfl (.inl rfl) (dg (af (ixZ (pv 1)) (af (ixZ (pv 1)) (af (gv iJ rfl T.ttup iA (af (pv 3) aC)) aC)))))⟩
  (bc ⟨(bD (i:=4) nq.nd rfl (.inl rfl) (pc1 G2 F2 hr14 (af (pv 1) aC)))⟩
  (bc ⟨(bD (i:=5) nq.nd rfl (.inl rfl) (pc1 G3 F3 hr2 (af (pv 0) (af bo aC))))⟩
  (bc ⟨(bD (i:=6) nq.nd rfl (.inl rfl) (cp fm bo (pc1 G4 F4 hr1 (af (pv 5) (af (PEs.h (k_ix fA (mr (dI iw (dI (k_op nV iw iw) oz))) ⟨pc1 G4 F4 hr1 (af (pv 5) (af bo aC))⟩ (fun _ _=>rfl))) aC)))))⟩
  (bc ⟨(i7 (PW.pt (pw_or (cU op_isN (pv 4) kL (dN _)) (pw_or1 (cU op_ne (pc1 G2 F2 hr14 (af (pc1 G5 F5 hr1 (af (pv 1) (af (pv 6) aC))) aC)) (cp iQ (pv 4) (pv 6)) (dN _))))) (df (cz pe_bl)) fv)⟩
  (bc ⟨(i7 (cU op_ne (pc1 G2 F2 hr14 (af (pc1 G5 F5 hr1 (af (pv 1) (af bo aC))) aC)) bo (dN _)) (df (cz pe_bl)) fv)⟩
  (bc ⟨(i7 (cU op_lt (ixZ (pv 1)) bo (dN _)) (df (cz (kW mB (pv 4) bo (dN _)))) fv)⟩
  (bc ⟨(bD (i:=7) nq.nd rfl (.inl rfl) (pc1 G6 F6 hr3 (af (pv 5) (af (pv 2) (af (ixZ (pv 1)) (af (eh (call_min2 rfl) rfl T.min boot_min (af bo (af (cp iH (ixZ (pv 1)) bo) aC))) (af bo aC)))))))⟩
  (bc ⟨(bD (i:=8) nq.nd rfl (.inl rfl) (dg (af (ixZ (pv 1)) (af (ixZ (pv 1)) (af (cp km (dg (af (pv 7) aC)) (ixZ (pv 1))) aC)))))⟩
  (bc ⟨(bD (i:=9) nq.nd rfl (.inl rfl) (pc1 G2 F2 hr14 (af (pv 8) aC)))⟩
  (dh ⟨(cz (pe_and (kW op_notN (pv 9) kL (dN _)) (pe_one (pe_chain op_le op_le (pv 4) (pv 9) (pc1 G7 F7 hr2 (af (pv 8) (af (pv 2) aC)))))))⟩))))))))))))),?_⟩
 refine ⟨_,rfl,a,ns,5,8,0,rfl,ha,by decide,by decide,by decide,by decide,fun q u v b m sp0 ts H1 S1 hq hv N0 b2 m5 hu lt allt fit na0 few=>?_⟩;refine ⟨q,_,rfl,SqT.of hq,rfl,_,_,rfl,_,_,rfl,rfl,?_⟩;have b1:=N0.b1;have m1:=N0.m1;have L1:L4 T0 p0 q0 T1 p1 q1 TT T3 H1:=⟨LamT.same S1 (.inl (hT T0 (by simp))),LamT.same S1 (.inl (hT T1 (by simp))),LamT.same S1 (.inl (hT TT (by simp))),(LamG.nil (hT T3 (by simp))).same S1⟩;obtain ⟨t,p,ys,rfl,ht,hp,hl,hy⟩:=fj hv;refine ⟨_,rfl,t,_,_,_,rfl,rfl,SqT.of ht,aJ (j:=2) rfl,p,rfl,⟨_,SqT.of hp⟩,?_⟩;refine ka (K:=K) (a:=p) (xs:=ys) (fun i zs H2=>Same H1 H2∧IsDs H2 zs (eQ Sn.row ((sp0.take i).map (wgt (· % 10 ^ 8))))) ⟨Same.refl H1,.nil⟩ (fun i zs H2 hi ⟨e1,e2⟩=>?_) (by rw [hl];exact eU (aY N0.few (by decide))) (fun i x zs H2 hx ⟨e1,e2⟩=>?_) (fun zs H2 ⟨e1,e2⟩ D hD=>?_)
 ·refine ⟨SqT.of (e1 _ _ hp),?_⟩
  rw [e2.length];unfold eQ;rw [aa,aa,bG];omega
 ·have hi:i<sp0.length:=by rw [←hl];exact (ao.mp hx).1
  obtain ⟨q,hq,hq2⟩:=hy i sp0[i] (gE hi);rw [hx] at hq;cases hq;refine gB ?_;have hq2:=e1 _ _ hq2;refine ⟨_,rfl,_,rfl,q,_,rfl,hq2,fun c3 H3 S3 h3=>?_⟩;refine ⟨_,rfl,q,_,_,_,rfl,rfl,SqT.of (S3 _ _ hq2),aJ (j:=4) rfl,_,_,rfl,rfl,⟨by decide,by decide,by decide⟩,_,_,rfl,rfl,(by show (0:Int)<10 ^ 8;decide),szZ1,fun c4 H4 S4 h4=>?_⟩;refine ⟨c3,c4,_,_,rfl,rfl,S4 _ _ h3,h4,szZ5,fun q5 H5 S5 h5=>?_⟩;have S25:=(S3.trans S4).trans S5;refine ⟨e1.trans S25,?_⟩;unfold eQ;rw [bg,gE hi,aA,aA];exact (e2.same S25).append (.cons (.tup h5 (IsDs.ints (wgt (· % 10 ^ 8) sp0[i]).row)) .nil)
 have S3:Same H1 (upd H2 D (.lst zs)):=e1.put hD;have S23:Same H2 (upd H2 D (.lst zs)):=(Same.refl H2).put hD;have h3:(upd H2 D (.lst zs)) D=some (.lst zs):=aU;generalize upd H2 D (.lst zs)=H3 at S3 S23 h3 ⊢;have ht3:=S3 _ _ ht;refine ⟨_,rfl,t,_,_,_,rfl,rfl,SqT.of ht3,aJ (j:=0) rfl,_,rfl,t,_,_,_,rfl,rfl,SqT.of ht3,aJ (j:=1) rfl,_,rfl,D,_,rfl,SqL.of h3,fun p4 H4 S4 h4=>⟨(by show 3≤bj;decide),fun t5 H5 S5 h5=>?_⟩⟩;rw [hl,bf] at e2;have S35:=S4.trans S5;have hp5:=S5 _ _ h4;have d5:IsDs H5 zs (eQ Sn.row (sp0.map (wgt (· % 10 ^ 8)))):=e2.same (S23.trans S35);have S5:=S3.trans S35;have N:NetT b m (sp0.map (wgt (· % 10 ^ 8))):=net_wgt N0 fun x _=>⟨cG _ (by decide),by have:=cB x.w (show (0:Int)<10 ^ 8 by decide);omega⟩
 have na:kz m (sp0.map (wgt (· % 10 ^ 8))) (ie m - 1):=l9 na0;have hf:g9 b ts (sp0.map (wgt (· % 10 ^ 8)))=true:=by rw [lR];exact fit (by decide)
 have w8:∀ x∈sp0.map (wgt (· % 10 ^ 8)),0≤x.w∧x.w<10 ^ 8:=fun y hy=>by
  obtain ⟨x,_,rfl⟩:=aV.mp hy;exact ⟨cG _ (by decide),cB _ (by decide)⟩
 have len:(sp0.map (wgt (· % 10 ^ 8))).length=sp0.length:=aa ..;have L5:=L1.same S5;have hu5:=S5 _ _ hu;have ha5:=(S1.trans S5).seq ha;generalize sp0.map (wgt (· % 10 ^ 8))=sp at d5 N na hf w8 len ⊢;have hv5:IsD H5 (.ref t5) (jL b m sp):= .tup h5 (.cons (.int b) (.cons (.int m) (.cons (.tup hp5 d5) .nil)));clear S23 S35 S3 S5 e1 e2 h3 h4 h5 ht3 hq hp ht hy L1 hD;refine ⟨_,rfl,.ref t5,b,m,sp,rfl,hv5,N,oj N (by omega) na,⟨ts,hf⟩,L5.a,L5.b,L5.c,L5.d,fun le H6 kp6 a0 a1 a2 a3 lw=>?_⟩;have L6:L4 T0 p0 q0 T1 p1 q1 TT T3 H6:=⟨a0,a1,a2,a3⟩;have hv6:=bY kp6.tup hv5;have hu6:=kp6.tup _ _ hu5;refine ⟨_,rfl,a,ns,25,rfl,kp6.seq ha5,by decide,by decide,fun n0 ph hph=>?_⟩;have S7:Same H6 (upd H6 ph (.lst [.int n0])):=(Same.refl H6).put hph;have h7:(upd H6 ph (.lst [.int n0])) ph=some (.lst [.int n0]):=aU;generalize upd H6 ph (.lst [.int n0])=H7 at S7 h7 ⊢;have L7:=L6.same S7;have hv7:=hv6.same S7;have hu7:=S7 _ _ hu6;refine ⟨_,rfl,_,_,rfl,rfl,⟨by decide,by decide,by decide⟩,mx,fun q8 hq8=>?_⟩;have M8:Mv ph H7 _:=(Mv.of (Same.refl H7) h7).new (o:= .lst [.int 9,.int (10 ^ (4:Int).toNat)]) hq8;have h8:(upd H7 q8 (.lst [.int 9,.int (10 ^ (4:Int).toNat)])) q8=some (.lst [.int 9,.int (10 ^ (4:Int).toNat)]):=aU;have nq8:=(Mv.of (Same.refl H7) h7).ne hq8;obtain ⟨n8,hp8⟩:=M8.2;refine ⟨_,rfl,ph,n8,2,rfl,hp8,by decide,by decide,fun r9 H9 a9 c9 M9=>?_⟩;have h9:=M9.at h8 nq8;have M9:=M8.trans M9;clear M8 h8 hp8;obtain ⟨n9,hp9⟩:=M9.2;obtain ⟨v9,e9,m9⟩:=lU (xs:=[V.int 9,V.int (10 ^ (4:Int).toNat)]) a9 c9;obtain ⟨mo,rfl,mo1,mo2⟩:∃ i,v9=V.int i∧1≤i∧i≤10 ^ 4:=by
  simp only [az,cq,or_false] at m9
  rcases m9 with rfl | rfl
  ·exact ⟨_,rfl,by decide,by decide⟩
  ·exact ⟨_,rfl,by decide,by decide⟩
 refine ⟨q8,_,_,_,rfl,rfl,SqL.of h9,e9,ph,n9,mo,rfl,hp9,by omega,by omega,fun r10 H10 a10 c10 M10=>⟨_,_,rfl,rfl,?_⟩⟩;have M10:=M9.trans M10;have L10:=L7.mv h7 M10;have hv10:=bY (Mv.tupK h7 M10) hv7;have hu10:=Mv.tupK h7 M10 _ _ hu7;obtain ⟨n10,hp10⟩:=M10.2;obtain ⟨n,en⟩:∃ n,n=1+r10:=⟨_,rfl⟩;have n1:1≤n:=by omega
 have n2:n≤10 ^ 4:=by omega
 have e10:(fun i j=>V.int (i+j)) 1 r10=V.int n:=by rw [en]
 first | rw [e10] | rw [←en]
 clear M10 M9 hp9 e9 m9 h9 L7 hv7 hu7 L6 hv6 hu6 h7 S7 a9 c9 a10 c10 e10 en;refine ⟨_,rfl,rfl,_,rfl,oQ (o9 nofun) ?_⟩;have ws:∀ x∈sp,0≤x.w∧x.w≤1000000000000:=N.ws;have nets:∀ n:Int,0≤n→n≤10 ^ 4→NetT b m (sp.map (wgt (· * n))):=fun n a c=>net_wgt N fun x hx=>by
  obtain ⟨d,e⟩:=w8 x hx;exact ⟨Int.mul_nonneg d a,Int.le_trans (Int.mul_le_mul (Int.le_of_lt e) c a (by decide)) (by decide)⟩
 refine ⟨_,rfl,_,rfl,.ref t5,b,m,n,sp,rfl,hv10,N.few,by omega,n2,ws,fun v11 H11 S11 hv11=>?_⟩;have L11:=L10.same S11;refine ⟨v11,b,m,_,rfl,hv11,nets n (by omega) n2,oj (nets n (by omega) n2) (by omega) (l9 na),⟨ts,by rw [lR];exact hf⟩,L11.a,L11.b,L11.c,L11.d,fun le2 H12 kp12 a0 a1 a2 a3 lw2=>?_⟩;have L12:L4 T0 p0 q0 T1 p1 q1 TT T3 H12:=⟨a0,a1,a2,a3⟩;have kp:=(Same.kp S11).trans kp12;have hv12:=bY kp.tup hv10;have hu12:=kp.tup _ _ hu10;have hp12:=kp.lst _ _ hp10;have e12:=lw2.one (lw.wgt (by omega));refine ⟨_,rfl,_,rfl,_,_,rfl,rfl,.inr ⟨by omega,by omega⟩,rfl,_,rfl,oQ (by rw [e12,o8 rfl];rfl) ?_⟩;clear L11 S11 hv11 kp12 kp L10 hv10 hu10 hp10;refine ⟨_,rfl,.ref t5,b,m,0,sp,rfl,hv12,N.few,by decide,by decide,ws,fun v13 H13 S13 hv13=>?_⟩;have L13:=L12.same S13;refine ⟨v13,b,m,_,rfl,hv13,nets 0 (by decide) (by decide),oj (nets 0 (by decide) (by decide)) (by omega) (l9 na),⟨ts,by rw [lR];exact hf⟩,L13.a,L13.b,L13.c,L13.d,fun le3 H14 kp14 a0 a1 a2 a3 lw3=>?_⟩;have L14:L4 T0 p0 q0 T1 p1 q1 TT T3 H14:=⟨a0,a1,a2,a3⟩;have kp:=(Same.kp S13).trans kp14;have hv14:=bY kp.tup hv12;have hu14:=kp.tup _ _ hu12;have hp14:=kp.lst _ _ hp12;have e14:=lw3.one (lw.wgt (n:=0) (by decide));rw [gf] at e14;refine ⟨rfl,_,rfl,oQ (by rw [e14,o8 rfl];rfl) ?_⟩;clear L13 S13 hv13 kp14 kp L12 hv12 hu12 hp12;obtain ⟨tv,p,ys,etv,ht,hp,hl,hy⟩:=fj hv14;cases etv;refine ⟨_,rfl,t5,_,_,_,rfl,rfl,SqT.of ht,aJ (j:=1) rfl,_,_,rfl,rfl,_,rfl,?_⟩;refine ite2 (fun z=>?_) (fun z=>?_)
 ·have z:m<2:=pe z
  have:le=0:=by
   obtain ⟨⟨t,_,e⟩,_⟩:=lw;rw [nil_one N z] at e;exact e.symm
  refine ⟨_,rfl,rfl,?_⟩;rw [this];exact k H14
 have m2:2≤m:=by
  rcases Int.lt_or_le m 2 with y | y
  ·exact o6 (o8 y) z
  ·exact y
 refine ⟨_,rfl,_,rfl,_,rfl,t5,_,_,_,rfl,rfl,SqT.of ht,aJ (j:=0) rfl,_,rfl,t5,_,_,_,rfl,rfl,SqT.of ht,aJ (j:=0) rfl,_,_,rfl,rfl,_,_,rfl,?_⟩;obtain ⟨mm,em,mm0,mm1⟩:∃ i:Int,i=(if b - 1<6 then b - 1 else 6)∧0≤i∧i≤6:=⟨_,rfl,by split <;> omega,by split <;> omega⟩;rw [←em];have nup:u≠ph:=eD hu14 hp14 nofun;refine ⟨ph,u,n10,b,mm,0,ts,rfl,hp14,hu14,nup,b1,b2,by omega,by omega,mm0,fun t15 x H15 f15 n15 M15 h15 ok15 w15 k15=>?_⟩;rw [lt] at ok15;have L15:=L14.mv hp14 M15;have TK:=Mv.tupK hp14 M15;have hv15:=bY TK hv14;have hu15:=TK _ _ hu14;have ht15:=TK _ _ ht;have hp15:=TK _ _ hp;refine ⟨_,rfl,t5,_,_,_,rfl,rfl,SqT.of ht15,aJ (j:=0) rfl,_,rfl,t5,_,_,_,rfl,rfl,SqT.of ht15,aJ (j:=1) rfl,_,rfl,szZ1,fun c16 H16 S16 h16=>?_⟩;have few':=N.few;refine ⟨_,rfl,t5,_,_,_,rfl,rfl,SqT.of (S16 _ _ ht15),aJ (j:=2) rfl,c16,p,_,_,rfl,rfl,h16,S16 _ _ hp15,(by rw [fR,hl];exact aY (show 1+sp.length≤41 by omega) (by decide)),fun q17 H17 S17 h17=>⟨(by show 3≤bj;decide),fun t18 H18 S18 h18=>?_⟩⟩;have S18':=S16.trans (S17.trans S18);have dy:=(netP_rows (hv15.same S18'));obtain ⟨_,p',ys',e',ht',hp',dy⟩:=dy;cases e';have ep:p'=p∧ys'=ys:=by
  have z:=S18' _ _ ht15;rw [ht'] at z;cases z;have z:=S18' _ _ hp15;rw [hp'] at z;cases z;exact ⟨rfl,rfl⟩
 obtain ⟨rfl,rfl⟩:=ep;have hw18:IsD H18 (.ref t18) (jL b m (x::sp)):= .tup h18 (.cons (.int b) (.cons (.int m) (.cons (.tup (S18 _ _ h17) (.cons (.tup (S18' _ _ h15) (IsDs.ints x.row)) dy)) .nil)));have N':NetT b m (x::sp):=⟨b1,N.b2,m1,N.m2,by rw [aS];omega,fun y hy=>by
  rcases az.mp hy with rfl | hy
  ·exact ok15
  ·exact N.all y hy⟩
 have hf':g9 b ts (x::sp)=true:=fits_cons.mpr ⟨k15 rfl,hf⟩;have L18:=L15.same S18';have hu18:=S18' _ _ hu15;have na':kz m (x::sp) (if ie m - 1<6 then 6 else ie m - 1):=narrow_wide na (by split <;> omega) (by split <;> omega);refine ⟨_,rfl,.ref t18,b,m,_,rfl,hw18,N',few_wide N' (by omega) m2 na',⟨ts,hf'⟩,L18.a,L18.b,L18.c,L18.d,fun le4 H19 kp19 _ _ _ _ lw4=>?_⟩;refine ⟨_,rfl,rfl,_,rfl,iteB (by rw [o9 nofun];rfl) ?_⟩;refine ⟨_,rfl,_,rfl,_,_,rfl,rfl,_,rfl,iteB (o8 (lw.more b1 ok15.w0 lw4)) ?_⟩;refine ⟨_,rfl,_,rfl,.ref t18,u,b,m,_,ts,rfl,bY kp19.tup hw18,kp19.tup _ _ hu18,N'.rdy lt,N'.ws,fun H20 S20=>⟨_,_,rfl,rfl,?_⟩⟩;have:=lw4.2 ts hf';show Q (V.bl (decide (le4≤dW b ts (x::sp)))) H20;rw [o8 this];exact k H20
theorem oy {P:List ae→Prop}(h:∀ x0,P [x0]):∀ us:List ae,us.length=1→P us:=by
 intro us hl;obtain _ | ⟨x0,us⟩:=us <;> try (cases hl;done)
 obtain _ | ⟨y,us⟩:=us
 ·exact h x0
 ·exact o6 hl (by simp only [aS];omega)
theorem jC {P:List ae→Prop}(h:∀ x0 x1,P [x0,x1]):∀ us:List ae,us.length=2→P us:=by
 intro us hl;obtain _ | ⟨x0,us⟩:=us <;> try (cases hl;done)
 obtain _ | ⟨x1,us⟩:=us <;> try (cases hl;done)
 obtain _ | ⟨y,us⟩:=us
 ·exact h x0 x1
 ·exact o6 hl (by simp only [aS];omega)
theorem args3 {P:List ae→Prop}(h:∀ x0 x1 x2,P [x0,x1,x2]):∀ us:List ae,us.length=3→P us:=by
 intro us hl;obtain _ | ⟨x0,us⟩:=us <;> try (cases hl;done)
 obtain _ | ⟨x1,us⟩:=us <;> try (cases hl;done)
 obtain _ | ⟨x2,us⟩:=us <;> try (cases hl;done)
 obtain _ | ⟨y,us⟩:=us
 ·exact h x0 x1 x2
 ·exact o6 hl (by simp only [aS];omega)
theorem args4 {P:List ae→Prop}(h:∀ x0 x1 x2 x3,P [x0,x1,x2,x3]):∀ us:List ae,us.length=4→P us:=by
 intro us hl;obtain _ | ⟨x0,us⟩:=us <;> try (cases hl;done)
 obtain _ | ⟨x1,us⟩:=us <;> try (cases hl;done)
 obtain _ | ⟨x2,us⟩:=us <;> try (cases hl;done)
 obtain _ | ⟨x3,us⟩:=us <;> try (cases hl;done)
 obtain _ | ⟨y,us⟩:=us
 ·exact h x0 x1 x2 x3
 ·exact o6 hl (by simp only [aS];omega)
theorem args5 {P:List ae→Prop}(h:∀ x0 x1 x2 x3 x4,P [x0,x1,x2,x3,x4]):∀ us:List ae,us.length=5→P us:=by
 intro us hl;obtain _ | ⟨x0,us⟩:=us <;> try (cases hl;done)
 obtain _ | ⟨x1,us⟩:=us <;> try (cases hl;done)
 obtain _ | ⟨x2,us⟩:=us <;> try (cases hl;done)
 obtain _ | ⟨x3,us⟩:=us <;> try (cases hl;done)
 obtain _ | ⟨x4,us⟩:=us <;> try (cases hl;done)
 obtain _ | ⟨y,us⟩:=us
 ·exact h x0 x1 x2 x3 x4
 ·exact o6 hl (by simp only [aS];omega)
theorem args6 {P:List ae→Prop}(h:∀ x0 x1 x2 x3 x4 x5,P [x0,x1,x2,x3,x4,x5]):∀ us:List ae,us.length=6→P us:=by
 intro us hl;obtain _ | ⟨x0,us⟩:=us <;> try (cases hl;done)
 obtain _ | ⟨x1,us⟩:=us <;> try (cases hl;done)
 obtain _ | ⟨x2,us⟩:=us <;> try (cases hl;done)
 obtain _ | ⟨x3,us⟩:=us <;> try (cases hl;done)
 obtain _ | ⟨x4,us⟩:=us <;> try (cases hl;done)
 obtain _ | ⟨x5,us⟩:=us <;> try (cases hl;done)
 obtain _ | ⟨y,us⟩:=us
 ·exact h x0 x1 x2 x3 x4 x5
 ·exact o6 hl (by simp only [aS];omega)
theorem Df.fn (a:Df K x st f)(X:K.In h)(G:h.Ns bO mg)
  (hb:∀ (kV dc pm:ae) (an:Option ai) (cd ct:ae) (us:List ae),us.length=ps.length→bindArgs (dm x x (iS st) (fk st) (defScope st) .none kV dc pm an cd ct) ⟨us,[]⟩=fH (ps.zip us)):∃ fd,Fn K mg x st ps f fd:=by
 obtain ⟨n,oc,od,an,sl,kV,dc,pm,cd,ct,l,c,k⟩:=a;have F:=mw (st:=st) l c k;exact ⟨_,F,ik X G n,F.binds hb⟩
theorem all_mk {l:PySem.W.OpenLaw}{fa:ai}(X:K.In h)(G:h.Ns bO mg)(hfa:mg "law" =some (.ref fa))(Fc:Facts K)
  : ∃ fd:bq,(∀ (s:aq) (v:ae),BindsTo s fd ⟨[v],[]⟩ [("_law_script",v)])∧∀ base:bL,K.In base→base.Ns bO mg→BM mg base→cS l.prog w K mg base CX0 15 fa fd ["_law_script"] (spLawTs [102,207,273,292] K):=by
 refine Fc _ ?_;intro f1 f2 f3 f4 f5 f6 f7 f8 f9 f10 f11 f12 f13 f14 f15 f16 f17 f18 f19 f20 f21 f22 f23 f24 f25 f26 f27 f28 f29 f30 f31 f32 f33 f34 f35 f36 f37 f38 f39 f40 f41 f42 f43 f44 f45 f46 f47 t1 xC xi xs xt odI anI odS anS odT anT slI slS slT ocI kVI dcI pmI ctI ocS kVS dcS pmS cdS ctS ocT kVT dcT pmT cdT ctT a1 a2 a3 a4 a5 a6 a7 a8 a9 a10 a11 a12 a13 a14 a15 a16 a17 a18 a19 a20 a21 a22 a23 a24 a25 a26 a27 a28 a29 a30 a31 a32 a33 a34 a35 a36 a37 a38 a39 a40 a41 a42 a43 a44 a45 a46 a47 y1 z1 z2 z3 z4 z5 z6 z7 z8 z9 z10 z11 z12 z13 z14 z15 z16 w1 w2 w3 w4 w5 w6 w7 w8 w9 w10 w11 w12 w13 w14 w15 w16 w17 w18 w19 w20 w21 w22 w23 w24 w25 wc0 wh0 wh1 wc2 wh2 wc3 wh3;have e:=hfa.symm.trans (ik X G a47.n);cases e;obtain ⟨fd1,G1⟩:=a1.fn X G (ps:=pzh) fun _ _ _ _ _ _=>jC fun _ _=>rfl
 obtain ⟨fd2,G2⟩:=a2.fn X G (ps:=pzd) fun _ _ _ _ _ _=>jC fun _ _=>rfl
 obtain ⟨fd3,G3⟩:=a3.fn X G (ps:=pzd) fun _ _ _ _ _ _=>jC fun _ _=>rfl
 obtain ⟨fd4,G4⟩:=a4.fn X G (ps:=pza) fun _ _ _ _ _ _=>oy fun _=>rfl
 obtain ⟨fd5,G5⟩:=a5.fn X G (ps:=pzw) fun _ _ _ _ _ _=>jC fun _ _=>rfl
 obtain ⟨fd6,G6⟩:=a6.fn X G (ps:=pzb) fun _ _ _ _ _ _=>args3 fun _ _ _=>rfl
 obtain ⟨fd7,G7⟩:=a7.fn X G (ps:=pzb) fun _ _ _ _ _ _=>args3 fun _ _ _=>rfl
 obtain ⟨_,oc,od,an,sl,kV,dc,pm,cd,ct,l8,c8,k8⟩:=id a8;obtain ⟨_,_,_,_,_,_,_,_,z⟩:=wc0;have z:=l8.symm.trans z;have wc0:cd=ae.ref 106:=by injection z with z;injection z with _ _ z _;injection z with z;injection z
 have F8:=mw (st:=sSpW) l8 c8 k8;have b8:=F8.binds (ps:=pza) fun _ _ _ _ _ _=>oy fun _=>rfl
 have G8:Fn K mg "spans_by_width" sSpW pza f8 _:=⟨F8,ik X G a8.n,b8⟩;obtain ⟨fd9,G9⟩:=a9.fn X G (ps:=pza) fun _ _ _ _ _ _=>oy fun _=>rfl
 obtain ⟨fd10,G10⟩:=a10.fn X G (ps:=pzm) fun _ _ _ _ _ _=>args3 fun _ _ _=>rfl
 obtain ⟨fd11,G11⟩:=a11.fn X G (ps:=pzy) fun _ _ _ _ _ _=>args4 fun _ _ _ _=>rfl
 obtain ⟨fd12,G12⟩:=a12.fn X G (ps:=pzh) fun _ _ _ _ _ _=>jC fun _ _=>rfl
 obtain ⟨fd13,G13⟩:=a13.fn X G (ps:=pza) fun _ _ _ _ _ _=>oy fun _=>rfl
 obtain ⟨fd14,G14⟩:=a14.fn X G (ps:=pza) fun _ _ _ _ _ _=>oy fun _=>rfl
 obtain ⟨fd15,G15⟩:=a15.fn X G (ps:=pza) fun _ _ _ _ _ _=>oy fun _=>rfl
 obtain ⟨fd16,G16⟩:=a16.fn X G (ps:=pzl) fun _ _ _ _ _ _=>jC fun _ _=>rfl
 obtain ⟨fd17,G17⟩:=a17.fn X G (ps:=pzs) fun _ _ _ _ _ _=>args4 fun _ _ _ _=>rfl
 obtain ⟨fd18,G18⟩:=a18.fn X G (ps:=pzr) fun _ _ _ _ _ _=>jC fun _ _=>rfl
 obtain ⟨fd19,G19⟩:=a19.fn X G (ps:=pzp) fun _ _ _ _ _ _=>jC fun _ _=>rfl
 obtain ⟨fd20,G20⟩:=a20.fn X G (ps:=pzj) fun _ _ _ _ _ _=>jC fun _ _=>rfl
 obtain ⟨fd21,G21⟩:=a21.fn X G (ps:=pzA) fun _ _ _ _ _ _=>args3 fun _ _ _=>rfl
 obtain ⟨fd22,G22⟩:=a22.fn X G (ps:=pzn) fun _ _ _ _ _ _=>jC fun _ _=>rfl
 obtain ⟨fd23,G23⟩:=a23.fn X G (ps:=["marks"]) fun _ _ _ _ _ _=>oy fun _=>rfl
 obtain ⟨fd24,G24⟩:=a24.fn X G (ps:=pzo) fun _ _ _ _ _ _=>jC fun _ _=>rfl
 obtain ⟨_,oc,od,an,sl,kV,dc,pm,cd,ct,l25,c25,k25⟩:=id a25;obtain ⟨_,_,_,_,_,_,_,_,z⟩:=wc2;have z:=l25.symm.trans z;have wc2:cd=ae.ref 277:=by injection z with z;injection z with _ _ z _;injection z with z;injection z
 have F25:=mw (st:=jA) l25 c25 k25;have b25:=F25.binds (ps:=pza) fun _ _ _ _ _ _=>oy fun _=>rfl
 have G25:Fn K mg "table_for" jA pza f25 _:=⟨F25,ik X G a25.n,b25⟩;obtain ⟨fd26,G26⟩:=a26.fn X G (ps:=pzb) fun _ _ _ _ _ _=>args3 fun _ _ _=>rfl
 obtain ⟨fd27,G27⟩:=a27.fn X G (ps:=pzC) fun _ _ _ _ _ _=>args3 fun _ _ _=>rfl
 obtain ⟨fd28,G28⟩:=a28.fn X G (ps:=pzf) fun _ _ _ _ _ _=>jC fun _ _=>rfl
 obtain ⟨fd29,G29⟩:=a29.fn X G (ps:=pzf) fun _ _ _ _ _ _=>jC fun _ _=>rfl
 obtain ⟨fd30,G30⟩:=a30.fn X G (ps:=["net","rows"]) fun _ _ _ _ _ _=>jC fun _ _=>rfl
 obtain ⟨fd31,G31⟩:=a31.fn X G (ps:=pzx) fun _ _ _ _ _ _=>args3 fun _ _ _=>rfl
 obtain ⟨fd32,G32⟩:=a32.fn X G (ps:=pzB) fun _ _ _ _ _ _=>args3 fun _ _ _=>rfl
 obtain ⟨fd33,G33⟩:=a33.fn X G (ps:=pzt) fun _ _ _ _ _ _=>args4 fun _ _ _ _=>rfl
 obtain ⟨_,oc,od,an,sl,kV,dc,pm,cd,ct,l34,c34,k34⟩:=id a34;obtain ⟨_,_,_,_,_,_,_,_,z⟩:=wc3;have z:=l34.symm.trans z;have wc3:cd=ae.ref 296:=by injection z with z;injection z with _ _ z _;injection z with z;injection z
 have F34:=mw (st:=kl) l34 c34 k34;have b34:=F34.binds (ps:=pza) fun _ _ _ _ _ _=>oy fun _=>rfl
 have G34:Fn K mg "best_for" kl pza f34 _:=⟨F34,ik X G a34.n,b34⟩;obtain ⟨fd35,G35⟩:=a35.fn X G (ps:=pze) fun _ _ _ _ _ _=>jC fun _ _=>rfl
 obtain ⟨fd36,G36⟩:=a36.fn X G (ps:=pzu) fun _ _ _ _ _ _=>jC fun _ _=>rfl
 obtain ⟨fd37,G37⟩:=a37.fn X G (ps:=pze) fun _ _ _ _ _ _=>jC fun _ _=>rfl
 obtain ⟨fd38,G38⟩:=a38.fn X G (ps:=pzc) fun _ _ _ _ _ _=>jC fun _ _=>rfl
 obtain ⟨fd39,G39⟩:=a39.fn X G (ps:=pzi) fun _ _ _ _ _ _=>args6 fun _ _ _ _ _ _=>rfl
 obtain ⟨fd40,G40⟩:=a40.fn X G (ps:=pzv) fun _ _ _ _ _ _=>args6 fun _ _ _ _ _ _=>rfl
 obtain ⟨fd41,G41⟩:=a41.fn X G (ps:=pzk) fun _ _ _ _ _ _=>args5 fun _ _ _ _ _=>rfl
 obtain ⟨fd42,G42⟩:=a42.fn X G (ps:=pzq) fun _ _ _ _ _ _=>args4 fun _ _ _ _=>rfl
 obtain ⟨fd43,G43⟩:=a43.fn X G (ps:=pzg) fun _ _ _ _ _ _=>jC fun _ _=>rfl
 obtain ⟨fd44,G44⟩:=a44.fn X G (ps:=pzg) fun _ _ _ _ _ _=>jC fun _ _=>rfl
 obtain ⟨fd45,G45⟩:=a45.fn X G (ps:=pzD) fun _ _ _ _ _ _=>jC fun _ _=>rfl
 obtain ⟨fd46,G46⟩:=a46.fn X G (ps:=pzE) fun _ _ _ _ _ _=>oy fun _=>rfl
 obtain ⟨_,oc,od,an,sl,kV,dc,pm,cd,ct,l47,c47,k47⟩:=a47;have F47:=mw (st:=sLaw) l47 c47 k47;have m1:=bW X G z1;have m2:=bW X G z2;have m3:=bW X G z3;have m4:=bW X G z4;have m5:=bW X G z5;have m6:=bW X G z6;have m7:=bW X G z7;have m8:=bW X G z8;have m9:=bW X G z9;have m10:=bW X G z10;have m11:=bW X G z11;have m12:=bW X G z12;have m13:=bW X G z13;have m14:=bW X G z14;have m15:=bW X G z15;have m16:=bW X G z16;have i1:=ik X G y1;refine ⟨dm "law" "law" (iS sLaw) (fk sLaw) (defScope sLaw) .none kV dc pm an cd ct,fun s v=> .of_eq rfl,fun base _ _ hB=>?_⟩;have T:Nm mg:=⟨m1,m2,m3,m4,m5,m6,m7⟩;have T2:Nt mg:=⟨m8,m9,m10,m11,m12,m13⟩;have T3:N3 mg:=⟨m14⟩;have SW:cS l.prog w K mg base CX0 5 f8 _ pza (spSpW 102 lpW lqW):=ok_spW F8 wc0 wh0 hB T T2 m15 G1;have FO:cS l.prog w K mg base CX0 6 f9 _ pza (jY 102 lpW lqW):=ok_forest G9.F T T2 m15 G8 SW;have ST:cS l.prog w K mg base CX0 2 f10 _ pzm spSteps:=ok_steps G10.F G2;have RB:cS l.prog w K mg base CX0 7 f12 _ pzh (spRingBy 102 lpW lqW):=ok_ringBy G12.F G11 (ok_wayBt G11.F G10 ST G3) G9 FO;have RO:cS l.prog w K mg base CX0 8 f14 _ pza (mJ 102 lpW lqW):=ok_ringsO G14.F T T2 G9 FO G12 RB;have CC:CutC K xC:=⟨⟨w2,w3,w4,w5⟩,w6,w7,w8⟩;have CI:=mw (st:=oJ) w13 w14 w15;have CS:=mw (st:=sSpanC) w19 w20 w18;have CT:=mw (st:=sSidesC) w24 w25 w23;have CK:CutK l.prog w K mg base 102 lpW lqW 207 lpC lqC xC xi xs xt _ _ _:=⟨CC,⟨w9,w10,w11,w12⟩,ik X G w1,ok_initC CI rfl wh1 hB (by decide) T T2 m15 CC G14 RO G18 G4 G9 FO,CI.binds (ps:=["self","net"]) fun _ _ _ _ _ _=>jC fun _ _=>rfl,⟨w16,w17,w18⟩,ok_spanC CS CC,CS.binds (ps:=["self","case"]) fun _ _ _ _ _ _=>jC fun _ _=>rfl,⟨w21,w22,w23⟩,ok_sidesC CT CC G17,CT.binds (ps:=pzz) fun _ _ _ _ _ _=>args4 fun _ _ _ _=>rfl⟩;have BO:cS l.prog w K mg base CX0 2 f6 _ pzb ng:=ok_beats G6.F G5;have DL:cS l.prog w K mg base CX0 4 f20 _ pzj nc:=ok_deadL G20.F G7 (ok_dead G7.F G6 BO);have TF:cS l.prog w K mg base CX0 11 f22 _ pzn (spTabF 102 lpW lqW 207 lpC lqC):=ok_tabF G22.F T (by decide) CK G15 (ok_spread G15.F T T2 G9 FO G10 ST G3) G20 DL G21 (ok_tabBy G21.F T G3 G2 G16) G19;have TY:cS l.prog w K mg base CX0 11 f24 _ pzo (mI l.prog w K mg base 102 lpW lqW 207 lpC lqC):=ok_treeBy G24.F T CK G19 G23 (ok_treeF G23.F m16);have TN:cS l.prog w K mg base CX0 12 f25 _ pza (mZ 102 lpW lqW 207 lpC lqC 273):=ok_tabForN F25 wc2 wh2 hB T ⟨_,i1⟩ (by decide) (by decide) (by decide) G13 (ok_cases G13.F G9 FO G1) G22 TF G24 TY G20 DL;have WO:cS l.prog w K mg base CX0 4 f29 _ pzf ly:=ok_waitOf G29.F T T2 G28 (ok_waits G28.F T T2 G16 G27);have LB:cS l.prog w K mg base CX0 5 f33 _ pzt spLeafBy:=ok_leafBy G33.F G20 DL G32 (ok_priceL G32.F T G26 (ok_sure G26.F G6 BO)) G31 (ok_worth G31.F T T2 G6 BO G30);have BF:cS l.prog w K mg base CX0 13 f34 _ pza (spBest 102 lpW lqW 207 lpC lqC 273 292):=ok_best F34 wc3 wh3 hB T ⟨_,i1⟩ (by decide) (by decide) (by decide) (by decide) (by decide) (by decide) G25 TN G22 TF G24 TY G33 LB G29 WO G14 RO;have PO:cS l.prog w K mg base CX0 2 f37 _ pze (spPotT K):=ok_potT G37.F T T2 G35 G36;have NH:cS l.prog w K mg base CX0 4 f42 _ pzq (spNetH K):=ok_netH G42.F T T2 G38 G37 PO G40 (ok_tied G40.F T G38 G39) G41 (ok_more G41.F T G38 G39);have SPT:cS l.prog w K mg base CX0 3 f41 _ pzk spMoreT:=ok_moreT G41.F T G38 G39;exact ok_law F47 T G42 NH G46 (ok_ask G46.F T G34 BF) G37 PO G38 G45 (ok_weigh G45.F T) G41 SPT G44 (ok_waitN G44.F T2 G43)
theorem walk {l:PySem.W.OpenLaw}{q:aW}{loose:List Str}{YP:bx→bL→Prop}{d:DefRec}{K:Params→ak}(hn:l.most=some 63)(hdf:d.params.defaults=[])
  (hY:∀ (w:bx) (h:bL),YP w h→(K w.params).In h∧∀ T∈([102,207,273,292]:List ai),h.get? T=some (PySem.W.tabObj #[])) (hC:∀ w:bx,∀ T∈([102,207,273,292]:List ai),∃ c,dY (K w.params) c T=true) (hN:∀ w:bx,PySem.W.noTabs (K w.params)=true)
  (F:∀ (w:bx) (mg:Str→Option ae) (fa:ai) (h:bL),(K w.params).In h→h.Ns bO mg→mg d.name=some (.ref fa) →
   ∃ fd:bq,(∀ (s:aq) (u:ae),BindsTo s fd ⟨[u],[]⟩ [("_law_script",u)])∧∀ base:bL,(K w.params).In base→base.Ns bO mg→BM mg base→cS l.prog w (K w.params) mg base CX0 15 fa fd ["_law_script"] (spLawTs [102,207,273,292] (K w.params))) :
  PySem.W.WalkO q loose XP YP l.row.toRowW d [] (fun f vs=>PySem.call f vs) :=
 L2.walk_ofTs (n:=63) (k:=15) (x := "_law_script") (Ts:=[102,207,273,292]) (CX:=fun _=>CX0) (sp:=fun w=>spLawTs [102,207,273,292] (K w.params)) hn (by decide) hdf ⟨rfl,by decide,by decide⟩ hY hC hN F (fun _ _ a ns hl hT hS=>⟨a,ns,rfl,hS,hT,fun _=>rfl⟩) fun _ _ _ _ _ z=>z
end HN
set_option maxHeartbeats 0 in
theorem PySem.Challenge.cw_hourtable_k53_other_weights_holds : PySem.Challenge.rw_hourtable_k53_other_weights.Holds := by
 refine HN.head0 ?_;intro q loose XP YP d K hdf hd h0 h1 h2 Fc;exact HN.walk (l:=fI) rfl hdf h0 h1 h2 fun w mg fa h KX G hmg=>HN.all_mk KX G (by rw [hd] at hmg;exact hmg) (Fc w)
