import PyProof.Rows.All
import KE.KIsAll
import KE.KBools
import KE.KxBytes
import KE.KEqSeq
import KE.KSortTup
import KE.KLam
import KE.KNestM
import KE.KRevIter
import KE.KDictList
import Wide.FinOn
import PySem.Challenge.RW_hourtable_k92_whole_changes
set_option compiler.extract_closed false
set_option bootstrap.genMatcherCode false
set_option Elab.async false
set_option linter.all false
set_option maxRecDepth 100000
open List renaming length_map → aa, getD_eq_getElem?_getD → ae, getElem?_eq_some_iff → ar, length_append → av, mem_singleton → aw, getElem?_map → az, mem_cons_of_mem → aA, map_append → aD, mem_append_right → aE, range → aG, mem_cons → aH, mem_append → aI, mem_append_left → aJ, size_toArray → aK, mem_of_getElem? → aL, length_cons → aV, getElem_mem → aY, mem_map → ba, length_range → bb, take_add_one → bj, take_length → bo, getElem?_append_right → bp, mem_cons_self → bq, nodup_cons → bw, replicate → bx, map_cons → bI, getElem_of_mem → bK, length_take → bM, foldl_cons → bQ, mem_range → bS, mem_filter → bX, nodup_iff_pairwise_ne → b9, getElem?_append_left → cu, length_filter_le → cw, not_mem_nil → cz, foldl_append → cG, length_singleton → cU, map_map → cW, append_nil → c5, lookup_cons → dk, length_drop → dm, getElem?_set_ne → dH, getElem?_set_self → dM, length_reverse → dW, length_replicate → eC, length_set → eI, filter_append → eK, lookup → eN, reverse_cons → eY, toList_toArray → e8, range_succ → fj, filter_cons → fA, dropLast_concat → fI, pairwise_map → fP, all_eq_true → gf, getElem_toArray → gB, map_congr_left → gX, getElem?_range → gY, length_eq_zero_iff → g9, find?_cons → ia, nodup_append → il, countP_congr → iq, any_eq_false → ir, countP_cons → iW, replicate_succ → i8, any_cons → jd, pairwise_cons → jq, toArray → jG, take_of_length_le → jH, nodup_nil → jI, map_nil → jJ, append_assoc → jK, countP_le_length → j5, getElem_map → j6, getElem_inj → j7, filter_nil → kL, getElem_range → k5, length_pos_iff → om
open PySem renaming Value → af, wpAny_bind → ao, Addr → aq, Shared → ay, wpAny_pure → aP, wpAny → aW, Program → aX, sizeLine → bf, FuncData → bg, model → br, World → bz, starEach → bB, boot_len → bC, mainGlobals → bL, Heap → bO, Around → bT, Str → bW, wpAny_mono → cx, mem_of_lookup → cB, Stmt → cF, Builtin → cO, NameKind → cQ, wpAny_field → cS, wpAny_callSpecial?_slot → dJ, wpAny_setField_rec → dN, wpAny_holding → dU, compareOp → dX, wpAny_truthy_bool → eG, eval → eP, wpAny_Call_Name_kw → eQ, lookup_relabel_local → eV, wpAny_newObj_type → fk, Spec → fq, sizeLine_eq → fu, backTo → fB, wpAny_call_entry → fJ, Scope → fN, wpAny_seqItems → fR, wpAny_pyIter_list → fT, foldedSetIterable → fU, Arguments → gQ, wpAny_passesOwn → iI, binaryOp → iN, sysModules → i9, codeAny → jj, Paired → jS, wpAny_letGo → jW, wpAny_tryCatch → j8, recursionLimit → ka, bootBuiltins → kh, attributeBase → kU, wpAny_loadPart' → k6, importedModules → lE, codeAny_builtin → lI
open PySem.W renaming Frag → au, mg_none_of → cb, nsIn → cq, findIn → cM, codeHdIn → dg, keepIn → dY, kia_one → d9, fnOf → eR, emptyDict → eS, mg_of → fS, instObj → gp, codeIn → gM, kitOne → jr, plainGet → jR, callWith_K → kO
open PySem.Heap renaming get?_push_of_some → ax, lt_size → aN, get?_push_size → aU, SameBut → cH, size_push → eE, get?_update_ne → gZ, get?_update_other → jL
open Nat renaming le_refl → aB, le_trans → aQ, lt_of_lt_of_le → aS, zero_le → bu, ne_of_lt → bG, lt_of_le_of_lt → cf, ne_of_gt → cZ, lt_of_le_of_ne → fE, sub_self → fY, lt_irrefl → gc, mul_assoc → gN, lt_succ_of_lt → iG, le_of_lt → iZ, lt_succ_iff_lt_or_eq → jn, mul_comm → jT, lt_succ_self → ki
open Option renaming map_eq_some_iff → aM, map_some → gu
open Bool renaming false_ne_true → bc, and_eq_true → cI, not_eq_true' → iA, eq_false_iff → jM, eq_iff_iff → kM
open PySem.F renaming plainAttrs_list → bh, type_list_append → bU, slot_list_append → bV, type_list_pop → fg, slot_list_pop → fh, slot_tuple_iterator_next → i5, slot_enumerate_next → kq, args_tuple_add_2 → lJ, entry_tuple_add → l4
open Option.some renaming inj → bE
open PySem.PassesOwn renaming never → bH
open PyProof.Rows renaming seqObj → bJ, slot_tuple_getitem → dt, callWith_type1 → fH, boot_tuple → fW, get?_update_seq → gO
open PySem.Str renaming ofString → cj
open Int renaming toNat_natCast → cA, emod_add_mul_ediv → cX, eq_ofNat_of_zero_le → c6, emod_lt_of_pos → df, emod_nonneg → dh, toNat_of_nonneg → dv, le_refl → d8, emod_eq_of_lt → fQ, zero_add → fZ, zero_mul → gJ, mul_ediv_add_emod → iu, add_mul_emod_self_left → iU, mul_zero → i4, mul_sub → jw, mul_add → jx
open Ne renaming symm → cK
open PySem.Obj renaming mapSeq → cN
open False renaming elim → cR
open PySem.Builtin.SmallTypes renaming nextOf → cT, ownedTupleIsFree → ft, ownedTupleHandOut → hV
open Array renaming length_toList → cV, getElem?_eq_getElem → dQ, getElem?_toList → jX, toArray_toList → km
open PySem.Builtin.Range renaming rangeSize → dZ, small → ij
open Classical renaming byContradiction → eZ
open Pure renaming pure → fV
open PySem.Challenge renaming rw_hourtable_k92_whole_changes → fX
open PySem.Heap.SameBut renaming update → gv
open PySem.Builtin.Slice renaming slicePlaces → ib, sliceAdjust → kl
open PySem.Builtin.Tuple renaming tupleExact → iw
open PySem.W.Fast renaming te14364793385576792824 → iC, te14289696077712309145 → iD, te14082659384304107361 → iE, te10274390034422433532 → iF, te1435165496053646825 → iP, te4187177175401517315 → mP
open PySem.Builtin.List renaming listTooLong → iH
open PySem.Calls renaming callWith_builtin → jB
noncomputable section
abbrev rQ:=@if_neg
abbrev rR:=@if_pos
abbrev rS:=@absurd
abbrev rT:=@decide_eq_true
abbrev rV:=@decide_eq_false
abbrev rW:=@of_decide_eq_true
abbrev rX:=@congrArg
set_option maxHeartbeats 4000000
theorem gE {α:Type}{l:List α}{i:Nat}(h:i<l.length):l[i]? =some l[i]:=List.getElem?_eq_getElem h
variable {A:bT}{As ch fp:List aq}{B:Prop}{C Da Ls T0 T1 T2 Tb0 a dx f f1 f2 f3 f4 kS qs:aq}{E Q:af→ay→Prop}{K:au}{L b be d lo y z:Int}{M:PySem.Model}{N fr loose ps:List PySem.Str}{P prog:aX}{R gs hs ns ts:List Int}{T nm:String}{Ts:List (List Int)}{XP:(PySem.Str→Option af)→bO→Prop}{YP:bz→bO→Prop}{apos lp p0 p1 p2 pos pos' spos:PySem.Pos}{base h h':bO}{body e ea elt iter re tg value:PySem.Expr}{cl:List (PySem.Str×aq)}{d':PySem.Drawn}{e1 i iy j m n t':Nat}{env:PySem.Env}{es ifs:List PySem.Expr}{fd fd1 fd2 fd3 fd4:bg}{fz:aq→Option PySem.Obj}{g':Array PySem.GenState}{hi:Option Int}{items:Array af}{its old us vs:List af}{js l tk π:List Nat}{key:Nat→Int}{keys:List (Option PySem.Expr)}{ks:List (Int×Int)}{kw:List (PySem.Str×af)}{lq name q q0 q1 qual x y0:PySem.Str}{mA mg:PySem.Str→Option af}{oI:PySem.Obj}{op:PySem.CmpOp}{osl:Array (Option af)}{outer:List PySem.Env}{p:Array Nat}{params:gQ}{pins':List (aq×PySem.Obj)}{s s':ay}{scope:fN}{st:cF}{u was:af}{w:bz}{α:Type}
namespace L2
open PySem PySem.Spec PyProof.Rows
def kD (s:cF):gQ:=match s with
 | .FunctionDef _ a _ _ _ _ _ _ _ _=>a
 | _=>{ posonlyargs:=[],args:=[],vararg:=none,kwonlyargs:=[],kw_defaults:=[],kwarg:=none,defaults:=[] }
def gW (s:cF):List cF:=match s with
 | .FunctionDef _ _ b _ _ _ _ _ _ _=>b
 | _=>[]
def defScope (s:cF):fN:=match s with
 | .FunctionDef _ _ _ _ _ _ sc _ _ _=>sc
 | _=>{ kind:= .function,names:=[],isGenerator:=false,isCoroutine:=false }
end L2
namespace HN
open PySem L2 PyProof.Rows
def top (i:Nat):cF:=PySem.Challenge.pw_hourtable_k92_whole_changes.main.body.getD i (.Pass ⟨0,0,0,0⟩)
def clsOf (s:cF)(i:Nat):cF:=match s with
 | .ClassDef _ _ _ body _ _ _ _ _ _ _=>body.getD i (.Pass ⟨0,0,0,0⟩)
 | s=>s
structure Df (K:au)(x:Str)(st:cF)(f:aq):Prop where
 n:cq K bL x=some (some (.ref f))
 l:∃ (oc:af) (od an:Option aq) (sl:Array (Option af)) (kV dc pm cd ct:af),K.lookup f=some ⟨oc,od,.func (eR x x (kD st) (gW st) (defScope st) .none kV dc pm an cd ct),sl⟩∧gM K cd x=true∧dY K (.ref f)=true
def adr (K:au)(x:Str):aq:=match cq K bL x with | some (some (.ref f))=>f | _=>0
def reb (x:Str)(st:cF):Option Obj→Option Obj | some ⟨oc,od,.func d,sl⟩=>some ⟨oc,od,.func (eR x x (kD st) (gW st) (defScope st) .none d.kwdefaults d.doc d.pyModule d.annotations d.code d.closureTuple),sl⟩ | _=>none
def cdO:Option Obj→af | some ⟨_,_,.func d,_⟩=>d.code | _=> .none
def isO:Option Obj→Bool | some ⟨_,_,.func _,_⟩=>true | _=>false
def dfL (K:au)(e:Str×cF):Option (Option af)×Bool×Option Obj×Bool×Bool:=(cq K bL e.1,isO (K.lookup (adr K e.1)),K.lookup (adr K e.1),gM K (cdO (K.lookup (adr K e.1))) e.1,dY K (.ref (adr K e.1)))
def dfR (K:au)(e:Str×cF):Option (Option af)×Bool×Option Obj×Bool×Bool:=(some (some (.ref (adr K e.1))),true,reb e.1 e.2 (K.lookup (adr K e.1)),true,true)
theorem df_of (h:dfL K (x,st)=dfR K (x,st)):Df K x st (adr K x):=by
 unfold dfL dfR at h;simp only [Prod.mk.injEq] at h;obtain ⟨h1,h2,h3,h4,h5⟩:=h;refine ⟨h1,?_⟩;revert h2 h3 h4;cases hk:K.lookup (adr K x) with
 | none=>intro h2;cases h2
 | some o =>
  obtain ⟨oc,od,d,sl⟩:=o;cases d <;> intro h2 h3 h4 <;> first | (cases h2;done) | exact ⟨oc,od,_,sl,_,_,_,_,_,h3,h4,h5⟩
def Fcx (K:au):List (Str×cF)→(List aq→Prop)→Prop
 | [],C=>C []
 | (x,st)::r,C=>∀ f:aq,Df K x st f→Fcx K r fun l=>C (f::l)
theorem fcx_of {K:au}:∀ {L:List (Str×cF)} {C:List aq→Prop},L.map (dfL K)=L.map (dfR K)→Fcx K L C→C (L.map fun e=>adr K e.1)
 | [],_,_,k=>k
 | (x,st)::r,C,h,k=>by
  rw [bI,bI] at h;injection h with h1 h2
  exact fcx_of (L:=r) (C:=fun l=>C (adr K x::l)) h2 (k _ (df_of h1))
def Facts (K:au):Prop:=∀ C:Prop,Fcx K (("width_of",top 8)::("leads_from",top 12)::("leads_to",top 13)::("first_bounds",top 16)::("sum_of",top 17)::("beats_of",top 18)::("is_dead",top 19)::("spans_by_width",top 22)::("forest_of",top 23)::("steps_from",top 24)::("way_between",top 25)::("ring_by",top 26)::("cases_of",top 27)::("rings_of",top 28)::("spread_of",top 29)::("rest_by",top 31)::("with_bound",top 39)::("rings_over",top 48)::("middle_of",top 50)::("dead_leaf",top 51)::("table_by",top 52)::("tables_that_fit",top 53)::("tree_from",top 54)::("tree_by",top 55)::("table_for",top 56)::("with_spans",top 9)::("is_whole",top 4)::("is_within",top 5)::("is_step",top 11)::("is_way",top 14)::("is_ring",top 15)::("is_headed",top 35)::("is_cut",top 36)::("is_leaf",top 38)::("sides_of",top 40)::("leaves_in",top 41)::("is_right",top 42)::("shown_by",top 45)::("parts_of",top 60)::("shifts_between",top 61)::("moved_in_parts",top 62)::("held_at_firsts",top 63)::("staying",top 67)::("commonest",top 64)::("held_at_most",top 65)::("others_in",top 66)::("fewest_moved",top 68)::("pin_between",top 58)::("pinned",top 59)::("_law_cell_at",top 70)::("_law_box",top 71)::("_law_draw",top 72)::("_law_kept",top 73)::("_law_all_kept",top 74)::("_law_net",top 75)::("_law_table",top 76)::("_law_is_none",top 77)::("_law_fits",top 78)::("_law_others_not",top 79)::("_law_best",top 80)::("_law_right",top 81)::("law",top 82)::[]) (fun l=>∀ {t1 t2 t3:Tok} {xC xi xs xt:aq} {odI anI odS anS odT anT:Option aq} {slI slS slT:Array (Option af)} {ocI kVI dcI pmI ctI ocS kVS dcS pmS cdS ctS ocT kVT dcT pmT cdT ctT:af},(cq K bL "MOST_CASES" =some (some (.int 4096 t1))) →
 (cq K bL "MOST_LEAVES_WALKED" =some (some (.int 20000 t2))) →
 (cq K bL "MOST_SPANS" =some (some (.int 40 t3))) →
 (cq K bL "isinstance" =some none) →
 (cq K bL "int" =some none) →
 (cq K bL "bool" =some none) →
 (cq K bL "tuple" =some none) →
 (cq K bL "len" =some none) →
 (cq K bL "min" =some none) →
 (cq K bL "all" =some none) →
 (cq K bL "range" =some none) →
 (cq K bL "enumerate" =some none) →
 (cq K bL "zip" =some none) →
 (cq K bL "sum" =some none) →
 (cq K bL "list" =some none) →
 (cq K bL "max" =some none) →
 (cq K bL "set" =some none) →
 (cq K bL "sorted" =some none) →
 (cq K bL "reversed" =some none) →
 (cq K bL "str" =some none) →
 (cq K bL "Cuts" =some (some (.ref xC))) →
 (jR K xC Str.empty=true) →
 (PySem.W.hasDictIn K xC=true) →
 (PySem.W.plainOver K xC=true) →
 (cM K (.ref xC) "__setattr__" =some (some (.builtin "object.__setattr__"))) →
 (cM K (.ref xC) "first_case" =some none) →
 (cM K (.ref xC) "touched" =some none) →
 (cM K (.ref xC) "order" =some none) →
 (PySem.W.makesIn K xC=true) →
 (cM K (.ref xC) "__init__" =some (some (.ref xi))) →
 (PySem.W.isFn K (.ref xi)=true) →
 (dY K (.ref xC)=true) →
 (K.lookup xi=some ⟨ocI,odI,.func (eR "__init__" "Cuts.__init__" (kD (clsOf (top 49) 0)) (gW (clsOf (top 49) 0)) (defScope (clsOf (top 49) 0)) .none kVI dcI pmI anI (.ref 280) ctI),slI⟩) →
 (gM K (.ref 280) "Cuts.__init__" =true) →
 (dY K (.ref xi)=true) →
 (cM K (.ref xC) "span_to_cut" =some (some (.ref xs))) →
 (PySem.W.isFn K (.ref xs)=true) →
 (dY K (.ref xs)=true) →
 (K.lookup xs=some ⟨ocS,odS,.func (eR "span_to_cut" "Cuts.span_to_cut" (kD (clsOf (top 49) 1)) (gW (clsOf (top 49) 1)) (defScope (clsOf (top 49) 1)) .none kVS dcS pmS anS cdS ctS),slS⟩) →
 (gM K cdS "Cuts.span_to_cut" =true) →
 (cM K (.ref xC) "sides" =some (some (.ref xt))) →
 (PySem.W.isFn K (.ref xt)=true) →
 (dY K (.ref xt)=true) →
 (K.lookup xt=some ⟨ocT,odT,.func (eR "sides" "Cuts.sides" (kD (clsOf (top 49) 2)) (gW (clsOf (top 49) 2)) (defScope (clsOf (top 49) 2)) .none kVT dcT pmT anT cdT ctT),slT⟩) →
 (gM K cdT "Cuts.sides" =true) →
 (cdO (K.lookup (l.getD 7 0))=af.ref 144) →
 (dg K 144 140=true) →
 (dg K 280 278=true) →
 (cdO (K.lookup (l.getD 24 0))=af.ref 348) →
 (dg K 348 344=true) →
 (cdO (K.lookup (l.getD 43 0))=af.ref 391) →
 (dg K 391 387=true) →
 (cdO (K.lookup (l.getD 46 0))=af.ref 411) →
 (dg K 411 409=true)→C)→C
def Wp:Prop:=∀ {q:aX} {loose:List Str} {XP:(Str→Option af)→bO→Prop} {YP:bz→bO→Prop} {d:DefRec} {K:Params→au},d.params.defaults=[]→d.name = "law" →(∀ (w:bz) (h:bO),YP w h→(K w.params).In h∧∀ T∈([140,278,344,387,409]:List aq),h.get? T=some (PySem.W.tabObj #[]))→(∀ w:bz,∀ T∈([140,278,344,387,409]:List aq),∃ c,dg (K w.params) c T=true)→(∀ w:bz,PySem.W.noTabs (K w.params)=true)→(∀ w:bz,Facts (K w.params))→PySem.W.WalkO q loose XP YP (fX).row.toRowW d [] (fun f vs=>PySem.call f vs)
end HN
section
open PySem PySem.W PyProof.Rows
def HN.seenOf:aX:={ PySem.Challenge.pw_hourtable_k92_whole_changes with main:={ PySem.Challenge.pw_hourtable_k92_whole_changes.main with body:=[1,2,4,5,7,8,9,11,12,13,14,15,16,17,18,19,20,22,23,24,25,26,27,28,29,31,33,34,35,36,37,38,39,40,41,42,43,44,45,47,48,49,50,51,52,53,54,55,56,58,59,60,61,62,63,64,65,66,67,68,70,71,72,73,74,75,76,77,78,79,80,81,82].map HN.top } }
def HN.isSeen (s:ay):Bool:=xlAt HN.seenOf [] s && recOk (RowW.records (OpenRow.toRowW (OpenLaw.row fX))) s
local macro_rules
 | `(tactic| o_head $H:term) => `(tactic| (refine holds_open (q := HN.seenOf) (loose := []) (XP := XL HN.seenOf []) (Xt := HN.isSeen) (Yf := Hook.obs $H) (Ya := Hook.val $H) (YP := Hook.says $H) (N := 2896) ?_ (Hook.of $H) (Hook.keeps $H) (fun s e => xl_of s (Bool.and_eq_true_iff.mp e).1) XL.keeps (by rfl) (by rfl) (by rfl) (fun s e => recFacts_of (Bool.and_eq_true_iff.mp e).2) ?_ ?_ ?_ ?_ ?_ ?_))
theorem HN.left_two {σ β:Type}{e:Option σ}{f:σ→α}{g:σ→β}{a:α}{b:β}(h1:e.map f=some a)(h2:e.map g=some b):e.map (fun s=>(f s,g s))=some (a,b):=by
 cases e with
 | none=>cases h1
 | some s=>injection h1 with h1;injection h2 with h2;show some (f s,g s)=_;rw [h1,h2]
theorem HN.left_pr {σ β:Type}{e:Option σ}{f:σ→α×β}{a:α×β}(h1:e.map (fun s=>(f s).1)=some a.1)(h2:e.map (fun s=>(f s).2)=some a.2):e.map f=some a:=by
 cases e with
 | none=>cases h1
 | some s=>injection h1 with h1;injection h2 with h2;exact rX some (Prod.ext h1 h2)
set_option maxRecDepth 100000 in
set_option maxHeartbeats 0 in
theorem HN.head0 (W:HN.Wp)(Lf:∀ w:bz,(openEnds treeTable PySem.Challenge.rw_hourtable_k92_whole_changes.row.prog w 2896).map (openSeen HN.seenOf [] (lE PySem.Challenge.rw_hourtable_k92_whole_changes.row.prog.main.body) HN.isSeen true)=some (openGood HN.seenOf [])):PySem.Challenge.rw_hourtable_k92_whole_changes.Holds:=by
 w_on;refine holds_law (by decide +kernel) fun said=>?_;k_head
 ·exact fun w=>HN.left_two (Lf w) (by unfold openEnds fencedOpening topFrom;rewrite [iF,iD,iC,iP,iE];kernel_rfl)
 ·rfl
 ·assumption
 ·decide +kernel
 ·exact ⟨rfl,rfl,rfl,rfl,rfl,by decide +kernel⟩
 ·w_witness2
 k_fill
 refine W rfl rfl (fun w h Y=>⟨PySem.W.km_in_of Y,fun T hT=>PySem.W.km_tabs_of Y T (by revert hT;revert T;decide)⟩) (fun w T hT=>by
  simp only [aH,cz,or_false] at hT
  rcases hT with rfl | rfl | rfl | rfl | rfl
  ·exact ⟨144,by kernel_rfl⟩
  ·exact ⟨280,by kernel_rfl⟩
  ·exact ⟨348,by kernel_rfl⟩
  ·exact ⟨391,by kernel_rfl⟩
  ·exact ⟨411,by kernel_rfl⟩
  ) (fun w=>by kernel_rfl) ?F
 case F =>
  intro w C k;refine' HN.fcx_of ?E k ?y1 ?y2 ?y3 ?z1 ?z2 ?z3 ?z4 ?z5 ?z6 ?z7 ?z8 ?z9 ?z10 ?z11 ?z12 ?z13 ?z14 ?z15 ?z16 ?z17 ?w1 ?w2 ?w3 ?w4 ?w5 ?w6 ?w7 ?w8 ?w9 ?w10 ?w11 ?w12 ?w13 ?w14 ?w15 ?w16 ?w17 ?w18 ?w19 ?w20 ?w21 ?w22 ?w23 ?w24 ?w25 ?wc0 ?wh0 ?wh1 ?wc2 ?wh2 ?wc3 ?wh3 ?wc4 ?wh4
  (case E=>kernel_rfl)
  (case y1=>k_is);(case y2=>k_is);(case y3=>k_is);(case z1=>k_is);(case z2=>k_is);(case z3=>k_is);(case z4=>k_is);(case z5=>k_is);(case z6=>k_is);(case z7=>k_is);(case z8=>k_is);(case z9=>k_is);(case z10=>k_is);(case z11=>k_is);(case z12=>k_is);(case z13=>k_is);(case z14=>k_is);(case z15=>k_is);(case z16=>k_is);(case z17=>k_is)
  (case w1=>k_is)
  (case w2=>k_is)
  (case w3=>k_is)
  (case w4=>k_is)
  (case w5=>k_is)
  (case w6=>k_is)
  (case w7=>k_is)
  (case w8=>k_is)
  (case w9=>k_is)
  (case w10=>k_is)
  (case w11=>k_is)
  (case w12=>k_is)
  (case w13=>k_is)
  (case w14=>k_is)
  (case w15=>k_is)
  (case w16=>k_is)
  (case w17=>k_is)
  (case w18=>k_is)
  (case w19=>k_is)
  (case w20=>k_is)
  (case w21=>k_is)
  (case w22=>k_is)
  (case w23=>k_is)
  (case w24=>k_is)
  (case w25=>k_is)
  (case wc0=>kernel_rfl)
  (case wh0=>kernel_rfl)
  (case wh1=>kernel_rfl)
  (case wc2=>kernel_rfl)
  (case wh2=>kernel_rfl)
  (case wc3=>kernel_rfl)
  (case wh3=>kernel_rfl)
  (case wc4=>kernel_rfl)
  (case wh4=>kernel_rfl)
set_option maxHeartbeats 0 in
theorem HN.left1 (w:bz):(openEnds treeTable PySem.Challenge.rw_hourtable_k92_whole_changes.row.prog w 2896).map (fun s=>(openSeen HN.seenOf [] (lE PySem.Challenge.rw_hourtable_k92_whole_changes.row.prog.main.body) HN.isSeen true s).1)=some (openGood HN.seenOf []).1:=by
 unfold openEnds fencedOpening topFrom;rewrite [iF,iD,iC,iP,iE,mP];kernel_rfl
set_option maxHeartbeats 0 in
theorem HN.left2 (w:bz):(openEnds treeTable PySem.Challenge.rw_hourtable_k92_whole_changes.row.prog w 2896).map (fun s=>(openSeen HN.seenOf [] (lE PySem.Challenge.rw_hourtable_k92_whole_changes.row.prog.main.body) HN.isSeen true s).2)=some (openGood HN.seenOf []).2:=by
 unfold openEnds fencedOpening topFrom;rewrite [iF,iD,iC,iP,iE,mP];kernel_rfl
theorem HN.leftA (w:bz):(openEnds treeTable PySem.Challenge.rw_hourtable_k92_whole_changes.row.prog w 2896).map (openSeen HN.seenOf [] (lE PySem.Challenge.rw_hourtable_k92_whole_changes.row.prog.main.body) HN.isSeen true)=some (openGood HN.seenOf []):=HN.left_pr (f:=openSeen HN.seenOf [] (lE PySem.Challenge.rw_hourtable_k92_whole_changes.row.prog.main.body) HN.isSeen true) (HN.left1 w) (HN.left2 w)
end
local macro_rules
|`(⇑$_)=>`(by trivial)
set_option hygiene false in
local macro_rules
|`(‹$_›)=>`(cJ P w K mg base CX0)
set_option hygiene false in
local macro_rules
|`(‹_›)=>`(cJ l.prog w K mg base CX0)
set_option hygiene false in
local macro_rules
|`(tactic|erw[$g:ident,$a:term,$p:term])=>`(tactic|obtain⟨_,$g:ident⟩:=($a).fn X G (ps:=$p))
local macro_rules
 | `(⋯) => `(by lia)
local macro_rules
 | `(∅) => `(by simp)
local macro_rules
 | `(↥$_) => `(by decide)
local macro_rules
 | `(tactic|apply $e) => `(tactic|refine $e)
set_option hygiene false in
local macro_rules
 | `(tactic|specialize $e) => `(tactic|refine $e (by contradiction) (fun cdv A outer s H vs Q E hr h=>?_))
namespace L2
open PySem PySem.Spec PyProof.Rows
abbrev Key:=Sum Int Str
def keyIs:Key→af→Bool
 | .inl k,v=>af.isInt k v
 | .inr x,v=>af.isStrOf x v
def keyH (w:bz):Key→Int
 | .inl k=>hashInt k
 | .inr x=>hashStr w x
def gU:∀{k:Key} {v:af},keyIs k v=true→(∃i t,k=Sum.inl i∧v=af.int i t)∨(∃x t,k=Sum.inr x∧v=af.str x t)
 | .inl i,v,h=>by
  obtain⟨t,e⟩:=af.isInt_shape (k:=i) (v:=v) h;exact .inl ⟨i,t,rfl,e⟩
 | .inr x,v,h=>by
  obtain⟨t,e⟩:=af.isStrOf_shape (x:=x) (v:=v) h;exact .inr ⟨x,t,rfl,e⟩
def keyIs_int (i:Int)(t:Tok):keyIs (.inl i) (.int i t)=true:=by simp[keyIs,af.isInt]
def keyIs_str (x:Str)(t:Tok):keyIs (.inr x) (.str x t)=true:=by simp[keyIs,af.isStrOf]
def key_ll (a b:Int):decide ((Sum.inl a:Key)=Sum.inl b)=(a == b):=by
 by_cases e:a=b
 ·subst e;simp
 ·have h:¬(Sum.inl a:Key)=Sum.inl b:=λq=>e (Sum.inl.inj q)
  rw[rV h];exact(beq_eq_false_iff_ne.mpr e).symm
def key_rr (a b:Str):decide ((Sum.inr a:Key)=Sum.inr b)=decide (a=b):=by
 by_cases e:a=b
 ·subst e;simp
 ·have h:¬(Sum.inr a:Key)=Sum.inr b:=λq=>e (Sum.inr.inj q)
  rw[rV h,rV e]
def key_lr (a:Int)(b:Str):decide ((Sum.inl a:Key)=Sum.inr b)=false:=rV (λq=>nomatch q)
def key_rl (a:Str)(b:Int):decide ((Sum.inr a:Key)=Sum.inl b)=false:=rV (λq=>nomatch q)
def hW (prog:aX)(w:bz):PySem.KeyKind prog w Key where
 is:=keyIs
 hash:=keyH w
 inj:=λv a b ha hb=>by
  rcases gU ha with ⟨i,t,rfl,rfl⟩ | ⟨x,t,rfl,rfl⟩
  ·rcases gU hb with ⟨j,u,rfl,e⟩ | ⟨y,u,rfl,e⟩
   ·injection e with e1 _;rw[e1]
   ·exact nomatch e
  ·rcases gU hb with ⟨j,u,rfl,e⟩ | ⟨y,u,rfl,e⟩
   ·exact nomatch e
   ·injection e with e1 _;rw[e1]
 byValue:=λk v h=>by
  rcases gU h with ⟨i,t,rfl,rfl⟩ | ⟨x,t,rfl,rfl⟩ <;> rfl
 pyHash:=λhv h=>by
  rcases gU hv with ⟨i,t,rfl,rfl⟩ | ⟨x,t,rfl,rfl⟩
  ·exact wpAny_pyHash_int h
  ·exact wpAny_pyHash_str h
 eqBool:=λhu hv h=>by
  rcases gU hu with ⟨i,t,rfl,rfl⟩ | ⟨x,t,rfl,rfl⟩
  ·rcases gU hv with ⟨j,u,rfl,rfl⟩ | ⟨y,u,rfl,rfl⟩
   ·rw[key_ll] at h;exact wpAny_eqBool_int h
   ·rw[key_lr] at h;exact SeqAt.EqAt.int_str i t y u _ _ _ _ h
  ·rcases gU hv with ⟨j,u,rfl,rfl⟩ | ⟨y,u,rfl,rfl⟩
   ·rw[key_rl] at h;exact SeqAt.EqAt.str_int x t j u _ _ _ _ h
   ·rw[key_rr] at h;exact wpAny_eqBool_str h
 «strs» := λk x t v h=>by
  rcases gU h with ⟨i,u,rfl,e⟩ | ⟨y,u,rfl,e⟩
  ·exact nomatch e
  ·injection e with e1 _
   subst e1;cases v <;> rfl
def mixKind_int (prog:aX)(w:bz)(i:Int)(t:Tok):(hW prog w).is (.inl i) (.int i t)=true:=keyIs_int i t
def mixKind_str (prog:aX)(w:bz)(x:Str)(t:Tok):(hW prog w).is (.inr x) (.str x t)=true:=keyIs_str x t
inductive V where
 | non | bl (b:Bool) | int (i:Int) | str (x:Str) | byt (b:Array UInt8) | flt (b:UInt64) | ref (a:aq) | ty (n:String)
 deriving DecidableEq
def gL:V→af→Prop
 | .non,u=>u=af.none
 | .bl b,u=>u=af.bool b
 | .int i,u=>∃t,u=af.int i t
 | .str x,u=>∃t,u=af.str x t
 | .byt b,u=>∃t,u=af.bytes b t
 | .flt b,u=>∃t,u=af.float b t
 | .ref a,u=>u=af.ref a
 | .ty n,u=>u=af.type n
abbrev gz:List V→List af→Prop:=jS gL
def gz.length {xs:List V}(r:gz xs us):xs.length=us.length:=Paired.length r
theorem gz.get:∀{xs:List V} {us:List af} {i:Nat} {x:V},gz xs us→xs[i]? =some x→∃u,us[i]? =some u∧gL x u
 | _,_,_,_,.nil,e=>by simp at e
 | _,_,0,_,.cons r _,e=>by simp at e;subst e;exact⟨_,rfl,r⟩
 | _,_,i+1,x,.cons _ t,e=>by
  obtain⟨u,h1,h2⟩:=gz.get (i:=i) (x:=x) t (by simpa using e);exact⟨u,by simpa using h1,h2⟩
theorem gz.set {x:V}{u:af}(r:gL x u):∀{xs:List V} {us:List af} (i:Nat),gz xs us→gz (xs.set i x) (us.set i u)
 | _,_,_,.nil=> .nil
 | _,_,0,.cons _ t=> .cons r t
 | _,_,i+1,.cons q t=> .cons q (gz.set r i t)
theorem gz.append:∀{xs ys:List V} {us ws:List af},gz xs us→gz ys ws→gz (xs++ys) (us++ws)
 | _,_,_,_,.nil,s=>s
 | _,_,_,_,.cons r t,s=> .cons r (gz.append t s)
theorem gz.take:∀{xs:List V} {us:List af} (n:Nat),gz xs us→gz (xs.take n) (us.take n)
 | _,_,0,_=> .nil
 | _,_,_+1,.nil=> .nil
 | _,_,n+1,.cons r t=> .cons r (gz.take n t)
theorem gz.drop:∀{xs:List V} {us:List af} (n:Nat),gz xs us→gz (xs.drop n) (us.drop n)
 | _,_,0,r=>r
 | _,_,_+1,.nil=> .nil
 | _,_,n+1,.cons _ t=>gz.drop n t
def RelO:Option V→Option af→Prop
 | some v,some u=>gL v u
 | none,none=>True
 | _,_=>False
def KV {κ:Type}:List (κ×V)→List (κ×af)→Prop:=jS λ(p:κ×V) (q:κ×af)=>p.1=q.1∧gL p.2 q.2
def kV:Key→V
 | .inl i=> .int i
 | .inr x=> .str x
inductive HO where
 | lst (xs:List V)
 | tup (xs:List V)
 | dK (kvs:List (Key×V)) | dT (kvs:List (List Key×V))
 | set (S:Int→Bool) (n:Nat)
 | ins (C dx:aq) (fs:List (Str×V))
 | own (x:aq)
 | xd (fs:List (Str×V))
 | met (f x:aq)
 | rng (lo hi:Int)
 | frz (o:Obj) (u:HO)
 | tbl (ps:Array af)
 | ext (φ:bO→Prop)
abbrev Hp:=aq→Option HO
def upd (H:Hp)(a:aq)(o:HO):Hp:=λb=>if b=a then some o else H b
def aR {H:Hp}{o:HO}:upd H a o a=some o:=by unfold upd;rw[rR rfl]
def bt {H:Hp}{b:aq}{o:HO}(h:b≠a):upd H a o b=H b:=by unfold upd;rw[rQ h]
def fM {H:Hp}{b:aq}{o u:HO}(h:H a=some o)(h':H b=some u)(d:o≠u):a≠b:=by
 intro e;subst e;rw[h] at h';exact d (bE h')
def bF {H:Hp}{b:aq}{o:HO}(h:H a=some o)(h':H b=none):a≠b:=by
 intro e;subst e;rw[h] at h';cases h'
def mV (h:bO)(a:aq)(items:Array af):Prop:=∃o,h.get? a=some o∧o.cls= .type "tuple" ∧o.dict=none∧∃n,o.data= .seq items n
def mV.tup {h:bO}{a:aq}{items:Array af}(p:mV h a items):IsTup h a items:=let ⟨o,e,c,_,n,d⟩:=p;⟨o,e,c,n,d⟩
def mV.lt (p:mV h a items):a<h.objs.size:=p.tup.lt
def mV.new (h:bO)(items:Array af):mV (h.push { cls:= .type "tuple",data:= .seq items }) h.objs.size items:=⟨_,aU _ rfl,rfl,rfl,_,rfl⟩
section
variable (P:aX) (w:bz)
def jk (H:Hp)(h:bO)(a:aq):HO→Prop
 | .lst xs=>xs.length≤bf∧∃(its:List af) (n:Nat),gz xs its∧h.get? a=some { cls:= .type "list",data:= .seq its.toArray n }
 | .tup xs=>xs.length≤bf∧∃its:List af,gz xs its∧mV h a its.toArray
 | .dK kvs=>kvs.length≤bf∧(a == i9)=false∧∃vs,KV kvs vs∧h.DictOf (hW P w) a vs
 | .dT kvs=>kvs.length≤bf∧(a == i9)=false∧∃xs:List (List Key×aq×af),
   jS (λ(p:List Key×V) (q:List Key×aq×af)=>p.1=q.1∧H q.2.1=some (.tup (p.1.map kV))∧gL p.2 q.2.2) kvs xs ∧
   ∃o es ep,h.get? a=some o∧o.ExactDict∧o.data= .dict es ep∧es.toList=xs.map (entryOfKey (tupleKind (hW P w)))∧(xs.map (·.1)).Nodup
 | .set S n=>h.SetOf (intKind P w) a S n
 | .ins C dx fs=>H dx=some (.own a)∧fs.length≤1000∧dx≠a∧h.get? a=some (gp C dx) ∧
   ∃mA,h.Ns1 dx mA∧(∀f,RelO (fs.lookup f) (mA f))∧PySem.Within mA (fs.map (·.1))
 | .own _=>∃o,h.get? a=some o
 | .xd fs=>∃mA,h.Ns1 a mA∧∀f,RelO (fs.lookup f) (mA f)
 | .rng lo hi=>∃t u v,h.get? a=some { cls:= .type "range",data:= .fields #[.int lo t,.int hi u,.int 1 v] }
 | .frz o u=>h.get? a=some o∧jk H h a u
 | .tbl ps=>h.get? a=some { cls:= .none,data:= .fields ps }
 | .met f x=>h.get? a=some (PySem.W.methodObj (.ref f) (.ref x))
 | .ext φ=>φ h∧(∃o,h.get? a=some o)∧∀h1 h2:bO,φ h1→(∀o,h1.get? a=some o→h2.get? a=some o)→φ h2
def HOk (H:Hp)(h:bO):Prop:=∀a o,H a=some o→jk P w H h a o
end
section
variable {H H':Hp}{o:HO}
def jk.lt (x:jk P w H h a o):a<h.objs.size:=by
 cases o with
 | lst xs=>obtain⟨_,_,_,_,e⟩:=x;exact aN e
 | tup xs=>obtain⟨_,_,_,p⟩:=x;exact p.lt
 | dK kvs=>obtain⟨_,_,_,_,o,_,_,e,_⟩:=x;exact aN e
 | dT kvs=>obtain⟨_,_,_,_,o,_,_,e,_⟩:=x;exact aN e
 | set S n=>obtain⟨o,_,_,_,e,_⟩:=x;exact aN e
 | ins C dx fs=>obtain⟨_,_,_,e,_⟩:=x;exact aN e
 | own y=>obtain⟨_,e⟩:=x;exact aN e
 | xd fs=>obtain⟨_,⟨_,_,_,e,_⟩,_⟩:=x;exact aN e
 | rng lo hi=>obtain⟨_,_,_,e⟩:=x;exact aN e
 | frz ob u=>obtain⟨e,_⟩:=x;exact aN e
 | tbl ps=>exact aN (show h.get? a=some _ from x)
 | met f y=>exact aN (show h.get? a=some _ from x)
 | ext φ=>obtain⟨_,⟨_,e⟩,_⟩:=x;exact aN e
theorem Paired.mapP {α β:Type}{F G:α→β→Prop}:∀{l₁:List α} {l₂:List β},jS F l₁ l₂→(∀a b,F a b→G a b)→jS G l₁ l₂
 | _,_,.nil,_=> .nil
 | _,_,.cons r t,f=> .cons (f _ _ r) (Paired.mapP t f)
def jk.stay (x:jk P w H h a o)(k:∀b u,(b=a∨H b=some (.own a))→h.get? b=some u→h'.get? b=some u)
  (ho:∀b,H b=some (.own a)→H' b=some (.own a)) (ht:∀b xs,H b=some (.tup xs)→H' b=some (.tup xs)):jk P w H' h' a o:=by
 induction o with
 | lst xs=>obtain⟨z,its,n,r,e⟩:=x;exact⟨z,its,n,r,k _ _ (.inl rfl) e⟩
 | tup xs=>obtain⟨z,its,r,ob,e,c⟩:=x;exact⟨z,its,r,ob,k _ _ (.inl rfl) e,c⟩
 | dK kvs=>obtain⟨z,y,vs,r,ob,es,ep,e,c⟩:=x;exact⟨z,y,vs,r,ob,es,ep,k _ _ (.inl rfl) e,c⟩
 | dT kvs =>
  obtain⟨z,y,xs,r,ob,es,ep,e,c⟩:=x;exact⟨z,y,xs,Paired.mapP r λp q z=>⟨z.1,ht _ _ z.2.1,z.2.2⟩,ob,es,ep,k _ _ (.inl rfl) e,c⟩
 | set S n=>obtain⟨ob,es,ep,t,e,c⟩:=x;exact⟨ob,es,ep,t,k _ _ (.inl rfl) e,c⟩
 | ins C dx fs =>
  obtain⟨d,z,ne,e,mA,⟨od,es,ep,e2,c⟩,r⟩:=x;exact⟨ho _ d,z,ne,k _ _ (.inl rfl) e,mA,⟨od,es,ep,k _ _ (.inr d) e2,c⟩,r⟩
 | own y=>obtain⟨ob,e⟩:=x;exact⟨ob,k _ _ (.inl rfl) e⟩
 | xd fs=>obtain⟨mA,⟨od,es,ep,e,c⟩,r⟩:=x;exact⟨mA,⟨od,es,ep,k _ _ (.inl rfl) e,c⟩,r⟩
 | rng lo hi=>obtain⟨t,u,v,e⟩:=x;exact⟨t,u,v,k _ _ (.inl rfl) e⟩
 | frz ob u ih=>obtain⟨e,q⟩:=x;exact⟨k _ _ (.inl rfl) e,ih q⟩
 | tbl ps =>
  have e:h.get? a=some { cls:= .none,data:= .fields ps }:=x;show h'.get? a=some { cls:= .none,data:= .fields ps };exact k a _ (.inl rfl) e
 | met f y =>
  have e:h.get? a=some (PySem.W.methodObj (.ref f) (.ref y)):=x;show h'.get? a=some (PySem.W.methodObj (.ref f) (.ref y));exact k a _ (.inl rfl) e
 | ext φ=>obtain⟨p,⟨o,e⟩,st⟩:=x;exact⟨st _ _ p λo q=>k _ _ (.inl rfl) q,⟨o,k _ _ (.inl rfl) e⟩,st⟩
def HOk.lt (x:HOk P w H h)(e:H a=some o):a<h.objs.size:=(x a o e).lt
def HOk.fresh (x:HOk P w H h)(e:h.objs.size≤a):H a=none:=by
 cases q:H a with
 | none=>rfl
 | some u=>exact rS (aS (x.lt q) e) (gc _)
def HOk.kept (x:HOk P w H h)(k:∀b u,h.get? b=some u→h'.get? b=some u):HOk P w H h':=λa o e =>
 (x a o e).stay (λb u _ q=>k b u q) (λ_ q=>q) λ_ _ q=>q
def HOk.laid (x:HOk P w H h)(k:∀b u,h.get? b=some u→h'.get? b=some u)(hp:h.objs.size≤a)(new:jk P w (upd H a o) h' a o):HOk P w (upd H a o) h':=λb u e=>by
 have hn:=x.fresh hp
 by_cases hb:b=a
 ·subst hb;rw[aR] at e;cases e;exact new
 ·rw[bt hb] at e
  exact(x b u e).stay (λc v _ q=>k c v q) (λc q=>by rw[bt (bF q hn)];exact q) λc xs q=>by rw[bt (bF q hn)];exact q
end
def Rd (H:Hp)(a:aq)(u:HO):Prop:=H a=some u∨∃o,H a=some (.frz o u)
def Rd.of {H:Hp}{u:HO}(h:H a=some u):Rd H a u:= .inl h
def Rd.ok {H:Hp}{u:HO}(r:Rd H a u)(x:HOk P w H h):jk P w H h a u:=by
 rcases r with r | ⟨o,r⟩
 ·exact x a u r
 ·obtain⟨_,q⟩:=x a _ r
  exact q
def Mut:Option HO→Prop
 | some (.lst _)=>True
 | some (.dK _)=>True
 | some (.dT _)=>True
 | some (.set _ _)=>True
 | some (.ins _ _ _)=>True
 | some (.ext _)=>True
 | _=>False
section
variable {H:Hp}{x e:aq}{o':HO}
def HOk.write (ok:HOk P w H h)(mu:Mut (H x))(he:e=x∨H e=some (.own x))(k:∀b u,b≠e→h.get? b=some u→h'.get? b=some u)(heo:∃u,h'.get? e=some u)
  (new:jk P w (upd H x o') h' x o'):HOk P w (upd H x o') h':=λb u q=>by
 have nown:∀c y,H c=some (.own y)→c≠x:=λc y r z=>by subst z;rw[r] at mu;exact mu
 have ntup:∀c xs,H c=some (.tup xs)→c≠x:=λc xs r z=>by subst z;rw[r] at mu;exact mu
 by_cases hb:b=x
 ·subst hb;rw[aR] at q;cases q;exact new
 ·rw[bt hb] at q
  by_cases hbe:b=e
  ·have q':H b=some (.own x):=by
    rcases he with z | z
    ·exact rS (hbe.trans z) hb
    ·rw[hbe];exact z
   rw[q] at q';cases q';obtain⟨v,hv⟩:=heo;exact⟨v,by rw[hbe];exact hv⟩
  ·apply(ok b u q).stay (λc v hc r=>k c v ?_ r) (λc r=>by rw[bt (nown c b r)];exact r) λc xs r=>by rw[bt (ntup c xs r)];exact r
   rcases hc with rfl | hc
   ·exact hbe
   ·rintro rfl
    rcases he with z | z
    ·exact nown c b hc z
    ·rw[hc] at z;cases z;exact hb rfl
end
structure Un (fs ex:List aq)(H H':Hp)(h h':bO):Prop where
 keep:∀b o,h.get? b=some o→H b=none→b ∉ fs→b ∉ ex→h'.get? b=some o
 slot:∀b o,h.get? b=some o→H b=none→b∈fs→b ∉ ex→∃sl,h'.get? b=some { o with slots:=sl }
 free:∀b o,h.get? b=some o→H b=none→b ∉ ex→H' b=none
 there:∀b o,h.get? b=some o→b ∉ ex→∃o',h'.get? b=some o'
 tups:∀b xs,H b=some (.tup xs)→H' b=some (.tup xs)
 frzs:∀b o u,H b=some (.frz o u)→H' b=some (.frz o u)
 tbls:∀b ps,H b=some (.tbl ps)→∃more,H' b=some (.tbl (ps++more))
section
variable {fs fs' ex ex':List aq}{H H1 H2:Hp}{h1 h2:bO}{x e:aq}{o:HO}
def Un.any (u:Un fs ex H H1 h h1){b:aq}{ob:Obj}(q:h.get? b=some ob)(n:H b=none)(hx:b ∉ ex):∃sl,h1.get? b=some { ob with slots:=sl }:=by
 by_cases hb:b∈fs
 ·exact u.slot b ob q n hb hx
 ·exact⟨ob.slots,u.keep b ob q n hb hx⟩
def Un.kept (k:∀b u,h.get? b=some u→h'.get? b=some u):Un fs ex H H h h' :=
 ⟨λb ob q _ _ _=>k b ob q,λb ob q _ _ _=>⟨ob.slots,k b ob q⟩,λ_ _ _ n _=>n,λb ob q _=>⟨ob,k b ob q⟩,λ_ _ q=>q,λ_ _ _ q=>q,λ_ ps q=>⟨#[],by rw[q];simp⟩⟩
def Un.refl:Un fs ex H H h h:=Un.kept λ_ _ q=>q
def Un.laid (k:∀b u,h.get? b=some u→h'.get? b=some u)(hp:h.objs.size≤a)(hn:H a=none):Un fs ex H (upd H a o) h h' where
 keep:=λb u q _ _ _=>k b u q
 slot:=λb u q _ _ _=>⟨u.slots,k b u q⟩
 free:=λb u q n _=>by rw[bt (bG (aS (aN q) hp))];exact n
 there:=λb u q _=>⟨u,k b u q⟩
 tups:=λb xs q=>by rw[bt (bF q hn)];exact q
 frzs:=λb u xs q=>by rw[bt (bF q hn)];exact q
 tbls:=λb ps q=>⟨#[],by rw[bt (bF q hn),q];simp⟩
def Un.write (mu:Mut (H x))(he:e=x∨H e=some (.own x))(k:∀b u,b≠e→h.get? b=some u→h'.get? b=some u)(heo:∃u,h'.get? e=some u):Un fs ex H (upd H x o) h h':=by
 have hx:∀b,H b=none→b≠x:=λb n z=>by subst z;rw[n] at mu;exact mu
 have hb:∀b,H b=none→b≠e:=λb n z=>by
  subst z
  rcases he with r | r
  ·exact hx b n r
  ·rw[n] at r;cases r
 have hm:∀b u,H b=some u→¬Mut (some u)→b≠x:=λb u q nm z=>by subst z;rw[q] at mu;exact nm mu
 apply ⟨fun b u q n _ _=>k b u (hb b n) q,fun b u q n _ _=>⟨u.slots,k b u (hb b n) q⟩,fun b u q n _=>by rw [bt (hx b n)];exact n,fun b u q _=>?_,
  fun b xs q=>by rw [bt (hm b _ q fun z=>z)];exact q,fun b u xs q=>by rw [bt (hm b _ q fun z=>z)];exact q,fun b ps q=>⟨#[],by rw [bt (hm b _ q fun z=>z),q];simp⟩⟩
 by_cases hbe:b=e
 ·subst hbe;exact heo
 ·exact⟨u,k b u hbe q⟩
end
def trk (h:bO)(H:Hp):List aq:=(aG h.objs.size).filter λa=>(H a).isSome
def hidT (h:bO)(H:Hp):bO:=PySem.W.hideAll h (trk h H)
def hidT_size (h:bO)(H:Hp):(hidT h H).objs.size=h.objs.size:=PySem.W.hideAll_size _ _
def hidT_get {H:Hp}{b:aq}{o:Obj}(e:h.get? b=some o)(n:H b=none):(hidT h H).get? b=some o :=
 PySem.W.hideAll_get _ e λhm=>by
  have q:(H b).isSome=true:=(bX.mp hm).2;rw[n] at q;simp at q
def of_hidT {H:Hp}{b:aq}{o:Obj}(e:(hidT h H).get? b=some o):h.get? b=some o∧H b=none:=by
 have e':h.get? b=some o:=PySem.W.of_hideAll (trk h H) e;apply⟨e',?_⟩;cases q:H b with
 | none=>rfl
 | some x =>
  have hm:b∈trk h H:=bX.mpr ⟨bS.mpr (aN e'),by simp[q]⟩;have z:(hidT h H).get? b=none:=PySem.W.hideAll_none (trk h H) hm;rw[z] at e;cases e
structure Mod (K:au)(mg:Str→Option af)(base:bO):Prop where
 kin:K.In base
 glob:base.Ns bL mg
 blt:∃mb,base.Ns builtinsNs mb∧∀x:Str,x ≠ "__name__" →mb x=kh x
 nolimit:base.NoLimit
structure Cx where
 prog:aX
 w:bz
 K:au
 mg:Str→Option af
 base:bO
 A:bT
 N:List Str
 s₀:ay
 H₀:Hp
 env:Env
 outer:List Env
 stack:List Env
 ex:List aq
 fn:Str→Bool
 calm:Bool
 pn:List (aq×Obj)
 xe:af→ay→Prop
def frs (l:List Env):List aq:=l.filterMap (·.frame)
abbrev Cx.fs (X:Cx):List aq:=frs X.outer
def Vis (sc:fN)(x:Str):Prop:=sc.names.lookup x=some .local∨sc.names.lookup x=some .cell∨sc.names.lookup x=some .free
def Loc (sc:fN)(x:Str):Prop:=sc.names.lookup x=some .local∨sc.names.lookup x=some .cell
def Look (env:Env)(h:bO)(m:Str→Option af)(x:Str)(u:af):Prop :=
 (env.kindOf x=some .local∧m x=some u)∨((env.kindOf x=some .cell∨env.kindOf x=some .free)∧∃c,env.cells.lookup x=some c∧h.IsCell c (some u))
structure Cx.Ok (X:Cx):Prop where
 mod:Mod X.K X.mg X.base
 kind:X.env.scope.kind= .function
 glob:X.env.globals=bL
 blt:X.env.builtins=builtinsNs
 above:X.s₀.heap.objs.size≤X.env.locals
 inj:∀x y c,X.env.cells.lookup x=some c→X.env.cells.lookup y=some c→x=y
 has:∀x,(X.env.kindOf x=some .cell∨X.env.kindOf x=some .free)→∃c,X.env.cells.lookup x=some c
 cab:∀x c,X.fn x=true→X.env.cells.lookup x=some c→X.s₀.heap.objs.size≤c
 hd:X.calm=true→X.A.handled=none
 frames:X.A.frames=some X.stack
 stk:X.stack=X.outer∨(X.stack=X.env::X.outer∧X.env.frame=some X.env.locals)
 exf:∀b∈X.ex,b≠X.env.locals∧∀x c,X.env.cells.lookup x=some c→c≠b
 bs:∀b o,X.base.get? b=some o→X.s₀.heap.get? b=some o∧X.H₀ b=none
 bsz:X.base.objs.size≤X.s₀.heap.objs.size
 noex:∀b o,X.base.get? b=some o→b ∉ X.ex
 exfs:∀b∈X.ex,b ∉ X.fs
 funs:X.s₀.heap.FunFrames X.base X.outer
 frf:∀b∈X.fs,X.H₀ b=none
structure Inv (X:Cx)(pins:List (aq×Obj))(σ:List (Option V))(H:Hp)(s:ay):Prop where
 ok:X.Ok
 os:s.os=X.s₀.os
 bare:AllBare s.gens
 base:Un X.fs X.ex X.H₀ H X.s₀.heap s.heap
 loc:∃m,s.heap.Ns X.env.locals m∧∀(i:Nat) (x:Str) (v:V),X.N[i]? =some x→σ[i]? =some (some v)→Vis X.env.scope x→∃u,gL v u∧Look X.env s.heap m x u
 cell:∀x c,X.env.cells.lookup x=some c→∃v,s.heap.IsCell c v
 free:H X.env.locals=none
 freeC:∀x c,X.env.cells.lookup x=some c→H c=none
 pin:∀p∈X.pn++pins,s.heap.get? p.1=some p.2∧H p.1=none∧p.1≠X.env.locals∧p.1 ∉ X.fs∧∀v,p.2.data≠ .cell v
 hok:HOk X.prog X.w H s.heap
 len:σ.length=X.N.length
section
variable {X:Cx}{pins:List (aq×Obj)}{σ:List (Option V)}{H H':Hp}
def Cx.Ok.nofr (ok:X.Ok){b:aq}{o:Obj}(e:X.base.get? b=some o):b ∉ X.fs:=λhb=>by
 have:=(ok.funs.mem hb).1;rw[e] at this;cases this
def Inv.bs (I:Inv X pins σ H s):∀b o,X.base.get? b=some o→s.heap.get? b=some o∧H b=none:=λb o e =>
 ⟨I.base.keep b o (I.ok.bs b o e).1 (I.ok.bs b o e).2 (I.ok.nofr e) (I.ok.noex b o e),I.base.free b o (I.ok.bs b o e).1 (I.ok.bs b o e).2 (I.ok.noex b o e)⟩
def Inv.bk (I:Inv X pins σ H s):∀b o,X.base.get? b=some o→s.heap.get? b=some o:=λb o e=>(I.bs b o e).1
def Inv.mod (I:Inv X pins σ H s):Mod X.K X.mg X.base:=I.ok.mod
def Inv.kIn (I:Inv X pins σ H s):X.K.In s.heap:=I.ok.mod.kin.keeps I.bk
def Inv.nolimit (I:Inv X pins σ H s):s.heap.NoLimit:=I.ok.mod.nolimit.keeps I.bk
def Inv.lt (I:Inv X pins σ H s):X.env.locals<s.heap.objs.size:=let ⟨_,hn,_⟩:=I.loc;hn.lt
def Inv.sz (I:Inv X pins σ H s):X.s₀.heap.objs.size≤s.heap.objs.size:=aQ I.ok.above (iZ I.lt)
def Inv.nofs (I:Inv X pins σ H s)(h:s.heap.objs.size≤a):a ∉ X.fs:=λhb=>by
 obtain⟨_,o,ho,_⟩:=I.ok.funs.mem hb;exact rS (aS (aN ho) (aQ I.sz h)) (gc _)
def Inv.cne (I:Inv X pins σ H s):∀x c,X.env.cells.lookup x=some c→c≠X.env.locals:=λx c e z=>by
 obtain⟨v,o,ho,hd⟩:=I.cell x c e;obtain⟨m,⟨o',es,ep,ho',hd',_⟩,_⟩:=I.loc;rw[z,ho'] at ho;cases ho;rw[hd'] at hd;cases hd
def Inv.funs (I:Inv X pins σ H s):s.heap.FunFrames X.base X.outer:=by
 have all:∀(l:List Env),(∀b∈frs l,b∈X.fs)→X.s₀.heap.FunFrames X.base l→s.heap.FunFrames X.base l:=by
  intro l
  induction l with
  | nil=>intro _ _;trivial
  | cons env r ih =>
   intro hs hl;obtain⟨hk,⟨L,o,hf,hn,ho,hd⟩,hr⟩:=hl;have hL:L∈X.fs:=hs L (by unfold frs;rw[List.filterMap_cons,hf];exact bq);obtain⟨sl,e⟩:=I.base.slot L o ho (I.ok.frf L hL) hL λz=>I.ok.exfs L z hL
   exact⟨hk,⟨L,_,hf,hn,e,hd⟩,ih (λb hb=>hs b (by unfold frs;rw[List.filterMap_cons,hf];exact aA _ hb)) hr⟩
 exact all X.outer (λ_ hb=>hb) I.ok.funs
def Inv.stack (I:Inv X pins σ H s):s.heap.FunFrames X.base X.stack:=by
 rcases I.ok.stk with e | ⟨e,hf⟩
 ·rw[e];exact I.funs
 ·rw[e]
  obtain⟨m,hn,_⟩:=I.loc;apply .cons (by rw[I.ok.kind];decide) hf hn ?_ I.funs;exact bO.get?_none_of_le (aQ I.ok.bsz I.ok.above)
def Inv.stkSub (I:Inv X pins σ H s):∀b∈frs X.stack,b∈X.env.locals::X.fs:=λb hb=>by
 rcases I.ok.stk with e | ⟨e,hf⟩
 ·rw[e] at hb;exact aA _ hb
 ·rw[e] at hb
  unfold frs at hb;rw[List.filterMap_cons,hf] at hb;exact hb
def Inv.stkFree (I:Inv X pins σ H s):∀b∈frs X.stack,H b=none:=λb hb=>by
 rcases aH.mp (I.stkSub b hb) with e | hb
 ·rw[e];exact I.free
 ·obtain⟨_,o,ho,_⟩:=I.ok.funs.mem hb
  exact I.base.free b o ho (I.ok.frf b hb) λz=>I.ok.exfs b z hb
def Inv.step (I:Inv X pins σ H s)
  (hch:∀b∈ch,(b∈X.ex∨X.s₀.heap.objs.size≤b)∧b≠X.env.locals∧(∀x c,X.env.cells.lookup x=some c→c≠b)∧∀p∈X.pn++pins,p.1≠b)
  (keep:∀b o,b≠X.env.locals→b ∉ X.fs→b ∉ ch→s.heap.get? b=some o→H b=none→h'.get? b=some o)
  (slot:∀b o,b≠X.env.locals→b∈X.fs→b ∉ ch→s.heap.get? b=some o→H b=none→∃sl,h'.get? b=some { o with slots:=sl }) (free:∀b o,b ∉ ch→s.heap.get? b=some o→H b=none→H' b=none)
  (there:∀b o,b ∉ ch→s.heap.get? b=some o→∃o',h'.get? b=some o')
  (tups:∀b xs,H b=some (.tup xs)→H' b=some (.tup xs)) (frzs:∀b o u,H b=some (.frz o u)→H' b=some (.frz o u)) (tbls:∀b ps,H b=some (.tbl ps)→∃more,H' b=some (.tbl (ps++more)))
  (ns:∀m,s.heap.Ns X.env.locals m→h'.Ns X.env.locals m) (hok:HOk X.prog X.w H' h') (hg:AllBare g') :
  Inv X pins σ H' { s with heap:=h',gens:=g',drawn:=d',toks:=t' }:=by
 have neL:∀b o,X.s₀.heap.get? b=some o→b≠X.env.locals:=λb o e=>bG (aS (aN e) I.ok.above)
 have neC:∀b o,X.s₀.heap.get? b=some o→b ∉ X.ex→b ∉ ch:=λb o e hx hb=>by
  rcases(hch b hb).1 with z | z
  ·exact hx z
  ·exact rS (aS (aN e) z) (gc _)
 have cellK:∀x c,X.env.cells.lookup x=some c→∀v,s.heap.IsCell c v→h'.IsCell c v:=λx c e v ⟨o,ho,hd⟩=>by
  have nch:c ∉ ch:=λz=>(hch c z).2.2.1 x c e rfl
  by_cases hc:c∈X.fs
  ·obtain⟨sl,q⟩:=slot c o (I.cne x c e) hc nch ho (I.freeC x c e)
   exact⟨_,q,hd⟩
  ·exact⟨o,keep c o (I.cne x c e) hc nch ho (I.freeC x c e),hd⟩
 apply⟨I.ok,I.os,hg,⟨λb o e n hb hx=>?_,λb o e n hb hx=>?_,λb o e n hx=>?_,λb o e hx=>?_,λb xs e=>tups b xs (I.base.tups b xs e),λb o xs e=>frzs b o xs (I.base.frzs b o xs e),λb ps e=>?_⟩,?_,λx c e=>?_,?_,λx c e=>?_,λp hp=>?_,hok,I.len⟩
 ·exact keep b o (neL b o e) hb (neC b o e hx) (I.base.keep b o e n hb hx) (I.base.free b o e n hx)
 ·obtain⟨sl,e1⟩:=I.base.slot b o e n hb hx
  obtain⟨sl',e2⟩:=slot b _ (neL b o e) hb (neC b o e hx) e1 (I.base.free b o e n hx);exact⟨sl',e2⟩
 ·obtain⟨o',e1⟩:=I.base.there b o e hx
  exact free b o' (neC b o e hx) e1 (I.base.free b o e n hx)
 ·obtain⟨o',e1⟩:=I.base.there b o e hx
  exact there b o' (neC b o e hx) e1
 ·obtain⟨m1,e1⟩:=I.base.tbls b ps e
  obtain⟨m2,e2⟩:=tbls b _ e1;exact⟨m1++m2,by rw[e2,Array.append_assoc]⟩
 ·obtain⟨m,hn,hl⟩:=I.loc
  apply⟨m,ns m hn,λi x v e1 e2 e3=>?_⟩;obtain⟨u,r,l⟩:=hl i x v e1 e2 e3;apply⟨u,r,?_⟩
  rcases l with l | ⟨k,c,e,z⟩
  ·exact .inl l
  ·exact .inr ⟨k,c,e,cellK x c e _ z⟩
 ·obtain⟨v,z⟩:=I.cell x c e
  exact⟨v,cellK x c e v z⟩
 ·obtain⟨m,⟨o,_,_,ho,_⟩,_⟩:=I.loc
  exact free _ o (λz=>(hch _ z).2.1 rfl) ho I.free
 ·obtain⟨v,o,ho,hd⟩:=I.cell x c e
  exact free c o (λz=>(hch c z).2.2.1 x c e rfl) ho (I.freeC x c e)
 ·obtain⟨e,n,ne,nf,d⟩:=I.pin p hp
  have nch:p.1 ∉ ch:=λz=>(hch p.1 z).2.2.2 p hp rfl
  exact⟨keep p.1 p.2 ne nf nch e n,free p.1 p.2 nch e n,ne,nf,d⟩
def Inv.un (I:Inv X pins σ H s)(u:Un X.fs [] H H' s.heap h')(hok:HOk X.prog X.w H' h'):Inv X pins σ H' { s with heap:=h',toks:=t' }:=by
 obtain ⟨m,⟨o,es,ep,ho,r⟩,_⟩:=id I.loc;obtain ⟨sl,hL⟩:=u.any ho I.free ∅;exact I.step (g':=s.gens) (d':=s.drawn) (ch:=[]) (fun _ z=>nomatch z) (fun b o _ hb _ e n=>u.keep b o e n hb ∅) (fun b o _ hb _ e n=>u.slot b o e n hb ∅) (fun b o _ e n=>u.free b o e n ∅) (fun b o _ e=>u.there b o e ∅) u.tups u.frzs u.tbls (fun m' hm=>by
  obtain ⟨o',es',ep',ho',r'⟩:=hm;rw [ho] at ho';cases ho';exact ⟨_,es',ep',hL,r'⟩) hok I.bare
def Inv.call (I:Inv X pins σ H s)(u:Un (frs X.stack) ch H H' s.heap h')(hok:HOk X.prog X.w H' h')(hg:AllBare g')
  (hch:∀b∈ch,(b∈X.ex∨X.s₀.heap.objs.size≤b)∧b≠X.env.locals∧(∀x c,X.env.cells.lookup x=some c→c≠b)∧∀p∈X.pn++pins,p.1≠b) :
  Inv X pins σ H' { s with heap:=h',gens:=g',drawn:=d',toks:=t' }:=by
 obtain⟨m,⟨o,es,ep,ho,r⟩,_⟩:=id I.loc;obtain⟨sl,hL⟩:=u.any ho I.free λz=>(hch _ z).2.1 rfl
 exact I.step (ch:=ch) hch (fun b o hL hb hc e n=>u.keep b o e n (fun z=>(aH.mp (I.stkSub b z)).elim hL hb) hc) (fun b o _ _ hc e n=>u.any e n hc) (fun b o hc e n=>u.free b o e n hc) (fun b o hc e=>u.there b o e hc) u.tups u.frzs u.tbls (fun m' hm=>by
  obtain ⟨o',es',ep',ho',r'⟩:=hm;rw [ho] at ho';cases ho';exact ⟨_,es',ep',hL,r'⟩) hok hg
def Inv.turned {it:aq}(I:Inv X pins σ H s)(k:∀b o,b≠it→s.heap.get? b=some o→h'.get? b=some o)(hn:H it=none)(hL:it≠X.env.locals)
  (h1:it∈X.ex∨X.s₀.heap.objs.size≤it) (h2:∀x c,X.env.cells.lookup x=some c→c≠it) (h3:∀p∈X.pn++pins,p.1≠it):Inv X pins σ H { s with heap:=h',toks:=t' }:=by
 have nit:∀b u,H b=some u→b≠it:=λb u e z=>by rw[z,hn] at e;cases e
 apply I.step (g':=s.gens) (d':=s.drawn) (ch:=[it]) (λb hb=>?_) (λb o _ _ hc e _=>k b o (λz=>hc (by simp[z])) e) (λb o _ _ hc e _=>⟨o.slots,k b o (λz=>hc (by simp[z])) e⟩) (λ_ _ _ _ n=>n)
  (λb o hc e=>⟨o,k b o (λz=>hc (by simp[z])) e⟩) (λ_ _ e=>e) (λ_ _ _ e=>e) (λb ps e=>⟨#[],by rw[e];simp⟩) (λm hm=>?_) (λb u e=>?_) I.bare
 ·have e:b=it:=by simpa using hb
  subst e;exact⟨h1,hL,h2,h3⟩
 ·obtain⟨o,es,ep,ho,r⟩:=hm
  exact⟨o,es,ep,k _ o (cK hL) ho,r⟩
 ·apply(I.hok b u e).stay (λc v hc q=>k c v ?_ q) (λ_ q=>q) λ_ _ q=>q
  rcases hc with z | z
  ·rw[z];exact nit b u e
  ·exact nit c _ z
def Inv.tok (I:Inv X pins σ H s)(t:Nat):Inv X pins σ H { s with toks:=t }:=I.un (h':=s.heap) (t':=t) Un.refl I.hok
def Inv.kept (I:Inv X pins σ H s)(k:∀b u,s.heap.get? b=some u→h'.get? b=some u):Inv X pins σ H { s with heap:=h',toks:=t' }:=I.un (Un.kept k) (I.hok.kept k)
def Inv.laid {o:HO}(I:Inv X pins σ H s)(k:∀b u,s.heap.get? b=some u→h'.get? b=some u)(hp:s.heap.objs.size≤a)(new:jk X.prog X.w (upd H a o) h' a o) :
  Inv X pins σ (upd H a o) { s with heap:=h',toks:=t' }:=I.un (Un.laid k hp (I.hok.fresh hp)) (I.hok.laid k hp new)
def Inv.write {x e:aq}{o:HO}(I:Inv X pins σ H s)(mu:Mut (H x))(he:e=x∨H e=some (.own x))(k:∀b u,b≠e→s.heap.get? b=some u→h'.get? b=some u)(heo:∃u,h'.get? e=some u)
  (new:jk X.prog X.w (upd H x o) h' x o):Inv X pins σ (upd H x o) { s with heap:=h',toks:=t' }:=I.un (Un.write mu he k heo) (I.hok.write mu he k heo new)
def Inv.pins_of (I:Inv X pins σ H s)(h:∀p∈pins',s.heap.get? p.1=some p.2∧H p.1=none∧p.1≠X.env.locals∧p.1 ∉ X.fs∧∀v,p.2.data≠ .cell v):Inv X pins' σ H s :=
 ⟨I.ok,I.os,I.bare,I.base,I.loc,I.cell,I.free,I.freeC,λp hp=>(aI.mp hp).elim (λz=>I.pin p (aJ _ z)) (h p),I.hok,I.len⟩
def nodup_ix (hN:N.Nodup)(a:N[i]? =some x)(b:N[j]? =some x):i=j:=by
 obtain⟨h1,e1⟩:=ar.mp a;obtain⟨h2,e2⟩:=ar.mp b;exact(j7 hN).mp (e1.trans e2.symm)
def store_ok2 {v:V}{Q:Unit→ay→Prop}(I:Inv X pins σ H s)(hN:X.N.Nodup)(hi:X.N[i]? =some x)(hx:Loc X.env.scope x)(r:gL v u)
  (h:∀s',Inv X pins (σ.set i (some v)) H s'→(∃a,cH a s.heap s'.heap∧(a=X.env.locals∨X.env.cells.lookup x=some a))→Q () s') (hf:X.fn x=true∨X.env.scope.names.lookup x=some .local:=by first | exact .inl rfl | exact .inr rfl | assumption):aW M A (storeName X.env x u) Q E s:=by
 obtain⟨m,hn,hl⟩:=id I.loc;have hcls:(X.env.scope.kind == .class || (X.env.scope.kind == .module && X.env.locals != X.env.globals))=false:=by rw[I.ok.kind];rfl
 have hiσ:i<σ.length:=by rw[I.len];exact(ar.mp hi).1
 have cne:=I.cne;have tracked:∀{a:aq} {h':bO},(∃o,s.heap.get? a=some o∧H a=none)→cH a s.heap h'→HOk X.prog X.w H h':=λ{a h'} ha hs b ob e=>by
  obtain⟨_,_,hfree⟩:=ha;apply(I.hok b ob e).stay (λc w' hc q=>(hs.2 c ?_).trans q) (λ_ q=>q) λ_ _ q=>q
  rintro rfl
  rcases hc with rfl | hc
  ·rw[hfree] at e;cases e
  ·rw[hfree] at hc;cases hc
 rcases hx with hk | hk
 ·apply wpAny_storeName_local hk hn (λh' hn' hs=>?_) hcls
  obtain⟨oL,_,_,hoL,_⟩:=id hn;apply h _ ⟨I.ok,I.os,I.bare,⟨λb o e n hb hx=>?_,λb o e n hb hx=>?_,I.base.free,λb o e hx=>?_,I.base.tups,I.base.frzs,I.base.tbls⟩,⟨_,hn',λj y v' e1 e2 e3=>?_⟩,λy c e=>?_,I.free,I.freeC,λp hp=>?_,tracked ⟨oL,hoL,I.free⟩ hs,by simpa using I.len⟩ ⟨_,hs,.inl rfl⟩
  ·exact(hs.2 b (bG (aS (aN e) I.ok.above))).trans (I.base.keep b o e n hb hx)
  ·obtain⟨sl,e1⟩:=I.base.slot b o e n hb hx
   exact⟨sl,(hs.2 b (bG (aS (aN e) I.ok.above))).trans e1⟩
  ·obtain⟨o',e1⟩:=I.base.there b o e hx
   exact⟨o',(hs.2 b (bG (aS (aN e) I.ok.above))).trans e1⟩
  ·by_cases hj:j=i
   ·subst hj
    rw[hi] at e1;cases e1;rw[dM hiσ] at e2;cases e2;exact⟨u,r,.inl ⟨hk,∅⟩⟩
   ·rw[dH (cK hj)] at e2
    obtain⟨u',r',q⟩:=hl j y v' e1 e2 e3;apply⟨u',r',?_⟩
    rcases q with ⟨k,e⟩ | ⟨k,c,e,z⟩
    ·apply .inl ⟨k,?_⟩
     have:y≠x:=λe=>hj (nodup_ix hN e1 (e ▸ hi))
     simp[this,e]
    ·exact .inr ⟨k,c,e,z.sameBut hs (cne y c e)⟩
  ·obtain⟨w',z⟩:=I.cell y c e
   exact⟨w',z.sameBut hs (cne y c e)⟩
  ·obtain⟨e,n,ne,nf,d⟩:=I.pin p hp
   exact⟨(hs.2 p.1 ne).trans e,n,ne,nf,d⟩
 ·have hfn:X.fn x=true:=by
   rcases hf with z | z
   ·exact z
   ·rw[z] at hk;cases hk
  obtain⟨c,hc⟩:=I.ok.has x (.inl hk);obtain⟨w',z⟩:=I.cell x c hc;apply wpAny_storeName_cell I.ok.kind hk hc z (λh' hc' hs=>?_);obtain⟨oc,hoc,hocd⟩:=id z;apply h { s with heap:=h' } ⟨I.ok,I.os,I.bare,⟨λb o e n hb hx=>?_,λb o e n hb hx=>?_,I.base.free,λb o e hx=>?_,I.base.tups,I.base.frzs,I.base.tbls⟩,⟨m,hn.sameBut hs (cK (cne x c hc)),λj y v' e1 e2 e3=>?_⟩,λy c' e=>?_,I.free,I.freeC,λp hp=>?_,tracked ⟨oc,hoc,I.freeC x c hc⟩ hs,by simpa using I.len⟩ ⟨c,hs,.inr hc⟩
  ·exact(hs.2 b (bG (aS (aN e) (I.ok.cab x c hfn hc)))).trans (I.base.keep b o e n hb hx)
  ·obtain⟨sl,e1⟩:=I.base.slot b o e n hb hx
   exact⟨sl,(hs.2 b (bG (aS (aN e) (I.ok.cab x c hfn hc)))).trans e1⟩
  ·obtain⟨o',e1⟩:=I.base.there b o e hx
   exact⟨o',(hs.2 b (bG (aS (aN e) (I.ok.cab x c hfn hc)))).trans e1⟩
  ·by_cases hj:j=i
   ·subst hj
    rw[hi] at e1;cases e1;rw[dM hiσ] at e2;cases e2;exact⟨u,r,.inr ⟨.inl hk,c,hc,hc'⟩⟩
   ·rw[dH (cK hj)] at e2
    obtain⟨u',r',q⟩:=hl j y v' e1 e2 e3;apply⟨u',r',?_⟩
    rcases q with q | ⟨k,c',e,z'⟩
    ·exact .inl q
    ·apply .inr ⟨k,c',e,z'.sameBut hs ?_⟩
     rintro rfl;exact hj (nodup_ix hN e1 (I.ok.inj _ _ _ e hc ▸ hi))
  ·by_cases hcc:c'=c
   ·subst hcc;exact⟨_,hc'⟩
   ·obtain⟨w2,z2⟩:=I.cell y c' e
    exact⟨w2,z2.sameBut hs hcc⟩
  ·obtain⟨e,n,ne,nf,d⟩:=I.pin p hp
   apply⟨(hs.2 p.1 ?_).trans e,n,ne,nf,d⟩;intro q;rw[q,hoc] at e;have q':oc=p.2:=bE e;exact d w' (by rw[←q'];exact hocd)
def store_ok {v:V}{Q:Unit→ay→Prop}(I:Inv X pins σ H s)(hN:X.N.Nodup)(hi:X.N[i]? =some x)(hx:Loc X.env.scope x)(r:gL v u)
  (h:∀s',Inv X pins (σ.set i (some v)) H s'→Q () s') (hf:X.fn x=true∨X.env.scope.names.lookup x=some .local:=by first | exact .inl rfl | exact .inr rfl | assumption):aW M A (storeName X.env x u) Q E s :=
 store_ok2 I hN hi hx r (λs' I' _=>h s' I') hf
def Inv.call' (I:Inv X pins σ H s)(ho:s'.os=s.os)(u:Un (frs X.stack) ch H H' s.heap s'.heap)(hok:HOk X.prog X.w H' s'.heap)(hg:AllBare s'.gens)
  (hch:∀b∈ch,(b∈X.ex∨X.s₀.heap.objs.size≤b)∧b≠X.env.locals∧(∀x c,X.env.cells.lookup x=some c→c≠b)∧∀p∈X.pn++pins,p.1≠b):Inv X pins σ H' s':=by
 obtain⟨h',g',d',t',o'⟩:=s';have e:o'=s.os:=ho;subst e;exact I.call (g':=g') (t':=t') (d':=d') u hok hg hch
end
abbrev XK:=af→Option aq→Hp→Prop
abbrev St:=List (Option V)
abbrev VK:=V→Hp→Prop
abbrev TE:=St→Hp→VK→Prop
abbrev TT:=St→Hp→(Bool→Hp→Prop)→Prop
abbrev TA:=St→Hp→(List V→Hp→Prop)→Prop
end L2
variable {H H' H1 H2 Hc:L2.Hp}{Hf:L2.Hp→Prop}{X:L2.Cx}{kvs:List (List L2.Key×L2.V)}{o:L2.HO}{t:L2.TA}{ta te tl:L2.TE}{trs:List (L2.TE×L2.TE)}{tt:L2.TT}{v:L2.V}{xs ys zs:List L2.V}{σ:L2.St}
namespace L2
open PySem PySem.Spec PyProof.Rows
structure kQ where
 nx:St→Hp→Prop
 rt:VK
 bk:St→Hp→Prop:=λ_ _=>False
 ct:St→Hp→Prop:=λ_ _=>False
abbrev TS:=kQ→St→Hp→Prop
def EP (X:Cx)(pins:List (aq×Obj))(σ:St)(Q:VK)(u:af)(s':ay):Prop:=∃v H',Inv X pins σ H' s'∧gL v u∧Q v H'
def TP (X:Cx)(pins:List (aq×Obj))(σ:St)(Q:Bool→Hp→Prop)(b:Bool)(s':ay):Prop:=∃H',Inv X pins σ H' s'∧Q b H'
def AP (X:Cx)(pins:List (aq×Obj))(σ:St)(Q:List V→Hp→Prop)(us:List af)(s':ay):Prop:=∃vs H',Inv X pins σ H' s'∧gz vs us∧Q vs H'
def SP (X:Cx)(pins:List (aq×Obj))(D:kQ)(f:Flow)(s':ay):Prop :=
 match f with
 | .next=>∃σ' H',Inv X pins σ' H' s'∧D.nx σ' H'
 | .brk=>∃σ' H',Inv X pins σ' H' s'∧D.bk σ' H'
 | .cont=>∃σ' H',Inv X pins σ' H' s'∧D.ct σ' H'
 | .ret u=>∃v σ' H',Inv X pins σ' H' s'∧gL v u∧D.rt v H'
def PE (X:Cx)(e:Expr)(t:TE):Prop :=
 ∀(pins:List (aq×Obj)) (s:ay) (σ:St) (H:Hp) (Q:VK),Inv X pins σ H s→t σ H Q→aW (br X.prog X.w) X.A (eP e X.env) (EP X pins σ Q) X.xe s
def PT (X:Cx)(e:Expr)(t:TT):Prop :=
 ∀(pins:List (aq×Obj)) (s:ay) (σ:St) (H:Hp) (Q:Bool→Hp→Prop),Inv X pins σ H s→t σ H Q→aW (br X.prog X.w) X.A (isTrue e X.env (eP e X.env)) (TP X pins σ Q) X.xe s
def PW (X:Cx)(e:Expr)(t:TT):Prop :=
 ∀(whole:Sem af) (pins:List (aq×Obj)) (s:ay) (σ:St) (H:Hp) (Q:Bool→Hp→Prop),Inv X pins σ H s→t σ H Q→aW (br X.prog X.w) X.A (isTrue e X.env whole) (TP X pins σ Q) X.xe s
def PW.pt {t:TT}(h:PW X e t):PT X e t:=h _
def PA (X:Cx)(es:List Expr)(t:TA):Prop :=
 ∀(pos:Pos) (pins:List (aq×Obj)) (s:ay) (σ:St) (H:Hp) (Q:List V→Hp→Prop),Inv X pins σ H s→t σ H Q→aW (br X.prog X.w) X.A (spliced (fB pos (bB es X.env))) (AP X pins σ Q) X.xe s
def PS (X:Cx)(st:cF)(t:TS):Prop :=
 ∀(pins:List (aq×Obj)) (s:ay) (σ:St) (H:Hp) (D:kQ),Inv X pins σ H s→t D σ H→aW (br X.prog X.w) X.A (exec st X.env) (SP X pins D) X.xe s
def PSs (X:Cx)(st:List cF)(t:TS):Prop :=
 ∀(pins:List (aq×Obj)) (s:ay) (σ:St) (H:Hp) (D:kQ),Inv X pins σ H s→t D σ H→aW (br X.prog X.w) X.A (execs st X.env) (SP X pins D) X.xe s
def thn {t:Sem α}{Q Q':α→ay→Prop}(h:aW M A t Q E s)(hQ:∀a s,Q a s→Q' a s):aW M A t Q' E s:=cx h hQ λ_ _ x=>x
section
inductive HasV (o:Option (Option V))(k:V→Prop):Prop
 | mk (v:V)(h:o=some (some v))(q:k v):HasV o k
inductive IsBl (x:V)(k:Bool→Prop):Prop
 | mk (c:Bool)(h:x= .bl c)(q:k c):IsBl x k
def tVar (i:Nat):TE:=λσ H Q=>HasV σ[i]? λv=>Q v H
def tC (v:V):TE:=λ_ H Q=>Q v H
def pe_var (hN:X.N[i]? =some x)(hv:Vis X.env.scope x)(hd:(x == ("__debug__" :Str))=false:=by decide)(hcd:(x == ("__classdict__" :Str))=false:=by decide):PE X (.Name x pos) (tVar i):=by
 intro pins s σ H Q I h;obtain⟨v,e,h⟩:=h;obtain⟨m,hn,hl⟩:=I.loc;obtain⟨u,r,l⟩:=hl i x v hN e hv;have fin:EP X pins σ Q u s:=⟨v,H,I,r,h⟩
 rcases l with ⟨hk,hm⟩ | ⟨hk,c,hc,iL⟩
 ·exact wpAny_Name (wpAny_loadName_local I.ok.kind hk hn hm fin) hd
 ·rcases hk with hk | hk
  ·exact wpAny_Name (wpAny_loadName_cell I.ok.kind hk hc iL fin) hd
  ·exact wpAny_Name (wpAny_loadName_free I.ok.kind hk hc iL fin hcd) hd
def bP {i j pos}:PE X (.Constant (.int i) j pos) (tC (.int i)):=λ_ _ _ H _ I h=>wpAny_Constant_int ⟨.int i,H,I.tok _,⟨_,rfl⟩,h⟩
def lW {b j pos}:PE X (.Constant (.bool b) j pos) (tC (.bl b)):=λ_ _ _ H _ I h=>Constant_bool ⟨.bl b,H,I,rfl,h⟩
def oQ {j pos}:PE X (.Constant .none j pos) (tC .non):=λ_ _ _ H _ I h=>Constant_none ⟨.non,H,I,rfl,h⟩
def jh {x j pos}:PE X (.Constant (.str x) j pos) (tC (.str x)):=λ_ _ _ H _ I h=>Calls.Constant_str ⟨.str x,H,I.tok _,⟨_,rfl⟩,h⟩
def Gl (X:Cx)(x:Str):Prop:=X.env.kindOf x=some .globalImplicit
def ld_glob {pins:List (aq×Obj)}(I:Inv X pins σ H s)(hg:Gl X x)(hm:X.mg x=some u)(h:Q u s)
  (hd:(x == ("__debug__" :Str))=false:=by decide):aW (br X.prog X.w) X.A (eP (.Name x pos) X.env) Q E s :=
 Calls.Name_function_global I.ok.kind hg (Calls.loadGlobal_global (by rw[I.ok.glob];exact I.mod.glob.keeps I.bk) hm h) hd
def mU {pins:List (aq×Obj)}(I:Inv X pins σ H s)(hg:Gl X x)(hm:X.mg x=none)(hv:kh x=some u)(h:Q u s)
  (hn:x ≠ "__name__" := by decide) (hd:(x == ("__debug__" :Str))=false:=by decide):aW (br X.prog X.w) X.A (eP (.Name x pos) X.env) Q E s:=by
 obtain⟨mb,h1,h2⟩:=I.mod.blt;exact Calls.Name_function_global I.ok.kind hg (Calls.loadGlobal_builtin (by rw[I.ok.glob];exact I.mod.glob.keeps I.bk) hm (by rw[I.ok.blt];exact h1.keeps I.bk) ((h2 x hn).trans hv) h) hd
def pe_glob (hg:Gl X x)(hm:X.mg x=some u)(r:gL v u)(hd:(x == ("__debug__" :Str))=false:=by decide):PE X (.Name x pos) (tC v) :=
 λ_ _ _ H _ I h=>ld_glob I hg hm ⟨v,H,I,r,h⟩ hd
def pe_bltn (hg:Gl X x)(hm:X.mg x=none)(hv:kh x=some u)(r:gL v u)(hn:x ≠ "__name__" := by decide)(hd:(x == ("__debug__" :Str))=false:=by decide):PE X (.Name x pos) (tC v) :=
 λ_ _ _ H _ I h=>mU I hg hm hv ⟨v,H,I,r,h⟩ hn hd
variable {a b:Expr}{tb:TE}
def PC (X:Cx)(op:CmpOp)(a b:Expr)(t:TE):Prop :=
 ∀(pins:List (aq×Obj)) (s:ay) (σ:St) (H:Hp) (Q:VK),Inv X pins σ H s→t σ H Q →
  aW (br X.prog X.w) X.A (eP a X.env) (λv s₁=>aW (br X.prog X.w) X.A (eP b X.env) (λu s₂=>aW (br X.prog X.w) X.A (dX op v u) (EP X pins σ Q) X.xe s₂) X.xe s₁) X.xe s
def tB (t:TE):TT:=λσ H Q=>t σ H λx H1=>IsBl x λc=>Q c H1
def pt_cmp {t:TE}(h:PC X op a b t)(h1:behindInMarks op b=false:=by first | exact nobehind _ ↥0 ↥0 | rfl):PT X (.Compare a [op] [b] pos) (tB t):=by
 intro pins s σ H Q I hw;apply wpAny_isTrue_Compare1 (thn (h pins s σ H _ I hw) λv s1 h1=>thn h1 λu s2 h2=>thn h2 λc s3 ⟨x,H1,I1,r1,q1⟩=>?_) h1;obtain⟨d,rfl,q⟩:=q1;cases r1;exact eG ⟨H1,I1,q⟩
def iB {t:TE}(h:PE X e t)(he:∀whole,isTrue e X.env whole=(do let v ← whole;standAt e.pos;holding [v] (truthy v)):=by intro _;rfl):PT X e (tB t):=by
 intro pins s σ H Q I hw;apply isTrue_plain (thn (h pins s σ H _ I hw) λv s1 ⟨x,H1,I1,r1,q1⟩=>?_) (he _);obtain⟨d,rfl,q⟩:=q1;cases r1;exact eG ⟨H1,I1,q⟩
variable {tA tB':TT} {rest:List Expr}
def tAnd (t u:TT):TT:=λσ H Q=>t σ H λc H1=>if c=true then u σ H1 Q else Q false H1
def tOr (t u:TT):TT:=λσ H Q=>t σ H λc H1=>if c=true then Q true H1 else u σ H1 Q
def tNot (t:TT):TT:=λσ H Q=>t σ H λc H1=>Q (!c) H1
def pw_and1 (ha:PT X a tA):PW X (.BoolOp .And [a] pos) tA:=by
 intro wh pins s σ H Q I h;apply isTrue_and (thn (ha pins s σ H Q I h) λc s1 e=>?_);cases c with
 | true=>exact isTrue_and_nil e
 | false=>exact e
def nN (ha:PT X a tA):PW X (.BoolOp .Or [a] pos) tA:=by
 intro wh pins s σ H Q I h;apply isTrue_or (thn (ha pins s σ H Q I h) λc s1 e=>?_);cases c with
 | false=>exact isTrue_or_nil e
 | true=>exact e
def pw_and (ha:PT X a tA)(hb:PW X (.BoolOp .And (b::rest) pos) tB'):PW X (.BoolOp .And (a::b::rest) pos) (tAnd tA tB'):=by
 intro wh pins s σ H Q I h;apply isTrue_and (thn (ha pins s σ H _ I h) λc s1 ⟨H1,I1,q1⟩=>?_);cases c with
 | true=>exact hb wh pins s1 σ H1 Q I1 q1
 | false=>exact⟨H1,I1,q1⟩
def oW (ha:PT X a tA)(hb:PW X (.BoolOp .Or (b::rest) pos) tB'):PW X (.BoolOp .Or (a::b::rest) pos) (tOr tA tB'):=by
 intro wh pins s σ H Q I h;apply isTrue_or (thn (ha pins s σ H _ I h) λc s1 ⟨H1,I1,q1⟩=>?_);cases c with
 | true=>exact⟨H1,I1,q1⟩
 | false=>exact hb wh pins s1 σ H1 Q I1 q1
def jN (ha:PT X a tA):PT X (.UnaryOp .Not a pos) (tNot tA):=by
 intro pins s σ H Q I h;exact isTrue_not (ha pins s σ H (λc H1=>Q (!c) H1) I h)
def tAndV (ta tb:TE):TE:=λσ H Q=>ta σ H λx H1=>IsBl x λc=>if c=true then tb σ H1 Q else Q (.bl false) H1
def tNotV (ta:TE):TE:=λσ H Q=>ta σ H λx H1=>IsBl x λc=>Q (.bl (!c)) H1
def qc {op}{t:TE}(h:PE X a t):PE X (.BoolOp op [a] pos) t:=λpins s σ H Q I hw=>BoolOp_one (h pins s σ H Q I hw)
def mm (ha:PE X a ta)(hb:PE X (.BoolOp .And (b::rest) pos) tb):PE X (.BoolOp .And (a::b::rest) pos) (tAndV ta tb):=by
 intro pins s σ H Q I h;apply BoolOp_and (thn (ha pins s σ H _ I h) λv s1 ⟨x,H1,I1,r1,q1⟩=>?_);obtain⟨c,rfl,q1⟩:=q1;cases r1;apply eG ?_;cases c with
 | true=>exact hb pins s1 σ H1 Q I1 q1
 | false=>exact⟨.bl false,H1,I1,rfl,q1⟩
def pe_not (ha:PE X a ta):PE X (.UnaryOp .Not a pos) (tNotV ta):=by
 intro pins s σ H Q I h;apply UnaryOp_ (thn (ha pins s σ H _ I h) λv s1 ⟨x,H1,I1,r1,q1⟩=>?_);obtain⟨c,rfl,q1⟩:=q1;cases r1;exact not_of (eG ⟨.bl (!c),H1,I1,rfl,q1⟩)
def tIf (t:TT)(ta tb:TE):TE:=λσ H Q=>t σ H λc H1=>if c=true then ta σ H1 Q else tb σ H1 Q
def pB {c:Expr}(hc:PT X c tA)(ha:PE X a ta)(hb:PE X b tb):PE X (.IfExp c a b pos) (tIf tA ta tb):=by
 intro pins s σ H Q I h;apply wpAny_IfExp (thn (hc pins s σ H _ I h) λd s1 ⟨H1,I1,q1⟩=>?_);cases d with
 | true=>exact ha pins s1 σ H1 Q I1 q1
 | false=>exact hb pins s1 σ H1 Q I1 q1
end
def SqL (K:au)(H:Hp)(a:aq)(xs:List V):Prop :=
 Rd H a (.lst xs) ∨
  ∃(o:Obj) (its:Array af) (n:Nat),K.lookup a=some o∧o.cls= .type "list" ∧o.dict=none∧o.data= .seq its n∧its.size≤bf∧gz xs its.toList
def SqT (K:au)(H:Hp)(a:aq)(xs:List V):Prop :=
 Rd H a (.tup xs) ∨
  ∃(o:Obj) (its:Array af) (n:Nat),K.lookup a=some o∧o.cls= .type "tuple" ∧o.data= .seq its n∧its.size≤bf∧gz xs its.toList
def absV:af→Option V
 | .none=>some .non
 | .bool b=>some (.bl b)
 | .int i _=>some (.int i)
 | .str x _=>some (.str x)
 | .bytes b _=>some (.byt b)
 | .float b _=>some (.flt b)
 | .ref a=>some (.ref a)
 | .type n=>some (.ty n)
 | _=>none
def gL.abs {x:V}(r:gL x u):absV u=some x:=by
 cases x with
 | non=>cases r;rfl
 | bl _=>cases r;rfl
 | int _=>obtain⟨t,rfl⟩:=r;rfl
 | str _=>obtain⟨t,rfl⟩:=r;rfl
 | byt _=>obtain⟨t,rfl⟩:=r;rfl
 | flt _=>obtain⟨t,rfl⟩:=r;rfl
 | ref _=>cases r;rfl
 | ty _=>cases r;rfl
def gL.inj {x y:V}(r:gL x u)(q:gL y u):x=y:=bE (r.abs.symm.trans q.abs)
theorem gz.inj:∀{xs ys:List V} {us:List af},gz xs us→gz ys us→xs=ys
 | _,_,_,.nil,.nil=>rfl
 | _,_,_,.cons r t,.cons r' t'=>by rw[r.inj r',gz.inj t t']
section
variable {pins:List (aq×Obj)}
def SqL.of (h:H a=some (.lst xs)):SqL K H a xs:= .inl (.inl h)
def SqT.of (h:H a=some (.tup xs)):SqT K H a xs:= .inl (.inl h)
def Inv.list (I:Inv X pins σ H s)(h:SqL X.K H a xs):∃its:List af,gz xs its∧PlainL s.heap a its.toArray∧xs.length≤bf:=by
 rcases h with h | ⟨o,its,n,hk,hc,hd,hs,hz,r⟩
 ·obtain⟨z,its,n,r,e⟩:=h.ok I.hok
  exact⟨its,r,⟨_,n,e,rfl,rfl,rfl⟩,z⟩
 ·apply⟨its.toList,r,⟨o,n,I.kIn a o hk,hc,hd,by simpa using hs⟩,?_⟩
  have e:=r.length;simp only[cV] at e;lia
def Inv.tuple (I:Inv X pins σ H s)(h:SqT X.K H a xs):∃its:List af,gz xs its∧IsTup s.heap a its.toArray∧xs.length≤bf:=by
 rcases h with h | ⟨o,its,n,hk,hc,hs,hz,r⟩
 ·obtain⟨z,its,r,p⟩:=h.ok I.hok
  exact⟨its,r,p.tup,z⟩
 ·apply⟨its.toList,r,⟨o,I.kIn a o hk,hc,n,by simpa using hs⟩,?_⟩
  have e:=r.length;simp only[cV] at e;lia
def Inv.list_inj (I:Inv X pins σ H s)(h:SqL X.K H a xs)(h':SqL X.K H a ys):xs=ys:=by
 obtain⟨its,r,⟨o,n,e,_,_,d⟩,_⟩:=I.list h;obtain⟨its',r',⟨o',n',e',_,_,d'⟩,_⟩:=I.list h';rw[e] at e';cases e';rw[d] at d';injection d' with d1 _
 have:its=its':=by simpa using rX Array.toList d1
 subst this;exact r.inj r'
def Inv.tuple_inj (I:Inv X pins σ H s)(h:SqT X.K H a xs)(h':SqT X.K H a ys):xs=ys:=by
 obtain⟨its,r,⟨o,e,_,n,d⟩,_⟩:=I.tuple h;obtain⟨its',r',⟨o',e',_,n',d'⟩,_⟩:=I.tuple h';rw[e] at e';cases e';rw[d] at d';injection d' with d1 _
 have:its=its':=by simpa using rX Array.toList d1
 subst this;exact r.inj r'
end
abbrev Cx.wish (X:Cx)(E:af→ay→Prop):Cx:={ X with xe:=E }
abbrev Cx.nox (X:Cx):Cx:=X.wish λ_ _=>False
def Cx.Ok.wish (ok:X.Ok)(E:af→ay→Prop):(X.wish E).Ok :=
 ⟨ok.mod,ok.kind,ok.glob,ok.blt,ok.above,ok.inj,ok.has,ok.cab,ok.hd,ok.frames,ok.stk,ok.exf,ok.bs,ok.bsz,ok.noex,ok.exfs,ok.funs,ok.frf⟩
def Cx.Ok.unwish (ok:(X.wish E).Ok):X.Ok :=
 ⟨ok.mod,ok.kind,ok.glob,ok.blt,ok.above,ok.inj,ok.has,ok.cab,ok.hd,ok.frames,ok.stk,ok.exf,ok.bs,ok.bsz,ok.noex,ok.exfs,ok.funs,ok.frf⟩
section
variable {pins:List (aq×Obj)}
def Inv.wish (I:Inv X pins σ H s)(E:af→ay→Prop):Inv (X.wish E) pins σ H s:=⟨I.ok.wish E,I.os,I.bare,I.base,I.loc,I.cell,I.free,I.freeC,I.pin,I.hok,I.len⟩
def Inv.unwish (I:Inv (X.wish E) pins σ H s):Inv X pins σ H s:=⟨I.ok.unwish,I.os,I.bare,I.base,I.loc,I.cell,I.free,I.freeC,I.pin,I.hok,I.len⟩
def SP.unwish {D:kQ}{f:Flow}(h:SP (X.wish E) pins D f s'):SP X pins D f s':=by
 cases f with
 | next=>obtain⟨σ',H',I,q⟩:=h;exact⟨σ',H',I.unwish,q⟩
 | brk=>obtain⟨σ',H',I,q⟩:=h;exact⟨σ',H',I.unwish,q⟩
 | cont=>obtain⟨σ',H',I,q⟩:=h;exact⟨σ',H',I.unwish,q⟩
 | ret u=>obtain⟨v,σ',H',I,r,q⟩:=h;exact⟨v,σ',H',I.unwish,r,q⟩
def PSs.nox {st:List cF}{t:TS}(h:PSs X.nox st t):PSs X st t:=λpins s σ H D I hw =>
 cx (h pins s σ H D (I.wish _) hw) (λ_ _ q=>q.unwish) λ_ _ z=>cR z
end
section
variable {rest:List cF}{t u:TS}
def tNext:TS:=λD σ H=>D.nx σ H
def tSeq (t u:TS):TS:=λD σ H=>t { D with nx:=u D } σ H
def cY:PSs X [] tNext:=λ_ _ σ H _ I h=>wpAny_execs_nil ⟨σ,H,I,h⟩
def pss_cons (h1:PS X st t)(h2:PSs X rest u):PSs X (st::rest) (tSeq t u):=by
 intro pins s σ H D I h;apply wpAny_execs_cons (thn (h1 pins s σ H { D with nx:=u D } I h) λf s1 q=>?_);cases f with
 | next =>
  obtain⟨σ',H',I',q⟩:=q;exact h2 pins s1 σ' H' D I' q
 | ret v=>exact q
 | brk=>exact q
 | cont=>exact q
def cE (h1:PS X st t):PSs X [st] t:=by
 intro pins s σ H D I h;apply wpAny_execs_cons (thn (h1 pins s σ H D I h) λf s1 q=>?_);cases f with
 | next=>exact wpAny_execs_nil q
 | ret v=>exact q
 | brk=>exact q
 | cont=>exact q
def Inv.quiet {pins:List (aq×Obj)}(I:Inv X pins σ H s):interactive X.env=false:=by simp[interactive,I.ok.kind]
def tDrop (te:TE):TS:=λD σ H=>te σ H λ_ H1=>D.nx σ H1
def iK (he:PE X e te)(hs:swapsWith e none pos.line X.env=fV false:=by rfl):PS X (.Expr e pos) (tDrop te):=by
 intro pins s σ H D I h;exact wpAny_Expr_any (thn (he pins s σ H _ I h) λv s1 ⟨x,H1,I1,r1,q1⟩=>⟨σ,H1,I1,q1⟩) I.quiet hs
def tRet (te:TE):TS:=λD σ H=>te σ H D.rt
def bZ (he:PE X e te):PS X (.Return (some e) pos) (tRet te):=by
 intro pins s σ H D I h;exact wpAny_Return_some (thn (he pins s σ H _ I h) λv s1 ⟨x,H1,I1,r1,q1⟩=>⟨x,σ,H1,I1,r1,q1⟩)
def tIfS (c:TT)(t u:TS):TS:=λD σ H=>c σ H λb H1=>if b=true then t D σ H1 else u D σ H1
def gg {c:Expr}{a b:List cF}{tc:TT}(hc:PT X c tc)(ha:PSs X a t)(hb:PSs X b u):PS X (.If c a b pos) (tIfS tc t u):=by
 intro pins s σ H D I h;apply wpAny_If (thn (hc pins s σ H _ I h) λd s1 ⟨H1,I1,q1⟩=>?_);cases d with
 | true=>exact ha pins s1 σ H1 D I1 q1
 | false=>exact hb pins s1 σ H1 D I1 q1
end
abbrev TG:=V→St→Hp→(St→Hp→Prop)→Prop
abbrev TGs:=List V→St→Hp→(St→Hp→Prop)→Prop
def PG (X:Cx)(target:Expr)(t:TG):Prop :=
 ∀(pins:List (aq×Obj)) (s:ay) (σ:St) (H:Hp) (v:V) (u:af) (Q:St→Hp→Prop),Inv X pins σ H s→gL v u→t v σ H Q →
  aW (br X.prog X.w) X.A (assign target X.env u) (λ_ s'=>∃σ' H',Inv X pins σ' H' s'∧Q σ' H') X.xe s
def PGs (X:Cx)(ts:List Expr)(t:TGs):Prop :=
 ∀(pins:List (aq×Obj)) (s:ay) (σ:St) (H:Hp) (vs:List V) (us:List af) (Q:St→Hp→Prop),Inv X pins σ H s→gz vs us→t vs σ H Q →
  aW (br X.prog X.w) X.A (assignInOrder ((assignEach ts X.env).map (·.2)) us) (λ_ s'=>∃σ' H',Inv X pins σ' H' s'∧Q σ' H') X.xe s
abbrev TSet:=V→V→V→Hp→(Hp→Prop)→Prop
def PSet (X:Cx)(t:TSet):Prop :=
 ∀(pins:List (aq×Obj)) (s:ay) (σ:St) (H:Hp) (o i v:V) (ov iv u:af) (Q:Hp→Prop),Inv X pins σ H s→gL o ov→gL i iv→gL v u→t o i v H Q →
  aW (br X.prog X.w) X.A (setItem ov iv u) (λ_ s'=>∃H',Inv X pins σ H' s'∧Q H') X.xe s
abbrev TIp:=V→V→Hp→VK→Prop
def PIp (X:Cx)(op:Operator)(t:TIp):Prop :=
 ∀(pins:List (aq×Obj)) (s:ay) (σ:St) (H:Hp) (x y:V) (v u:af) (Q:VK),Inv X pins σ H s→gL x v→gL y u→t x y H Q →
  aW (br X.prog X.w) X.A (inplaceOp op v u) (EP X pins σ Q) X.xe s
def oG (i:Nat):TG:=λv σ H Q=>Q (σ.set i (some v)) H
def oE (hN:X.N.Nodup)(hi:X.N[i]? =some x)(hx:Loc X.env.scope x)(hf:X.fn x=true∨X.env.scope.names.lookup x=some .local:=by first | exact .inl rfl | exact .inr rfl | assumption):PG X (.Name x pos) (oG i):=by
 intro pins s σ H v u Q I r h;exact wpAny_assign_Name (store_ok I hN hi hx r (λs' I'=>⟨_,H,I',h⟩) hf)
def gNil:TGs:=λvs σ H Q=>vs=[]∧Q σ H
def gCons (t:TG)(u:TGs):TGs:=λvs σ H Q=>∃v r,vs=v::r∧t v σ H λσ' H'=>u r σ' H' Q
def pgs_nil:PGs X [] gNil:=by
 intro pins s σ H vs us Q I r h;obtain⟨e,h⟩:=h;subst e;cases r;exact assignInOrder_nil ⟨σ,H,I,h⟩
def kR {t:TG}{u:TGs}(h1:PG X e t)(h2:PGs X es u)
  (hs:(assignEach (e::es) X.env).map (·.2)=assign e X.env::(assignEach es X.env).map (·.2):=by rfl):PGs X (e::es) (gCons t u):=by
 intro pins s σ H vs us Q I r h;obtain⟨v,vr,e1,h⟩:=h;subst e1;cases r with
 | cons r rr =>
  rw[hs];apply assignInOrder_cons (thn (h1 pins s σ H _ _ _ I r h) λ_ s1 ⟨σ1,H1,I1,q1⟩=>?_);exact h2 pins s1 σ1 H1 _ _ Q I1 rr q1
def gTup (K:au)(n:Nat)(t:TGs):TG:=λv σ H Q=>∃a xs,v= .ref a∧SqT K H a xs∧xs.length=n∧t xs σ H Q
def pg_tup {k:Nat}{t:TGs}(hc:X.calm=true)(h:PGs X es t)
  (hn:(assignEach es X.env).length=n:=by rfl) (hst:(assignEach es X.env).findIdx? (·.1)=none:=by rfl):PG X (.Tuple es k pos) (gTup X.K n t):=by
 intro pins s σ H v u Q I r hw;obtain⟨a,xs,e1,hq,hl,hw⟩:=hw;subst e1;cases r;obtain⟨its,rv,ht,hz⟩:=I.tuple hq;apply assign_Tuple_tuple (I.ok.hd hc) ht (by simp[hn,←hl,rv.length]) hst λh' hx=>?_
 have I1:Inv X pins σ H { s with heap:=h' }:=I.kept (t':=s.toks) λb o e=>hx b o (bG (aN e)) e
 exact h pins _ σ H xs _ Q I1 (by simpa using rv) hw
def gSub (to ti:TE)(t:TSet):TG:=λv σ H Q=>to σ H λo H1=>ti σ H1 λi H2=>t o i v H2 λH3=>Q σ H3
def p9 {o i:Expr}{to ti:TE}{t:TSet}(ho:PE X o to)(hi:PE X i ti)(hs:PSet X t)
  (ha:∀ v,assign (.Subscript o i pos) X.env v=(do
   let ov ← holding [v] (eP o X.env)
   let iv ← holding [v,ov] (eP i X.env)
   standAt pos
   holding [v,ov,iv] (setItem ov iv v)
   release [v,ov,iv] []):=by intro _;rfl):PG X (.Subscript o i pos) (gSub to ti t):=by
 intro pins s σ H v u Q I r h;rw[ha];apply ao (dU (thn (ho pins s σ H _ I h) λov s1 ⟨x,H1,I1,r1,q1⟩=>?_));apply ao (dU (thn (hi pins s1 σ H1 _ I1 q1) λiv s2 ⟨y,H2,I2,r2,q2⟩=>?_));apply ao (wpAny_standAt (ao (dU (thn (hs pins s2 σ H2 x y v ov iv u _ I2 r1 r2 r q2) λ_ s3 ⟨H3,I3,q3⟩=>?_))));exact wpAny_release ⟨σ,H3,I3,q3⟩
def tAsg (te:TE)(g:TG):TS:=λD σ H=>te σ H λx H1=>g x σ H1 D.nx
def oP {g:TG}(he:PE X e te)(hg:PG X tg g)(hs:swapsWithSole [tg] e pos.line X.env=fV false:=by rfl)(hw:swappedStores [tg] e X.env=fV none:=by rfl)
  (h1:(assignEach [tg] X.env).map (·.2)=[assign tg X.env]:=by rfl):PS X (.Assign [tg] e pos) (tAsg te g):=by
 intro pins s σ H D I h;apply wpAny_Assign_stores (thn (he pins s σ H _ I h) λv s1 ⟨x,H1,I1,r1,q1⟩=>?_) hs hw;rw[h1];exact thn (hg pins s1 σ H1 x v _ I1 r1 q1) λ_ s2 q=>q
def ps_set (hN:X.N.Nodup)(hi:X.N[i]? =some x)(hx:Loc X.env.scope x)(he:PE X e te)(hs:swapsWith e (some (.Name x pos')) pos.line X.env=fV false:=by rfl)(hf:X.fn x=true∨X.env.scope.names.lookup x=some .local:=by first | exact .inl rfl | exact .inr rfl | assumption) :
  PS X (.Assign [.Name x pos'] e pos) (tAsg te (oG i)):=by
 intro pins s σ H D I h;apply wpAny_Assign_Name (thn (he pins s σ H _ I h) λv s1 ⟨y,H1,I1,r1,q1⟩=>?_) hs;exact store_ok I1 hN hi hx r1 (λs2 I2=>⟨_,H1,I2,q1⟩) hf
def tAug (i:Nat)(te:TE)(ti:TIp):TS:=λD σ H=>∃x,σ[i]? =some (some x)∧te σ H λy H1=>ti x y H1 λz H2=>D.nx (σ.set i (some z)) H2
def ps_aug {op:Operator}{ti:TIp}(hN:X.N.Nodup)(hi:X.N[i]? =some x)(hx:Loc X.env.scope x)(he:PE X e te)(ho:PIp X op ti)(hf:X.fn x=true∨X.env.scope.names.lookup x=some .local:=by first | exact .inl rfl | exact .inr rfl | assumption) :
  PS X (.AugAssign (.Name x pos') op e pos) (tAug i te ti):=by
 intro pins s σ H D I h;obtain⟨v,e1,h⟩:=h;obtain⟨m,hn,hl⟩:=I.loc;have vis:Vis X.env.scope x:=by rcases hx with k | k;exact .inl k;exact .inr (.inl k)
 obtain⟨u,r,l⟩:=hl i x v hi e1 vis;apply wpAny_AugAssign_Name ?_;have go:aW (br X.prog X.w) X.A (eP e X.env) (λw s₂=>aW (br X.prog X.w) X.A (inplaceOp op u w) (λr s₃=>aW (br X.prog X.w) X.A (storeName X.env x r) (λ_=>SP X pins D .next) X.xe s₃) X.xe s₂) X.xe s:=by
  apply thn (he pins s σ H _ I h) λw s1 ⟨y,H1,I1,r1,q1⟩=>?_
  apply thn (ho pins s1 σ H1 v y u w _ I1 r r1 q1) λz s2 ⟨zv,H2,I2,r2,q2⟩=>?_
  exact store_ok I2 hN hi hx r2 (λs3 I3=>⟨_,H2,I3,q2⟩) hf
 rcases l with ⟨hk,hm⟩ | ⟨hk,c,hc,iL⟩
 ·exact wpAny_loadName_local I.ok.kind hk hn hm go
 ·rcases hk with hk | hk
  ·exact wpAny_loadName_cell I.ok.kind hk hc iL go
  ·rcases hx with k | k
   ·have:X.env.scope.names.lookup x=some .free:=hk
    rw[k] at this;cases this
   ·have:X.env.scope.names.lookup x=some .free:=hk
    rw[k] at this;cases this
def ipI (f:Int→Int→Int):TIp:=λx y H Q=>∃i j,x= .int i∧y= .int j∧Q (.int (f i j)) H
def ip_add:PIp X .Add (ipI λi j=>i+j):=by
 intro pins s σ H x y v u Q I r1 r2 h;obtain⟨i,j,e1,e2,q⟩:=h;subst e1;subst e2;obtain⟨t,rfl⟩:=r1;obtain⟨t',rfl⟩:=r2;exact iadd_int ⟨.int _,H,I.tok _,⟨_,rfl⟩,q⟩
def ip_sub:PIp X .Sub (ipI λi j=>i - j):=by
 intro pins s σ H x y v u Q I r1 r2 h;obtain⟨i,j,e1,e2,q⟩:=h;subst e1;subst e2;obtain⟨t,rfl⟩:=r1;obtain⟨t',rfl⟩:=r2;exact isub_int ⟨.int _,H,I.tok _,⟨_,rfl⟩,q⟩
def tWhile (c:TT)(tb:TS):TS:=λD σ H=>∃W:Nat→St→Hp→Prop,(∃m,W m σ H)∧∀m σ H,W m σ H →
 c σ H λb H1=>if b=true then ∃N:St→Hp→Prop,(∀σ' H',N σ' H'→∃m',m'<m∧W m' σ' H')∧tb { D with nx:=N,ct:=N,bk:=D.nx } σ H1 else D.nx σ H1
def nQ {c:Expr}{body:List cF}{tc:TT}{tb:TS}(hp:PassesOwn (br X.prog X.w) X.A X.env X.xe)(hc:PT X c tc)(hb:PSs X body tb):PS X (.While c body [] pos) (tWhile tc tb):=by
 intro pins s σ H D I h;obtain⟨W,⟨m0,w0⟩,turn⟩:=h;apply wpAny_While (codeAny_whileLoop (λn s'=>∃σ' H',Inv X pins σ' H' s'∧W n σ' H') ?_ m0 ⟨σ,H,I,w0⟩);rintro n s1 ⟨σ1,H1,I1,w1⟩;apply iI hp (thn (hc pins s1 σ1 H1 _ I1 (turn n σ1 H1 w1)) λb s2 ⟨H2,I2,q2⟩=>?_);cases b with
 | true =>
  obtain⟨N,hN,q2⟩:=q2;rw[rR rfl];apply iI hp (thn (hb pins s2 σ1 H2 _ I2 q2) λf s3 q3=>?_);cases f with
  | next =>
   obtain⟨σ3,H3,I3,n3⟩:=q3;obtain⟨m',hm,w3⟩:=hN σ3 H3 n3;exact⟨m',hm,σ3,H3,I3,w3⟩
  | cont =>
   obtain⟨σ3,H3,I3,n3⟩:=q3;obtain⟨m',hm,w3⟩:=hN σ3 H3 n3;exact⟨m',hm,σ3,H3,I3,w3⟩
  | brk=>exact q3
  | ret v=>exact q3
 | false =>
  rw[rQ bc];exact wpAny_execs_nil ⟨σ1,H2,I2,q2⟩
structure It where
 go:Nat→Hp→Prop
 yld:Nat→Hp→V→Hp→Prop
 stop:Nat→Hp→Prop
def FpOk (X:Cx)(pins:List (aq×Obj))(H:Hp)(b:aq):Prop :=
 H b=none∧b≠X.env.locals∧b ∉ X.fs∧(b∈X.ex∨X.s₀.heap.objs.size≤b)∧(∀x c,X.env.cells.lookup x=some c→c≠b)∧∀p∈X.pn++pins,p.1≠b
def Inv.fpOk {pins:List (aq×Obj)}{b:aq}(I:Inv X pins σ H s)(hb:s.heap.objs.size≤b)(hn:H' b=none):FpOk X pins H' b:=by
 apply⟨hn,cZ (aS I.lt hb),I.nofs hb,.inr (aQ I.sz hb),λx c e z=>?_,λp hp z=>?_⟩
 ·obtain⟨v,q⟩:=I.cell x c e
  exact rS (aS q.lt (by rw[z];exact hb)) (gc _)
 ·exact rS (aS (aN (I.pin p hp).1) (by rw[z];exact hb)) (gc _)
structure Turn (P:aX)(w:bz)(K:au)(tg:Expr)(J:It)(fp:List aq)(it:aq)(tn:Nat→bO→Prop):Prop where
 mem:it∈fp
 obj:∀i h,tn i h→∀b∈fp,∃o,h.get? b=some o∧∀v,o.data≠ .cell v
 keep:∀i h h',tn i h→(∀b∈fp,∀o,h.get? b=some o→h'.get? b=some o)→tn i h'
 item:∀(X:Cx),X.prog=P→X.w=w→X.K=K→X.calm=true→∀(i:Nat) (pins:List (aq×Obj)) (s:ay) (σ:St) (H:Hp) (E:af→ay→Prop),Inv X pins σ H s→(∀b∈fp,FpOk X pins H b)→tn i s.heap→J.go i H →
  aW (br P w) X.A (pyNext (.ref it)) (fun r s1=>∃ u,r=some u ∧
   aW (br P w) X.A (letOwnedTupleGo tg (.ref it) u) (fun _ s2=>∃ x H',Inv X pins σ H' s2∧gL x u∧J.yld i H x H'∧tn (i+1) s2.heap∧∀ b∈fp,H' b=none) E s1) E s
 done:∀(X:Cx),X.prog=P→X.w=w→X.K=K→X.calm=true→∀(i:Nat) (pins:List (aq×Obj)) (s:ay) (σ:St) (H:Hp) (E:af→ay→Prop),Inv X pins σ H s→(∀b∈fp,FpOk X pins H b)→tn i s.heap→J.stop i H →
  aW (br P w) X.A (pyNext (.ref it)) (λr s1=>r=none∧Inv X pins σ H s1) E s
 self:∀(A:bT) (i:Nat) (s:ay) (Q:af→ay→Prop) (E:af→ay→Prop),tn i s.heap→Q (.ref it) s→aW (br P w) A (pyIter (.ref it)) Q E s
abbrev TI:=St→Hp→(It→Hp→Prop)→Prop
def PIE (X:Cx)(pins:List (aq×Obj))(σ:St)(tg:Expr)(R:It→Hp→Prop)(itv:af)(s2:ay):Prop :=
 ∃(it:aq) (fp:List aq) (tn:Nat→bO→Prop) (J:It) (H':Hp),itv= .ref it∧Inv X pins σ H' s2∧Turn X.prog X.w X.K tg J fp it tn∧tn 0 s2.heap∧(∀b∈fp,FpOk X pins H' b)∧R J H'
def PI (X:Cx)(tg iter:Expr)(wi:TI):Prop :=
 ∀(pins:List (aq×Obj)) (s:ay) (σ:St) (H:Hp) (R:It→Hp→Prop),Inv X pins σ H s→wi σ H R →
  aW (br X.prog X.w) X.A (eP iter X.env) (λv s1=>aW (br X.prog X.w) X.A (pyIter v) (PIE X pins σ tg R) X.xe s1) X.xe s
def go_of {it:aq}{o:Obj}{n:String}{vs:Array af}{Q:Unit→ay→Prop}(ho:s.heap.get? it=some o)(hc:o.cls= .type n)(hd:o.data= .fields vs)
  (hn:["enumerate","zip","dict_itemiterator","dict_reverseitemiterator","odict_iterator","itertools.zip_longest","itertools.pairwise"].contains n=false) (hQ:Q () s):aW M A (letOwnedTupleGo tg (.ref it) u) Q E s:=by
 unfold letOwnedTupleGo;cases tg <;> first
  | exact aP hQ
  | (cases u <;> first
    | exact aP hQ
    | (apply ao (wpAny_load ho ?_)
       rw [hc,hd];show aW M A (if (["enumerate","zip","dict_itemiterator","dict_reverseitemiterator","odict_iterator","itertools.zip_longest","itertools.pairwise"].contains n && vs[0]? == some (rawInt _))=true then _ else _) Q E s;rw [rQ (by intro h;rw [hn,Bool.false_and] at h;cases h)];exact aP hQ))
def Itl (K:au)(a:aq):It :=
 ⟨λi H=>∃xs x,SqL K H a xs∧xs[i]? =some x,λi H x H'=>H'=H∧∀xs,SqL K H a xs→xs[i]? =some x,λi H=>∃xs,SqL K H a xs∧xs.length≤i⟩
def Itt (K:au)(a:aq):It :=
 ⟨λi H=>∃xs x,SqT K H a xs∧xs[i]? =some x,λi H x H'=>H'=H∧∀xs,SqT K H a xs→xs[i]? =some x,λi H=>∃xs,SqT K H a xs∧xs.length≤i⟩
def Itr (lo:Int)(n:Nat):It:=⟨λi _=>i<n,λi H x H'=>H'=H∧x= .int (lo+i),λi _=>n≤i⟩
def turn_list (a it:aq):Turn P w K tg (Itl K a) [it] it (λi h=>h.IsListIter it a i) where
 mem:=by simp
 obj:=λi h st b hb=>by
  have e:b=it:=by simpa using hb
  subst e;obtain⟨o,e,c,d⟩:=st;exact⟨o,e,λv z=>by rw[d] at z;cases z⟩
 keep:=λi h h' st k=>st.at λo e=>k it ∅ o e
 item:=by
  intro X hP hw hK hc i pins s σ H E I hf st hg;subst hP hw hK;obtain⟨xs,x,hq,hx⟩:=hg;obtain⟨its,rv,p,hz⟩:=I.list hq;obtain⟨u,hu,ru⟩:=rv.get hx;obtain⟨f0,f1,f2,f3,f4,f5⟩:=hf it ∅;apply wpAny_pyNext_list_item st p.isList (x:=u) (by simpa using hu) λh' st' sb=>?_
  have I1:Inv X pins σ H { s with heap:=h' }:=I.turned (t':=s.toks) (λb o hb e=>(sb.2 b hb).trans e) f0 f1 f3 f4 f5;obtain⟨o,e,c,d⟩:=id st';exact⟨u,rfl,go_of (s:={ s with heap:=h' }) e c d ↥0 ⟨x,H,I1,ru,⟨rfl,λys hy=>by rw[I.list_inj hy hq];exact hx⟩,st',λb hb=>(hf b hb).1⟩⟩
 done:=by
  intro X hP hw hK hc i pins s σ H E I hf st hg;subst hP hw hK;obtain⟨xs,hq,hx⟩:=hg;obtain⟨its,rv,p,hz⟩:=I.list hq;obtain⟨f0,f1,f2,f3,f4,f5⟩:=hf it ∅;have hl:=rv.length;exact wpAny_pyNext_list_end (I.ok.hd hc) st p.isList (by simp;lia) λh' eb=>⟨rfl,I.turned (t':=s.toks) (λb o hb e=>eb b o hb e) f0 f1 f3 f4 f5⟩
 self:=λ_ _ _ _ _ st h=>wpAny_pyIter_listiter st h
def turn_tuple (a it:aq):Turn P w K tg (Itt K a) [it] it (λi h=>h.IsTupleIter it a i) where
 mem:=by simp
 obj:=λi h st b hb=>by
  have e:b=it:=by simpa using hb
  subst e;obtain⟨o,e,c,d⟩:=st;exact⟨o,e,λv z=>by rw[d] at z;cases z⟩
 keep:=λi h h' st k=>st.at λo e=>k it ∅ o e
 item:=by
  intro X hP hw hK hc i pins s σ H E I hf st hg;subst hP hw hK;obtain⟨xs,x,hq,hx⟩:=hg;obtain⟨its,rv,p,hz⟩:=I.tuple hq;obtain⟨u,hu,ru⟩:=rv.get hx;obtain⟨f0,f1,f2,f3,f4,f5⟩:=hf it ∅;apply wpAny_pyNext_tuple_item st (show s.heap.IsTuple a its.toArray from p) (x:=u) (by simpa using hu) λh' st' sb=>?_
  have I1:Inv X pins σ H { s with heap:=h' }:=I.turned (t':=s.toks) (λb o hb e=>(sb.2 b hb).trans e) f0 f1 f3 f4 f5;obtain⟨o,e,c,d⟩:=id st';exact⟨u,rfl,go_of (s:={ s with heap:=h' }) e c d ↥0 ⟨x,H,I1,ru,⟨rfl,λys hy=>by rw[I.tuple_inj hy hq];exact hx⟩,st',λb hb=>(hf b hb).1⟩⟩
 done:=by
  intro X hP hw hK hc i pins s σ H E I hf st hg;subst hP hw hK;obtain⟨xs,hq,hx⟩:=hg;obtain⟨its,rv,p,hz⟩:=I.tuple hq;obtain⟨f0,f1,f2,f3,f4,f5⟩:=hf it ∅;have hl:=rv.length;exact wpAny_pyNext_tuple_end (I.ok.hd hc) st (show s.heap.IsTuple a its.toArray from p) (by simp;lia) λh' eb=>⟨rfl,I.turned (t':=s.toks) (λb o hb e=>eb b o hb e) f0 f1 f3 f4 f5⟩
 self:=λ_ _ _ _ _ st h=>wpAny_pyIter_tupleiter st h
def turn_range (it:aq)(lo:Int)(n:Nat):Turn P w K tg (Itr lo n) [it] it (λi h=>IsRangeIter h it (lo+(i:Nat) * 1) ((n:Int) - (i:Nat)) 1) where
 mem:=by simp
 obj:=λi h st b hb=>by
  have e:b=it:=by simpa using hb
  subst e;exact ⟨_,st,fun v z=>by
   have z':Data.fields _=Data.cell v:=z;cases z'⟩
 keep:=λi h h' st k=>k it ∅ _ st
 item:=by
  intro X hP hw hK hc i pins s σ H E I hf st hg;subst hP hw hK;obtain⟨f0,f1,f2,f3,f4,f5⟩:=hf it ∅;have W:=Walks.range (prog:=X.prog) (w:=X.w) (I.ok.hd hc) it lo 1 n;apply W.item i s _ _ hg st λv h' tk hv st' kk=>?_
  obtain⟨t,rfl⟩:=hv;have I1:Inv X pins σ H { s with heap:=h',toks:=tk }:=I.turned (λb o hb e=>kk b o (by simpa using hb) e) f0 f1 f3 f4 f5;apply⟨_,rfl,go_of (s:={ s with heap:=h',toks:=tk }) (n := "range_iterator") st' rfl rfl ↥0 ⟨.int (lo+i),H,I1,⟨t,?_⟩,⟨rfl,rfl⟩,st',λb hb=>(hf b hb).1⟩⟩;rw[Int.mul_one]
 done:=by
  intro X hP hw hK hc i pins s σ H E I hf st hg;subst hP hw hK;obtain⟨f0,f1,f2,f3,f4,f5⟩:=hf it ∅;exact wpAny_pyNext_range_end (I.ok.hd hc) st (by have:n≤i:=hg;lia) λh' eb=>⟨rfl,I.turned (t':=s.toks) (λb o hb e=>eb b o hb e) f0 f1 f3 f4 f5⟩
 self:=λ_ _ _ _ _ st h=>wpAny_pyIter_rangeiter st h
def iList (K:au)(tl:TE):TI:=λσ H R=>tl σ H λx H1=>∃a,x= .ref a∧(∃xs,SqL K H1 a xs)∧R (Itl K a) H1
def iTup (K:au)(tl:TE):TI:=λσ H R=>tl σ H λx H1=>∃a,x= .ref a∧(∃xs,SqT K H1 a xs)∧R (Itt K a) H1
def gh {l:Expr}(hl:PE X l tl):PI X tg l (iList X.K tl):=by
 intro pins s σ H R I h;apply thn (hl pins s σ H _ I h) λv s1 ⟨x,H1,I1,r1,q1⟩=>?_
 obtain⟨a,e,⟨xs,hq⟩,q⟩:=q1;subst e;cases r1;obtain⟨its,rv,p,hz⟩:=I1.list hq;apply fT p.isList ?_;apply⟨s1.heap.objs.size,[s1.heap.objs.size],_,_,H1,rfl,I1.kept (t':=s1.toks) λb o e=>ax _ e,turn_list a _,⟨_,aU _ rfl,rfl,rfl⟩,λb hb=>?_,q⟩;have e:b=s1.heap.objs.size:=by simpa using hb
 subst e;exact I1.fpOk (aB _) (I1.hok.fresh (aB _))
def lr {l:Expr}(hl:PE X l tl):PI X tg l (iTup X.K tl):=by
 intro pins s σ H R I h;apply thn (hl pins s σ H _ I h) λv s1 ⟨x,H1,I1,r1,q1⟩=>?_
 obtain⟨a,e,⟨xs,hq⟩,q⟩:=q1;subst e;cases r1;obtain⟨its,rv,p,hz⟩:=I1.tuple hq;apply wpAny_pyIter_tuple (show s1.heap.IsTuple a its.toArray from p) ?_;apply⟨s1.heap.objs.size,[s1.heap.objs.size],_,_,H1,rfl,I1.kept (t':=s1.toks) λb o e=>ax _ e,turn_tuple a _,⟨_,aU _ rfl,rfl,rfl⟩,λb hb=>?_,q⟩;have e:b=s1.heap.objs.size:=by simpa using hb
 subst e;exact I1.fpOk (aB _) (I1.hok.fresh (aB _))
def range_it {pins:List (aq×Obj)}{R:It→Hp→Prop}{hi:Int}{t u v:Tok}{tk:Nat}(I:Inv X pins σ H s)(h1: -(2 ^ 62)≤lo)(h2:lo<2 ^ 62)(h3: -(2 ^ 62)≤hi)(h4:hi<2 ^ 62)
  (q:R (Itr lo (hi - lo).toNat) H):aW (br X.prog X.w) X.A (pyIter (.ref s.heap.objs.size)) (PIE X pins σ tg R) E { s with heap:=s.heap.push { cls:= .type "range",data:= .fields #[.int lo t,.int hi u,.int 1 v] },toks:=tk }:=by
 apply wpAny_pyIter_range (IsRange.new ..) (small_one h1 h2 h3 h4) ?_;have I1:Inv X pins σ H { s with heap:=s.heap.push { cls:= .type "range",data:= .fields #[.int lo t,.int hi u,.int 1 v] },toks:=tk }:=I.kept λb o e=>ax _ e
 apply ⟨(s.heap.push { cls:= .type "range",data:= .fields #[.int lo t,.int hi u,.int 1 v] }).objs.size,[(s.heap.push { cls:= .type "range",data:= .fields #[.int lo t,.int hi u,.int 1 v] }).objs.size],_,_,H,rfl,
  I1.kept (t':=tk) fun b o e=>ax _ e,turn_range _ lo (hi - lo).toNat,?_,fun b hb=>?_,q⟩
 ·have e1:lo+((0:Nat):Int) * 1=lo:=by simp
  have e2:(((hi - lo).toNat:Nat):Int) - ((0:Nat):Int)=dZ lo hi 1:=by rw[rangeSize_one];split <;> lia
  show IsRangeIter _ _ (lo+((0:Nat):Int) * 1) ((((hi - lo).toNat:Nat):Int) - ((0:Nat):Int)) 1;rw[e1,e2];exact aU _ rfl
 ·have e:b=(s.heap.push { cls:= .type "range",data:= .fields #[.int lo t,.int hi u,.int 1 v] }).objs.size:=by simpa using hb
  subst e;exact I1.fpOk (aB _) (I1.hok.fresh (aB _))
def iRng1 (ta:TA):TI:=λσ H R=>ta σ H λvs H1=>∃j:Int,vs=[.int j]∧ -(2 ^ 62)≤j∧j<2 ^ 62∧R (Itr 0 j.toNat) H1
def gk {a:Expr}{ta:TA}{p:Pos}(hg:Gl X "range")(hm:X.mg "range" =none)(ha:PA X [a] ta)(hs:bB [a] X.env=[(false,eP a X.env)]:=by rfl):PI X tg (.Call (.Name "range" p) [a] [] pos) (iRng1 ta):=by
 intro pins s σ H R I h;apply Call_ (mU I hg hm boot_range (fH (thn (ha pos pins s σ H _ I h) λus s1 ⟨vs,H1,I1,r1,q1⟩=>?_) hs rfl));obtain⟨j,e,q1,q2,q⟩:=q1;subst e;cases r1 with
 | cons r rr =>
  cases rr;obtain⟨t,rfl⟩:=r;exact call_range_1 (range_it I1 ⋯ ⋯ q1 q2 (by simpa using q))
def tFor (wi:TI)(g:TG)(tb:TS):TS:=λD σ H=>wi σ H λJ H1=>∃W:Nat→Nat→St→Hp→Prop,(∃m,W 0 m σ H1)∧∀i m σ H,W i m σ H →
 (J.stop i H∧D.nx σ H)∨(J.go i H∧∃N:St→Hp→Prop,(∀σ' H',N σ' H'→∃m',m'<m∧W (i+1) m' σ' H')∧∀x H',J.yld i H x H'→g x σ H' λσ2 H2=>tb { D with nx:=N,ct:=N,bk:=D.nx } σ2 H2)
def pinsAt (fp:List aq)(h:bO):List (aq×Obj):=fp.filterMap λb=>(h.get? b).map λo=>(b,o)
def mN {b:aq}{o:Obj}(hb:b∈fp)(e:h.get? b=some o):(b,o)∈pinsAt fp h:=List.mem_filterMap.mpr ⟨b,hb,by rw[e];rfl⟩
def of_pinsAt {p:aq×Obj}(hp:p∈pinsAt fp h):p.1∈fp∧h.get? p.1=some p.2:=by
 obtain⟨b,hb,e⟩:=List.mem_filterMap.mp hp;cases q:h.get? b with
 | none=>rw[q] at e;cases e
 | some o =>
  rw[q] at e;have e':(b,o)=p:=bE e;subst e';exact⟨hb,q⟩
def Inv.pinned {pins:List (aq×Obj)}(I:Inv X pins σ H s)(hf:∀b∈fp,FpOk X pins H b)(ho:∀b∈fp,∃o,s.heap.get? b=some o∧∀v,o.data≠ .cell v):Inv X (pins++pinsAt fp s.heap) σ H s :=
 I.pins_of λp hp=>(aI.mp hp).elim (λz=>I.pin p (aE _ z)) λz=>by
  obtain⟨hb,e⟩:=of_pinsAt z;obtain⟨f0,f1,f2,_⟩:=hf p.1 hb;obtain⟨o,e',d⟩:=ho p.1 hb;rw[e] at e';cases e';exact⟨e,f0,f1,f2,d⟩
def Inv.unpinned {pins pl:List (aq×Obj)}(I:Inv X (pins++pl) σ H s):Inv X pins σ H s:=I.pins_of λp hp=>I.pin p (aE _ (aJ _ hp))
def ig {body:List cF}{wi:TI}{g:TG}{tb:TS}(hp:PassesOwn (br X.prog X.w) X.A X.env X.xe)(hc:X.calm=true)(hi:PI X tg iter wi)(hg:PG X tg g)(hb:PSs X body tb)
  (hs:∀x,fU iter X.env x=fV x:=by intro _;rfl):PS X (.For tg iter body [] pos) (tFor wi g tb):=by
 intro pins s σ H D I h;apply wpAny_For (thn (hi pins s σ H _ I h) λv s1 h1=>thn h1 λitv s2 h2=>?_) hs;obtain⟨it,fp,tn,J,H2,e,I2,T,st2,f2,W,⟨m0,w0⟩,turn⟩:=h2;subst e;have stat:∀{H':Hp},(∀b∈fp,H' b=none)→∀b∈fp,FpOk X pins H' b:=λhn b hb=>⟨hn b hb,(f2 b hb).2⟩
 apply codeAny_forLoop_any (λn s'=>∃i σ' H',Inv X pins σ' H' s'∧tn i s'.heap∧(∀b∈fp,H' b=none)∧W i n σ' H') ?_ m0 ⟨0,σ,H2,I2,st2,λb hb=>(f2 b hb).1,w0⟩;rintro n s3 ⟨i,σ3,H3,I3,st3,fr3,w3⟩
 rcases turn i n σ3 H3 w3 with ⟨stop,qn⟩ | ⟨go,N,hN,step⟩
 ·apply iI hp (thn (T.done X rfl rfl rfl hc i pins s3 σ3 H3 X.xe I3 (stat fr3) st3 stop) λr s4 ⟨hr,I4⟩=>?_)
  subst hr;exact wpAny_execs_nil ⟨σ3,H3,I4,qn⟩
 ·apply iI hp (thn (T.item X rfl rfl rfl hc i pins s3 σ3 H3 X.xe I3 (stat fr3) st3 go) λr s4 ⟨u,hr,h4⟩=>?_)
  subst hr;apply iI hp (thn h4 λ_ s5 ⟨x,H5,I5,r5,y5,st5,fr5⟩=>?_);have I5':=I5.pinned (stat fr5) (T.obj _ _ st5);apply iI hp (thn (hg _ s5 σ3 H5 x u _ I5' r5 (step x H5 y5)) λ_ s6 ⟨σ6,H6,I6,q6⟩=>?_);apply iI hp (thn (hb _ s6 σ6 H6 _ I6 q6) λf s7 q7=>?_);have again:∀{σ7:St} {H7:Hp},Inv X (pins++pinsAt fp s5.heap) σ7 H7 s7→N σ7 H7→∃m,m<n∧∃i σ' H',Inv X pins σ' H' s7∧tn i s7.heap∧(∀b∈fp,H' b=none)∧W i m σ' H':=λ{σ7 H7} I7 n7=>by
   obtain⟨m',hm,w7⟩:=hN σ7 H7 n7;apply⟨m',hm,i+1,σ7,H7,I7.unpinned,T.keep _ _ _ st5 λb hb o e=>(I7.pin (b,o) (aE _ (aE _ (mN hb e)))).1,λb hb=>?_,w7⟩;obtain⟨o,e,d⟩:=T.obj _ _ st5 b hb;exact(I7.pin (b,o) (aE _ (aE _ (mN hb e)))).2.1
  cases f with
  | next=>obtain⟨σ7,H7,I7,n7⟩:=q7;exact again I7 n7
  | cont=>obtain⟨σ7,H7,I7,n7⟩:=q7;exact again I7 n7
  | brk=>obtain⟨σ7,H7,I7,q7⟩:=q7;exact⟨σ7,H7,I7.unpinned,q7⟩
  | ret v=>obtain⟨x7,σ7,H7,I7,r7,q7⟩:=q7;exact⟨x7,σ7,H7,I7.unpinned,r7,q7⟩
def jE {g:TG}{tb:TS}{D:kQ}(Pv:Nat→St→Hp→Prop)(h0:Pv 0 σ H)(hl:∀i σ H,i≤xs.length→Pv i σ H→SqL K H a xs)
  (hs:∀i x σ H,xs[i]? =some x→Pv i σ H→g x σ H λσ2 H2=>tb { D with nx:=Pv (i+1),ct:=Pv (i+1),bk:=D.nx } σ2 H2) (hd:∀σ H,Pv xs.length σ H→D.nx σ H) :
  ∃W:Nat→Nat→St→Hp→Prop,(∃m,W 0 m σ H)∧∀i m σ H,W i m σ H →
   ((Itl K a).stop i H∧D.nx σ H)∨((Itl K a).go i H∧∃N:St→Hp→Prop,(∀σ' H',N σ' H'→∃m',m'<m∧W (i+1) m' σ' H')∧∀x H',(Itl K a).yld i H x H'→g x σ H' λσ2 H2=>tb { D with nx:=N,ct:=N,bk:=D.nx } σ2 H2):=by
 apply⟨λi m σ H=>m=xs.length - i∧i≤xs.length∧Pv i σ H,⟨xs.length,∅,bu _,h0⟩,?_⟩;rintro i m σ H ⟨rfl,hi,p⟩;have q:=hl i σ H hi p
 by_cases hlt:i<xs.length
 ·apply .inr ⟨⟨xs,xs[i],q,by simp[hlt]⟩,Pv (i+1),λσ' H' p'=>⟨xs.length - (i+1),⋯,rfl,hlt,p'⟩,λx H' y=>?_⟩
  obtain⟨e,y⟩:=y;subst e;exact hs i x σ _ (y xs q) p
 ·have e:i=xs.length:=by lia
  subst e;exact .inl ⟨⟨xs,q,aB _⟩,hd σ H p⟩
def for_tup {g:TG}{tb:TS}{D:kQ}(Pv:Nat→St→Hp→Prop)(h0:Pv 0 σ H)(hl:∀i σ H,i≤xs.length→Pv i σ H→SqT K H a xs)
  (hs:∀i x σ H,xs[i]? =some x→Pv i σ H→g x σ H λσ2 H2=>tb { D with nx:=Pv (i+1),ct:=Pv (i+1),bk:=D.nx } σ2 H2) (hd:∀σ H,Pv xs.length σ H→D.nx σ H) :
  ∃W:Nat→Nat→St→Hp→Prop,(∃m,W 0 m σ H)∧∀i m σ H,W i m σ H →
   ((Itt K a).stop i H∧D.nx σ H)∨((Itt K a).go i H∧∃N:St→Hp→Prop,(∀σ' H',N σ' H'→∃m',m'<m∧W (i+1) m' σ' H')∧∀x H',(Itt K a).yld i H x H'→g x σ H' λσ2 H2=>tb { D with nx:=N,ct:=N,bk:=D.nx } σ2 H2):=by
 apply⟨λi m σ H=>m=xs.length - i∧i≤xs.length∧Pv i σ H,⟨xs.length,∅,bu _,h0⟩,?_⟩;rintro i m σ H ⟨rfl,hi,p⟩;have q:=hl i σ H hi p
 by_cases hlt:i<xs.length
 ·apply .inr ⟨⟨xs,xs[i],q,by simp[hlt]⟩,Pv (i+1),λσ' H' p'=>⟨xs.length - (i+1),⋯,rfl,hlt,p'⟩,λx H' y=>?_⟩
  obtain⟨e,y⟩:=y;subst e;exact hs i x σ _ (y xs q) p
 ·have e:i=xs.length:=by lia
  subst e;exact .inl ⟨⟨xs,q,aB _⟩,hd σ H p⟩
def jP {g:TG}{tb:TS}{D:kQ}(Pv:Nat→St→Hp→Prop)(h0:Pv 0 σ H)
  (hs:∀i σ H,i<n→Pv i σ H→g (.int (lo+i)) σ H λσ2 H2=>tb { D with nx:=Pv (i+1),ct:=Pv (i+1),bk:=D.nx } σ2 H2) (hd:∀σ H,Pv n σ H→D.nx σ H) :
  ∃W:Nat→Nat→St→Hp→Prop,(∃m,W 0 m σ H)∧∀i m σ H,W i m σ H →
   ((Itr lo n).stop i H∧D.nx σ H)∨((Itr lo n).go i H∧∃N:St→Hp→Prop,(∀σ' H',N σ' H'→∃m',m'<m∧W (i+1) m' σ' H')∧∀x H',(Itr lo n).yld i H x H'→g x σ H' λσ2 H2=>tb { D with nx:=N,ct:=N,bk:=D.nx } σ2 H2):=by
 apply⟨λi m σ H=>m=n - i∧i≤n∧Pv i σ H,⟨n,∅,bu _,h0⟩,?_⟩;rintro i m σ H ⟨rfl,hi,p⟩
 by_cases hlt:i<n
 ·apply .inr ⟨hlt,Pv (i+1),λσ' H' p'=>⟨n - (i+1),⋯,rfl,hlt,p'⟩,λx H' y=>?_⟩
  obtain⟨e,y⟩:=y;subst e y;exact hs i σ _ hlt p
 ·have e:i=n:=by lia
  subst e;exact .inl ⟨aB _,hd σ H p⟩
abbrev R2:=V→V→Hp→VK→Prop
def OpR (X:Cx)(f:af→af→Sem af)(r:R2):Prop :=
 ∀(pins:List (aq×Obj)) (s:ay) (σ:St) (H:Hp) (x y:V) (v u:af) (Q:VK),Inv X pins σ H s→gL x v→gL y u→r x y H Q →
  aW (br X.prog X.w) X.A (f v u) (EP X pins σ Q) X.xe s
def UnR (X:Cx)(f:af→Sem af)(r:V→Hp→VK→Prop):Prop :=
 ∀(pins:List (aq×Obj)) (s:ay) (σ:St) (H:Hp) (x:V) (v:af) (Q:VK),Inv X pins σ H s→gL x v→r x H Q →
  aW (br X.prog X.w) X.A (f v) (EP X pins σ Q) X.xe s
def jV (X:Cx)(f:af)(r:List V→Hp→VK→Prop):Prop :=
 ∀(pins:List (aq×Obj)) (s:ay) (σ:St) (H:Hp) (xs:List V) (us:List af) (Q:VK),Inv X pins σ H s→gz xs us→r xs H Q →
  aW (br X.prog X.w) X.A (call f us) (EP X pins σ Q) X.xe s
def tOp (r:R2)(ta tb:TE):TE:=λσ H Q=>ta σ H λx H1=>tb σ H1 λy H2=>r x y H2 Q
def tUn (r:V→Hp→VK→Prop)(ta:TE):TE:=λσ H Q=>ta σ H λx H1=>r x H1 Q
inductive rI (C:Int→Int→Prop)(g:Int→Int→V)(x:V)(y:V)(H:Hp)(Q:VK):Prop
 | mk (i j:_)(_:x= .int i)(_:y= .int j)(_:C i j)(_:Q (g i j) H)
inductive rI0 (g:Int→Int→V)(x:V)(y:V)(H:Hp)(Q:VK):Prop
 | mk (i j:_)(_:x= .int i)(_:y= .int j)(_:Q (g i j) H)
inductive rU (g:Int→V)(x:V)(H:Hp)(Q:VK):Prop
 | mk (i:_)(_:x= .int i)(_:Q (g i) H)
section
variable {a b c:Expr}{tb tc:TE}
def binT (ha:PE X a ta)(hb:PE X b tb){pins:List (aq×Obj)}{R:V→V→Hp→Prop}(I:Inv X pins σ H s)
  (h:ta σ H λx H1=>tb σ H1 λy H2=>R x y H2) {f:af→af→Sem af}
  (hf:∀v u s2 x y H2,Inv X pins σ H2 s2→gL x v→gL y u→R x y H2→aW (br X.prog X.w) X.A (f v u) Q X.xe s2) :
  aW (br X.prog X.w) X.A (eP a X.env) (λv s₁=>aW (br X.prog X.w) X.A (eP b X.env) (λu s₂=>aW (br X.prog X.w) X.A (f v u) Q X.xe s₂) X.xe s₁) X.xe s:=by
 apply thn (ha pins s σ H _ I h) λv s1 ⟨x,H1,I1,r1,q1⟩=>?_
 apply thn (hb pins s1 σ H1 _ I1 q1) λu s2 ⟨y,H2,I2,r2,q2⟩=>?_
 exact hf v u s2 x y H2 I2 r1 r2 q2
def dB {op:Operator}{r:R2}(ho:OpR X (iN op) r)(ha:PE X a ta)(hb:PE X b tb):PE X (.BinOp a op b pos) (tOp r ta tb):=by
 intro pins s σ H Q I h;exact wpAny_BinOp (binT ha hb I h λv u s2 x y H2 I2 rx ry q=>ho pins s2 σ H2 x y v u Q I2 rx ry q)
def pe_un {op:UnaryOp}{r:V→Hp→VK→Prop}(ho:UnR X (unaryOp op) r)(ha:PE X a ta):PE X (.UnaryOp op a pos) (tUn r ta):=by
 intro pins s σ H Q I h;exact UnaryOp_ (thn (ha pins s σ H _ I h) λv s1 ⟨x,H1,I1,r1,q1⟩=>ho pins s1 σ H1 x v Q I1 r1 q1)
def opI {f:af→af→Sem af}{C:Int→Int→Prop}{g:Int→Int→Int}
  (rule:∀(i j:Int) (t u:Tok) (s:ay) (Q:af→ay→Prop) (E:af→ay→Prop),C i j→Q (.int (g i j) s.toks) { s with toks:=s.toks+1 }→aW (br X.prog X.w) X.A (f (.int i t) (.int j u)) Q E s) :
  OpR X f (rI C λi j=> .int (g i j)):=by
 intro pins s σ H x y v u Q I rx ry h;obtain⟨i,j,rfl,rfl,hc,q⟩:=h;obtain⟨t,rfl⟩:=rx;obtain⟨t',rfl⟩:=ry;exact rule i j t t' s _ _ hc ⟨.int (g i j),H,I.tok _,⟨_,rfl⟩,q⟩
def opI0 {f:af→af→Sem af}{g:Int→Int→Int}
  (rule:∀(i j:Int) (t u:Tok) (s:ay) (Q:af→ay→Prop) (E:af→ay→Prop),Q (.int (g i j) s.toks) { s with toks:=s.toks+1 }→aW (br X.prog X.w) X.A (f (.int i t) (.int j u)) Q E s) :
  OpR X f (rI0 λi j=> .int (g i j)):=by
 intro pins s σ H x y v u Q I rx ry h;obtain⟨i,j,rfl,rfl,q⟩:=h;obtain⟨t,rfl⟩:=rx;obtain⟨t',rfl⟩:=ry;exact rule i j t t' s _ _ ⟨.int (g i j),H,I.tok _,⟨_,rfl⟩,q⟩
def opB0 {f:af→af→Sem af}{g:Int→Int→Bool}
  (rule:∀(i j:Int) (t u:Tok) (s:ay) (Q:af→ay→Prop) (E:af→ay→Prop),Q (.bool (g i j)) s→aW (br X.prog X.w) X.A (f (.int i t) (.int j u)) Q E s) :
  OpR X f (rI0 λi j=> .bl (g i j)):=by
 intro pins s σ H x y v u Q I rx ry h;obtain⟨i,j,rfl,rfl,q⟩:=h;obtain⟨t,rfl⟩:=rx;obtain⟨t',rfl⟩:=ry;exact rule i j t t' s _ _ ⟨.bl (g i j),H,I,rfl,q⟩
def CDiv (i j:Int):Prop:=0<j∧j<1073741824
def CPow (i j:Int):Prop:=0≤j∧j≤1000000∧i.natAbs<2 ^ 64
def CMul (i j:Int):Prop:=(-(2 ^ 64)<i∧i<2 ^ 64)∨(-(2 ^ 64)<j∧j<2 ^ 64)
def CMul.ok {i j:Int}(h:CMul i j):IntMulOk i j:=by
 rcases h with ⟨h1,h2⟩ | ⟨h1,h2⟩
 ·exact .of_left (intBits_le_64 h1 h2)
 ·exact .of_right (intBits_le_64 h1 h2)
def i6:OpR X (iN .Add) (rI0 λi j=> .int (i+j)):=opI0 λ_ _ _ _ _ _ _ q=>add_int q
def kz:OpR X (iN .Sub) (rI0 λi j=> .int (i - j)):=opI0 λ_ _ _ _ _ _ _ q=>sub_int q
def nW:OpR X (iN .Mult) (rI CMul λi j=> .int (i * j)):=opI λ_ _ _ _ _ _ _ hc q=>mul_int q hc.ok
def op_fdiv:OpR X (iN .FloorDiv) (rI CDiv λi j=> .int (i / j)):=opI λi j _ _ _ _ _ hc q=>by
 have h1:(0:Int)<j:=hc.1;have h2:j<1073741824:=hc.2;exact floordiv_int ⋯ (by rw[Int.fdiv_eq_ediv_of_nonneg i ⋯];exact q) (.inl (PyProof.noPylong_small ⋯))
def mF:OpR X (iN .Mod) (rI (λ_ j=>0<j) λi j=> .int (i % j)):=opI λi j _ _ _ _ _ hc q=>by
 have h1:(0:Int)<j:=hc;exact mod_int' ⋯ (by rw[Int.fmod_eq_emod_of_nonneg i ⋯];exact q)
def op_pow:OpR X (iN .Pow) (rI CPow λi j=> .int (i ^ j.toNat)):=opI λ_ _ _ _ _ _ _ hc q=>pow_int_small hc.1 hc.2.1 hc.2.2 q
def unI {f:af→Sem af}{g:Int→Int}
  (rule:∀(i:Int) (t:Tok) (s:ay) (Q:af→ay→Prop) (E:af→ay→Prop),Q (.int (g i) s.toks) { s with toks:=s.toks+1 }→aW (br X.prog X.w) X.A (f (.int i t)) Q E s) :
  UnR X f (rU λi=> .int (g i)):=by
 intro pins s σ H x v Q I rx h;obtain⟨i,rfl,q⟩:=h;obtain⟨t,rfl⟩:=rx;exact rule i t s _ _ ⟨.int (g i),H,I.tok _,⟨_,rfl⟩,q⟩
def qY:UnR X (unaryOp .USub) (rU λi=> .int (-i)):=unI λ_ _ _ _ _ q=>neg_int q
end
def scal:V→V→Bool
 | .non,.non=>true | .non,.int _=>true | .int _,.non=>true | .non,.bl _=>true | .bl _,.non=>true | .non,.str _=>true | .str _,.non=>true
 | .int _,.int _=>true | .bl _,.bl _=>true | .str _,.str _=>true | .byt _,.byt _=>true
 | .int _,.str _=>true | .str _,.int _=>true | .bl _,.str _=>true | .str _,.bl _=>true
 | _,_=>false
def rEq:R2:=λx y H Q=>scal x y=true∧Q (.bl (decide (x=y))) H
def rNe:R2:=λx y H Q=>scal x y=true∧Q (.bl (!decide (x=y))) H
def dec_int {i j:Int}:decide (V.int i=V.int j)=(i == j):=by
 rw[kM];simp
def dec_bl {i j:Bool}:decide (V.bl i=V.bl j)=(i == j):=by
 rw[kM];simp
def dec_str {i j:Str}:decide (V.str i=V.str j)=(i == j):=by
 rw[kM];simp
def dec_byt {i j:Array UInt8}:decide (V.byt i=V.byt j)=(i.toList == j.toList):=by
 rw[kM];cases i;cases j;simp
section
variable {a b c:Expr}{tb tc:TE}
def e7 {pins:List (aq×Obj)}{Q:VK}{k k':Bool}(I:Inv X pins σ H s)(q:Q (.bl k) H)(e:k=k'):EP X pins σ Q (.bool k') s:=by
 subst e;exact⟨.bl k,H,I,rfl,q⟩
def jO:OpR X (dX .Eq) rEq:=by
 intro pins s σ H x y v u Q I rx ry h;obtain⟨hs,q⟩:=h;cases x with
 | non =>
  cases rx;cases y with
  | non=>cases ry;exact PySem.EqNone.eq_none_none (e7 I q ∅)
  | bl j=>cases ry;exact PySem.EqNone.eq_none_bool (e7 I q ∅)
  | int j=>obtain⟨t',rfl⟩:=ry;exact PySem.EqNone.eq_none_int (e7 I q ∅)
  | str j=>obtain⟨t',rfl⟩:=ry;exact PySem.EqNone.eq_none_str (e7 I q ∅)
  | _=>exact rS (show false=true from hs) bc
 | bl i =>
  cases rx;cases y with
  | non=>cases ry;exact PySem.EqNone.eq_bool_none (e7 I q ∅)
  | bl j=>cases ry;exact eq_bool (e7 I q dec_bl)
  | str j=>obtain⟨t',rfl⟩:=ry;exact PySem.EqMixed.eq_bool_str (e7 I q ∅)
  | _=>exact rS (show false=true from hs) bc
 | int i =>
  obtain⟨t,rfl⟩:=rx;cases y with
  | non=>cases ry;exact PySem.EqNone.eq_int_none (e7 I q ∅)
  | int j=>obtain⟨t',rfl⟩:=ry;exact eq_int (e7 I q dec_int)
  | str j=>obtain⟨t',rfl⟩:=ry;exact PySem.EqMixed.eq_int_str (e7 I q ∅)
  | _=>exact rS (show false=true from hs) bc
 | str i =>
  obtain⟨t,rfl⟩:=rx;cases y with
  | non=>cases ry;exact PySem.EqNone.eq_str_none (e7 I q ∅)
  | bl j=>cases ry;exact PySem.EqMixed.eq_str_bool (e7 I q ∅)
  | int j=>obtain⟨t',rfl⟩:=ry;exact PySem.EqMixed.eq_str_int (e7 I q ∅)
  | str j=>obtain⟨t',rfl⟩:=ry;exact eq_str (e7 I q dec_str)
  | _=>exact rS (show false=true from hs) bc
 | byt i =>
  obtain⟨t,rfl⟩:=rx;cases y with
  | byt j=>obtain⟨t',rfl⟩:=ry;exact PySem.W.eq_bytes (e7 I q dec_byt)
  | _=>exact rS (show false=true from hs) bc
 | _=>cases y <;> exact rS (show false=true from hs) bc
def qS:OpR X (dX .NotEq) rNe:=by
 intro pins s σ H x y v u Q I rx ry h;obtain⟨hs,q⟩:=h;cases x with
 | non =>
  cases rx;cases y with
  | non=>cases ry;exact PySem.EqNone.ne_none_none (e7 I q ∅)
  | bl j=>cases ry;exact PySem.EqNone.ne_none_bool (e7 I q ∅)
  | int j=>obtain⟨t',rfl⟩:=ry;exact PySem.EqNone.ne_none_int (e7 I q ∅)
  | str j=>obtain⟨t',rfl⟩:=ry;exact PySem.EqNone.ne_none_str (e7 I q ∅)
  | _=>exact rS (show false=true from hs) bc
 | bl i =>
  cases rx;cases y with
  | non=>cases ry;exact PySem.EqNone.ne_bool_none (e7 I q ∅)
  | bl j=>cases ry;exact ne_bool (e7 I q (rX not dec_bl))
  | str j=>obtain⟨t',rfl⟩:=ry;exact PySem.EqMixed.ne_bool_str (e7 I q ∅)
  | _=>exact rS (show false=true from hs) bc
 | int i =>
  obtain⟨t,rfl⟩:=rx;cases y with
  | non=>cases ry;exact PySem.EqNone.ne_int_none (e7 I q ∅)
  | int j=>obtain⟨t',rfl⟩:=ry;exact ne_int (e7 I q (rX not dec_int))
  | str j=>obtain⟨t',rfl⟩:=ry;exact PySem.EqMixed.ne_int_str (e7 I q ∅)
  | _=>exact rS (show false=true from hs) bc
 | str i =>
  obtain⟨t,rfl⟩:=rx;cases y with
  | non=>cases ry;exact PySem.EqNone.ne_str_none (e7 I q ∅)
  | bl j=>cases ry;exact PySem.EqMixed.ne_str_bool (e7 I q ∅)
  | int j=>obtain⟨t',rfl⟩:=ry;exact PySem.EqMixed.ne_str_int (e7 I q ∅)
  | str j=>obtain⟨t',rfl⟩:=ry;exact ne_str (e7 I q (rX not dec_str))
  | _=>exact rS (show false=true from hs) bc
 | byt i =>
  obtain⟨t,rfl⟩:=rx;cases y with
  | byt j=>obtain⟨t',rfl⟩:=ry;exact PySem.W.ne_bytes (e7 I q (rX not dec_byt))
  | _=>exact rS (show false=true from hs) bc
 | _=>cases y <;> exact rS (show false=true from hs) bc
def op_lt:OpR X (dX .Lt) (rI0 λi j=> .bl (decide (i<j))):=opB0 λ_ _ _ _ _ _ _ q=>lt_int q
def op_le:OpR X (dX .LtE) (rI0 λi j=> .bl (decide (i≤j))):=opB0 λ_ _ _ _ _ _ _ q=>le_int q
def qT:OpR X (dX .Gt) (rI0 λi j=> .bl (decide (j<i))):=opB0 λ_ _ _ _ _ _ _ q=>gt_int q
def op_ge:OpR X (dX .GtE) (rI0 λi j=> .bl (decide (j≤i))):=opB0 λ_ _ _ _ _ _ _ q=>ge_int q
def op_isN:OpR X (dX .Is) (λx y H Q=>y= .non∧Q (.bl (decide (x= .non))) H):=by
 intro pins s σ H x y v u Q I rx ry h;obtain⟨rfl,q⟩:=h;cases ry;apply is_none_gen (e7 I q ?_);cases x <;> first
  | (cases rx;rfl)
  | (obtain⟨t,rfl⟩:=rx;rfl)
def cL (b:Expr)(h:op≠ .In:=by decide)(h2:op≠ .NotIn:=by decide):behindInMarks op b=false:=by
 have e1:(op == CmpOp.In)=false:=by cases op <;> first | rfl | exact rS rfl h
 have e2:(op == CmpOp.NotIn)=false:=by cases op <;> first | rfl | exact rS rfl h2
 cases b <;> simp[behindInMarks,e1,e2]
def jz {r:R2}(ho:OpR X (dX op) r)(ha:PE X a ta)(hb:PE X b tb)(hm:behindInMarks op b=false):PE X (.Compare a [op] [b] pos) (tOp r ta tb):=by
 intro pins s σ H Q I h;exact wpAny_Compare1 (binT ha hb I h λv u s2 x y H2 I2 rx ry q=>ho pins s2 σ H2 x y v u Q I2 rx ry q) hm
def tTest (t:TE):TT:=λσ H Q=>t σ H λx H'=>IsBl x λk=>Q k H'
def cy {r:R2}(ho:OpR X (dX op) r)(ha:PE X a ta)(hb:PE X b tb)(hm:behindInMarks op b=false):PT X (.Compare a [op] [b] pos) (tTest (tOp r ta tb)):=by
 intro pins s σ H Q I h;apply wpAny_isTrue_Compare1 (thn (ha pins s σ H _ I h) fun v s1 ⟨x,H1,I1,r1,q1⟩=>thn (hb pins s1 σ H1 _ I1 q1) fun u s2 ⟨y,H2,I2,r2,q2⟩ =>
  thn (ho pins s2 σ H2 x y v u _ I2 r1 r2 q2) fun c s3 ⟨z,H3,I3,r3,k,e,q3⟩=>?_) hm
 subst e;cases r3;exact eG ⟨H3,I3,q3⟩
def tChain (r r':R2)(ta tb tc:TE):TE:=λσ H Q=>ta σ H λx H1=>tb σ H1 λy H2=>r x y H2 λz H3=>∃k,z= .bl k ∧
 (if k=true then tc σ H3 λw' H4=>r' y w' H4 Q else Q (.bl false) H3)
def pe_chain {op':CmpOp}{r r':R2}(ho:OpR X (dX op) r)(ho':OpR X (dX op') r')(ha:PE X a ta)(hb:PE X b tb)(hc:PE X c tc)
  (hm:lastMarks [op,op'] [b,c]=false:=by with_unfolding_all rfl):PE X (.Compare a [op,op'] [b,c] pos) (tChain r r' ta tb tc):=by
 intro pins s σ H Q I h;apply Compare_chain (thn (ha pins s σ H _ I h) fun v s1 ⟨x,H1,I1,r1,q1⟩=>chain_link (thn (hb pins s1 σ H1 _ I1 q1) fun u s2 ⟨y,H2,I2,r2,q2⟩ =>
  thn (ho pins s2 σ H2 x y v u _ I2 r1 r2 q2) fun d s3 ⟨z,H3,I3,r3,k,e,q3⟩=>?_)) hm
 subst e;cases r3;apply eG ?_;cases k with
 | false=>exact ite_ff ⟨.bl false,H3,I3,rfl,q3⟩
 | true=>exact ite_tt (chain_last (thn (hc pins s3 σ H3 _ I3 q3) λw' s4 ⟨z',H4,I4,r4,q4⟩=>ho' pins s4 σ H4 y z' u w' Q I4 r2 r4 q4))
def pt_chain {op':CmpOp}{r r':R2}(ho:OpR X (dX op) r)(ho':OpR X (dX op') r')(ha:PE X a ta)(hb:PE X b tb)(hc:PE X c tc)
  (hm:lastMarks [op,op'] [b,c]=false:=by with_unfolding_all rfl):PT X (.Compare a [op,op'] [b,c] pos) (tTest (tChain r r' ta tb tc)):=by
 intro pins s σ H Q I h;apply isTrue_chain (thn (ha pins s σ H _ I h) fun v s1 ⟨x,H1,I1,r1,q1⟩=>test_link (thn (hb pins s1 σ H1 _ I1 q1) fun u s2 ⟨y,H2,I2,r2,q2⟩ =>
  thn (ho pins s2 σ H2 x y v u _ I2 r1 r2 q2) fun d s3 ⟨z,H3,I3,r3,k,e,q3⟩=>?_)) hm
 subst e;cases r3;apply eG ?_;cases k with
 | false =>
  obtain⟨k',e',q'⟩:=q3;cases e';exact ite_ff ⟨H3,I3,q'⟩
 | true =>
  apply ite_tt (test_last (thn (hc pins s3 σ H3 _ I3 q3) λw' s4 ⟨z',H4,I4,r4,q4⟩=>thn (ho' pins s4 σ H4 y z' u w' _ I4 r2 r4 q4) λd' s5 ⟨z2,H5,I5,r5,k2,e2,q5⟩=>?_));subst e2;cases r5;exact eG ⟨H5,I5,q5⟩
def line63:(bf:Nat)<2 ^ 63:=by rw[fu];decide
def oo {x:V}(r:gz [x] us):∃u,us=[u]∧gL x u:=by
 cases r with
 | cons r1 r2=>cases r2;exact⟨_,rfl,r1⟩
def vals2 {x y:V}(r:gz [x,y] us):∃u w',us=[u,w']∧gL x u∧gL y w':=by
 cases r with
 | cons r1 r2 =>
  cases r2 with
  | cons r3 r4=>cases r4;exact⟨_,_,rfl,r1,r3⟩
def call_max2 (hc:X.calm=true):jV X (.builtin "max") (λxs H Q=>∃i j,xs=[.int i,.int j]∧Q (.int (if j > i then j else i)) H):=by
 intro pins s σ H xs us Q I r h;obtain⟨i,j,rfl,q⟩:=h;obtain⟨u,w',rfl,⟨t,rfl⟩,⟨t',rfl⟩⟩:=vals2 r;apply max_two_ints (I.ok.hd hc) λh' tk k=>⟨_,H,I.kept k,?_,q⟩
 by_cases hj:j > i
 ·rw[rR hj,rR hj];exact⟨_,rfl⟩
 ·rw[rQ hj,rQ hj];exact⟨_,rfl⟩
def call_min2 (hc:X.calm=true):jV X (.builtin "min") (λxs H Q=>∃i j,xs=[.int i,.int j]∧Q (.int (if j<i then j else i)) H):=by
 intro pins s σ H xs us Q I r h;obtain⟨i,j,rfl,q⟩:=h;obtain⟨u,w',rfl,⟨t,rfl⟩,⟨t',rfl⟩⟩:=vals2 r;apply min_two_ints (I.ok.hd hc) λh' tk k=>⟨_,H,I.kept k,?_,q⟩
 by_cases hj:j<i
 ·rw[rR hj,rR hj];exact⟨_,rfl⟩
 ·rw[rQ hj,rQ hj];exact⟨_,rfl⟩
end
structure ObjM (h:bO)(x dx C:aq)(mA:Str→Option af):Prop where
 obj:h.get? x=some (gp C dx)
 ns:h.Ns1 dx mA
 ne:dx≠x
def lookIn_ns (n:h.Ns1 dx mA):∃od,h.get? dx=some od∧∀name,PySem.W.lookIn name od=some (mA name):=by
 obtain⟨o,es,ep,ho,hd,hk,_,hm⟩:=n;apply⟨o,ho,λname=>?_⟩;have e:=hm name;unfold nsFind findBy at e;rw[←Array.find?_toList] at e;unfold PySem.W.lookIn;rw[hd]
 dsimp only
 split
 ·rename_i y q
  rw[q] at e;exact rX some e
 ·rename_i q
  rw[q] at e;have a:es.toList.any (·.refKey)=false:=by
   rw[ir];intro y hy;obtain⟨z,t,hkey⟩:=hk y (Array.mem_toList_iff.mp hy);simp[DictEntry.refKey,hkey]
  have a':¬es.toList.any (·.refKey)=true:=by rw[a];exact bc
  rw[rQ a'];exact rX some e
def ObjM.look {x:aq}(I:ObjM h x dx C mA):∃od,PySem.W.InstAt h x (gp C dx) C (some od)∧∀name,PySem.W.lookIn name od=some (mA name) :=
 let ⟨od,ho,hl⟩:=lookIn_ns I.ns
 ⟨od,⟨I.obj,rfl,rfl,ho⟩,hl⟩
section
variable {x:aq}{v:af}
def get_map {expr:Bool}(X:K.In s.heap)(I:ObjM s.heap x dx C mA)(hg:jR K C name=true)(hh:PySem.W.hasDictIn K C=true)
  (ha:cM K (.ref C) name=some none) (hv:mA name=some v) (hv':PySem.W.handedIn v=true) (h:Q v { s with toks:=s.toks+1 }) :
  aW (br prog w) A (getAttr (.ref x) name expr) Q E s:=by
 obtain⟨od,J,hl⟩:=I.look;exact PySem.W.get_value X J (PySem.W.plainGet_of hg).1 (PySem.W.findObj_own hh ha rfl (by rw[hl,hv])) hv' h
def get_meth {pl:Sem Bool}{Q:af×List af→ay→Prop}(X:K.In s.heap)(I:ObjM s.heap x dx C mA)(hg:jR K C name=true)
  (hf:cM K (.ref C) name=some (some (.ref f))) (ht:PySem.W.isFn K (.ref f)=true) (hv:mA name=none) (h:Q (.ref f,[.ref x]) s) :
  aW (br prog w) A (getMethod (.ref x) name pl) Q E s:=by
 obtain⟨od,J,hl⟩:=I.look;exact PySem.W.method_fn X J (PySem.W.plainGet_of hg).1 (PySem.W.plainGet_of hg).2 hf (beq_iff_eq.mp ht) (by show(PySem.W.lookIn name od).map (·.isSome)=some false;rw[hl,hv];rfl) h
def set_map {ns:List Str}{Q:Unit→ay→Prop}(X:K.In s.heap)(I:ObjM s.heap x dx C mA)
  (hs:cM K (.ref C) "__setattr__" =some (some (.builtin "object.__setattr__"))) (hp:PySem.W.plainOver K C=true) (ht:PySem.W.takerIn K C name=some none) (hh:PySem.W.hasDictIn K C=true)
  (hw:PySem.Within mA ns) (hsz:ns.length≤bf)
  (h:∀h',ObjM h' x dx C (λy=>if y=name then some v else mA y)→cH dx s.heap h'→Q () { s with heap:=h',toks:=s.toks+2 }) :
  aW (br prog w) A (setAttr (.ref x) name v) Q E s:=by
 obtain⟨od,J,hl⟩:=I.look;apply PySem.W.set_plain X J hs (PySem.W.osa_open (s:={ s with toks:=s.toks+1 }) (r:=none) X J hp ht λb=>?_);obtain⟨cd,hc,hd'⟩:=PySem.W.any_some hh;have hx:s.heap.get? x=some ⟨.ref C,some dx,.plain,#[]⟩:=I.obj;apply ao (aP (ao (ao (wpAny_loadPart hx (ao (PySem.W.Looks.here (s:={ s with toks:=s.toks+1 }) (PySem.W.looks_clsIn X hc) ?_))))));rw[hd'];apply aP (a:=some dx) (ao (aP (ao ?_)));apply wpAny_nsSet1 (s:={ s with toks:=s.toks+1 }) I.ns λh' hn2 hs2=>?_
 obtain⟨oD,esD,epD,hoD,hdD,hcD⟩:=hn2.count (PySem.Within.cons name v hw);apply ao (wpAny_lookBehind hoD (by rw[hdD];exact pastItsLine_dict (aQ hcD (by rw[aV];lia))) ?_);exact aP (h _ ⟨(hs2.2 _ (cK I.ne)).trans I.obj,hn2,I.ne⟩ hs2)
def make_map {R:Result→ay→Prop}(X:K.In s.heap)(hm:PySem.W.makesIn K C=true)
  (hi:cM K (.ref C) "__init__" =some (some (.ref f))) (hf:PySem.W.typeIn K (.ref f)=some (.type "function"))
  (h:jj (br prog w) (A.under (.builtin "type.__call__" ⟨.ref C::vs,kw⟩)) (.call (.ref f) ⟨.ref (s.heap.objs.size+1)::vs,kw⟩) (PySem.W.InitBack (s.heap.objs.size+1) R)
   {s with heap:=(s.heap.push eS).push (gp C s.heap.objs.size) }) :
  jj (br prog w) A (.call (.ref C) ⟨vs,kw⟩) R s:=by
 obtain⟨hh,g,d,t,os⟩:=s;exact PySem.W.make_core (PySem.W.makes_of X hm) (PySem.W.looks_findIn X hi) (λself=>PySem.W.bind_fn X self hf) (.inl rfl) h
end
def nE (f:Str)(v:V):List (Str×V)→List (Str×V)
 | []=>[(f,v)]
 | (g,x)::r=>if g=f then (g,v)::r else (g,x)::nE f v r
theorem qq (f g:Str)(v:V):∀fs:List (Str×V),(nE f v fs).lookup g=if g=f then some v else fs.lookup g
 | []=>by
  show eN g [(f,v)]=_
  by_cases h:g=f
  ·have hb:(g == f)=true:=beq_iff_eq.mpr h
   simp only[eN,hb,rR h]
  ·have hb:(g == f)=false:=beq_eq_false_iff_ne.mpr h
   simp only[eN,hb,rQ h]
 | (k,x)::r=>by
  have ih:=qq f g v r;rw[show nE f v ((k,x)::r)=(if k=f then (k,v)::r else (k,x)::nE f v r) from rfl]
  by_cases hk:k=f
  ·rw[rR hk]
   by_cases h:g=k
   ·have hb:(g == k)=true:=beq_iff_eq.mpr h
    simp only[eN,hb,rR (h.trans hk)]
   ·have hb:(g == k)=false:=beq_eq_false_iff_ne.mpr h
    simp only[eN,hb,rQ (λe:g=f=>h (e.trans hk.symm))]
  ·rw[rQ hk]
   by_cases h:g=k
   ·have hb:(g == k)=true:=beq_iff_eq.mpr h
    simp only[eN,hb,rQ (λe:g=f=>hk (h.symm.trans e))]
   ·have hb:(g == k)=false:=beq_eq_false_iff_ne.mpr h
    simp only[eN,hb];exact ih
theorem qw (f:Str)(v:V):∀fs:List (Str×V),f∈(nE f v fs).map (·.1)∧∀g,g∈fs.map (·.1)→g∈(nE f v fs).map (·.1)
 | []=>⟨by simp[nE],λg h=>by simp at h⟩
 | (k,x)::r=>by
  obtain⟨i1,i2⟩:=qw f v r;rw[show nE f v ((k,x)::r)=(if k=f then (k,v)::r else (k,x)::nE f v r) from rfl]
  by_cases hk:k=f
  ·rw[rR hk]
   subst hk;exact⟨∅,λg h=>by simpa using h⟩
  ·rw[rQ hk]
   apply⟨?_,λg h=>?_⟩
   ·rw[bI]
    exact aA _ i1
   ·rw[bI] at h ⊢
    rcases aH.mp h with e | e
    ·exact aH.mpr (.inl e)
    ·exact aA _ (i2 g e)
theorem qu (f:Str)(v:V):∀fs:List (Str×V),(nE f v fs).length≤fs.length+1
 | []=>by simp[nE]
 | (k,x)::r=>by
  have ih:=qu f v r;rw[show nE f v ((k,x)::r)=(if k=f then (k,v)::r else (k,x)::nE f v r) from rfl]
  by_cases hk:k=f
  ·rw[rR hk,aV,aV];lia
  ·rw[rQ hk,aV,aV];lia
def RelO.some_of {o:Option af}(r:RelO (some v) o):∃u,o=some u∧gL v u:=by
 cases o with
 | none=>exact(show False from r).elim
 | some u=>exact⟨u,rfl,r⟩
def RelO.none_of {o:Option af}(r:RelO none o):o=none:=by
 cases o with
 | none=>rfl
 | some u=>exact(show False from r).elim
def handed_of (r:gL v u):PySem.W.handedIn u=true:=by
 cases v with
 | non=>cases(show u=af.none from r);rfl
 | bl b=>cases(show u=af.bool b from r);rfl
 | int i=>obtain⟨t,e⟩:=(show ∃t,u=af.int i t from r);cases e;rfl
 | str x=>obtain⟨t,e⟩:=(show ∃t,u=af.str x t from r);cases e;rfl
 | byt b=>obtain⟨t,e⟩:=(show ∃t,u=af.bytes b t from r);cases e;rfl
 | flt b=>obtain⟨t,e⟩:=(show ∃t,u=af.float b t from r);cases e;rfl
 | ref a=>cases(show u=af.ref a from r);rfl
 | ty n=>cases(show u=af.type n from r);rfl
section
variable {fs fs':List (Str×V)}
def ins_get (hok:HOk P w H h)(e:H a=some (.ins C dx fs)):∃mA,ObjM h a dx C mA∧(∀f,RelO (fs.lookup f) (mA f))∧PySem.Within mA (fs.map (·.1))∧fs.length≤1000∧H dx=some (.own a):=by
 obtain⟨d,z,ne,ob,mA,n,r,q⟩:=(show jk P w H h a (.ins C dx fs) from hok a _ e);exact⟨mA,⟨ob,n,ne⟩,r,q,z,d⟩
end
structure Cls (K:au)(C:aq):Prop where
 pg:jR K C Str.empty=true
 hd:PySem.W.hasDictIn K C=true
 po:PySem.W.plainOver K C=true
 sa:cM K (.ref C) "__setattr__" =some (some (.builtin "object.__setattr__"))
def Cls.get (c:Cls K C)(f:Str):jR K C f=true:=c.pg
def oj (K:au)(C:aq)(f:Str):Prop:=cM K (.ref C) f=some none
def oj.taker {f:Str}(n:oj K C f):PySem.W.takerIn K C f=some none:=by
 unfold PySem.W.takerIn;rw[show cM K (.ref C) f=some none from n];rfl
structure Meth (K:au)(C:aq)(m:Str)(f:aq):Prop where
 at_:cM K (.ref C) m=some (some (.ref f))
 fn:PySem.W.isFn K (.ref f)=true
 kp:dY K (.ref f)=true
section
variable {pins:List (aq×Obj)}{fs:List (Str×V)}{f:Str}
def getattr_ok {b:Bool}(I:Inv X pins σ H s)(e:H a=some (.ins C dx fs))(c:Cls X.K C)(n:oj X.K C f)(l:fs.lookup f=some v)
  (h:∀u s',Inv X pins σ H s'→gL v u→Q u s'):aW (br X.prog X.w) A (getAttr (.ref a) f b) Q E s:=by
 obtain⟨mA,O,r,_,_,_⟩:=ins_get I.hok e;obtain⟨u,hu,ru⟩:=RelO.some_of (v:=v) (o:=mA f) (by rw[←l];exact r f);exact get_map I.kIn O (c.get f) c.hd n hu (handed_of ru) (h u _ (I.tok _) ru)
def getmeth_ok {m:Str}{g:aq}{pl:Sem Bool}{Q:af×List af→ay→Prop}(I:Inv X pins σ H s)(e:H a=some (.ins C dx fs))(c:Cls X.K C)(k:Meth X.K C m g)(l:fs.lookup m=none)
  (h:Q (.ref g,[.ref a]) s):aW (br X.prog X.w) A (getMethod (.ref a) m pl) Q E s:=by
 obtain⟨mA,O,r,_,_,_⟩:=ins_get I.hok e;have hn:mA m=none:=RelO.none_of (by rw[←l];exact r m);exact get_meth I.kIn O (c.get m) k.at_ k.fn hn h
def setattr_ok {y:V}{Q:Unit→ay→Prop}(I:Inv X pins σ H s)(e:H a=some (.ins C dx fs))(c:Cls X.K C)(n:oj X.K C f)(hl:fs.length<1000)(ry:gL y u)
  (h:∀s',Inv X pins σ (upd H a (.ins C dx (nE f y fs))) s'→Q () s'):aW (br X.prog X.w) A (setAttr (.ref a) f u) Q E s:=by
 obtain⟨mA,O,r,wi,_,ho⟩:=ins_get I.hok e;have hz:(fs.map (·.1)).length≤bf:=by rw[aa,fu];lia
 apply set_map I.kIn O c.sa c.po n.taker c.hd wi hz λh' O' sb=>h _ ?_
 have hd:∃o,h'.get? dx=some o:=let ⟨o,_,_,e',_⟩:=O'.ns;⟨o,e'⟩;apply I.write (x:=a) (e:=dx) (by rw[e];exact True.intro) (.inr ho) (λb q hb z=>(sb.2 b hb).trans z) hd ?_;apply⟨by rw[bt O.ne];exact ho,?_,O.ne,O'.obj,_,O'.ns,λg=>?_,λg hg=>?_⟩
 ·have:=qu f y fs;lia
 ·show RelO ((nE f y fs).lookup g) (if g=f then some u else mA g)
  rw[qq]
  by_cases q:g=f
  ·rw[rR q,rR q];exact ry
  ·rw[rQ q,rQ q];exact r g
 ·by_cases q:g=f
  ·rw[q];exact(qw f y fs).1
  ·apply(qw f y fs).2 g (wi g λz=>hg ?_)
   show(if g=f then some u else mA g)=none;rw[rQ q];exact z
def Inv.made (I:Inv X pins σ H s):Inv X pins σ (upd (upd H s.heap.objs.size (.own (s.heap.objs.size+1))) (s.heap.objs.size+1) (.ins C s.heap.objs.size []))
  {s with heap:=(s.heap.push eS).push (gp C s.heap.objs.size) }:=by
 have e1:(s.heap.push eS).get? s.heap.objs.size=some eS:=aU s.heap rfl;have e2:((s.heap.push eS).push (gp C s.heap.objs.size)).get? (s.heap.objs.size+1)=some (gp C s.heap.objs.size):=by
  have:=aU (s.heap.push eS) (o:=gp C s.heap.objs.size) rfl
  rwa [eE] at this
 have e3:(s.heap.push eS).Ns s.heap.objs.size (λ_=>none):=⟨eS,#[],_,e1,rfl,(λe he=>rS he ∅),λ_=>rfl⟩;have I1:=I.laid (a:=s.heap.objs.size) (o:= .own (s.heap.objs.size+1)) (h':=s.heap.push eS) (t':=s.toks) (λb u q=>ax _ q) (aB _) ⟨_,e1⟩;apply I1.laid (a:=s.heap.objs.size+1) (o:= .ins C s.heap.objs.size []) (t':=s.toks) (λb u q=>ax _ q) (Nat.le_of_eq (eE _ _)) ?_;have ne:s.heap.objs.size≠s.heap.objs.size+1:=bG (ki _);apply⟨by rw[bt ne,aR],bu _,ne,e2,λ_=>none,(bO.Ns1.of_empty e3).at λo q=>ax _ q,λ_=>True.intro,λy hy=>rS rfl hy⟩
def attr_of {f:Str}(hb:kU e f env (eP e env)=eP e env)
  (h:aW (br prog w) A (eP e env) (λo s₁=>aW (br prog w) A (getAttr o f true) Q E s₁) E s):aW (br prog w) A (eP (.Attribute e f pos) env) Q E s :=
 Attribute_any_ h (by rw[arm_eval_Attribute,hb])
end
def tFld (K:au)(ta:TE)(f:Str):TE:=λσ H Q=>ta σ H λx H1=>∃a C dx fs v,x= .ref a∧H1 a=some (.ins C dx fs)∧Cls K C∧oj K C f∧fs.lookup f=some v∧Q v H1
def sFld (K:au)(ta tv:TE)(f:Str):TS:=λD σ H=>tv σ H λy H1=>ta σ H1 λx H2=>∃a C dx fs,x= .ref a∧H2 a=some (.ins C dx fs)∧Cls K C∧oj K C f∧fs.length<1000 ∧
 D.nx σ (upd H2 a (.ins C dx (nE f y fs)))
section
variable {o:Expr}{f:Str}{tpos:Pos}{tv:TE}
def pe_fld (he:PE X e ta)(hb:kU e f X.env (eP e X.env)=eP e X.env):PE X (.Attribute e f pos) (tFld X.K ta f):=by
 intro pins s σ H Q I h;apply attr_of hb (thn (he pins s σ H _ I h) λu s1 ⟨x,H1,I1,rx,a,C,dx,fs,v,ex,ea,c,n,l,q⟩=>?_);subst ex;obtain rfl:u=af.ref a:=rx;exact getattr_ok I1 ea c n l λu' s2 I2 ru=>⟨v,H1,I2,ru,q⟩
def ps_fld (ha:PE X o ta)(hv:PE X value tv)(hs:swapsWith value (some (.Attribute o f pos')) pos.line X.env=fV false):PS X (.Assign [.Attribute o f pos'] value pos) (sFld X.K ta tv f):=by
 intro pins s σ H D I h;apply plainObj_wpAny_Assign_Attribute (thn (hv pins s σ H _ I h) λu s1 ⟨y,H1,I1,ry,q⟩=>thn (ha pins s1 σ H1 _ I1 q) λov s2 ⟨x,H2,I2,rx,a,C,dx,fs,ex,ea,c,n,l,q2⟩=>?_) hs;subst ex;obtain rfl:ov=af.ref a:=rx;exact setattr_ok I2 ea c n l ry λs3 I3=>⟨σ,_,I3,q2⟩
end
section
variable {pins:List (aq×Obj)}{c:af}{b:Bool}
inductive TyOf (K:au)(H:Hp):V→af→Prop where
 | non:TyOf K H .non (.type "NoneType")
 | bl (x:Bool):TyOf K H (.bl x) (.type "bool")
 | int (i:Int):TyOf K H (.int i) (.type "int")
 | str (x:Str):TyOf K H (.str x) (.type "str")
 | flt (x:UInt64):TyOf K H (.flt x) (.type "float")
 | lst {a:aq} {xs:List V} (e:H a=some (.lst xs)):TyOf K H (.ref a) (.type "list")
 | frz {a:aq} {o:Obj} {xs:List V} (e:H a=some (.frz o (.lst xs))):TyOf K H (.ref a) (.type "list")
 | tup {a:aq} {xs:List V} (e:H a=some (.tup xs)):TyOf K H (.ref a) (.type "tuple")
 | dK {a:aq} {kvs:List (Key×V)} (e:H a=some (.dK kvs)):TyOf K H (.ref a) (.type "dict")
 | dT {a:aq} {kvs:List (List Key×V)} (e:H a=some (.dT kvs)):TyOf K H (.ref a) (.type "dict")
 | ins {a C dx:aq} {fs:List (Str×V)} (e:H a=some (.ins C dx fs)) (cl:Cls K C) (ha:cM K (.ref C) "__class__" =some (some (.builtin "object.__class__")))
   (hn:PySem.W.specialIn K (.builtin "object.__class__") "__get__" =some (some (.builtin "getset_descriptor.__get__"))) (htk:PySem.W.takesIn K (.builtin "object.__class__")=some true)
   (hm:PySem.W.mroIn K C (.type "object")=some true):TyOf K H (.ref a) (.ref C)
def isinst_ok {x:V}{t:af}(I:Inv X pins σ H s)(rx:gL x u)(ty:TyOf X.K H x t)(e:jr X.K t c=some b)(h:∀tk,Q (.bool b) { s with toks:=tk }) :
  aW (br X.prog X.w) A (call (.builtin "isinstance") [u,c]) Q E s:=by
 cases ty with
 | non=>cases(show u=af.none from rx);exact d9 PySem.W.kitx_none I.kIn True.intro e (λz=>nomatch z) h
 | bl y=>cases(show u=af.bool y from rx);exact d9 PySem.W.kitx_bool I.kIn True.intro e (λz=>nomatch z) h
 | int i=>obtain⟨t,q⟩:=(show ∃t,u=af.int i t from rx);cases q;exact d9 PySem.W.kitx_int I.kIn True.intro e (λz=>nomatch z) h
 | str y=>obtain⟨t,q⟩:=(show ∃t,u=af.str y t from rx);cases q;exact d9 PySem.W.kitx_str I.kIn True.intro e (λz=>nomatch z) h
 | flt y=>obtain⟨t,q⟩:=(show ∃t,u=af.float y t from rx);cases q;exact d9 PySem.W.kitx_float I.kIn True.intro e (λz=>nomatch z) h
 | @lst a xs ea =>
  cases(show u=af.ref a from rx);obtain⟨_,_,n,_,h1⟩:=(show jk X.prog X.w H s.heap a (.lst xs) from I.hok a _ ea);exact d9 PySem.W.kitx_list I.kIn ⟨_,h1,rfl⟩ e (λz=>nomatch z) h
 | @frz a ob xs ea =>
  cases(show u=af.ref a from rx);obtain⟨_,_,_,n,_,h1⟩:=(show jk X.prog X.w H s.heap a (.frz ob (.lst xs)) from I.hok a _ ea);exact d9 PySem.W.kitx_list I.kIn ⟨_,h1,rfl⟩ e (λz=>nomatch z) h
 | @tup a xs ea =>
  cases(show u=af.ref a from rx);obtain⟨_,_,_,p⟩:=(show jk X.prog X.w H s.heap a (.tup xs) from I.hok a _ ea);obtain⟨o,h1,h2,_⟩:=p;exact d9 PySem.W.kitx_tuple I.kIn ⟨o,h1,h2⟩ e (λz=>nomatch z) h
 | @dK a kvs ea =>
  cases(show u=af.ref a from rx);obtain⟨_,_,vs,_,p⟩:=(show jk X.prog X.w H s.heap a (.dK kvs) from I.hok a _ ea);obtain⟨o,es,ep,h1,h2,_⟩:=p;exact d9 PySem.W.kitx_dict I.kIn ⟨o,h1,h2.1⟩ e (λz=>nomatch z) h
 | @dT a kvs ea =>
  cases(show u=af.ref a from rx);obtain⟨_,_,xs,_,o,es,ep,h1,h2,_⟩:=(show jk X.prog X.w H s.heap a (.dT kvs) from I.hok a _ ea);exact d9 PySem.W.kitx_dict I.kIn ⟨o,h1,h2.1⟩ e (λz=>nomatch z) h
 | @ins a C dx fs ea cl ha hn htk hm =>
  cases(show u=af.ref a from rx);obtain⟨mA,O,_⟩:=ins_get I.hok ea;obtain⟨od,J,_⟩:=O.look;exact d9 (PySem.W.kitx_own (cl.get _) cl.hd ha hn htk hm) I.kIn J e (λz=>nomatch z) h
end
structure gP (k:Nat)(A:bT):Prop where
 hd:A.handled=none
 dp:A.depth+3 * k+5<ka
 un:A.units+16 * k+200<cLine
def gP.mono {k:Nat}(r:gP k A)(h:j≤k):gP j A:=⟨r.hd,by have:=r.dp;lia,by have:=r.un;lia⟩
def gP.deeper {k:Nat}(r:gP (k+1) A)(env:Env):gP k (A.deeper env) :=
 ⟨r.hd,by have:=r.dp;show A.depth+1+3 * k+5<_;lia,by have:=r.un;show A.units+3+16 * k+200<_;lia⟩
def gP.in1 {k:Nat}(r:gP (k+1) A):gP k A.in1 :=
 ⟨r.hd,by have:=r.dp;show A.depth+3 * k+5<_;lia,by have:=r.un;show A.units+1+16 * k+200<_;lia⟩
def make_depth:(A.under (.builtin "type.__call__" ⟨.ref C::us,kw⟩)).depth=A.depth+1:=by
 first | rfl | simp[bT.under,Code.weight,Code.isCreation,Code.isGuard,Code.isCaller,Code.frames,Code.isFrame,guardIds]
def make_units:(A.under (.builtin "type.__call__" ⟨.ref C::us,kw⟩)).units=A.units+1:=by
 first | rfl | simp[bT.under,Code.cUnits,Code.frames,Code.isFrame]
def gP.make {k:Nat}(r:gP (k+1) A)(C:aq)(us:List af)(kw:List (Str×af)):gP k (A.under (.builtin "type.__call__" ⟨.ref C::us,kw⟩)) :=
 ⟨r.hd,by have:=r.dp;rw[make_depth];lia,by have:=r.un;rw[make_units];lia⟩
def gP.depth {k:Nat}(r:gP k A):A.depth<ka:=by have:=r.dp;lia
def gP.units {k:Nat}(r:gP k A):A.units+64<cLine:=by have:=r.un;lia
def gP.units0 {k:Nat}(r:gP k A):A.units<cLine:=by have:=r.un;lia
def tNil:TA:=λ_ H Q=>Q [] H
def oV (ta:TE)(tr:TA):TA:=λσ H Q=>ta σ H λx H1=>tr σ H1 λxs H2=>Q (x::xs) H2
def aF:PA X [] tNil:=λ_ _ _ _ H Q I h=>Calls.spliced_nil ⟨[],H,I,.nil,h⟩
def ai (ha:PE X e te)(hr:PA X es t)(hs:bB (e::es) X.env=(false,eP e X.env)::bB es X.env:=by rfl):PA X (e::es) (oV te t):=by
 intro pos pins s σ H Q I h;rw[hs];show aW _ _ (spliced ((false,eP e X.env)::fB pos (bB es X.env))) _ _ s;apply Calls.spliced_cons (thn (ha pins s σ H _ I h) λu s1 ⟨x,H1,I1,r1,q1⟩=>?_);exact thn (hr pos pins s1 σ H1 _ I1 q1) λus s2 ⟨xs,H2,I2,r2,q2⟩=>⟨x::xs,H2,I2,.cons r1 r2,q2⟩
def tTup (t:TA):TE:=λσ H Q=>t σ H λxs H1=>xs.length≤bf∧∀p,H1 p=none→Q (.ref p) (upd H1 p (.tup xs))
def tLst (t:TA):TE:=λσ H Q=>t σ H λxs H1=>xs.length≤bf∧∀p,H1 p=none→Q (.ref p) (upd H1 p (.lst xs))
def pe_tup {x1}(h:PA X es t):PE X (.Tuple es x1 pos) (tTup t):=by
 intro pins s σ H Q I hq;apply wpAny_Tuple_spliced (thn (h pos pins s σ H _ I hq) λus s1 ⟨xs,H1,I1,r,z,q⟩=>⟨by rw[←r.length];exact z,?_⟩);have hf:H1 s1.heap.objs.size=none:=I1.hok.fresh (aB _);apply⟨.ref s1.heap.objs.size,upd H1 s1.heap.objs.size (.tup xs),I1.laid (t':=s1.toks) (λb u e=>ax _ e) (aB _) ?_,rfl,q _ hf⟩;exact⟨z,us,r,⟨_,aU _ rfl,rfl,rfl,_,rfl⟩⟩
def ji (h:PA X es t):PE X (.List es pos) (tLst t):=by
 intro pins s σ H Q I hq;apply wpAny_List_spliced (thn (h pos pins s σ H _ I hq) λus s1 ⟨xs,H1,I1,r,z,q⟩=>⟨by rw[←r.length];exact z,?_⟩);have hf:H1 s1.heap.objs.size=none:=I1.hok.fresh (aB _);apply⟨.ref s1.heap.objs.size,upd H1 s1.heap.objs.size (.lst xs),I1.laid (t':=s1.toks) (λb u e=>ax _ e) (aB _) ?_,rfl,q _ hf⟩;exact⟨z,us,0,r,aU _ rfl⟩
abbrev Sp:=List V→Hp→VK→XK→Prop
abbrev CXT:=List Env→Hp→ay→XK→af→ay→Prop
structure Env0 (P:aX)(w:bz)(K:au)(mg:Str→Option af)(base:bO)(A:bT)(outer:List Env)(s:ay)(H:Hp):Prop where
 frames:A.frames=some outer
 mod:Mod K mg base
 bs:∀b o,base.get? b=some o→s.heap.get? b=some o∧H b=none
 bsz:base.objs.size≤s.heap.objs.size
 funs:s.heap.FunFrames base outer
 frf:∀b∈frs outer,H b=none
 hok:HOk P w H s.heap
 bare:AllBare s.gens
def CE (outer:List Env)(P:aX)(w:bz)(H:Hp)(s:ay)(Q:VK)(u:af)(s':ay):Prop :=
 ∃v H',s'.os=s.os∧AllBare s'.gens∧Un (frs outer) [] H H' s.heap s'.heap∧HOk P w H' s'.heap∧gL v u∧Q v H'
def CR (CX:CXT)(outer:List Env)(P:aX)(w:bz)(H:Hp)(s:ay)(Q:VK)(E:XK)(r:Result)(s':ay):Prop :=
 match r with
 | .ok (.ret u)=>CE outer P w H s Q u s'
 | .ok _=>False
 | .error e=>CX outer H s E e s'
structure cJ (P:aX)(w:bz)(K:au)(mg:Str→Option af)(base:bO)(CX:CXT)(k:Nat)(f:aq)(fd:bg)(ps:List Str)(sp:Sp):Prop where
 len:∀vs H Q E,sp vs H Q E→vs.length=ps.length
 run:∀(A:bT) (outer:List Env) (s:ay) (H:Hp) (args:Args) (us:List af) (vs:List V) (Q:VK) (E:XK),gP k A→Env0 P w K mg base A outer s H→BindsTo s fd args (ps.zip us)→gz vs us→sp vs H Q E →
  jj (br P w) A (.call (.ref f) args) (CR CX outer P w H s Q E) s
def Env0.make (e:Env0 P w K mg base A outer s H)(C:aq)(us:List af)(kw:List (Str×af)) :
  Env0 P w K mg base (A.under (.builtin "type.__call__" ⟨.ref C::us,kw⟩)) outer s H:=⟨by first | exact e.frames | (simpa [bT.under,Code.envs,Code.isFrame,pushEnvs] using e.frames),e.mod,e.bs,e.bsz,e.funs,e.frf,e.hok,e.bare⟩
section
variable {pins:List (aq×Obj)}
def Inv.env0 (I:Inv X pins σ H s):Env0 X.prog X.w X.K X.mg X.base X.A X.stack s H :=
 ⟨I.ok.frames,I.ok.mod,I.bs,aQ I.ok.bsz I.sz,I.stack,I.stkFree,I.hok,I.bare⟩
def Inv.after {Q:VK}(I:Inv X pins σ H s)(h:CE X.stack X.prog X.w H s Q u s'):EP X pins σ Q u s':=by
 obtain⟨v,H',os,bare,un,hok,r,q⟩:=h;obtain⟨hh,g,d,t,os'⟩:=s';obtain rfl:os'=s.os:=os;exact⟨v,H',I.call (h':=hh) (g':=g) (d':=d) (t':=t) (ch:=[]) un hok bare (λb z=>rS z ∅),r,q⟩
end
def tCall (sp:Sp)(dvs:List V)(E:XK)(t:TA):TE:=λσ H Q=>t σ H λvs H1=>sp (vs++dvs) H1 Q E
def tMeth (C:aq)(m:Str)(sp:Sp)(dvs:List V)(E:XK)(ta:TE)(t:TA):TE:=λσ H Q=>ta σ H λx H1=>∃a dx fs,x= .ref a∧H1 a=some (.ins C dx fs)∧fs.lookup m=none ∧
 t σ H1 λvs H2=>sp (x::(vs++dvs)) H2 Q E
def tMake (C:aq)(sp:Sp)(dvs:List V)(E:XK)(t:TA):TE:=λσ H Q=>t σ H λvs H1=>∀x dx,H1 x=none→H1 dx=none→dx≠x →
 sp (.ref x::(vs++dvs)) (upd (upd H1 dx (.own x)) x (.ins C dx [])) (λv H2=>v= .non∧Q (.ref x) H2) E
def oM (K:au)(fd:bg)(ps:List Str)(ds:List af):Prop :=
 ∀(s:ay) (us:List af),K.In s.heap→(us++ds).length=ps.length→BindsTo s fd ⟨us,[]⟩ (ps.zip (us++ds))
def oM.all (h:∀us:List af,us.length=ps.length→bindArgs fd ⟨us,[]⟩=fV (ps.zip us)):oM K fd ps []:=λs us _ hl=>by
 rw[c5] at hl ⊢;exact .of_eq (h us hl)
def rM (CX:CXT)(X:Cx)(E:XK):Prop:=∀(pins:List (aq×Obj)) (σ:St) (H:Hp) (s:ay) (e:af) (s':ay),Inv X pins σ H s→CX X.stack H s E e s'→X.xe e s'
section
variable {CX:CXT}{k:Nat}{sp:Sp}{dvs:List V}{ds:List af}{E:XK}{m:Str}{p:Pos}{o:Expr}
def run_fn {pins:List (aq×Obj)}{Q:VK}{vs:List V}(F:cJ X.prog X.w X.K X.mg X.base CX k f fd ps sp)(hr:gP k X.A)(hb:oM X.K fd ps ds)(hd:gz dvs ds)(hx:rM CX X E)
  (I:Inv X pins σ H s) (r:gz vs us) (h:sp (vs++dvs) H Q E):aW (br X.prog X.w) X.A (call (.ref f) us) (EP X pins σ Q) X.xe s:=by
 have r2:gz (vs++dvs) (us++ds):=r.append hd;have hl:(us++ds).length=ps.length:=by rw[←r2.length];exact F.len _ _ _ _ h
 apply wpAny_call (codeAny_mono (F.run X.A X.stack s H ⟨us,[]⟩ (us++ds) (vs++dvs) Q E hr I.env0 (hb s us I.kIn hl) r2 h) λr s' hq=>?_);cases r with
 | error e=>exact hx pins σ H s e s' I hq
 | ok fl =>
  cases fl with
  | ret u=>exact I.after hq
  | next=>exact cR hq
  | brk=>exact cR hq
  | cont=>exact cR hq
def pe_call (F:cJ X.prog X.w X.K X.mg X.base CX k f fd ps sp)(hr:gP k X.A)(hg:Gl X x)(hm:X.mg x=some (.ref f))(hk:dY X.K (.ref f)=true)(hb:oM X.K fd ps ds)(hd:gz dvs ds)(hx:rM CX X E)
  (ha:PA X (e::es) t) (hdb:(x == ("__debug__" :Str))=false:=by decide) (he:bB (e::es) X.env=(false,eP e X.env)::bB es X.env:=by rfl) (hpl:(fB pos (bB es X.env)).any (·.1)=false:=by rfl) :
  PE X (.Call (.Name x p) (e::es) [] pos) (tCall sp dvs E t):=by
 intro pins s σ H Q I h;apply eQ (ld_glob I hg hm ?_ hdb);apply kO (h₀:=X.base) I.ok.mod.kin hk (thn (ha pos pins s σ H _ I h) λus s1 ⟨vs,H1,I1,r,q⟩=>⟨I1.kIn,?_⟩) he hpl;exact run_fn F hr hb hd hx I1 r q
def pe_meth {pl:Sem Bool}(he:PE X o ta)(c:Cls X.K C)(hm:Meth X.K C m f)(F:cJ X.prog X.w X.K X.mg X.base CX k f fd ps sp)(hr:gP k X.A)(hb:oM X.K fd ps ds)(hd:gz dvs ds)(hx:rM CX X E)(ha:PA X (e::es) t)
  (hst:bB (e::es) X.env=(false,eP e X.env)::bB es X.env:=by rfl) (hpl:(fB pos (bB es X.env)).any (·.1)=false:=by rfl)
  (ht:eP (.Call (.Attribute o m apos) (e::es) [] pos) X.env=(do
   let ov ← eP o X.env
   standAt apos.atName
   let (f,first) ← holding [ov] (getMethod ov m pl)
   callWith pos f first (fB pos (bB (e::es) X.env)) (backToKw pos (keywordEach [] X.env))):=by rfl) :
  PE X (.Call (.Attribute o m apos) (e::es) [] pos) (tMeth C m sp dvs E ta t):=by
 intro pins s σ H Q I h;apply PySem.W.methodCall_KW (pl:=pl) (thn (he pins s σ H _ I h) λu s1 ⟨x,H1,I1,rx,a,dx,fs,ex,ea,l,q⟩=>?_) ht;subst ex;obtain rfl:u=af.ref a:=rx;apply getmeth_ok I1 ea c hm l ?_;apply kO (first:=[.ref a]) (h₀:=X.base) I.ok.mod.kin hm.kp (thn (ha pos pins s1 σ H1 _ I1 q) λus s2 ⟨vs,H2,I2,r,q2⟩=>⟨I2.kIn,?_⟩) hst hpl;exact run_fn (us:= .ref a::us) (vs:= .ref a::vs) F hr hb hd hx I2 (.cons rfl r) q2
structure Mk (K:au)(C f:aq):Prop where
 makes:PySem.W.makesIn K C=true
 init:cM K (.ref C) "__init__" =some (some (.ref f))
 fn:PySem.W.isFn K (.ref f)=true
 kp:dY K (.ref C)=true
def run_make {pins:List (aq×Obj)}{Q:VK}{vs:List V}(M:Mk X.K C f)(F:cJ X.prog X.w X.K X.mg X.base CX k f fd ps sp)(hr:gP (k+1) X.A)(hb:oM X.K fd ps ds)(hd:gz dvs ds)
  (hx:rM CX X E) (I:Inv X pins σ H s) (r:gz vs us)
  (h:∀x dx,H x=none→H dx=none→dx≠x→sp (.ref x::(vs++dvs)) (upd (upd H dx (.own x)) x (.ins C dx [])) (λv H2=>v= .non∧Q (.ref x) H2) E) :
  aW (br X.prog X.w) X.A (call (.ref C) us) (EP X pins σ Q) X.xe s:=by
 have hq:=h (s.heap.objs.size+1) s.heap.objs.size (I.hok.fresh (Nat.le_succ _)) (I.hok.fresh (aB _)) (bG (ki _));have I2:=Inv.made (C:=C) I;have r2:gz (V.ref (s.heap.objs.size+1)::(vs++dvs)) (af.ref (s.heap.objs.size+1)::(us++ds)):= .cons rfl (r.append hd);have hl:(af.ref (s.heap.objs.size+1)::us++ds).length=ps.length:=by
  have e:=r2.length;rw[F.len _ _ _ _ hq] at e;exact e.symm
 apply wpAny_call (make_map (f:=f) I.kIn M.makes M.init (beq_iff_eq.mp M.fn) (codeAny_mono (F.run _ X.stack _ _ ⟨af.ref (s.heap.objs.size+1)::us,[]⟩ (af.ref (s.heap.objs.size+1)::(us++ds)) _ _ E (hr.make C us [])
  (I2.env0.make C us []) (hb _ (af.ref (s.heap.objs.size+1)::us) I2.kIn hl) r2 hq) fun r s' hq'=>?_))
 cases r with
 | error e=>exact hx pins σ _ _ e s' I2 hq'
 | ok fl =>
  cases fl with
  | ret u =>
   obtain⟨v,H',I3,rv,ev,q3⟩:=I2.after hq';subst ev;exact⟨rv,⟨V.ref (s.heap.objs.size+1),H',I3,rfl,q3⟩⟩
  | next=>exact cR hq'
  | brk=>exact cR hq'
  | cont=>exact cR hq'
def pe_make (M:Mk X.K C f)(F:cJ X.prog X.w X.K X.mg X.base CX k f fd ps sp)(hr:gP (k+1) X.A)(hg:Gl X x)(hm:X.mg x=some (.ref C))(hb:oM X.K fd ps ds)(hd:gz dvs ds)(hx:rM CX X E)
  (ha:PA X (e::es) t) (hdb:(x == ("__debug__" :Str))=false:=by decide) (he:bB (e::es) X.env=(false,eP e X.env)::bB es X.env:=by rfl) (hpl:(fB pos (bB es X.env)).any (·.1)=false:=by rfl) :
  PE X (.Call (.Name x p) (e::es) [] pos) (tMake C sp dvs E t):=by
 intro pins s σ H Q I h;apply eQ (ld_glob I hg hm ?_ hdb);apply kO (h₀:=X.base) I.ok.mod.kin M.kp (thn (ha pos pins s σ H _ I h) λus s1 ⟨vs,H1,I1,r,q⟩=>⟨I1.kIn,?_⟩) he hpl;exact run_make M F hr hb hd hx I1 r q
end
structure bY (N P:List Str)(sc:fN):Prop where
 kind:sc.kind= .function
 co:sc.isCoroutine=false
 gen:sc.isGenerator=false
 nd:N.Nodup
 pre:N.take P.length=P
 par:∀x∈P,sc.names.lookup x=some .local∨sc.names.lookup x=some .cell
 nofree:∀y∈sc.names,y.2≠ .free
theorem bindL_out {kindOf:Str→Option cQ}{x:Str}:∀{binds:List (Str×af)} {m:Str→Option af},(∀v,(x,v) ∉ binds)→bindL kindOf binds m x=m x
 | [],_,_=>rfl
 | (n,v)::r,m,h=>by
  unfold bindL;rw[bindL_out λw hw=>h w (aA _ hw)];split
  ·have:x≠n:=by rintro rfl;exact h v bq
   simp[this]
  ·rfl
theorem bindC_out {kindOf:Str→Option cQ}{x:Str}:∀{binds:List (Str×af)} {m:Str→Option af},(∀v,(x,v) ∉ binds)→bindC kindOf binds m x=m x
 | [],_,_=>rfl
 | (n,v)::r,m,h=>by
  unfold bindC;rw[bindC_out λw hw=>h w (aA _ hw)];split
  ·rfl
  ·have:x≠n:=by rintro rfl;exact h v bq
   simp[this]
theorem bindL_get {kindOf:Str→Option cQ}{x:Str}{v:af}:∀{P:List Str} {vs:List af} {i:Nat} {m:Str→Option af},P.Nodup→P[i]? =some x→vs[i]? =some v→kindOf x=some .local →
  bindL kindOf (P.zip vs) m x=some v
 | [],_,_,_,_,h,_,_=>by simp at h
 | _::_,[],_,_,_,_,h,_=>by simp at h
 | p::P,w::vs,0,m,nd,h1,h2,hk=>by
  simp at h1 h2;subst h1;subst h2;show bindL kindOf ((p,w)::P.zip vs) m p=_;unfold bindL;rw[bindL_out λv hv=>(bw.mp nd).1 (List.of_mem_zip hv).1,rR hk];simp
 | p::P,w::vs,i+1,m,nd,h1,h2,hk=>by
  show bindL kindOf ((p,w)::P.zip vs) m x=_;unfold bindL;exact bindL_get (i:=i) (bw.mp nd).2 (by simpa using h1) (by simpa using h2) hk
theorem bindC_get {kindOf:Str→Option cQ}{x:Str}{v:af}:∀{P:List Str} {vs:List af} {i:Nat} {m:Str→Option af},P.Nodup→P[i]? =some x→vs[i]? =some v→kindOf x≠some .local →
  bindC kindOf (P.zip vs) m x=some v
 | [],_,_,_,_,h,_,_=>by simp at h
 | _::_,[],_,_,_,_,h,_=>by simp at h
 | p::P,w::vs,0,m,nd,h1,h2,hk=>by
  simp at h1 h2;subst h1;subst h2;show bindC kindOf ((p,w)::P.zip vs) m p=_;unfold bindC;rw[bindC_out λv hv=>(bw.mp nd).1 (List.of_mem_zip hv).1,rQ hk];simp
 | p::P,w::vs,i+1,m,nd,h1,h2,hk=>by
  show bindC kindOf ((p,w)::P.zip vs) m x=_;unfold bindC;exact bindC_get (i:=i) (bw.mp nd).2 (by simpa using h1) (by simpa using h2) hk
def start (N:List Str)(vs:List V):St:=vs.map some++bx (N.length - vs.length) none
def cxOf (CX:CXT)(P:aX)(w:bz)(K:au)(mg:Str→Option af)(base:bO)(N:List Str)(qual:Str)(scope:fN)(f:aq)(cd:af)(A:bT)(outer:List Env)(s:ay)(H:Hp)(E:XK):Cx where
 prog:=P
 w:=w
 K:=K
 mg:=mg
 base:=base
 A:=A.deeper (envOfC qual scope s.heap.objs.size f cd)
 N:=N
 s₀:=s
 H₀:=H
 env:=envOfC qual scope s.heap.objs.size f cd
 outer:=outer
 stack:=envOfC qual scope s.heap.objs.size f cd::outer
 ex:=[]
 calm:=true
 fn:=λ_=>true
 pn:=[]
 xe:=λe s'=>aW (br P w) (A.deeper (envOfC qual scope s.heap.objs.size f cd)) (leaving (envOfC qual scope s.heap.objs.size f cd) e) (λ_ s''=>CX outer H s E e s'') (λe' s''=>CX outer H s E e' s'') s'
def cell_has {sc:fN}(h:sc.names.lookup x=some .cell):∃c,(cellsFrom n sc.names []).lookup x=some c:=by
 have q:=PySem.W.cellsFrom_some sc.names n [] (.inl h);exact Option.isSome_iff_exists.mp q
def inv_start {CX:CXT}{cd:af}{s1:ay}{E:XK}{vs:List V}
  (S:bY N ps scope) (hd:A.handled=none) (e0:Env0 P w K mg base A outer s H) (hl:vs.length=ps.length) (r:gz vs us)
  (x:InCallC s s.heap.objs.size (bindL (envOfC qual scope s.heap.objs.size f cd).kindOf (ps.zip us) λ_=>none) (cellsFrom (s.heap.objs.size+1) scope.names []) (bindC (envOfC qual scope s.heap.objs.size f cd).kindOf (ps.zip us) λ_=>none) s1) :
  Inv (cxOf CX P w K mg base N qual scope f cd A outer s H E) [] (start N vs) H s1:=by
 have hpl:ps.length≤N.length:=by have:=rX List.length S.pre;rw[bM] at this;lia
 obtain⟨h1,tk,rfl,hk⟩:=x.done;have noA:∀b:aq,b ∉ (cxOf CX P w K mg base N qual scope f cd A outer s H E).ex:=λb z=>rS (show b∈([]:List aq) from z) ∅
 apply ⟨⟨e0.mod,S.kind,rfl,rfl,aB _,fun y z c h1 h2=>?_,fun y hy=>?_,fun y c _ h=>?_,fun _=>hd,bT.frames_deeper e0.frames,.inr ⟨rfl,rfl⟩,fun b z=>rS z (noA b),e0.bs,e0.bsz,fun b _ _=>noA b,fun b z=>rS z (noA b),e0.funs,e0.frf⟩,
  rfl,e0.bare,Un.kept hk,⟨_,x.toInCall.ns,fun i y v h1 h2 h3=>?_⟩,fun y c h=>⟨_,x.cell y c h⟩,e0.hok.fresh (aB _),fun y c h=>?_,fun p hp=>rS (show p∈([]:List (aq×Obj)) from hp) ∅,e0.hok.kept hk,?_⟩
 ·exact name_of_addr x.apart (cB h1) (cB h2)
 ·have hy:scope.names.lookup y=some .cell∨scope.names.lookup y=some .free:=hy
  rcases hy with hy | hy
  ·exact cell_has hy
  ·exact rS rfl (S.nofree _ (cB hy))
 ·exact iZ (x.above y c (cB h))
 ·have hi:i<vs.length:=by
   unfold start at h2
   by_cases hi:i<vs.length
   ·exact hi
   ·rw[bp (by simpa using hi)] at h2
    rw[List.getElem?_replicate] at h2;split at h2 <;> cases h2
  have ha:vs[i]? =some v:=by
   unfold start at h2;rw[cu (by simpa using hi),az] at h2;cases e:vs[i]? with
   | none=>rw[e] at h2;cases h2
   | some a=>rw[e] at h2;cases h2;rfl
  obtain⟨u,hu,rv⟩:=r.get ha;have hp:ps[i]? =some y:=by
   rw[←S.pre,List.getElem?_take_of_lt ⋯];exact h1
  have ndP:ps.Nodup:=by rw[←S.pre];exact S.nd.sublist (List.take_sublist _ _)
  apply⟨u,rv,?_⟩
  rcases S.par y (aL hp) with k | k
  ·exact .inl ⟨k,bindL_get ndP hp hu k⟩
  ·obtain⟨c,e⟩:=cell_has (n:=s.heap.objs.size+1) k
   apply .inr ⟨.inl k,c,e,?_⟩;have q:=x.cell y c e;rw[bindC_get ndP hp hu (by show scope.names.lookup y≠_;rw[k];decide)] at q;exact q
 ·exact e0.hok.fresh (iZ (x.above y c (cB h)))
 ·unfold start
  show _=N.length;rw[av,aa,eC];lia
def fn_of {CX:CXT}{k:Nat}{body:List cF}{dV kV doc pm cdv ct oc:af}{an od:Option aq}
  {sp:Sp} (lk:K.lookup f=some ⟨oc,od,.func (eR name qual params body scope dV kV doc pm an cdv ct),osl⟩) (hcd:gM K cdv qual=true) (S:bY N ps scope)
  (len:∀vs H Q E,sp vs H Q E→vs.length=ps.length)
  (hbody:∀ (A:bT) (outer:List Env) (s:ay) (H:Hp) (vs:List V) (Q:VK) (E:XK),gP k (A.deeper (envOfC qual scope s.heap.objs.size f cdv))→sp vs H Q E →
   ∃ t,PSs (cxOf CX P w K mg base N qual scope f cdv A outer s H E) body t∧t { nx:=fun _ H'=>Q .non H',rt:=Q } (start N vs) H) :
  cJ P w K mg base CX (k+1) f (eR name qual params body scope dV kV doc pm an cdv ct) ps sp:=by
 apply⟨len,λA outer s H args us vs Q E hr e0 hb r hsp=>?_⟩;have hl:=len _ _ _ _ hsp;have KX:K.In s.heap:=e0.mod.kin.keeps λb o e=>(e0.bs b o e).1
 have lim:s.heap.NoLimit:=e0.mod.nolimit.keeps λb o e=>(e0.bs b o e).1
 have mJ:∀y∈ps.zip us,scope.names.lookup y.1=some .local∨(scope.names.lookup y.1=some .cell∧((cellsFrom (s.heap.objs.size+1) scope.names []).lookup y.1).isSome=true):=λ⟨n,v⟩ hy=>by
  rcases S.par n (List.of_mem_zip hy).1 with q | q
  ·exact .inl q
  ·exact .inr ⟨q,PySem.W.cellsFrom_some _ _ _ (.inl q)⟩
 apply codeAny_call_function hr.depth (KX _ _ lk) rfl S.co S.gen rfl (PySem.W.codeRec_of KX hcd) (hb _ _ _ _ ?_);apply wpAny_newFunctionEnv_cells S.kind mJ λenv he s1 x=>?_
 subst he;apply⟨lim.keeps x.toInCall.keep,codeAny_func ?_⟩;obtain⟨t,ht,hq⟩:=hbody A outer s H vs Q E (hr.deeper _) hsp;have I:Inv (cxOf CX P w K mg base N qual scope f cdv A outer s H E) [] (start N vs) H s1:=inv_start S hr.hd e0 hl r x;apply cx (ht [] s1 (start N vs) H _ I hq) (λfl s' hs=>?_) λe s' hs=>hs
 have fin:∀{σ':St} {H':Hp} {v:V} {u:af},Inv (cxOf CX P w K mg base N qual scope f cdv A outer s H E) [] σ' H' s'→gL v u→Q v H'→CE outer P w H s Q u s' :=
  λ{σ' H' v u} J rv q=>⟨v,H',J.os,J.bare,J.base,J.hok,rv,q⟩
 cases fl with
 | ret u =>
  obtain⟨v,σ',H',J,rv,q⟩:=hs;exact fin J rv q
 | next =>
  obtain⟨σ',H',J,q⟩:=hs;exact fin (v:=V.non) (u:=af.none) J rfl q
 | brk =>
  obtain⟨_,_,_,q⟩:=hs;exact cR q
 | cont =>
  obtain⟨_,_,_,q⟩:=hs;exact cR q
section
variable {p:Pos}{id:String}{r:List V→Hp→VK→Prop}
def tCB (r:List V→Hp→VK→Prop)(t:TA):TE:=λσ H Q=>t σ H λvs H1=>r vs H1 Q
def cp (hc:jV X (.builtin id) r)(hg:Gl X x)(hm:X.mg x=none)(hv:kh x=some (.builtin id))(ha:PA X (e::es) t)(hn:x ≠ "__name__" := by decide)(hdb:(x == ("__debug__" :Str))=false:=by decide)
  (he:bB (e::es) X.env=(false,eP e X.env)::bB es X.env:=by rfl) (hpl:(fB pos (bB es X.env)).any (·.1)=false:=by rfl):PE X (.Call (.Name x p) (e::es) [] pos) (tCB r t):=by
 intro pins s σ H Q I h;apply eQ (mU I hg hm hv ?_ hn hdb);exact PyProof.Rows.callWith_builtin1 (thn (ha pos pins s σ H _ I h) λus s1 ⟨vs,H1,I1,r1,q1⟩=>hc pins s1 σ H1 vs us Q I1 r1 q1) he hpl
def dI (hc:jV X (.type T) r)(hg:Gl X x)(hm:X.mg x=none)(hv:kh x=some (.type T))(ha:PA X (e::es) t)(hn:x ≠ "__name__" := by decide)(hdb:(x == ("__debug__" :Str))=false:=by decide)
  (he:bB (e::es) X.env=(false,eP e X.env)::bB es X.env:=by rfl) (hpl:(fB pos (bB es X.env)).any (·.1)=false:=by rfl):PE X (.Call (.Name x p) (e::es) [] pos) (tCB r t):=by
 intro pins s σ H Q I h;apply eQ (mU I hg hm hv ?_ hn hdb);exact fH (thn (ha pos pins s σ H _ I h) λus s1 ⟨vs,H1,I1,r1,q1⟩=>hc pins s1 σ H1 vs us Q I1 r1 q1) he hpl
end
end L2
variable {CW:L2.St→L2.VK→L2.It→L2.Hp→Prop}{CX:L2.CXT}{g:L2.TG}{r:L2.R2}{wi:L2.TI}
namespace HT
open PySem PyProof.Rows
def cat_tup {t b:aq}{ws:List af}(ht:IsTup s.heap t vs.toArray)(hb:IsTup s.heap b ws.toArray)(hv:vs≠[])
  (h1:ws=[]→Q (.ref t) s) (h2:ws≠[]→Q (.ref s.heap.objs.size) { s with heap:=s.heap.push { cls:= .type "tuple",data:= .seq (vs++ws).toArray } })
  (hsz:vs.length+ws.length≤bf):aW (br prog w) A (iN .Add (.ref t) (.ref b)) Q E s:=by
 obtain⟨⟨cls,dd,data,sl⟩,ho,hc,n,hd⟩:=id ht;obtain⟨⟨cls2,dd2,data2,sl2⟩,ho2,hc2,n2,hd2⟩:=id hb;simp only at hc hd hc2 hd2;subst hc hd hc2 hd2;have e:vs.toArray++ws.toArray=(vs++ws).toArray:=by simp
 by_cases hw:ws=[]
 ·exact concat_meets ⟨_,ho,rfl⟩ ⟨_,ho2,rfl⟩ noFill_tuple_add seq_tuple_add PySem.F.slot_tuple_add l4 (lJ _ _)
   (tuple_addW1 t b vs.toArray ws.toArray n n2 dd dd2 sl sl2 (by simpa using hv) (by simp[hw])) ⟨ho,ho2,h1 hw⟩
 ·apply concat_meets ⟨_,ho,rfl⟩ ⟨_,ho2,rfl⟩ noFill_tuple_add seq_tuple_add PySem.F.slot_tuple_add l4 (lJ _ _)
   (tuple_addW2 t b vs.toArray ws.toArray n n2 dd dd2 sl sl2 (by simpa using hv) (by simpa using hw) (by rw[aK,aK];exact hsz)) ⟨ho,ho2,?_⟩
  rw[e];exact h2 hw
def sIx (n d:Nat):Option Int→Nat
 | none=>d
 | some v=>if v<0 then (v+(n:Int)).toNat else min v.toNat n
def sIx_nat (n d k:Nat):sIx n d (some (k:Int))=min k n:=by
 show(if (k:Int)<0 then ((k:Int)+(n:Int)).toNat else min (k:Int).toNat n)=min k n;rw[rQ ⋯,cA]
def sIx_le (n d:Nat)(hd:d≤n)(o:Option Int):sIx n d o≤n:=by
 cases o with
 | none=>exact hd
 | some v =>
  show(if v<0 then (v+(n:Int)).toNat else min v.toNat n)≤n
  by_cases hv:v<0
  ·rw[rR hv];lia
  ·rw[rQ hv];exact Nat.min_le_right _ _
def clip_eq (v:Int)(n d:Nat):(if v<0 then max (v+(n:Int)) 0 else min v (n:Int))=((sIx n d (some v):Nat):Int):=by
 show(if v<0 then max (v+(n:Int)) 0 else min v (n:Int))=(((if v<0 then (v+(n:Int)).toNat else min v.toNat n):Nat):Int)
 by_cases hv:v<0
 ·simp only[rR hv];lia
 ·simp only[rQ hv];lia
def adjust_gen (lo hi:Option Int)(n:Nat):kl lo hi 1 (n:Int)=(((sIx n 0 lo:Nat):Int),((sIx n n hi:Nat):Int)):=by
 have h1:¬((1:Int)<0):=by lia
 unfold kl;simp only[h1,if_false];apply Prod.ext ?_ ?_
 ·cases lo with
  | none=>rfl
  | some v=>exact clip_eq v n 0
 ·cases hi with
  | none=>rfl
  | some v=>exact clip_eq v n n
def places_gen (i j:Nat):ib (i:Int) (j:Int) 1=j - i:=by
 unfold ib;have h1:(1:Int) > 0:=by lia
 simp only[h1,if_true,Int.ediv_one];split <;> lia
def rd {v:af}{o:Option Int}{Q:Option Int→ay→Prop}(p:IsPart v o)(h:Q o s):aW (br prog w) A (cO.Slice.slicePartIndex v) Q E s:=by
 cases p with
 | none=>exact slicePart_none h
 | int i t=>exact slicePart_int h
def sliceApplied_gen {sl:aq}{vl vu:af}{lo:Option Int}{Q:Int×Int×Nat→ay→Prop}(hs:s.heap.IsSliceOf sl vl vu .none)(pl:IsPart vl lo)(pu:IsPart vu hi)
  (h:Q (((sIx n 0 lo:Nat):Int),1,sIx n n hi - sIx n 0 lo) s):aW (br prog w) A (cO.Slice.sliceApplied (.ref sl) (fV (n:Int))) Q E s:=by
 obtain⟨os,hos,hcs,hds⟩:=id hs;unfold cO.Slice.sliceApplied cO.Slice.sliceFields;apply ao (ao (cS hos hds (x:=vl) rfl (ao (cS hos hds (x:=vu) rfl (ao (cS hos hds (x:= .none) rfl (aP ?_)))))));apply ao (slicePart_none ?_);show aW _ _ (if ((1:Int) == 0)=true then _ else _) _ _ s;rw[rQ ↥0];apply ao (rd pl (ao (rd pu (ao (aP ?_)))));show aW _ _ (match kl lo hi 1 (n:Int) with | (lo,hi)=>fV (lo,(1:Int),ib lo hi 1)) _ _ s;rw[adjust_gen lo hi n];show aW _ _ (fV (((sIx n 0 lo:Nat):Int),(1:Int),ib ((sIx n 0 lo:Nat):Int) ((sIx n n hi:Nat):Int) 1)) _ _ s;rw[places_gen];exact aP h
def pick_gen (xs:Array af)(i k:Nat):((aG k).filterMap λ(m:Nat)=>xs[((i:Int)+(m:Int) * 1).toNat]?).toArray=((xs.toList.drop i).take k).toArray:=by
 have e:(λ(m:Nat)=>xs[((i:Int)+(m:Int) * 1).toNat]?)=λm=>xs[i+m]? := by
  funext m
  have:((i:Int)+(m:Int) * 1).toNat=i+m:=by lia
  rw[this]
 rw[e];have:=pick_run xs i k;rw[List.filterMap_map] at this;have e2:((λx=>xs[x]?) ∘ λx=>i+x)=λm=>xs[i+m]? := rfl
 rw[e2] at this;rw[this]
def getItem_tuple_cut {t sl:aq}{vl vu:af}{lo:Option Int}(ht:IsTup s.heap t items)(hs:s.heap.IsSliceOf sl vl vu .none)(pl:IsPart vl lo)(pu:IsPart vu hi)
  (hw:¬(sIx items.size 0 lo=0∧sIx items.size items.size hi=items.size))
  (h:Q (.ref s.heap.objs.size) { s with heap:=s.heap.push { cls:= .type "tuple",data:= .seq ((items.toList.drop (sIx items.size 0 lo)).take (sIx items.size items.size hi - sIx items.size 0 lo)).toArray } })
  (hsz:items.size≤bf):aW (br prog w) A (getItem (.ref t) (.ref sl)) Q E s:=by
 have htake:sizeOk (.seq ((items.toList.drop (sIx items.size 0 lo)).take (sIx items.size items.size hi - sIx items.size 0 lo)).toArray):=by
  show((items.toList.drop (sIx items.size 0 lo)).take (sIx items.size items.size hi - sIx items.size 0 lo)).toArray.size≤bf;rw[aK,bM,dm,cV];lia
 have hj:sIx items.size items.size hi≤items.size:=sIx_le _ _ (aB _) hi;obtain⟨os,hos,hcs,hds⟩:=id hs;have hTs:s.TypeIs (.ref sl) "slice" := ⟨os,hos,hcs⟩;unfold getItem
 try with_reducible apply dU ?_
 first | apply ao (aP ?_) | skip
 apply ao (wpAny_sequenceKey ht.typeIs ↥0 ?_);apply ao (dJ (name:=cj "__getitem__") ht.typeIs dt
  (fJ dt ht.typeIs entry_tuple_getitem ?_ (args_tuple_getitem _ _)))
 show aW _ _ (cO.Tuple.tupleItemsOf (.ref t) >>= _) _ _ s;apply ao (tupleItemsOf_ ht ?_);apply ao (wpAny_typeOf hTs ?_);rw[rR ↥0];apply ao (sliceApplied_gen hs pl pu ?_);have hno:¬((((sIx items.size 0 lo:Nat):Int) == 0 && (1:Int) == 1 && (sIx items.size items.size hi - sIx items.size 0 lo) == items.size)=true):=by
  intro q;rw[cI,cI] at q;have q1:((sIx items.size 0 lo:Nat):Int)=0:=eq_of_beq q.1.1;have q2:sIx items.size items.size hi - sIx items.size 0 lo=items.size:=eq_of_beq q.2;exact hw ⟨⋯,⋯⟩
 show aW _ _ (if (((sIx items.size 0 lo:Nat):Int) == 0 && (1:Int) == 1 && (sIx items.size items.size hi - sIx items.size 0 lo) == items.size)=true then _ else _) _ _ s;rw[rQ hno,pick_gen]
 first
  | exact ao (m:=iw _) (fk (aP ⟨_,rfl,aP h⟩) htake)
  | exact ao (m:=iw _) (fk (ao (aP (aP ⟨_,rfl,aP h⟩))) htake)
  | exact ao (ao (m:=iw _) (fk (aP (aP ⟨_,rfl,aP h⟩)) htake))
  | exact ao (ao (m:=iw _) (fk (aP ⟨_,rfl,aP h⟩) htake))
end HT
namespace L2
open PySem PySem.Spec PyProof.Rows
abbrev TO:=St→Hp→(Option Int→Hp→Prop)→Prop
def PO (X:Cx)(e:Option Expr)(t:TO):Prop :=
 ∀(pins:List (aq×Obj)) (s:ay) (σ:St) (H:Hp) (Q:Option Int→Hp→Prop),Inv X pins σ H s→t σ H Q →
  aW (br X.prog X.w) X.A (evalPart e X.env) (λu s'=>∃o H',Inv X pins σ H' s'∧IsPart u o∧Q o H') X.xe s
def tNoPart:TO:=λ_ H Q=>Q none H
def tPart (t:TE):TO:=λσ H Q=>t σ H λx H1=>∃i,x= .int i∧Q (some i) H1
def intsAre_of:∀{us:List af},gz (ns.map V.int) us→IntsAre us ns:=by
 induction ns with
 | nil=>intro us r;rw[jJ] at r;cases r;exact .nil
 | cons n ns ih =>
  intro us r;rw[bI] at r;cases r with
  | cons r1 r2 =>
   obtain⟨t,e⟩:=r1;subst e;exact .cons n t (ih r2)
section
variable {lo hi:Option Expr}{tl th:TO}
def po_none:PO X none tNoPart:=by
 intro pins s σ H Q I h;rw[evalPart_none];exact aP ⟨none,H,I,.none,h⟩
def po_some (h:PE X e te):PO X (some e) (tPart te):=by
 intro pins s σ H Q I hw;rw[evalPart_some];apply thn (h pins s σ H _ I hw) λu s1 ⟨x,H1,I1,r1,q1⟩=>?_
 obtain⟨i,rfl,q⟩:=q1;obtain⟨t,rfl⟩:=r1;exact⟨some i,H1,I1,.int i t,q⟩
def SlR (X:Cx)(r:V→Option Int→Option Int→Hp→VK→Prop):Prop :=
 ∀(pins:List (aq×Obj)) (s:ay) (σ:St) (H:Hp) (x:V) (v vl vu:af) (lo hi:Option Int) (sl:aq) (Q:VK),Inv X pins σ H s→gL x v→s.heap.IsSliceOf sl vl vu .none→IsPart vl lo→IsPart vu hi→r x lo hi H Q →
  ∃T id,typeLookup (.type T) "__getitem__" =fV (some (.builtin id))∧s.TypeIs v T∧aW (br X.prog X.w) X.A (getItem v (.ref sl)) (EP X pins σ Q) X.xe s
def tSl (r:V→Option Int→Option Int→Hp→VK→Prop)(te:TE)(tl th:TO):TE:=λσ H Q=>te σ H λx H1=>tl σ H1 λl H2=>th σ H2 λu H3=>r x l u H3 Q
def pA {r:V→Option Int→Option Int→Hp→VK→Prop}(hr:SlR X r)(he:PE X e te)(hl:PO X lo tl)(hu:PO X hi th):PE X (.Subscript e (.Slice lo hi none p2) pos) (tSl r te tl th):=by
 intro pins s σ H Q I h;apply Subscript_ (thn (he pins s σ H _ I h) λv s1 ⟨x,H1,I1,r1,q1⟩=>?_);apply wpAny_Slice (thn (hl pins s1 σ H1 _ I1 q1) λvl s2 ⟨l,H2,I2,pl,q2⟩=>thn (hu pins s2 σ H2 _ I2 q2) λvu s3 ⟨u,H3,I3,pu,q3⟩=>?_);rw[evalPart_none];apply aP ?_;have I4:Inv X pins σ H3 { s3 with heap:=s3.heap.push { cls:= .type "slice",data:= .fields #[vl,vu,.none] } }:=I3.kept (t':=s3.toks) λb ob q=>ax _ q
 obtain⟨T,id,hT,ht,hg⟩:=hr pins { s3 with heap:=s3.heap.push { cls:= .type "slice",data:= .fields #[vl,vu,.none] } } σ H3 x v vl vu l u s3.heap.objs.size Q I4 r1 (bO.IsSliceOf.new ..) pl pu q3;show aW (br X.prog X.w) X.A (subscriptTail e (.Slice lo hi none p2) v (.ref s3.heap.objs.size)) (EP X pins σ Q) X.xe { s3 with heap:=s3.heap.push { cls:= .type "slice",data:= .fields #[vl,vu,.none] } };exact tail_any (ops:=[.ref s3.heap.objs.size,v]) ht hT hg (by with_unfolding_all rfl)
def cutV (xs:List V)(lo hi:Option Int):List V:=(xs.drop (HT.sIx xs.length 0 lo)).take (HT.sIx xs.length xs.length hi - HT.sIx xs.length 0 lo)
def cutV_length (xs:List V)(lo hi:Option Int):(cutV xs lo hi).length≤xs.length:=by
 unfold cutV;rw[bM,dm];lia
def rSlT (K:au):V→Option Int→Option Int→Hp→VK→Prop:=λx lo hi H Q=>∃a xs,x= .ref a∧SqT K H a xs ∧
 ¬(HT.sIx xs.length 0 lo=0∧HT.sIx xs.length xs.length hi=xs.length)∧∀p,H p=none→Q (.ref p) (upd H p (.tup (cutV xs lo hi)))
def sl_tup:SlR X (rSlT X.K):=by
 intro pins s σ H x v vl vu lo hi sl Q I rx hs pl pu h;obtain⟨a,xs,rfl,hx,hw,q⟩:=h;cases rx;obtain⟨its,r,ht,hz⟩:=I.tuple hx;have hlen:its.toArray.size=xs.length:=by rw[aK];exact r.length.symm
 apply⟨"tuple",_,dt.lookup,ht.typeIs,?_⟩;apply HT.getItem_tuple_cut ht hs pl pu (by rw[hlen];exact hw) ?_ (by rw[hlen];exact hz);rw[hlen];apply⟨.ref s.heap.objs.size,_,I.laid (t':=s.toks) (o:= .tup (cutV xs lo hi)) (λb ob q=>ax _ q) (aB _) ?_,rfl,q _ (I.hok.fresh (aB _))⟩;exact⟨aQ (cutV_length xs lo hi) hz,_,(r.drop (HT.sIx xs.length 0 lo)).take (HT.sIx xs.length xs.length hi - HT.sIx xs.length 0 lo),mV.new _ _⟩
inductive rCatT (K:au)(x:V)(y:V)(H:Hp)(Q:VK):Prop
 | mk (a b xs ys:_)(_:x= .ref a)(_:y= .ref b)(_:SqT K H a xs)(_:SqT K H b ys)(_:xs≠[])(_:xs.length+ys.length≤bf)(_:(ys=[]→Q (.ref a) H))(_:(ys≠[]→∀p,H p=none→Q (.ref p) (upd H p (.tup (xs++ys)))))
def gz.nil_iff (r:gz xs us):us=[]↔xs=[]:=by
 cases r with
 | nil=>simp
 | cons _ _=>simp
def op_catT:OpR X (iN .Add) (rCatT X.K):=by
 intro pins s σ H x y v u Q I rx ry h;obtain⟨a,b,xs,ys,rfl,rfl,ha,hb,hx,hz,q1,q2⟩:=h;cases rx;cases ry;obtain⟨its,r1,p1,_⟩:=I.tuple ha;obtain⟨its2,r2,p2,_⟩:=I.tuple hb;apply HT.cat_tup p1 p2 (λz=>hx (r1.nil_iff.mp z)) (λz=>⟨.ref a,H,I,rfl,q1 (r2.nil_iff.mp z)⟩) (λz=>?_) (by rw[←r1.length,←r2.length];exact hz);apply⟨.ref s.heap.objs.size,_,I.laid (t':=s.toks) (o:= .tup (xs++ys)) (λb ob q=>ax _ q) (aB _) ?_,rfl,q2 (λw=>z (r2.nil_iff.mpr w)) _ (I.hok.fresh (aB _))⟩;exact⟨by rw[av];exact hz,_,r1.append r2,mV.new _ _⟩
end
def ixN (n:Nat)(i:Int):Option Nat:=if 0≤i then (if i<n then some i.toNat else none) else if -(n:Int)≤i then some (i+n).toNat else none
def atI {α:Type}(xs:List α)(i:Int):Option α:=(ixN xs.length i).bind λj=>xs[j]?
def ixN_seq {i:Int}(h:ixN n i=some j):seqIndex? i n=some j∧j<n∧ -(n:Int)≤i∧i<n:=by
 unfold ixN at h
 by_cases h0:0≤i
 ·rw[rR h0] at h
  by_cases h1:i<n
  ·rw[rR h1] at h
   have e:i.toNat=j:=bE h;exact⟨by rw[seqIndex_of h0 h1,e],⋯,⋯,h1⟩
  ·rw[rQ h1] at h;cases h
 ·rw[rQ h0] at h
  by_cases h1: -(n:Int)≤i
  ·rw[rR h1] at h
   have e:(i+n).toNat=j:=bE h;exact⟨by rw[seqIndex_neg ⋯ h1,e],⋯,h1,⋯⟩
  ·rw[rQ h1] at h;cases h
def atI_get {xs:List α}{i:Int}{v:α}(h:atI xs i=some v):∃j,seqIndex? i xs.length=some j∧xs[j]? =some v∧j<xs.length∧ -(xs.length:Int)≤i∧i<xs.length:=by
 unfold atI at h;cases e:ixN xs.length i with
 | none=>rw[e] at h;cases h
 | some j =>
  rw[e] at h;obtain⟨h1,h2,h3,h4⟩:=ixN_seq e;exact⟨j,h1,h,h2,h3,h4⟩
def aO {xs:List α}{v:α}(h:xs[j]? =some v):atI xs (j:Int)=some v:=by
 have hj:j<xs.length:=(ar.mp h).1;have e:ixN xs.length (j:Int)=some j:=by
  unfold ixN;rw[rR ⋯,rR ⋯];simp
 unfold atI;rw[e];exact h
def PlainIx (b:Expr):Prop:=∀o i,subscripted b false o i=operate [o,i] (getItem o i)
def IxR (X:Cx)(r:R2):Prop :=
 ∀(value slice:Expr) (pins:List (aq×Obj)) (s:ay) (σ:St) (H:Hp) (x y:V) (v u:af) (Q:VK),Inv X pins σ H s→gL x v→gL y u→r x y H Q →
  subscripted slice false v u=operate [v,u] (getItem v u)→aW (br X.prog X.w) X.A (subscriptTail value slice v u) (EP X pins σ Q) X.xe s
def MtR (X:Cx)(id:String)(r:V→List V→Hp→VK→Prop):Prop :=
 ∀(pins:List (aq×Obj)) (s:ay) (σ:St) (H:Hp) (x:V) (xs:List V) (v:af) (us:List af) (Q:VK),Inv X pins σ H s→gL x v→gz xs us→r x xs H Q →
  aW (br X.prog X.w) X.A (call (.builtin id) (v::us)) (EP X pins σ Q) X.xe s
section
variable {a b:Expr}{tb:TE}
def dO (hr:IxR X r)(ha:PE X a ta)(hb:PE X b tb)(hs:PlainIx b):PE X (.Subscript a b pos) (tOp r ta tb):=by
 intro pins s σ H Q I h;exact Subscript_ (binT ha hb I h λv u s2 x y H2 I2 rx ry q=>hr a b pins s2 σ H2 x y v u Q I2 rx ry q (hs _ _))
inductive rIxL (K:au)(x:V)(y:V)(H:Hp)(Q:VK):Prop
 | mk (p xs i v:_)(_:x= .ref p)(_:y= .int i)(_:SqL K H p xs)(_:atI xs i=some v)(_:Q v H)
inductive pq (K:au)(x:V)(y:V)(H:Hp)(Q:VK):Prop
 | mk (p xs i v:_)(_:x= .ref p)(_:y= .int i)(_:SqT K H p xs)(_:atI xs i=some v)(_:Q v H)
def gG:IxR X (rIxL X.K):=by
 intro value slice pins s σ H x y v u Q I rx ry h hs;obtain⟨p,xs,i,z,rfl,rfl,hq,he,q⟩:=h;cases rx;obtain⟨t,rfl⟩:=ry;obtain⟨its,r,pl,hz⟩:=I.list hq;obtain⟨j,h1,h2,h3,h4,h5⟩:=atI_get he;obtain⟨w,ew,rw'⟩:=r.get h2;have hl:=r.length;have hn:=line63;have fin:EP X pins σ Q w s:=⟨z,H,I,rw',q⟩
 by_cases h0:0≤i
 ·have hj:i.toNat=j:=by
   rw[seqIndex_of h0 h5] at h1;exact bE h1
  exact item_listR pl.isList h0 ⋯ (by rw[hj];simpa using ew) fin hs
 ·have hj:(i+(its.toArray.size:Int)).toNat=j:=by
   rw[seqIndex_neg ⋯ h4] at h1;rw[aK,←hl];exact bE h1
  exact subscriptTail_builtinR (x:=w) pl.isList.typeIs slot_list_getitem.lookup
   (wpAny_getItem_list_neg (Q:=λr s'=>r=w∧EP X pins σ Q r s') pl.isList ⋯ (by rw[aK] <;> lia) ⋯ (by rw[hj];simpa using ew) ⟨rfl,fin⟩) hs
def dF:IxR X (pq X.K):=by
 intro value slice pins s σ H x y v u Q I rx ry h hs;obtain⟨p,xs,i,z,rfl,rfl,hq,he,q⟩:=h;cases rx;obtain⟨t,rfl⟩:=ry;obtain⟨its,r,pl,hz⟩:=I.tuple hq;obtain⟨j,h1,h2,h3,h4,h5⟩:=atI_get he;obtain⟨w,ew,rw'⟩:=r.get h2;have hl:=r.length;have hn:=line63;have fin:EP X pins σ Q w s:=⟨z,H,I,rw',q⟩;exact subscriptTail_builtinR (x:=w) pl.typeIs slot_tuple_getitem.lookup
  (getItem_tuple (j:=j) (Q:=λr s'=>r=w∧EP X pins σ Q r s') pl ⋯ ⋯ (by rw[aK,←hl];exact h1) (by simpa using ew) ⟨rfl,fin⟩) hs
def mapSeq_set (its:List af)(n j:Nat)(u:af):cN (·.setIfInBounds j u) { cls:= .type "list",data:= .seq its.toArray n }={ cls:= .type "list",data:= .seq (its.set j u).toArray n }:=by
 simp[cN]
def Inv.lst {pins:List (aq×Obj)}{σ:St}{H:Hp}{s:ay}{p:aq}{xs:List V}(I:Inv X pins σ H s)(h:H p=some (.lst xs)) :
  ∃(its:List af) (n:Nat),gz xs its∧s.heap.get? p=some { cls:= .type "list",data:= .seq its.toArray n }∧xs.length≤bf:=by
 obtain⟨z,its,n,r,e⟩:=I.hok p _ h;exact⟨its,n,r,e,z⟩
def Inv.lstUpd {pins:List (aq×Obj)}{p:aq}{its':List af}{n':Nat}{f:Obj→Obj}(I:Inv X pins σ H s)(h:H p=some (.lst xs))
  (ho:s.heap.get? p=some { cls:= .type "list",data:= .seq its.toArray n }) (hf:f { cls:= .type "list",data:= .seq its.toArray n }={ cls:= .type "list",data:= .seq its'.toArray n' }) (r:gz ys its') (hz:ys.length≤bf) (t:Nat) :
  Inv X pins σ (upd H p (.lst ys)) { s with heap:=s.heap.update p f,toks:=t }:=by
 have e:(s.heap.update p f).get? p=some { cls:= .type "list",data:= .seq its'.toArray n' }:=by
  rw[bO.get?_update_self f ho (by rw[hf] <;> rfl),hf]
 apply I.write (x:=p) (e:=p) (by rw[h];trivial) (.inl rfl) (λb u hb q=>(jL _ _ (cK hb)).trans q) ⟨_,e⟩ ?_;exact⟨hz,its',n',r,e⟩
def rSetL:V→V→V→Hp→(Hp→Prop)→Prop:=λo i v H Q=>∃p xs k j,o= .ref p∧i= .int k∧H p=some (.lst xs)∧ixN xs.length k=some j∧Q (upd H p (.lst (xs.set j v)))
def lQ:PSet X rSetL:=by
 intro pins s σ H o i v ov iv u Q I ro ri rv h;obtain⟨p,xs,k,j,rfl,rfl,hp,hj,q⟩:=h;cases ro;obtain⟨t,rfl⟩:=ri;obtain⟨its,n,r,ho,hz⟩:=I.lst hp;obtain⟨h1,h2,h3,h4⟩:=ixN_seq hj;have hl:=r.length;have hn:=line63;have I':Inv X pins σ (upd H p (.lst (xs.set j v))) { s with heap:=s.heap.update p (cN (·.setIfInBounds j u)) } :=
  I.lstUpd hp ho (mapSeq_set its n j u) (r.set rv j) (by rw[eI];exact hz) s.toks
 by_cases h0:0≤k
 ·have hk:k.toNat=j:=by
   rw[seqIndex_of h0 h4] at h1;exact bE h1
  exact PySem.W.ki_setAt ho h0 ⋯ (by rw[aK,←hl];exact h4) (by rw[hk];exact⟨_,I',q⟩)
 ·have hk:(k+(its.toArray.size:Int)).toNat=j:=by
   rw[seqIndex_neg ⋯ h3] at h1;rw[aK,←hl];exact bE h1
  exact PySem.W.ki_setBack ho ⋯ (by rw[aK,←hl];exact h3) ⋯ (by rw[hk];exact⟨_,I',q⟩)
def flatV:V→Bool
 | .non=>true
 | .bl _=>true
 | .int _=>true
 | .str _=>true
 | _=>false
def eqV:V→V→Bool
 | .non,.non=>true
 | .bl a,.bl b=>a == b
 | .bl a,.int b=>(if a then 1 else 0) == b
 | .int a,.bl b=>a == (if b then 1 else 0)
 | .int a,.int b=>a == b
 | .str a,.str b=>a == b
 | _,_=>false
def jQ {y x:V}{v:af}(ry:gL y u)(rx:gL x v)(fy:flatV y=true)(fx:flatV x=true):SeqAt.EqAt A s u v (eqV y x):=by
 cases y with
 | non =>
  cases ry;cases x with
  | non=>cases rx;exact SeqAt.EqAt.same _
  | bl b=>cases rx;exact SeqAt.EqAt.none_bool b
  | int b=>obtain⟨t,rfl⟩:=rx;exact SeqAt.EqAt.none_int b t
  | str b=>obtain⟨t,rfl⟩:=rx;exact SeqAt.EqAt.none_str b t
  | _=>exact rS (show false=true from fx) bc
 | bl a =>
  cases ry;cases x with
  | non=>cases rx;exact SeqAt.EqAt.bool_none a
  | bl b=>cases rx;exact SeqAt.EqAt.bool_bool a b
  | int b=>obtain⟨t,rfl⟩:=rx;exact SeqAt.EqAt.bool_int a b t
  | str b=>obtain⟨t,rfl⟩:=rx;exact SeqAt.EqAt.bool_str a b t
  | _=>exact rS (show false=true from fx) bc
 | int a =>
  obtain⟨t',rfl⟩:=ry;cases x with
  | non=>cases rx;exact SeqAt.EqAt.int_none a t'
  | bl b=>cases rx;exact SeqAt.EqAt.int_bool a t' b
  | int b=>obtain⟨t,rfl⟩:=rx;exact SeqAt.EqAt.int_int a t' b t
  | str b=>obtain⟨t,rfl⟩:=rx;exact SeqAt.EqAt.int_str a t' b t
  | _=>exact rS (show false=true from fx) bc
 | str a =>
  obtain⟨t',rfl⟩:=ry;cases x with
  | non=>cases rx;exact SeqAt.EqAt.str_none a t'
  | bl b=>cases rx;exact SeqAt.EqAt.str_bool a t' b
  | int b=>obtain⟨t,rfl⟩:=rx;exact SeqAt.EqAt.str_int a t' b t
  | str b=>obtain⟨t,rfl⟩:=rx;exact SeqAt.EqAt.str_str a t' b t
  | _=>exact rS (show false=true from fx) bc
 | _=>exact rS (show false=true from fy) bc
def eqU (x:V)(u:af):Bool:=match u with
 | .none=>eqV .non x
 | .bool b=>eqV (.bl b) x
 | .int i _=>eqV (.int i) x
 | .str z _=>eqV (.str z) x
 | _=>false
def eqU_of {x y:V}(r:gL y u)(f:flatV y=true):eqU x u=eqV y x:=by
 cases y with
 | non=>cases r;rfl
 | bl b=>cases r;rfl
 | int i=>obtain⟨t,rfl⟩:=r;rfl
 | str z=>obtain⟨t,rfl⟩:=r;rfl
 | _=>exact rS (show false=true from f) bc
theorem qN {x:V}:∀{xs:List V} {us:List af},gz xs us→xs.all flatV=true→us.any (eqU x)=xs.any λy=>eqV y x
 | _,_,.nil,_=>rfl
 | y::xs,u::us,.cons r t,f=>by
  rw[List.all_cons,cI] at f;rw[jd,jd,eqU_of r f.1,qN t f.2]
theorem nZ {A:bT}{s:ay}{x:V}{v:af}(rx:gL x v)(fx:flatV x=true):∀{xs:List V} {us:List af},gz xs us→xs.all flatV=true→∀u∈us,SeqAt.EqAt A s u v (eqU x u)
 | _,_,.nil,_=>λu hu=>by cases hu
 | y::xs,u::us,.cons r t,f=>λu' hu=>by
  rw[List.all_cons,cI] at f
  rcases aH.mp hu with rfl | hu
  ·rw[eqU_of r f.1];exact jQ r rx f.1 fx
  ·exact nZ rx fx t f.2 u' hu
def inV (x:V)(xs:List V):Bool:=xs.any λy=>eqV y x
inductive rIn (K:au)(neg:Bool)(x:V)(y:V)(H:Hp)(Q:VK):Prop
 | mk (p xs:_)(_:y= .ref p)(_:(SqL K H p xs∨SqT K H p xs))(_:flatV x=true)(_:xs.all flatV=true)(_:Q (.bl (if neg then !inV x xs else inV x xs)) H)
def op_in_seq:OpR X (dX .In) (rIn X.K false):=by
 intro pins s σ H x y v u Q I rx ry h;obtain⟨p,xs,rfl,hq,fx,fs,q⟩:=h;cases ry
 rcases hq with hq | hq
 ·obtain⟨its,r,pl,hz⟩:=I.list hq
  apply SeqAt.in_listAt (eqU x) pl.isList (λw hw=>nZ rx fx r fs w (by simpa using hw)) ⟨.bl _,H,I,rfl,?_⟩;rw[show its.toArray.any (eqU x)=its.any (eqU x) by simp,qN r fs];exact q
 ·obtain⟨its,r,pl,hz⟩:=I.tuple hq
  apply SeqAt.in_tupleAt (eqU x) pl (λw hw=>nZ rx fx r fs w (by simpa using hw)) ⟨.bl _,H,I,rfl,?_⟩;rw[show its.toArray.any (eqU x)=its.any (eqU x) by simp,qN r fs];exact q
def oR:OpR X (dX .NotIn) (rIn X.K true):=by
 intro pins s σ H x y v u Q I rx ry h;obtain⟨p,xs,rfl,hq,fx,fs,q⟩:=h;cases ry
 rcases hq with hq | hq
 ·obtain⟨its,r,pl,hz⟩:=I.list hq
  apply SeqAt.notIn_listAt (eqU x) pl.isList (λw hw=>nZ rx fx r fs w (by simpa using hw)) ⟨.bl _,H,I,rfl,?_⟩;rw[show its.toArray.any (eqU x)=its.any (eqU x) by simp,qN r fs];exact q
 ·obtain⟨its,r,pl,hz⟩:=I.tuple hq
  apply SeqAt.notIn_tupleAt (eqU x) pl (λw hw=>nZ rx fx r fs w (by simpa using hw)) ⟨.bl _,H,I,rfl,?_⟩;rw[show its.toArray.any (eqU x)=its.any (eqU x) by simp,qN r fs];exact q
def bR:jV X (.builtin "len") (λxs H Q=>∃p ys,xs=[.ref p]∧(SqL X.K H p ys∨SqT X.K H p ys)∧Q (.int ys.length) H):=by
 intro pins s σ H xs us Q I r h;obtain⟨p,ys,rfl,hq,q⟩:=h;obtain⟨u,rfl,rx⟩:=oo r;cases rx;have hn:=line63
 rcases hq with hq | hq
 ·obtain⟨its,r',pl,hz⟩:=I.list hq
  have hlen:=r'.length;exact Calls.call_len_list pl.isList (by simp only[aK] <;> lia) ⟨.int ys.length,H,I.tok _,⟨s.toks+1,by rw[aK,hlen]⟩,q⟩
 ·obtain⟨its,r',pl,hz⟩:=I.tuple hq
  have hlen:=r'.length;exact len_tuple pl (by simp only[aK] <;> lia) ⟨.int ys.length,H,I.tok _,⟨s.toks+1,by rw[aK,hlen]⟩,q⟩
def oT:jV X (.type "list") (λxs H Q=>∃p ys,xs=[.ref p]∧(SqL X.K H p ys∨SqT X.K H p ys)∧∀l,H l=none→Q (.ref l) (upd H l (.lst ys))):=by
 intro pins s σ H xs us Q I r h;obtain⟨p,ys,rfl,hq,q⟩:=h;obtain⟨u,rfl,rx⟩:=oo r;cases rx;have fin:∀(its:List af),gz ys its→ys.length≤bf→∀(h':bO) (c':Nat),(∀b o',s.heap.get? b=some o'→h'.get? b=some o') →
   h'.get? s.heap.objs.size=some { cls:= .type "list",dict:=none,data:= .seq its.toArray c',slots:= #[] }→EP X pins σ Q (.ref s.heap.objs.size) { s with heap:=h' }:=λits r' hz h' c' kp e =>
  ⟨.ref s.heap.objs.size,_,I.laid (t':=s.toks) kp (aB _) (show jk X.prog X.w _ h' _ (.lst ys) from ⟨hz,its,c',r',e⟩),rfl,q _ (I.hok.fresh (aB _))⟩
 rcases hq with hq | hq
 ·obtain⟨its,r',pl,hz⟩:=I.list hq
  have hlen:=r'.length;obtain⟨o,ho,hc,n,hd⟩:=pl.isList;exact call_list_seq p (.inl rfl) ho hc hd (λh' c' kp e=>fin its r' hz h' c' kp e) (by simp only[aK] <;> lia)
 ·obtain⟨its,r',pl,hz⟩:=I.tuple hq
  have hlen:=r'.length;obtain⟨o,ho,hc,n,hd⟩:=pl;exact call_list_seq p (.inr rfl) ho hc hd (λh' c' kp e=>fin its r' hz h' c' kp e) (by simp only[aK] <;> lia)
def call_tuple_of:jV X (.type "tuple") (λxs H Q=>∃p ys,xs=[.ref p]∧((SqL X.K H p ys∧∀l,H l=none→Q (.ref l) (upd H l (.tup ys)))∨(SqT X.K H p ys∧Q (.ref p) H))):=by
 intro pins s σ H xs us Q I r h;obtain⟨p,ys,rfl,h⟩:=h;obtain⟨u,rfl,rx⟩:=oo r;cases rx
 rcases h with ⟨hq,q⟩ | ⟨hq,q⟩
 ·obtain⟨its,r',pl,hz⟩:=I.list hq
  have hlen:=r'.length;apply call_tuple_list pl.isList (λh' kp=>?_) (by simp only[aK] <;> lia);have I1:Inv X pins σ H { s with heap:=h' }:=I.kept (t':=s.toks) kp;have I2:Inv X pins σ (upd H h'.objs.size (.tup ys)) { s with heap:=h'.push { cls:= .type "tuple",data:= .seq its.toArray } } :=
   I1.laid (t':=s.toks) (λb o e=>ax _ e) (aB _) (show jk X.prog X.w _ _ _ (.tup ys) from ⟨hz,its,r',mV.new _ _⟩)
  exact⟨.ref h'.objs.size,_,I2,rfl,q _ (I1.hok.fresh (aB _))⟩
 ·obtain⟨its,r',pl,hz⟩:=I.tuple hq
  exact call_tuple_same pl ⟨.ref p,H,I,rfl,q⟩
def tyV (K:au)(T:String)(x:V)(H:Hp):Prop:=match x with
 | .str _=>T = "str"
 | .int _=>T = "int"
 | .ref p=>(T = "list" ∧∃xs,SqL K H p xs)∨(T = "tuple" ∧∃o,K.lookup p=some o∧o.cls= .type "tuple" ∧o.dict=none) ∨
   (T = "dict" ∧((∃kvs,H p=some (.dK kvs))∨∃kvs,H p=some (.dT kvs)))∨(T = "set" ∧∃S n,H p=some (.set S n))
 | _=>False
def tyV_is {pins:List (aq×Obj)}{x:V}{v:af}(I:Inv X pins σ H s)(r:gL x v)(ty:tyV X.K T x H) :
  s.TypeIs v T∧∀a,v= .ref a→∃ob,s.heap.get? a=some ob∧ob.dict=none:=by
 cases x with
 | str z =>
  obtain⟨t,rfl⟩:=r;cases(show T = "str" from ty);exact⟨typeIs_str s z t,λ_ e=>nomatch e⟩
 | int i =>
  obtain⟨t,rfl⟩:=r;cases(show T = "int" from ty);exact⟨typeIs_int s i t,λ_ e=>nomatch e⟩
 | ref p =>
  cases r
  rcases ty with ⟨rfl,xs,hq⟩ | ⟨rfl,o,hk,hc,hd⟩ | ⟨rfl,hk⟩ | ⟨rfl,S,n,hk⟩
  ·obtain⟨its,_,pl,_⟩:=I.list hq
   apply⟨pl.isList.typeIs,λa e=>?_⟩;cases e;obtain⟨o,n,e,c,hd,_⟩:=pl;exact⟨o,e,hd⟩
  ·apply⟨⟨o,I.kIn p o hk,hc⟩,λa e=>?_⟩
   cases e;exact⟨o,I.kIn _ o hk,hd⟩
  ·have z:∃o,s.heap.get? p=some o∧o.ExactDict:=by
    rcases hk with ⟨kvs,hk⟩ | ⟨kvs,hk⟩
    ·obtain⟨_,_,_,_,o,_,_,e,ex,_⟩:=I.hok p _ hk
     exact⟨o,e,ex⟩
    ·obtain⟨_,_,_,_,o,_,_,e,ex,_⟩:=I.hok p _ hk
     exact⟨o,e,ex⟩
   obtain⟨o,e,ex⟩:=z;apply⟨⟨o,e,ex.1⟩,λa e2=>?_⟩;cases e2;exact⟨o,e,ex.2.1⟩
  ·obtain⟨o,_,_,_,e,ex,_⟩:=I.hok p _ hk
   apply⟨⟨o,e,ex.1⟩,λa e2=>?_⟩;cases e2;exact⟨o,e,ex.2.1⟩
 | _=>exact cR ty
def tBM0 (K:au)(T:String)(r:V→List V→Hp→VK→Prop)(to:TE):TE:=λσ H Q=>to σ H λx H1=>tyV K T x H1∧r x [] H1 Q
def tBM (K:au)(T:String)(r:V→List V→Hp→VK→Prop)(to:TE)(t:TA):TE:=λσ H Q=>to σ H λx H1=>tyV K T x H1∧t σ H1 λxs H2=>r x xs H2 Q
variable {o:Expr}{to:TE}{cpos:Pos}{id:String}{r:V→List V→Hp→VK→Prop}
def qe (pa:PlainAttrs T)(slot:Slot T name id)(hty:typeOf (.builtin id)=fV (.type "method_descriptor"))(hm:MtR X id r)(ho:PE X o to)
  (hbase:kU o name X.env (eP o X.env)=eP o X.env:=by rfl) (hline:(apos.endLine == cpos.line)=true:=by rfl):PE X (.Call (.Attribute o name apos) [] [] cpos) (tBM0 X.K T r to):=by
 intro pins s σ H Q I h;apply wpAny_Call_method0_late hbase hline (thn (ho pins s σ H _ I h) λv s1 ⟨x,H1,I1,r1,ty,q1⟩=>?_);obtain⟨h1,h2⟩:=tyV_is I1 r1 ty;exact⟨T,id,pa,slot,hty,h1,h2,jB rfl (PySem.evalArgs_none (hm pins s1 σ H1 x [] v [] Q I1 r1 .nil q1))⟩
def mE (pa:PlainAttrs T)(slot:Slot T name id)(hty:typeOf (.builtin id)=fV (.type "method_descriptor"))(hm:MtR X id r)(ho:PE X o to)(ha:PA X (e::es) t)
  (hbase:kU o name X.env (eP o X.env)=eP o X.env:=by rfl)
  (hfew:((fB cpos (bB (e::es) X.env)).all (fun x=> !x.1) && (backToKw cpos (keywordEach [] X.env)).all (fun x=>x.1.isSome)
   && decide ((e::es).length+([]:List Keyword).length+(if ([]:List Keyword).isEmpty then 0 else 1)<30))=true:=by rfl)
  (hline:(apos.endLine == cpos.line)=true:=by rfl) (hs:bB (e::es) X.env=(false,eP e X.env)::bB es X.env:=by rfl) (hplain:(fB cpos (bB es X.env)).any (·.1)=false:=by rfl) :
  PE X (.Call (.Attribute o name apos) (e::es) [] cpos) (tBM X.K T r to t):=by
 intro pins s σ H Q I h;apply wpAny_Call_method_late hbase hfew hline rfl (thn (ho pins s σ H _ I h) λv s1 ⟨x,H1,I1,r1,ty,q1⟩=>?_);obtain⟨h1,h2⟩:=tyV_is I1 r1 ty;apply⟨T,id,pa,slot,hty,h1,h2,?_⟩;have hA:=ha cpos pins s1 σ H1 _ I1 q1;rw[hs] at hA ⊢;apply jB (by show(false || (fB cpos (bB es X.env)).any (·.1))=false;rw[hplain] <;> rfl) (Calls.evalArgs_plain ?_);exact thn hA λus s2 ⟨vs,H2,I2,r2,q2⟩=>hm pins s2 σ H2 x vs v us Q I2 r1 r2 q2
end
def MtM (X:Cx)(id:String)(r:V→List V→Hp→VK→Prop):Prop :=
 ∀(pins:List (aq×Obj)) (s:ay) (σ:St) (H:Hp) (x:V) (xs:List V) (v:af) (us:List af) (Q:VK),Inv X pins σ H s→gL x v→gz xs us→r x xs H Q →
  aW (br X.prog X.w) X.A (call (.builtin id) (v::us)) (EP X pins σ Q) X.xe s
def gz.one:∀{x:V} {us:List af},gz [x] us→∃u,us=[u]∧gL x u
 | _,_,.cons r .nil=>⟨_,rfl,r⟩
def gz.zero:∀{us:List af},gz [] us→us=[]
 | _,.nil=>rfl
def gz.dropLast (h:gz xs us):gz xs.dropLast us.dropLast:=by
 induction h with
 | nil=>exact .nil
 | cons r t ih =>
  cases t with
  | nil=>exact .nil
  | cons q t'=>exact .cons r ih
theorem gz.rep {xs:List V}{us:List af}(h:gz xs us):∀k:Nat,gz (bx k xs).flatten (bx k us).flatten
 | 0=> .nil
 | k+1=>by
  rw[i8,i8,List.flatten_cons,List.flatten_cons];exact gz.append h (gz.rep h k)
def erase_last (l:List α):l.eraseIdx (l.length - 1)=l.dropLast:=by
 induction l with
 | nil=>rfl
 | cons a r ih =>
  cases r with
  | nil=>rfl
  | cons b r =>
   have e:(a::b::r).length - 1=((b::r).length - 1)+1:=by
    have h1:(a::b::r).length=r.length+2:=rfl;have h2:(b::r).length=r.length+1:=rfl;lia
   rw[e,List.eraseIdx_cons_succ,ih]
   all_goals rfl
theorem foldl_rep (its:List af):∀(k:Nat) (acc:List af),
  List.foldl (λx1 x2=>x1++x2) acc.toArray (bx k its.toArray)=(acc++(bx k its).flatten).toArray
 | 0,acc=>by simp
 | k+1,acc=>by
  have e:acc.toArray++its.toArray=(acc++its).toArray:=by simp
  have e2:(acc++its)++(bx k its).flatten=acc++(bx (k+1) its).flatten:=by
   rw[i8,List.flatten_cons,jK]
  rw[←e2,←foldl_rep its k (acc++its),←e,i8,bQ]
section
variable {pins:List (aq×Obj)}{l b:aq}
def Inv.lset {its':List af}{f:Array af→Array af}(I:Inv X pins σ H s)(hH:H l=some (.lst xs))
  (e:s.heap.get? l=some { cls:= .type "list",data:= .seq its.toArray n }) (hf:f its.toArray=its'.toArray) (hv:gz ys its') (hz:ys.length≤bf) :
  Inv X pins σ (upd H l (.lst ys)) { s with heap:=s.heap.update l (cN f),toks:=t' }:=by
 have q:=PySem.IsL.update e f;rw[hf] at q;apply I.write (x:=l) (e:=l) (by rw[hH];exact trivial) (.inl rfl) (λb' u hb hu=>(jL s.heap (cN f) (cK hb)).trans hu) ⟨_,q⟩ ?_;exact⟨hz,its',_,hv,q⟩
def Inv.lnew (I:Inv X pins σ H s)(hv:gz ys its)(hz:ys.length≤bf) :
  Inv X pins σ (upd H s.heap.objs.size (.lst ys)) { s with heap:=s.heap.push { cls:= .type "list",data:= .seq its.toArray },toks:=t' } :=
 I.laid (λ_ _ q=>ax _ q) (aB _) ⟨hz,its,0,hv,aU _ rfl⟩
def Inv.fresh (I:Inv X pins σ H s):H s.heap.objs.size=none:=I.hok.fresh (aB _)
def Inv.lstM (I:Inv X pins σ H s)(hH:H l=some (.lst xs)):xs.length≤bf∧∃(its:List af) (n:Nat),gz xs its∧xs.length=its.length∧s.heap.get? l=some { cls:= .type "list",data:= .seq its.toArray n }:=by
 obtain⟨z,its,n,r,e⟩:=I.hok l _ hH;exact⟨z,its,n,r,r.length,e⟩
def notLongL (h:n≤bf):iH n=false:=by
 unfold iH;exact rV ⋯
end
inductive rAppend (x:V)(vs:List V)(H:Hp)(Q:VK):Prop
 | mk (l xs y:_)(_:x= .ref l)(_:vs=[y])(_:H l=some (.lst xs))(_:xs.length<bf)(_:Q .non (upd H l (.lst (xs++[y]))))
def gm:MtM X "list.append" rAppend:=by
 intro pins s σ H x vs v us Q I rx rv h;obtain⟨l,xs,y,rfl,rfl,hH,hz,q⟩:=h;cases rx;obtain⟨u,rfl,ru⟩:=rv.one;obtain⟨z,its,n,r,hl,e⟩:=I.lstM hH;apply call_meets F.slot_list_append ⟨_,e,rfl⟩ F.entry_list_append (F.args_list_append_2 _ _) (PySem.list_append l its.toArray n u (by rw[aK];lia)) ⟨e,?_⟩;apply⟨.non,_,I.lset (its':=its++[u]) hH e ∅ (r.append (.cons ru .nil)) ?_,rfl,q⟩;rw[av,cU];lia
inductive rExtend (x:V)(vs:List V)(H:Hp)(Q:VK):Prop
 | mk (l b xs zs:_)(_:x= .ref l)(_:vs=[.ref b])(_:H l=some (.lst xs))(_:H b=some (.lst zs))(_:xs.length+zs.length≤bf)(_:Q .non (upd H l (.lst (xs++zs))))
def mt_extend:MtM X "list.extend" rExtend:=by
 intro pins s σ H x vs v us Q I rx rv h;obtain⟨l,b,xs,zs,rfl,rfl,hH,hB,hz,q⟩:=h;cases rx;obtain⟨u,rfl,ru⟩:=rv.one;cases ru;obtain⟨z,its,n,r,hl,e⟩:=I.lstM hH;obtain⟨z2,its2,n2,r2,hl2,e2⟩:=I.lstM hB;have hsz:its.toArray.size+its2.toArray.size≤bf:=by rw[aK,aK];lia
 have hlong:¬(!its.toArray.isEmpty && iH (its.toArray.size+its2.toArray.size))=true:=by
  rw[notLongL hsz,Bool.and_false];exact bc
 apply call_meets F.slot_list_extend ⟨_,e,rfl⟩ F.entry_list_extend (F.args_list_extend_2 _ _)
  (AutoSeq1.list_extend_list_list_0 l its.toArray n b its2.toArray n2 hlong (by rw[aK];lia) ⋯) ⟨e,e2,?_⟩
 apply⟨.non,_,I.lset (its':=its++its2) hH e ∅ (r.append r2) ?_,rfl,q⟩;rw[av];lia
inductive rPop (x:V)(vs:List V)(H:Hp)(Q:VK):Prop
 | mk (l xs y:_)(_:x= .ref l)(_:vs=[])(_:H l=some (.lst xs))(_:xs[xs.length - 1]? =some y)(_:Q y (upd H l (.lst xs.dropLast)))
def qk:MtM X "list.pop" rPop:=by
 intro pins s σ H x vs v us Q I rx rv h;obtain⟨l,xs,y,rfl,rfl,hH,hy,q⟩:=h;cases rx;have hus:=rv.zero;subst hus;obtain⟨z,its,n,r,hl,e⟩:=I.lstM hH;obtain⟨u,hu,ru⟩:=r.get hy;have hy':its.toArray[its.toArray.size - 1]? =some u:=by
  show its.toArray[its.length - 1]? =some u;rw[←jX,←hl];exact hu
 apply call_meets F.slot_list_pop ⟨_,e,rfl⟩ F.entry_list_pop (F.args_list_pop_1 _) (MeetsSeq.list_pop_last l its.toArray n u hy' (by rw[aK];lia)) ⟨e,?_⟩;apply⟨y,_,I.lset (its':=its.dropLast) hH e ?_ r.dropLast ?_,ru,q⟩
 ·show its.toArray.eraseIdxIfInBounds (its.toArray.size - 1)=its.dropLast.toArray
  rw[aK,List.eraseIdxIfInBounds_toArray,erase_last]
 ·rw[List.length_dropLast]
  lia
inductive rCat (x:V)(y:V)(H:Hp)(Q:VK):Prop
 | mk (l b xs zs:_)(_:x= .ref l)(_:y= .ref b)(_:H l=some (.lst xs))(_:H b=some (.lst zs))(_:xs.length+zs.length≤bf)(_:∀p,H p=none→Q (.ref p) (upd H p (.lst (xs++zs))))
def op_cat:OpR X (iN .Add) rCat:=by
 intro pins s σ H x y v u Q I rx ry h;obtain⟨l,b,xs,zs,rfl,rfl,hH,hB,hz,q⟩:=h;cases rx;cases ry;obtain⟨z,its,n,r,hl,e⟩:=I.lstM hH;obtain⟨z2,its2,n2,r2,hl2,e2⟩:=I.lstM hB;apply PySem.P.add_list e e2 ?_ (by rw[aK,aK];lia);have ea:its.toArray++its2.toArray=(its++its2).toArray:=by simp
 rw[ea];exact⟨.ref _,_,I.lnew (t':=s.toks) (r.append r2) (by rw[av];lia),rfl,q _ I.fresh⟩
inductive rRep (x:V)(y:V)(H:Hp)(Q:VK):Prop
 | mk (l k xs:_)(_:x= .ref l)(_:y= .int k)(_:H l=some (.lst xs))(_: -(2 ^ 63)≤k)(_:k<2 ^ 63)(_:xs.length * k.toNat≤bf)(_:∀p,H p=none→Q (.ref p) (upd H p (.lst (bx k.toNat xs).flatten)))
def len_rep (xs:List α)(k:Nat):(bx k xs).flatten.length=k * xs.length:=by
 induction k with
 | zero=>simp
 | succ k ih=>rw[i8,List.flatten_cons,av,ih,Nat.succ_mul,Nat.add_comm]
def op_rep:OpR X (iN .Mult) rRep:=by
 intro pins s σ H x y v u Q I rx ry h;obtain⟨l,k,xs,rfl,rfl,hH,h1,h2,hz,q⟩:=h;cases rx;obtain⟨t,rfl⟩:=ry;obtain⟨z,its,n,r,hl,e⟩:=I.lstM hH;have hlen:its.toArray.size * k.toNat≤bf:=by rw[aK,←hl];exact hz
 have hcap:¬its.toArray.size * k.toNat > (2 ^ 63 - 1) / 8:=by
  have:(bf:Nat)≤(2 ^ 63 - 1) / 8:=by decide
  lia
 have hfit:¬(!Builtin.List.listFitsIndex k)=true:=by
  rw[fitsIndex_both h1 h2];exact bc
 have hlong:¬iH (its.toArray.size * k.toNat)=true:=by
  rw[notLongL hlen];exact bc
 have hnew:List.foldl (λx1 x2=>x1++x2) #[] (bx (if its.toArray.isEmpty=true then 0 else k.toNat) its.toArray)=(bx k.toNat its).flatten.toArray:=by
  have f0:∀m:Nat,List.foldl (λx1 x2=>x1++x2) #[] (bx m its.toArray)=(bx m its).flatten.toArray:=λm=>by
   have:=foldl_rep its m [];rw[List.nil_append] at this;exact this
  rw[f0];cases its with
  | nil=>simp
  | cons a r'=>rw[rQ ∅]
 apply wpAny_binaryOp_repeat_ref (T := "list") (U := "int") ↥0 ⟨_,e,rfl⟩ (λs'=>typeIs_int s' k t) noFill_list_mul F.fills_int_mul F.slot_int_rmul repeat_list F.slot_int_index.lookup
  (call_meets F.slot_int_rmul (typeIs_int s k t) F.entry_int_rmul (F.args_int_rmul_2 _ _) (int___rmul___int_list k t l its.toArray n)
   ⟨e,rfl,⟨_,e,rfl⟩,call_meets F.slot_list_mul ⟨_,e,rfl⟩ F.entry_list_mul (F.args_list_mul_2 _ _) (AutoListH.list___mul___list_int_3 l its.toArray n k t hfit hcap hlong) ⟨e,?_⟩⟩)
 rw[hnew];exact⟨.ref _,_,I.lnew (t':=s.toks) (r.rep k.toNat) (by rw[len_rep,jT];exact hz),rfl,q _ I.fresh⟩
end L2
namespace Att
open PySem PySem.W PySem.Calls PyProof.Rows
def qG {P:Params}:∀(ns:List Int) (vs:List af),WellAll P h vs (ns.map WData.int)→IntsAre vs ns:=by
 intro ns
 induction ns with
 | nil =>
  intro vs w;rw[jJ] at w;cases w;exact .nil
 | cons n ns ih =>
  intro vs w;rw[bI] at w;cases w with
  | cons a b =>
   cases a;exact .cons _ _ (ih _ b)
def script_of {l:OpenLaw}(hn:l.most=some n){P:Params}{args:List WData}{vals:List af}
  (hpre:l.row.toRowW.claim.pre args=true) (hwl:WellAll P h vals args) :
  ∃a vs ns,vals=[af.ref a]∧args=[WData.list (ns.map WData.int)]∧h.get? a=some { cls:= .type "list",data:= .seq vs.toArray }∧IntsAre vs ns∧ns.length≤n:=by
 have hsh:WShape.hasAll [] args [.list .int]=true:=(pre_splitW hpre).1;have hc:l.pre.holds [] { args:=args }=true:=(pre_splitW hpre).2;obtain⟨d,r,rfl,h1,h2⟩:=hasAllW_cons hsh;obtain rfl:=hasAllW_nil h2;obtain⟨xs,rfl,h3⟩:=hasW_list h1;obtain⟨ns,rfl⟩:=items_int h3;have hlen:ns.length≤n:=by
  unfold OpenLaw.pre at hc;have h4:(WTm.not (.lt (.lit (.int (n:Int))) (.len (.arg 0)))).holds [] { args:=[.list (ns.map .int)] }=true:=by
   have h4:=(holds_andW hc).1;rw[hn] at h4;exact h4
  have h5:=condW_of h4 (w_not (w_lt w_lit (w_len_list (w_arg rfl))));rw[aa] at h5;apply Nat.le_of_not_lt λq=>?_
  have q':(n:Int)<((ns.length:Nat):Int):=by lia
  first
   | (rw[rT q'] at h5;exact rS h5 ↥0)
   | (simp at h5;lia)
 cases hwl with
 | cons w1 w2 =>
  cases w2;cases w1 with
  | list ho hall=>exact⟨_,_,ns,rfl,rfl,ho,qG ns _ hall,hlen⟩
def post_true (l:OpenLaw)(args:List WData):l.row.toRowW.claim.post args (.bool true) args=true :=
 postW_of (r:=l.row.toRowW) (X:=(true == true))
  (show WShape.has [] (.bool true) .bool=true by first | rfl | decide | simp[WShape.has,WShape.arms,WShape.armsAll])
  (show(WTm.eq .res (.lit (.bool true))).value [] { args:=args,res:=some (.bool true),after:=args }=some (.bool (true == true)) from w_eq_bool (w_res rfl) w_lit) rfl
def attach_call {l:OpenLaw}{q:aX}{d:DefRec}
  (hn:l.most=some n) (hdf:d.params.defaults=[])
  (call:∀ (w:bz) (s₀ s₁:ay) (mg mb:Str→Option af) (fa:aq) (o:Obj) (pm cd doc:af) (a:aq) (vs:List af) (ns:List Int),
   Ground q loose [] XP w s₀ mg mb s₁.heap→YP w s₁.heap →
   s₁.heap.get? fa=some o→o.data= .func (docDef d.name d.params d.body d.scope pm cd doc)→s₁.heap.CodeRec cd d.name→mg d.name=some (.ref fa) →
   s₁.heap.get? a=some { cls:= .type "list",data:= .seq vs.toArray }→IntsAre vs ns→ns.length≤n→s₁.gens= #[] →
   jj (br l.prog w) callerA (.call (.ref fa) ⟨[.ref a],[]⟩) (fun r s'=>r= .ok (.ret (.bool true))∧OldK s₁.heap s'.heap∧s'.os=s₁.os∧AllBare s'.gens) s₁) :
  WalkO q loose XP YP l.row.toRowW d [] (λf vs=>PySem.call f vs):=by
 intro w s₀ s₁ mg mb G Y fa o pm cd doc dV kV ho hd hcd hD hmg hg args vals as hpre hlay hrd hwl hlo;obtain rfl:dV= .none:=Dflts.none hD hdf;obtain rfl:kV= .none:=Dflts.noKw hD;obtain⟨a,vs,ns,rfl,rfl,hobj,hints,hlen⟩:=script_of hn hpre hwl;apply enter_call (codeAny_mono (call w s₀ s₁ mg mb fa o pm cd doc a vs ns G Y ho (fd_plain hd) hcd hmg hobj hints hlen hg) λr s' hq=>?_);obtain⟨rfl,h2,h3,h4⟩:=hq;exact⟨.inl ⟨.bool true,.bool true,[],rfl,λ_=>rfl,.bool true,post_true l _,λ_=>⟨List.Pairwise.nil,λ_ hm=>(nomatch hm)⟩⟩,h2,h3,h4⟩
end Att
namespace L2
open PySem PySem.Spec PyProof.Rows
theorem nF:∀{vs:List af} {ns:List Int},IntsAre vs ns→gz (ns.map V.int) vs
 | _,_,.nil=> .nil
 | _,_,.cons n t h=> .cons ⟨t,rfl⟩ (nF h)
abbrev CX0:CXT:=λ_ _ _ _ _ _=>False
abbrev E0:XK:=λ_ _ _=>False
def pass0:rM CX0 X E0:=λ_ _ _ _ _ _ _ h=>h.elim
structure Fun (K:au)(x qual:Str)(st:cF)(f:aq)(fd:bg):Prop where
 ex:∃(oc:af) (od:Option aq) (kV doc pm:af) (an:Option aq) (cdv ct:af) (osl:Array (Option af)),
  fd=eR x qual (kD st) (gW st) (defScope st) .none kV doc pm an cdv ct∧K.lookup f=some ⟨oc,od,.func fd,osl⟩∧gM K cdv qual=true
 kp:dY K (.ref f)=true
def Fun.ok {k:Nat}{sp:Sp}(F:Fun K x qual st f fd)(S:bY N ps (defScope st))(len:∀vs H Q E,sp vs H Q E→vs.length=ps.length)
  (hbody:∀ (cdv:af) (A:bT) (outer:List Env) (s:ay) (H:Hp) (vs:List V) (Q:VK) (E:XK),gP k (A.deeper (envOfC qual (defScope st) s.heap.objs.size f cdv))→sp vs H Q E →
   ∃ t,PSs (cxOf CX0 P w K mg base N qual (defScope st) f cdv A outer s H E).nox (gW st) t∧t { nx:=fun _ H'=>Q .non H',rt:=Q } (start N vs) H):‹0› (k+1) f fd ps sp:=by
 obtain⟨oc,od,kV,doc,pm,an,cdv,ct,osl,rfl,lk,hcd⟩:=F.ex;apply fn_of lk hcd S len λA outer s H vs Q E hr hsp=>?_
 obtain⟨t,h,q⟩:=hbody cdv A outer s H vs Q E hr hsp;exact⟨t,h.nox,q⟩
def Fun.binds (F:Fun K x qual st f fd)
  (h:∀(kV doc pm:af) (an:Option aq) (cdv ct:af) (us:List af),us.length=ps.length→bindArgs (eR x qual (kD st) (gW st) (defScope st) .none kV doc pm an cdv ct) ⟨us,[]⟩=fV (ps.zip us)):oM K fd ps []:=by
 obtain⟨oc,od,kV,doc,pm,an,cdv,ct,osl,rfl,lk,hcd⟩:=F.ex;exact .all (h kV doc pm an cdv ct)
def og {oc:af}{od an:Option aq}{kV doc pm cdv ct:af}(l:K.lookup f=some ⟨oc,od,.func (eR x qual (kD st) (gW st) (defScope st) .none kV doc pm an cdv ct),osl⟩)
  (c:gM K cdv qual=true) (k:dY K (.ref f)=true):Fun K x qual st f (eR x qual (kD st) (gW st) (defScope st) .none kV doc pm an cdv ct):=⟨⟨oc,od,kV,doc,pm,an,cdv,ct,osl,rfl,l,c⟩,k⟩
def nM (h:n≤1000):n<bf:=cf h ↥0
def pv (i:Nat)(hN:X.N[i]? =some x:=by rfl)(hv:Vis X.env.scope x:=by first | exact Or.inl rfl | exact Or.inr (Or.inl rfl) | exact Or.inr (Or.inr rfl))(hd:(x == ("__debug__" :Str))=false:=by decide)
  (hcd:(x == ("__classdict__" :Str))=false:=by decide):PE X (.Name x pos) (tVar i):=pe_var hN hv hd hcd
def iteF {A:Prop}(h:B):if false=true then A else B:=by
 rw[rQ bc];exact h
def iteT {A:Prop}(h:A):if true=true then A else B:=by
 rw[rR rfl];exact h
def ite2 {c A:Prop}[Decidable c](h1:c→A)(h2:¬c→B):if c then A else B:=by
 by_cases h:c
 ·rw[rR h]
  exact h1 h
 ·rw[rQ h]
  exact h2 h
def bD (H H':Hp):Prop:=∀b o,H b=some o→H' b=some o
def bD.refl (H:Hp):bD H H:=λ_ _ h=>h
def bD.trans (a:bD H H1)(b:bD H1 H2):bD H H2:=λc o h=>b c o (a c o h)
def bD.free (e:bD H H'){l:aq}(h:H' l=Option.none):H l=Option.none:=by
 cases q:H l with
 | none=>rfl
 | some o =>
  rw[e l o q] at h;cases h
def bD.seq (e:bD H H')(h:SqL K H a xs):SqL K H' a xs:=by
 rcases h with (h | ⟨o,h⟩) | h
 ·exact .inl (.inl (e _ _ h))
 ·exact .inl (.inr ⟨o,e _ _ h⟩)
 ·exact .inr h
def op_fdivB:OpR X (iN .FloorDiv) (rI (λ_ j=>0<j∧j.natAbs.log2<9000) λi j=> .int (i / j)):=opI λi j _ _ _ _ _ hc q=>by
 have e:i.fdiv j=i / j:=Int.fdiv_eq_ediv_of_nonneg i (Int.le_of_lt hc.1);apply floordiv_int (by have:=hc.1;lia) ?_ (.inl (PyProof.noPylong_of_log2 hc.2));rw[e];exact q
theorem bools_of:∀{bs:List Bool} {us:List af},gz (bs.map V.bl) us→LSm.BoolsAre us bs
 | [],_,.nil=> .nil
 | b::bs,_,.cons r t=>by
  cases(show _=af.bool b from r);exact .cons b (bools_of t)
def call_all (hc:X.calm=true):jV X (.builtin "all") (λxs H Q=>∃(p:aq) (bs:List Bool),xs=[.ref p]∧SqL X.K H p (bs.map V.bl)∧Q (.bl (bs.all id)) H):=by
 intro pins s σ H xs us Q I r h;obtain⟨p,bs,rfl,hq,q⟩:=h;obtain⟨u,rfl,ru⟩:=oo r;cases(show u=af.ref p from ru);obtain⟨its,rv,pl,hz⟩:=I.list hq;have hb:=bools_of rv;have hil:s.heap.IsList p its.toArray:=pl.isList;have plt:p<s.heap.objs.size:=by obtain⟨_,e,_⟩:=hil;exact aN e
 apply call_all_walk (fT hil ⟨s.heap.objs.size,[s.heap.objs.size,p],[s.heap.objs.size],its.toArray.size,_,_,fun i=>(bs[i]?).getD true,rfl,
  Walks.list (A:=X.A.in1) (I.ok.hd hc) _ p (bG plt) its.toArray,⟨⟨_,aU _ rfl,rfl,rfl⟩,hil.push _⟩,?_,?_⟩)
 ·intro i v s' Q' E' hP hT
  obtain⟨b,e,rfl⟩:=hb.get i v (by simpa using hP);simp only[e,Option.getD_some] at hT;exact eG hT
 ·intro h' tk hk
  have e2:((aG its.toArray.size).all λi=>(bs[i]?).getD true)=bs.all id:=by
   rw[aK,hb.length];exact LSm.range_all bs
  rw[e2];exact⟨.bl _,H,I.kept (LSm.kept_iter hk),rfl,q⟩
def op_eqL0 (hu:X.A.units<cLine):OpR X (dX .Eq) (λx y H Q=>∃a b xs,x= .ref a∧y= .ref b∧SqL X.K H a xs∧SqL X.K H b []∧Q (.bl xs.isEmpty) H):=by
 intro pins s σ H x y v u Q I rx ry h;obtain⟨a,b,xs,rfl,rfl,ha,hb,q⟩:=h;cases(show v=af.ref a from rx);cases(show u=af.ref b from ry);obtain⟨its,r1,p1,_⟩:=I.list ha;obtain⟨its2,r2,p2,_⟩:=I.list hb;cases r2;cases r1 with
 | nil=>exact SeqAt.eq_listAt (e:=λ_=>true) p1.isList p2.isList rfl hu (λj h1 _=>rS h1 ∅) (e7 I q ∅)
 | cons _ _=>exact SeqAt.eq_list_lengthsAt p1.isList p2.isList ∅ hu (e7 I q ∅)
def tyn (H:Hp):V→Option String
 | .non=>some "NoneType"
 | .bl _=>some "bool"
 | .int _=>some "int"
 | .str _=>some "str"
 | .ref a=>match H a with
  | some (.lst _)=>some "list"
  | some (.tup _)=>some "tuple"
  | some (.dK _)=>some "dict"
  | _=>none
 | _=>none
def TyOf.byName (h:tyn H v=some T):TyOf K H v (.type T):=by
 cases v with
 | non=>cases h;exact .non
 | bl b=>cases h;exact .bl b
 | int i=>cases h;exact .int i
 | str x=>cases h;exact .str x
 | ref a =>
  simp only[tyn] at h;cases e:H a with
  | none=>rw[e] at h;cases h
  | some o =>
   rw[e] at h;cases o <;> first | (cases h;first | exact .lst e | exact .tup e | exact .dK e) | cases h
 | _=>cases h
def kit_tuple (K:au)(h:T∈["NoneType","bool","int","str","list","tuple","dict"]):jr K (.type T) (.type "tuple")=some (T == "tuple"):=by
 simp only[aH,cz,or_false] at h
 rcases h with rfl | rfl | rfl | rfl | rfl | rfl | rfl <;> kernel_rfl
def kit_int (K:au)(h:T∈["NoneType","bool","int","str","list","tuple","dict"]):jr K (.type T) (.type "int")=some (T == "int" || T == "bool"):=by
 simp only[aH,cz,or_false] at h
 rcases h with rfl | rfl | rfl | rfl | rfl | rfl | rfl <;> kernel_rfl
def kit_bool (K:au)(h:T∈["NoneType","bool","int","str","list","tuple","dict"]):jr K (.type T) (.type "bool")=some (T == "bool"):=by
 simp only[aH,cz,or_false] at h
 rcases h with rfl | rfl | rfl | rfl | rfl | rfl | rfl <;> kernel_rfl
def tyn_mem (h:tyn H v=some T):T∈["NoneType","bool","int","str","list","tuple","dict"]:=by
 cases v with
 | non=>cases h;simp
 | bl b=>cases h;simp
 | int i=>cases h;simp
 | str x=>cases h;simp
 | ref a =>
  simp only[tyn] at h;cases e:H a with
  | none=>rw[e] at h;cases h
  | some o =>
   rw[e] at h;cases o <;> first | (cases h;simp;done) | cases h
 | _=>cases h
def l3:jV X (.builtin "isinstance") (λxs H Q=>∃x n t b,xs=[x,.ty n]∧TyOf X.K H x t∧jr X.K t (.type n)=some b∧Q (.bl b) H):=by
 intro pins s σ H xs us Q I r h;obtain⟨x,n,t,b,rfl,ty,e,q⟩:=h;obtain⟨u,w',rfl,ru,rw'⟩:=vals2 r;cases(show w'=af.type n from rw');exact isinst_ok I ru ty e λtk=>⟨.bl b,H,I.tok tk,rfl,q⟩
def call_isTup:jV X (.builtin "isinstance") (λxs H Q=>∃x T,xs=[x,.ty "tuple"]∧tyn H x=some T∧Q (.bl (T == "tuple")) H) :=
 λpins s σ H xs us Q I r ⟨x,T,e,hT,q⟩=>l3 pins s σ H xs us Q I r ⟨x,_,_,_,e,.byName hT,kit_tuple _ (tyn_mem hT),q⟩
def call_isInt:jV X (.builtin "isinstance") (λxs H Q=>∃x T,xs=[x,.ty "int"]∧tyn H x=some T∧Q (.bl (T == "int" || T == "bool")) H) :=
 λpins s σ H xs us Q I r ⟨x,T,e,hT,q⟩=>l3 pins s σ H xs us Q I r ⟨x,_,_,_,e,.byName hT,kit_int _ (tyn_mem hT),q⟩
def call_isBool:jV X (.builtin "isinstance") (λxs H Q=>∃x T,xs=[x,.ty "bool"]∧tyn H x=some T∧Q (.bl (T == "bool")) H) :=
 λpins s σ H xs us Q I r ⟨x,T,e,hT,q⟩=>l3 pins s σ H xs us Q I r ⟨x,_,_,_,e,.byName hT,kit_bool _ (tyn_mem hT),q⟩
inductive rCatA (K:au)(x:V)(y:V)(H:Hp)(Q:VK):Prop
 | mk (a b xs ys:_)(_:x= .ref a)(_:y= .ref b)(_:H a=some (.tup xs))(_:H b=some (.tup ys))(_:xs.length+ys.length≤bf)(_:∀p H',bD H H'→H' p=some (.tup (xs++ys))→Q (.ref p) H')
def mG:OpR X (iN .Add) (rCatA X.K):=by
 intro pins s σ H x y v u Q I rx ry h;obtain⟨a,b,xs,ys,rfl,rfl,ha,hb,hz,q⟩:=h;cases xs with
 | cons x xs =>
  apply op_catT pins s σ H (.ref a) (.ref b) v u Q I rx ry ⟨a,b,_,ys,rfl,rfl,SqT.of ha,SqT.of hb,∅,hz,λe=>?_,λ_ p hp=>?_⟩
  ·subst e
   exact q a H (bD.refl H) (by rw[c5];exact ha)
  ·exact q p _ (λc o e=>by rw[bt (bF e hp)];exact e) aR
 | nil =>
  cases(show v=af.ref a from rx);cases(show u=af.ref b from ry);obtain⟨its,r1,p1,_⟩:=I.tuple (SqT.of (K:=X.K) ha);obtain⟨its2,r2,p2,_⟩:=I.tuple (SqT.of (K:=X.K) hb);cases r1;obtain⟨⟨c1,d1,t1,l1⟩,o1,k1,n1,g1⟩:=id p1;obtain⟨⟨c2,d2,t2,l2⟩,o2,k2,n2,g2⟩:=id p2;simp only at k1 g1 k2 g2;subst k1 g1 k2 g2;exact concat_meets ⟨_,o1,rfl⟩ ⟨_,o2,rfl⟩ noFill_tuple_add seq_tuple_add PySem.F.slot_tuple_add l4 (lJ _ _)
   (tuple_addW0 a b _ its2.toArray n1 n2 d1 d2 l1 l2 ∅) ⟨o1,o2,⟨.ref b,H,I,rfl,q b H (bD.refl H) hb⟩⟩
def gn (X:Cx)(scope:fN)(cl:List (Str×aq))(C:aq)(N:List Str)(s:ay)(H:Hp)(ex:List aq):Cx :=
 { X with N:=N,s₀:=s,H₀:=H,env:=compEnvC scope cl C X.env,outer:=X.stack,ex:=ex,fn:=λ_=>false,pn:=[],xe:=λ_ _=>False }
def qL (hf:∀y∈scope.names,y.2= .free→∃c,env.cells.lookup y.1=some c) :
  ∃cl,closureFor scope env=fV cl∧(∀x c,cl.lookup x=some c→env.cells.lookup x=some c)∧∀y∈scope.names,y.2= .free→cl.lookup y.1=env.cells.lookup y.1:=by
 have aux:∀(names:List (Str×cQ)) (acc:List (Str×aq)),(∀y∈names,y.2= .free→∃c,env.cells.lookup y.1=some c)→(∀x c,acc.lookup x=some c→env.cells.lookup x=some c) →
   ∃ cl,(forIn names acc fun x r=>match x with
     | (name,kind)=>if (kind == cQ.free)=true then (cellOf env name >>= fun c=>fV (ForInStep.yield ((name,c)::r))) else fV (ForInStep.yield r):Sem (List (Str×aq)))=fV cl ∧
    (∀x c,cl.lookup x=some c→env.cells.lookup x=some c)∧(∀x c,acc.lookup x=some c→cl.lookup x=some c)∧∀y∈names,y.2= .free→cl.lookup y.1=env.cells.lookup y.1:=by
  intro names
  induction names with
  | nil=>intro acc _ ha;exact⟨acc,rfl,ha,λ_ _ e=>e,λy hy=>rS hy ∅⟩
  | cons z r ih =>
   intro acc hn ha;obtain⟨n,k⟩:=z;have hr:∀y∈r,y.2= .free→∃c,env.cells.lookup y.1=some c:=λy hy=>hn y (aA _ hy)
   by_cases hk:k= .free
   ·subst hk
    obtain⟨c,hc⟩:=hn (n,.free) bq rfl;have hc:env.cells.lookup n=some c:=hc;have ha':∀x d,((n,c)::acc).lookup x=some d→env.cells.lookup x=some d:=λx d e=>by
     rw[dk] at e;cases hx:x == n with
     | true =>
      rw[hx] at e;have e':c=d:=bE e;have ex:x=n:=eq_of_beq hx;rw[ex,←e'];exact hc
     | false=>rw[hx] at e;exact ha x d e
    obtain⟨cl,e1,e2,e3,e4⟩:=ih ((n,c)::acc) hr ha';have iL:cellOf env n=fV c:=by unfold cellOf;rw[hc]
    apply⟨cl,?_,e2,λx d e=>?_,λy hy hy2=>?_⟩
    ·rw[List.forIn_cons]
     show((if (cQ.free == cQ.free)=true then (cellOf env n >>= λc=>fV (ForInStep.yield ((n,c)::acc))) else fV (ForInStep.yield acc)) >>= _)=_;rw[rR (by decide:(cQ.free == cQ.free)=true),iL];exact e1
    ·have h1:((n,c)::acc).lookup x=some (if x == n then c else d):=by
      rw[dk];cases hx:x == n with
      | true=>rfl
      | false=>exact e
     have h2:=e3 x _ h1;have h3:=e2 x _ h2;have h4:=ha x d e;rw[h3] at h4;rw[h2];exact h4
    ·rcases aH.mp hy with rfl | hy3
     ·have h1:((n,c)::acc).lookup n=some c:=by rw[dk,beq_self_eq_true]
      show cl.lookup n=_;rw[e3 n c h1,hc]
     ·exact e4 y hy3 hy2
   ·have hb:(k == cQ.free)=false:=by simpa using hk
    obtain⟨cl,e1,e2,e3,e4⟩:=ih acc hr ha;apply⟨cl,?_,e2,e3,λy hy hy2=>?_⟩
    ·rw[List.forIn_cons]
     show((if (k == cQ.free)=true then (cellOf env n >>= λc=>fV (ForInStep.yield ((n,c)::acc))) else fV (ForInStep.yield acc)) >>= _)=_;rw[hb];exact e1
    ·rcases aH.mp hy with rfl | hy3
     ·exact rS hy2 hk
     ·exact e4 y hy3 hy2
 obtain⟨cl,e1,e2,_,e4⟩:=aux scope.names [] hf λx c e=>by cases e
 apply⟨cl,Eq.trans ?_ e1,e2,e4⟩;unfold closureFor
 first
  | rfl
  | (simp only[bind_pure];done)
  | (simp only[bind_pure];rfl)
  | (simp only [bind_pure]
     congr 1
     funext x r
     obtain ⟨n,k⟩:=x;cases (k == cQ.free) <;> rfl)
theorem oz {env:Env}:∀{names:List (Str×cQ)} {x:Str} {k':cQ},
  (names.map λ(n,k)=>if (k == cQ.free && env.scope.kind == .function && env.kindOf n == some .cell) then (n,cQ.cell) else (n,k)).lookup x=some k' →
  names.lookup x=some k'∨(names.lookup x=some .free∧k'= .cell)
 | [],_,_,h=>by simp at h
 | (n,k)::r,x,k',h=>by
  have ih:= @oz env r x k';rw[bI] at h;show eN x ((n,k)::r)=_∨(eN x ((n,k)::r)=_∧_);rw[dk]
  by_cases hq:(k == cQ.free && env.scope.kind == .function && env.kindOf n == some .cell)=true
  ·have g:eN x ((if (k == cQ.free && env.scope.kind == .function && env.kindOf n == some .cell)=true then (n,cQ.cell) else (n,k))::_)=_:=h
   rw[rR hq,dk] at g;have hk:k= .free:=by
    rw[cI,cI] at hq;exact eq_of_beq hq.1.1
   cases hx:x == n with
   | true=>rw[hx] at g;rw[hk];exact .inr ⟨rfl,(bE g).symm⟩
   | false=>rw[hx] at g;exact ih g
  ·have g:eN x ((if (k == cQ.free && env.scope.kind == .function && env.kindOf n == some .cell)=true then (n,cQ.cell) else (n,k))::_)=_:=h
   rw[rQ hq,dk] at g;cases hx:x == n with
   | true=>rw[hx] at g;exact .inl g
   | false=>rw[hx] at g;exact ih g
theorem mB {env:Env}(hk:env.scope.kind= .function){x:Str}(hx:env.kindOf x=some .cell):∀{names:List (Str×cQ)},names.lookup x=some .free →
  (names.map λ(n,k)=>if (k == cQ.free && env.scope.kind == .function && env.kindOf n == some .cell) then (n,cQ.cell) else (n,k)).lookup x=some .cell
 | [],h=>by simp at h
 | (n,k)::r,h=>by
  have ih:= @mB env hk x hx r;show eN x ((if (k == cQ.free && env.scope.kind == .function && env.kindOf n == some .cell)=true then (n,cQ.cell) else (n,k))::_)=some cQ.cell;rw[dk] at h;cases hxn:x == n with
  | true =>
   rw[hxn] at h;have ek:k= .free:=bE h;have en:x=n:=eq_of_beq hxn;subst ek en;rw[rR (by rw[hk,hx];rfl),dk,beq_self_eq_true]
  | false =>
   rw[hxn] at h
   by_cases hq:(k == cQ.free && env.scope.kind == .function && env.kindOf n == some .cell)=true
   ·rw[rR hq,dk,hxn];exact ih h
   ·rw[rQ hq,dk,hxn];exact ih h
def PTs (X:Cx)(ifs:List Expr)(t:TT):Prop :=
 ∀(pins:List (aq×Obj)) (s:ay) (σ:St) (H:Hp) (Q:Bool→Hp→Prop),Inv X pins σ H s→t σ H Q →
  aW (br X.prog X.w) X.A (forIn ifs true λc r=>if r=true then do let ok ← isTrue c X.env (eP c X.env);fV (ForInStep.yield ok) else fV (ForInStep.yield r)) (TP X pins σ Q) X.xe s
def tNoIf:TT:=λ_ H Q=>Q true H
def fO {A B:Hp→Prop}(h:A H):tNoIf σ H λb H4=>if b=true then A H4 else B H4:=by
 show if true=true then A H else B H;rw[rR rfl];exact h
def gC:PTs X [] tNoIf:=λ_ _ _ H _ I h=>wpAny_tests_nil ⟨H,I,h⟩
def jZ {c:Expr}{t:TT}(h:PT X c t):PTs X [c] t:=λpins s σ H Q I q=>wpAny_tests_one (h pins s σ H Q I q)
def HOk.take (x:HOk P w H h)(hn:H a=none)(new:jk P w (upd H a o) h a o):HOk P w (upd H a o) h:=λb u e=>by
 by_cases hb:b=a
 ·subst hb;rw[aR] at e;cases e;exact new
 ·rw[bt hb] at e
  exact(x b u e).stay (λ_ _ _ q=>q) (λc q=>by rw[bt (bF q hn)];exact q) λc xs q=>by rw[bt (bF q hn)];exact q
def c9 (σ:St)(js:List Nat):St:=js.map λj=>(σ[j]?).getD none
def CompW (js:List Nat)(tt:TT)(te:TE)(σ:St)(Q:VK)(J:It)(H1:Hp):Prop:=∃W:Nat→Nat→List V→Hp→Prop,(∃m,W 0 m [] H1)∧∀i m ys H2,W i m ys H2 →
 (J.stop i H2∧∀D,H2 D=none→Q (.ref D) (upd H2 D (.lst ys))) ∨
 (J.go i H2∧ys.length<bf∧∃ N:List V→Hp→Prop,(∀ ys' H',N ys' H'→∃ m',m'<m∧W (i+1) m' ys' H')∧∀ x H3,J.yld i H2 x H3→tt (some x::c9 σ js) H3 fun b H4 =>
  if b=true then te (some x::c9 σ js) H4 fun y H5=>N (ys++[y]) H5 else N ys H4)
def tComp (wi:TI)(js:List Nat)(tt:TT)(te:TE):TE:=λσ H Q=>wi σ H λJ H1=>CompW js tt te σ Q J H1
abbrev lobj (us:List af)(n:Nat):Obj:={ cls:= .type "list",data:= .seq us.toArray n }
section
variable {R:Result→ay→Prop}
abbrev rN (prog:aX)(w:bz)(A:bT)(env:Env)(R:Result→ay→Prop):af→ay→Prop:=notedBy (br prog w) A env λx t=>R (.error x) t
def loop_any {it acc:af}(J:Nat→ay→Prop)
  (step:∀ k t,J k t→aW (br prog w) A (pyNext it) (fun r t1=>match r with
   | none=>R (.ok .next) t1
   | some v=>aW (br prog w) A (letOwnedTupleGo tg it v) (fun _ t2=>aW (br prog w) A (assign tg env v) (fun _ t3 =>
     aW (br prog w) A (forIn ifs true fun c b=>if b=true then do let z ← isTrue c env (eP c env);fV (ForInStep.yield z) else fV (ForInStep.yield b)) (fun z t4 =>
      if z=true then aW (br prog w) A (eP elt env) (λy t5=>aW (br prog w) A (call (.builtin "list.append") [acc,y]) (λ_ t6=>∃m,m<k∧J m t6) (rN prog w A env R) t5) (rN prog w A env R) t4
      else ∃ m,m<k∧J m t4) (rN prog w A env R) t3) (rN prog w A env R) t2) (rN prog w A env R) t1) (rN prog w A env R) t)
  (k:Nat) (h:J k s):jj (br prog w) A (.compLoop (.ListComp elt [⟨tg,iter,ifs,0⟩] scope pos) 0 it acc env) R s:=by
 apply codeAny_loop rfl J (λk t hJ=>?_) k h;show aW _ A ((compTurn (.ListComp elt [⟨tg,iter,ifs,0⟩] scope pos) 0 it acc env).onRaise (λy=>do noteFrame y env;theTreesLotGoes y)) _ _ t;apply wpAny_noted ?_;rw[compTurn_list];apply ao (wpAny_standAt (ao (cx (step k t hJ) (λr t1 q1=>?_) λ_ _ f=>f)));cases r with
 | none=>exact aP q1
 | some v =>
  apply ao (cx q1 (λ_ t2 q2=>?_) λ_ _ f=>f);apply ao (cx q2 (λ_ t3 q3=>?_) λ_ _ f=>f);apply ao (cx q3 (λz t4 q4=>?_) λ_ _ f=>f);cases z with
  | false=>exact aP ⟨rfl,q4⟩
  | true=>exact ao (ao (cx q4 (λy t5 q5=>ao (cx q5 (λ_ t6 q6=>aP (aP ⟨rfl,q6⟩)) λ_ _ f=>f)) λ_ _ f=>f))
end
def qQ (n:Nat)(g:TG)(js:List Nat)(tt:TT)(te:TE)(σ:St)(Q:VK)(J:It)(H1:Hp):Prop:=∃W:Nat→Nat→List V→Hp→Prop,(∃m,W 0 m [] H1)∧∀i m ys H2,W i m ys H2 →
 (J.stop i H2∧∀D,H2 D=none→Q (.ref D) (upd H2 D (.lst ys))) ∨
 (J.go i H2∧ys.length<bf∧∃ N:List V→Hp→Prop,(∀ ys' H',N ys' H'→∃ m',m'<m∧W (i+1) m' ys' H')∧∀ x H3,J.yld i H2 x H3→∀ v0:St,v0.length=n→g x (v0++c9 σ js) H3 fun σ4 H4 =>
  (∃ v1:St,v1.length=n∧σ4=v1++c9 σ js)∧tt σ4 H4 fun b H5=>if b=true then te σ4 H5 fun y H6=>N (ys++[y]) H6 else N ys H5)
def tCompT (wi:TI)(n:Nat)(g:TG)(js:List Nat)(tt:TT)(te:TE):TE:=λσ H Q=>wi σ H λJ H1=>qQ n g js tt te σ Q J H1
def comp_core {pins:List (aq×Obj)}{Q:VK}{use:Option (af→Sem Unit)}{R:af→ay→Prop}{xs:List Str}
  (hc:X.calm=true) (hi:PI X tg iter wi)
  (iL:∀y∈scope.names,y.2≠ .cell) (mJ:scope.kind= .function) (lG:∀y∈scope.names,y.2= .local→scope.names.lookup y.1=some .local)
  (hfr:∀y∈scope.names,y.2= .free→X.env.scope.names.lookup y.1=some .cell) (hjs:js.map (λj=>X.N[j]?)=fr.map some) (hfv:∀y∈fr,scope.names.lookup y=some .free)
  (hg:∀cl C s' H' ex,PG (gn X scope cl C (xs++fr) s' H' ex) tg g)
  (hb:∀cl C s' H' ex,PE (gn X scope cl C (xs++fr) s' H' ex) elt te∧PTs (gn X scope cl C (xs++fr) s' H' ex) ifs tt)
  (hCW:∀σ Q J H1,CW σ Q J H1→qQ xs.length g js tt te σ Q J H1) (I:Inv X pins σ H s) (h:wi σ H λJ H1=>CW σ Q J H1)
  (fin:∀(s4:ay) (H5:Hp) (D C:aq) (mC:Str→Option af),s4.heap.Ns C mC→Inv X pins σ H5 s4→H5 C=none→C≠X.env.locals→C ∉ X.fs→(∀p∈X.pn++pins,p.1≠C)→(∀y c,X.env.cells.lookup y=some c→c≠C)→X.s₀.heap.objs.size≤C→Q (.ref D) H5→compPost (br X.prog X.w) X.A X.xe use R (.ref D) C (.ok .next) s4)
  (hs:∀z,fU iter X.env z=fV z:=by intro _;rfl) :
  aW (br X.prog X.w) X.A (comprehension (.ListComp elt [⟨tg,iter,ifs,0⟩] scope pos) scope X.env pos' (newList []) false (eP iter X.env) use) R X.xe s:=by
 have hXk:X.env.scope.kind= .function:=I.ok.kind;obtain⟨cl,hclos,c1,c2⟩:=qL (scope:=scope) (env:=X.env) λy hy hk=>I.ok.has _ (.inl (hfr y hy hk))
 apply wpAny_comprehension_free rfl hs hclos mJ lG (thn (hi pins s σ H _ I h) λxv s1 h1=>thn h1 λitv s2 h2=>?_);obtain⟨it,fp,tn,J,H2,rfl,I2,T,st2,f2,hcw⟩:=h2;obtain⟨W,⟨m0,w0⟩,turn⟩:=hCW _ _ _ _ hcw;apply fk (wpAny_newFunctionEnv iL (by intro y hy;simp at hy) (λhA nsA sbA=>?_) mJ)
 dsimp only at nsA sbA ⊢
 generalize hG:s2.heap.push { cls:= .type "list",dict:=none,data:= .seq ([]:List af).toArray }=G at nsA sbA ⊢;have hC:G.objs.size=s2.heap.objs.size+1:=by rw[←hG,eE]
 have hDC:s2.heap.objs.size≠G.objs.size:=by rw[hC];exact bG (ki _)
 have small:∀b o,s2.heap.get? b=some o→b≠G.objs.size∧b≠s2.heap.objs.size:=λb o e=>⟨by rw[hC];exact bG (iG (aN e)),bG (aN e)⟩
 have old:∀b o,s2.heap.get? b=some o→hA.get? b=some o:=λb o e=>sbA.extBut b o (small b o e).1 (ax _ (hG ▸ ax _ e))
 have hDA:hA.get? s2.heap.objs.size=some (lobj [] 0):=sbA.extBut _ _ hDC (ax _ (hG ▸ aU _ rfl));have fpo:∀b∈fp,∃o,s2.heap.get? b=some o:=λb hb=>let ⟨o,e,_⟩:=T.obj _ _ st2 b hb;⟨o,e⟩
 have celo:∀y c,cl.lookup y=some c→∃o,s2.heap.get? c=some o:=λy c e=>let ⟨_,o,ho,_⟩:=I2.cell y c (c1 y c e);⟨o,ho⟩
 have ok':(gn X scope cl G.objs.size (xs++fr) s2 H2 fp).Ok:=by
  apply⟨I2.ok.mod,mJ,I2.ok.glob,I2.ok.blt,?_,λa b c e1 e2=>I2.ok.inj a b c (c1 a c e1) (c1 b c e2),λy hy=>?_,λ_ _ z=>rS z (by intro q;cases q),I2.ok.hd,I2.ok.frames,.inl rfl,λb hb=>?_,I2.bs,aQ I2.ok.bsz I2.sz,λb o e hb=>?_,λb hb hz=>?_,I2.stack,I2.stkFree⟩
  ·show s2.heap.objs.size≤G.objs.size
   rw[hC];exact Nat.le_succ _
  ·have hy:(relabel scope X.env).names.lookup y=some .cell∨(relabel scope X.env).names.lookup y=some .free:=hy
   have key:scope.names.lookup y=some .free:=by
    rcases hy with hy | hy
    ·rcases oz hy with q | ⟨q,_⟩
     ·exact rS rfl (iL _ (cB q))
     ·exact q
    ·rcases oz hy with q | ⟨q,_⟩
     ·exact q
     ·exact q
   have hm:=cB key;obtain⟨c,e⟩:=I.ok.has y (.inl (hfr _ hm rfl));exact⟨c,(c2 _ hm rfl).trans e⟩
  ·obtain⟨o,e⟩:=fpo b hb
   exact⟨(small b o e).1,λy c q=>(f2 b hb).2.2.2.2.1 y c (c1 y c q)⟩
  ·obtain⟨_,_,_,f3,_⟩:=f2 b hb
   rcases f3 with f3 | f3
   ·exact I2.ok.noex b o e f3
   ·exact rS (aS (aN e) (aQ I2.ok.bsz f3)) (gc _)
  ·obtain⟨_,n1,n2,_⟩:=f2 b hb
   exact(aH.mp (I2.stkSub b hz)).elim n1 n2
 have nofs:s2.heap.objs.size ∉ frs X.stack:=λhz=>by
  obtain⟨_,o,ho,_⟩:=I2.stack.mem hz;exact gc _ (aN ho)
 have lenB:(c9 σ js).length=fr.length:=by
  have e:=rX List.length hjs;rw[aa,aa] at e;unfold c9;rw[aa];exact e
 have start':∀t,Inv (gn X scope cl G.objs.size (xs++fr) s2 H2 fp) [(s2.heap.objs.size,lobj [] 0)] ((xs.map λ_=>none)++c9 σ js) H2 { s2 with heap:=hA,toks:=t }:=λt=>by
  apply⟨ok',rfl,I2.bare,Un.kept old,⟨_,nsA,λi y v e1 e2 e3=>?_⟩,λy c e=>?_,I2.hok.fresh (by rw[hC];exact Nat.le_succ _),λy c e=>I2.freeC y c (c1 y c e),λp hp=>?_,I2.hok.kept old,?_⟩
  ·by_cases hix:i<xs.length
   ·rw[cu (by rw[aa];exact hix),az,gE hix] at e2
    cases e2
   ·obtain⟨i,rfl⟩:∃j,i=xs.length+j:=⟨i - xs.length,⋯⟩
    have e1:(xs++fr)[xs.length+i]? =some y:=e1;have e1:fr[i]? =some y:=by rw[bp ⋯,show xs.length+i - xs.length=i by lia] at e1;exact e1
    have e2:(c9 σ js)[i]? =some (some v):=by rw[bp (by rw[aa];lia),aa,show xs.length+i - xs.length=i by lia] at e2;exact e2
    unfold c9 at e2;rw[az] at e2;obtain⟨j,ej,e2⟩:=aM.mp e2;have hN:X.N[j]? =some y:=by
     have q:=rX (λl=>l[i]?) hjs;simp only[az,ej,e1,gu] at q;exact bE q
    have hσ:σ[j]? =some (some v):=by
     cases z:σ[j]? with
     | none=>rw[z] at e2;cases e2
     | some w=>rw[z] at e2;exact rX some e2
    have hfree:=hfv y (aL e1);have hm:=cB hfree;have hce:X.env.scope.names.lookup y=some .cell:=hfr _ hm rfl;obtain⟨m,_,hl⟩:=I2.loc;obtain⟨u,ru,look⟩:=hl j y v hN hσ (.inr (.inl hce));apply⟨u,ru,.inr ⟨.inl (mB hXk hce hfree),?_⟩⟩
    rcases look with ⟨k,_⟩ | ⟨_,c,ec,ho⟩
    ·have k:X.env.scope.names.lookup y=some .local:=k
     rw[hce] at k;cases k
    ·obtain⟨o,ho,hd⟩:=ho
     exact⟨c,(c2 _ hm rfl).trans ec,o,old c o ho,hd⟩
  ·obtain⟨v,o,ho,hd⟩:=I2.cell y c (c1 y c e)
   exact⟨v,o,old c o ho,hd⟩
  ·have hp:p∈[(s2.heap.objs.size,lobj [] 0)]:=hp
   have e:=aw.mp hp;subst e;exact⟨hDA,I2.hok.fresh (aB _),hDC,nofs,λv z=>by cases z⟩
  ·show((xs.map λ_=>none)++c9 σ js).length=(xs++fr).length
   rw[av,av,aa,lenB]
 have fok:∀{us:List af} {n:Nat} {H':Hp},(∀b∈fp,H' b=none)→∀b∈fp,FpOk (gn X scope cl G.objs.size (xs++fr) s2 H2 fp) [(s2.heap.objs.size,lobj us n)] H' b:=λ{us n H'} hn b hb=>by
  obtain⟨o,e⟩:=fpo b hb;apply⟨hn b hb,(small b o e).1,λhz=>(aH.mp (I2.stkSub b hz)).elim (f2 b hb).2.1 (f2 b hb).2.2.1,.inl hb,λy c q=>(f2 b hb).2.2.2.2.1 y c (c1 y c q),λp hp=>?_⟩;have hp:p∈[(s2.heap.objs.size,lobj us n)]:=hp;have ep:=aw.mp hp;subst ep;exact λz=>(small b o e).2 z.symm
 have loop:∀sB:ay,(∃t,sB={ s2 with heap:=hA,toks:=t }) →
   jj (br X.prog X.w) X.A (.compLoop (.ListComp elt [⟨tg,iter,ifs,0⟩] scope pos) 0 (.ref it) (.ref s2.heap.objs.size) (compEnvC scope cl G.objs.size X.env))
    (compPost (br X.prog X.w) X.A X.xe use R (.ref s2.heap.objs.size) G.objs.size) sB:=by
  rintro sB ⟨t,rfl⟩;apply loop_any (λk s'=>∃i ys us n v0 H',v0.length=xs.length∧Inv (gn X scope cl G.objs.size (xs++fr) s2 H2 fp) [(s2.heap.objs.size,lobj us n)] (v0++c9 σ js) H' s'∧gz ys us∧ys.length≤bf∧tn i s'.heap∧(∀b∈fp,H' b=none)∧W i k ys H') ?_ m0
   ⟨0,[],[],0,xs.map λ_=>none,H2,aa ..,start' t,.nil,bu _,T.keep _ _ _ st2 λb hb o e=>old b o e,λb hb=>(f2 b hb).1,w0⟩
  rintro k s3 ⟨i,ys,us,n,v0,H3,hv0,I3,rv,hlen,st3,fr3,w3⟩
  rcases turn i k ys H3 w3 with ⟨stop,qn⟩ | ⟨go,hlt,N',hN',step⟩
  ·apply thn (T.done (gn X scope cl G.objs.size (xs++fr) s2 H2 fp) rfl rfl rfl hc i _ s3 _ H3 _ I3 (fok fr3) st3 stop) λr s4 ⟨hr,I4⟩=>?_
   subst hr;obtain⟨mC,hnC,_⟩:=id I4.loc;obtain⟨pD,nD,_,_,_⟩:=I4.pin (s2.heap.objs.size,lobj us n) (by show _∈[]++[_];simp);have pD:s4.heap.get? s2.heap.objs.size=some (lobj us n):=pD;have nD:H3 s2.heap.objs.size=none:=nD;have nC:H3 G.objs.size=none:=I4.free;have D2:∀b o,s2.heap.get? b=some o→b≠s2.heap.objs.size:=λb o e=>(small b o e).2
   have base4:Un (frs X.stack) fp H2 H3 s2.heap s4.heap:=I4.base;have u4:Un (frs X.stack) fp H2 (upd H3 s2.heap.objs.size (.lst ys)) s2.heap s4.heap :=
    {keep:=base4.keep
     slot:=base4.slot
     free:=λb o e nb hx'=>by rw[bt (D2 b o e)];exact base4.free b o e nb hx'
     there:=base4.there
     tups:=λb xs e=>by have q:=base4.tups b xs e;rw[bt (bF q nD)];exact q
     frzs:=λb o u e=>by have q:=base4.frzs b o u e;rw[bt (bF q nD)];exact q
     tbls:=fun b ps e=>by obtain ⟨more,q⟩:=base4.tbls b ps e;exact ⟨more,by rw [bt (bF q nD)];exact q⟩ }
   have I5:Inv X pins σ (upd H3 s2.heap.objs.size (.lst ys)) s4:=I2.call' (s':=s4) (ch:=fp) I4.os u4 (I4.hok.take nD ⟨hlen,us,n,rv,pD⟩) I4.bare λb hb=>by
    obtain⟨_,g1,_,g3,g4,g5⟩:=f2 b hb;exact⟨g3,g1,g4,g5⟩
   have locC:G.objs.size≠X.env.locals:=λz=>by
    obtain⟨_,⟨o,_,_,ho,_⟩,_⟩:=id I2.loc;exact(small _ o ho).1 z.symm
   have fsC:G.objs.size ∉ X.fs:=λhz=>by
    obtain⟨_,o,ho,_⟩:=I2.ok.funs.mem hz;have:=aS (aN ho) I2.sz;rw[hC] at this;exact gc _ (Nat.lt_of_succ_lt this)
   have pinX:∀p∈X.pn++pins,p.1≠G.objs.size:=λp hp=>(small _ _ (I2.pin p hp).1).1
   have nCu:(upd H3 s2.heap.objs.size (.lst ys)) G.objs.size=none:=by rw[bt (cK hDC)];exact nC
   apply fin s4 _ _ _ mC hnC I5 nCu locC fsC pinX (λy c q z=>?_) (aQ I2.sz (by rw[hC];exact Nat.le_succ _)) (qn _ nD);obtain⟨v,o,ho,_⟩:=I2.cell y c q;exact(small c o ho).1 z
  ·apply thn (T.item (gn X scope cl G.objs.size (xs++fr) s2 H2 fp) rfl rfl rfl hc i _ s3 _ H3 _ I3 (fok fr3) st3 go) λr s4 ⟨u,hr,h4⟩=>?_
   subst hr;apply thn h4 λ_ s5 ⟨v,H5,I5,r5,y5,st5,fr5⟩=>?_
   have I5':=I5.pinned (fok fr5) (T.obj _ _ st5);apply cx (hg cl G.objs.size s2 H2 fp _ s5 _ H5 v u _ I5' r5 (step v H5 y5 v0 hv0)) (λ_ s6 ⟨σ6,H6,I6,⟨w1,hw1,e6⟩,q6⟩=>?_) λ_ _ f=>f.elim
   subst e6;apply cx ((hb cl G.objs.size s2 H2 fp).2 _ s6 _ H6 _ I6 q6) (λb s7 ⟨H7,I7,q7⟩=>?_) λ_ _ f=>f.elim
   have back:∀{s8:ay} {H8:Hp},Inv (gn X scope cl G.objs.size (xs++fr) s2 H2 fp) ([(s2.heap.objs.size,lobj us n)]++pinsAt fp s5.heap) (w1++c9 σ js) H8 s8→tn (i+1) s8.heap∧∀b∈fp,H8 b=none:=λ{s8 H8} I8=>by
    apply⟨T.keep _ _ _ st5 λb hb o e=>(I8.pin (b,o) (aE _ (aE _ (mN hb e)))).1,λb hb=>?_⟩;obtain⟨o,e,_⟩:=T.obj _ _ st5 b hb;exact(I8.pin (b,o) (aE _ (aE _ (mN hb e)))).2.1
   cases b with
   | false =>
    obtain⟨m',hm,w7⟩:=hN' _ _ q7;obtain⟨t7,n7⟩:=back I7;exact⟨m',hm,i+1,ys,us,n,w1,H7,hw1,I7.unpinned,rv,hlen,t7,n7,w7⟩
   | true =>
    apply cx ((hb cl G.objs.size s2 H2 fp).1 _ s7 _ H7 _ I7 q7) (λy' s8 ⟨y,H8,I8,r8,q8⟩=>?_) λ_ _ f=>f.elim
    obtain⟨m',hm,w8⟩:=hN' _ _ q8;obtain⟨t8,n8⟩:=back I8;have I8':=I8.unpinned;obtain⟨pD,nD,_,_,_⟩:=I8'.pin (s2.heap.objs.size,lobj us n) (by show _∈[]++[_];simp);have pD:s8.heap.get? s2.heap.objs.size=some (lobj us n):=pD;have nD:H8 s2.heap.objs.size=none:=nD;apply append_at pD (λh9 hs9 e9=>?_) (by rw[aK,←rv.length];exact hlen);have e9:h9.get? s2.heap.objs.size=some (lobj (us++[y']) (n+1)):=by rw[e9];simp[lobj]
    have J0:Inv (gn X scope cl G.objs.size (xs++fr) s2 H2 fp) [] (w1++c9 σ js) H8 s8:=I8'.pins_of λp hp=>rS hp ∅
    have J9:Inv (gn X scope cl G.objs.size (xs++fr) s2 H2 fp) [] (w1++c9 σ js) H8 { s8 with heap:=h9,toks:=s8.toks } :=
     J0.turned (it:=s2.heap.objs.size) (fun b o hb' e=>hs9.extBut b o hb' e) nD hDC (.inr (aB _)) (fun y0 c q z=>by
      obtain ⟨o,e⟩:=celo y0 c q;exact (small c o e).2 z) fun p hp=>rS (show p∈([]:List (aq×Obj)) from hp) ∅
    apply ⟨m',hm,i+1,ys++[y],us++[y'],n+1,w1,H8,hw1,J9.pins_of fun p hp=>?_,rv.append (.cons r8 .nil),(by rw [av,cU];exact hlt),T.keep _ _ _ t8 fun b hb' o e=>hs9.extBut b o (by
     obtain ⟨o',e'⟩:=fpo b hb';exact (small b o' e').2) e,n8,w8⟩
    have ep:=aw.mp hp;subst ep;exact⟨e9,nD,hDC,nofs,λv z=>by cases z⟩
 exact codeAny_compStart_list (loop _ ⟨_,rfl⟩) (T.self _ 0 _ _ _ (T.keep _ _ _ st2 λb hb o e=>old b o e) (loop _ ⟨_,rfl⟩))
def pe_compC {xs:List Str}
  (hc:X.calm=true) (hi:PI X tg iter wi)
  (iL:∀y∈scope.names,y.2≠ .cell) (mJ:scope.kind= .function) (lG:∀y∈scope.names,y.2= .local→scope.names.lookup y.1=some .local)
  (hfr:∀y∈scope.names,y.2= .free→X.env.scope.names.lookup y.1=some .cell) (hjs:js.map (λj=>X.N[j]?)=fr.map some) (hfv:∀y∈fr,scope.names.lookup y=some .free)
  (hg:∀cl C s' H' ex,PG (gn X scope cl C (xs++fr) s' H' ex) tg g)
  (hb:∀cl C s' H' ex,PE (gn X scope cl C (xs++fr) s' H' ex) elt te∧PTs (gn X scope cl C (xs++fr) s' H' ex) ifs tt)
  (hCW:∀σ Q J H1,CW σ Q J H1→qQ xs.length g js tt te σ Q J H1) (hs:∀z,fU iter X.env z=fV z:=by intro _;rfl) :
  PE X (.ListComp elt [⟨tg,iter,ifs,0⟩] scope pos) (λσ H Q=>wi σ H λJ H1=>CW σ Q J H1):=by
 intro pins s σ H Q I h;rw[eval_ListComp];exact comp_core (use:=none) (R:=EP X pins σ Q) hc hi iL mJ lG hfr hjs hfv hg hb hCW I h (λs4 H5 D C mC n I5 nC lC fC pC cC sC q=>⟨mC,n,λh' hsb=>⟨.ref D,H5,I5.turned (t':=s4.toks) (it:=C) (λb o hb' e=>hsb.extBut b o hb' e) nC lC (.inr sC) cC pC,rfl,q⟩⟩) hs
def compW_T {Q:VK}{J:It}(h:CompW js tt te σ Q J H1):qQ 1 (oG 0) js tt te σ Q J H1:=by
 obtain⟨W,w0,turn⟩:=h;apply⟨W,w0,λi m ys H2 hw=>?_⟩
 rcases turn i m ys H2 hw with h | ⟨h1,h2,N,h3,h4⟩
 ·exact .inl h
 ·apply .inr ⟨h1,h2,N,h3,λx H3 hy v0 hv=>?_⟩
  obtain⟨w,rfl⟩:∃w,v0=[w]:=by
   obtain _ | ⟨w,v0⟩:=v0
   ·cases hv
   ·obtain _ | ⟨z,v0⟩:=v0
    ·exact⟨w,rfl⟩
    ·cases hv
  exact⟨⟨[some x],rfl,rfl⟩,h4 x H3 hy⟩
def gi {px:Pos}
  (hc:X.calm=true) (hi:PI X (.Name x px) iter wi)
  (iL:∀y∈scope.names,y.2≠ .cell) (mJ:scope.kind= .function) (lG:∀y∈scope.names,y.2= .local→scope.names.lookup y.1=some .local) (hx:scope.names.lookup x=some .local)
  (hfr:∀y∈scope.names,y.2= .free→X.env.scope.names.lookup y.1=some .cell) (hnd:(x::fr).Nodup) (hjs:js.map (λj=>X.N[j]?)=fr.map some) (hfv:∀y∈fr,scope.names.lookup y=some .free)
  (hb:∀cl C s' H' ex,PE (gn X scope cl C (x::fr) s' H' ex) elt te∧PTs (gn X scope cl C (x::fr) s' H' ex) ifs tt)
  (hs:∀z,fU iter X.env z=fV z:=by intro _;rfl) :
  PE X (.ListComp elt [⟨.Name x px,iter,ifs,0⟩] scope pos) (tComp wi js tt te) :=
 pe_compC (xs:=[x]) (g:=oG 0) hc hi iL mJ lG hfr hjs hfv (λ_ _ _ _ _=>oE hnd rfl (.inl (eV hx)) (.inr (eV hx))) hb (λ_ _ _ _ h=>compW_T h) hs
def jF {Q:VK}(Pv:Nat→List V→Hp→Prop)(h0:Pv 0 [] H)(hl:∀i ys H,i≤xs.length→Pv i ys H→SqT K H a xs∧ys.length≤i)(hz:xs.length≤bf)
  (hs:∀i x ys H,xs[i]? =some x→Pv i ys H→tt (some x::c9 σ js) H λb H4=>if b=true then te (some x::c9 σ js) H4 λy H5=>Pv (i+1) (ys++[y]) H5 else Pv (i+1) ys H4)
  (hd:∀ys H,Pv xs.length ys H→∀D,H D=none→Q (.ref D) (upd H D (.lst ys))):CompW js tt te σ Q (Itt K a) H:=by
 apply⟨λi m ys H=>i≤xs.length∧m=xs.length - i∧Pv i ys H,⟨_,bu _,rfl,h0⟩,λi m ys H2 ⟨hi,hm,hp⟩=>?_⟩;obtain⟨hq,hy⟩:=hl i ys H2 hi hp
 by_cases e:i=xs.length
 ·subst e
  exact .inl ⟨⟨xs,hq,aB _⟩,hd ys H2 hp⟩
 ·have hlt:i<xs.length:=fE hi e
  apply .inr ⟨⟨xs,_,hq,gE hlt⟩,⋯,Pv (i+1),λys' H' hp'=>⟨xs.length - (i+1),⋯,⋯,rfl,hp'⟩,λx H3 hy3=>?_⟩;obtain⟨e3,hx⟩:=hy3;subst e3;exact hs i x ys H3 (hx xs hq) hp
def nextT_item {j t:aq}{its}{v:af}(jt:s.heap.IsTupleIter j t i)(tt:s.heap.IsTuple t its)(hv:its[i]? =some v)
  (q:∀g,g.IsTupleIter j t (i+1)→cH j s.heap g→Q v { s with heap:=g }):aW (br prog w) A (cT (.ref j)) Q E s:=by
 obtain⟨ob,e1,e2,e3⟩:=id jt;obtain⟨ot,g1,_,k,g2⟩:=tt;unfold cT;apply ao (dJ (name:=cj "__next__") jt.typeIs i5 (fJ i5 jt.typeIs F.entry_tuple_iterator_next ?_ (F.args_tuple_iterator_next_1 _)));show aW _ _ (field (.ref j) 0 >>= _) _ _ s;apply ao (cS e1 e3 (x:= .ref t) rfl ?_);show aW _ _ (ite ((af.ref t == af.none)=true) _ _) _ _ s;rw[rQ (λz:(af.ref t == af.none)=true=>bc z)];show aW _ _ (field (.ref j) 1 >>= _) _ _ s;apply ao (cS e1 e3 (x:= .int i 0) rfl ?_);show aW _ _ (seqItems? (.ref t) >>= _) _ _ s;apply ao (fR g1 g2 ?_);simp only[cA,hv];apply ao (wpAny_setField e1 e3 ∅ (aP ⟨v,rfl,aP (q _ ?_ (gv ..))⟩));exact⟨_,bO.get?_update_self _ e1 (Obj.isFreed_of_fields (Obj.data_mapFields e3 _)),(Obj.cls_mapFields ..).trans e2,by rw[Obj.data_mapFields e3];simp[rawInt]⟩
def nextT_end {j t:aq}{its}(hh:A.handled=none)(jt:s.heap.IsTupleIter j t i)(tt:s.heap.IsTuple t its)(hv:its[i]? =none)
  (q:∀g x,bO.ExtBut j s.heap g→(∃o,g.get? x=some o∧o.cls= .type "StopIteration")→E (.ref x) { s with heap:=g }):aW (br prog w) A (cT (.ref j)) Q E s:=by
 obtain⟨ob,e1,e2,e3⟩:=id jt;obtain⟨ot,g1,_,k,g2⟩:=tt;unfold cT;apply ao (dJ (name:=cj "__next__") jt.typeIs i5 (fJ i5 jt.typeIs F.entry_tuple_iterator_next ?_ (F.args_tuple_iterator_next_1 _)));show aW _ _ (field (.ref j) 0 >>= _) _ _ s;apply ao (cS e1 e3 (x:= .ref t) rfl ?_);show aW _ _ (ite ((af.ref t == af.none)=true) _ _) _ _ s;rw[rQ (λz:(af.ref t == af.none)=true=>bc z)];show aW _ _ (field (.ref j) 1 >>= _) _ _ s;apply ao (cS e1 e3 (x:= .int i 0) rfl ?_);show aW _ _ (seqItems? (.ref t) >>= _) _ _ s;apply ao (fR g1 g2 ?_);simp only[cA,hv];apply ao (wpAny_rule (ao (wpAny_setField e1 e3 ∅ ?_)));show aW _ _ (newExc (.type "StopIteration") [] >>= _) _ _ _;apply ao ?_;simp only[newExc,newTuple];apply ao (fk ?_ (by size_fits));apply ao (m:=firstArgMember _ _) (wpAny_of_eq (a:=af.none) (by first | rfl | (unfold firstArgMember;rfl)) ?_);apply fk ?_ (by size_fits);simp only[raiseNew];apply ao (wpAny_handled ?_)
 first | rw[show A.in1.handled=none from hh] | rw[hh]
 exact ao (aP (wpAny_throw (q _ _ (((gv ..).extBut.push _).push _) ⟨_,aU _ rfl,rfl⟩)))
def Inv.turnAll {pins:List (aq×Obj)}{g:bO}(I:Inv X pins σ H s)(hf:∀b∈ch,FpOk X pins H b)
  (k:∀b o,b ∉ ch→s.heap.get? b=some o→g.get? b=some o) (hH:∀b u,H b=some u→H' b=some u) (hN:∀b o,s.heap.get? b=some o→H b=none→H' b=none) (hok:HOk X.prog X.w H' g):Inv X pins σ H' { s with heap:=g }:=by
 apply I.step (g':=s.gens) (d':=s.drawn) (t':=s.toks) (ch:=ch) (λb hb=>?_) (λb o _ _ hc e _=>k b o hc e) (λb o _ _ hc e _=>⟨o.slots,k b o hc e⟩) (λb o _ e n=>hN b o e n)
  (λb o hc e=>⟨o,k b o hc e⟩) (λb xs e=>hH b _ e) (λb o u e=>hH b _ e) (λb ps e=>⟨#[],by rw[hH b _ e];simp⟩) (λm hm=>?_) hok I.bare
 ·obtain⟨_,f1,_,f3,f4,f5⟩:=hf b hb
  exact⟨f3,f1,f4,f5⟩
 ·obtain⟨o,es,ep,ho,r⟩:=hm
  exact⟨o,es,ep,k _ o (λhb=>(hf _ hb).2.1 rfl) ho,r⟩
def bD.put (e:bD H H1){p:aq}(h:H1 p=none):bD H (upd H1 p o):=λb u q=>by rw[bt (bF (e b u q) h)];exact e b u q
section
variable {pins:List (aq×Obj)}
def Inv.big (I:Inv X pins σ H s):i9<s.heap.objs.size:=by
 have h:bL<s.heap.objs.size:=(I.mod.glob.keeps I.bk).lt;exact Nat.lt_trans ↥0 h
def dk_empty (h:bO)(hb:i9<h.objs.size):jk P w H (h.push { cls:= .type "dict",data:= .dict #[] }) h.objs.size (.dK []) :=
 ⟨bu _,beq_eq_false_iff_ne.mpr (cK (bG hb)),[],.nil,bO.DictOf.new h⟩
def tDNewK:TE:=λ_ H Q=>∀p,H p=none→Q (.ref p) (upd H p (.dK []))
def pe_dnewK:PE X (.Dict [] [] pos) tDNewK:=λpins s σ H Q I h =>
 wpAny_Dict_empty ⟨.ref s.heap.objs.size,_,I.laid (a:=s.heap.objs.size) (o:= .dK []) (t':=s.toks) (λ_ _ q=>ax _ q) (aB _) (dk_empty s.heap I.big),rfl,h _ (I.hok.fresh (aB _))⟩
end
def PE.imp {t t':TE}(h:PE X e t)(i:∀σ H Q,t' σ H Q→t σ H Q):PE X e t':=λpins s σ H Q I q=>h pins s σ H Q I (i σ H Q q)
def OpR.imp {f:af→af→Sem af}{r':R2}(h:OpR X f r)(i:∀x y H Q,r' x y H Q→r x y H Q):OpR X f r':=λpins s σ H x y v u Q I rx ry q=>h pins s σ H x y v u Q I rx ry (i x y H Q q)
def jV.imp {f:af}{r r':List V→Hp→VK→Prop}(h:jV X f r)(i:∀xs H Q,r' xs H Q→r xs H Q):jV X f r':=λpins s σ H xs us Q I rv q=>h pins s σ H xs us Q I rv (i xs H Q q)
def tACut (t:TA):TA:=λσ H R=>∃R':List V→Hp→Prop,(∀xs H,R' xs H→R xs H)∧t σ H R'
def PA.cut (h:PA X es t):PA X es (tACut t):=λpos pins s σ H Q I ⟨R',i,q⟩ =>
 thn (h pos pins s σ H R' I q) λus s' ⟨vs,H',I',rv,q'⟩=>⟨vs,H',I',rv,i _ _ q'⟩
def New (H:Hp)(o:HO)(Q:VK):Prop:=∀p H',bD H H'→H' p=some o→Q (.ref p) H'
def New.of {Q:VK}(h:New H o Q):∀p,H p=none→Q (.ref p) (upd H p o):=λp hp=>h p _ (bD.put (bD.refl H) hp) aR
def tTupA (t:TA):TE:=λσ H Q=>t σ H λxs H1=>xs.length≤bf∧New H1 (.tup xs) Q
def tLstA (t:TA):TE:=λσ H Q=>t σ H λxs H1=>xs.length≤bf∧New H1 (.lst xs) Q
def dG {x1}(h:PA X es t):PE X (.Tuple es x1 pos) (tTupA t):=(pe_tup h.cut).imp λ_ _ _ q=>⟨_,λ_ _ z=>⟨z.1,z.2.of⟩,q⟩
def oF (h:PA X es t):PE X (.List es pos) (tLstA t):=(ji h.cut).imp λ_ _ _ q=>⟨_,λ_ _ z=>⟨z.1,z.2.of⟩,q⟩
def op_catL:OpR X (iN .Add) (λx y H Q=>∃l b xs zs,x= .ref l∧y= .ref b∧H l=some (.lst xs)∧H b=some (.lst zs)∧xs.length+zs.length≤bf∧New H (.lst (xs++zs)) Q) :=
 op_cat.imp λ_ _ _ _ ⟨l,b,xs,zs,e1,e2,e3,e4,e5,q⟩=>⟨l,b,xs,zs,e1,e2,e3,e4,e5,q.of⟩
inductive Dt where
 | non | bl (b:Bool) | int (i:Int) | str (x:Str) | tup (ds:List Dt) | oth (T:String)
mutual
inductive IsD (H:Hp):V→Dt→Prop where
 | non:IsD H .non .non
 | bl (b:Bool):IsD H (.bl b) (.bl b)
 | int (i:Int):IsD H (.int i) (.int i)
 | str (x:Str):IsD H (.str x) (.str x)
 | tup {a:aq} {xs:List V} {ds:List Dt} (h:H a=some (.tup xs)) (r:eM H xs ds):IsD H (.ref a) (.tup ds)
 | lst {a:aq} {xs:List V} (h:H a=some (.lst xs)):IsD H (.ref a) (.oth "list")
 | dct {a:aq} {kvs:List (Key×V)} (h:H a=some (.dK kvs)):IsD H (.ref a) (.oth "dict")
inductive eM (H:Hp):List V→List Dt→Prop where
 | nil:eM H [] []
 | cons {x:V} {d:Dt} {xs:List V} {ds:List Dt} (h:IsD H x d) (r:eM H xs ds):eM H (x::xs) (d::ds)
end
mutual
theorem IsD.same {H H':Hp}(e:bD H H'):∀{v:V} {d:Dt},IsD H v d→IsD H' v d
 | _,_,.non=> .non
 | _,_,.bl b=> .bl b
 | _,_,.int i=> .int i
 | _,_,.str x=> .str x
 | _,_,.tup h r=> .tup (e _ _ h) (eM.same e r)
 | _,_,.lst h=> .lst (e _ _ h)
 | _,_,.dct h=> .dct (e _ _ h)
theorem eM.same {H H':Hp}(e:bD H H'):∀{vs:List V} {ds:List Dt},eM H vs ds→eM H' vs ds
 | _,_,.nil=> .nil
 | _,_,.cons h r=> .cons (IsD.same e h) (eM.same e r)
end
mutual
theorem IsD.inj {H:Hp}:∀{v:V} {d e:Dt},IsD H v d→IsD H v e→d=e
 | _,_,_,.non,.non=>rfl
 | _,_,_,.bl _,.bl _=>rfl
 | _,_,_,.int _,.int _=>rfl
 | _,_,_,.str _,.str _=>rfl
 | _,_,_,.tup h r,q=>by
  cases q with
  | tup h' r'=>rw[h] at h';cases h';rw[eM.inj r r']
  | lst h'=>rw[h] at h';cases h'
  | dct h'=>rw[h] at h';cases h'
 | _,_,_,.lst h,q=>by
  cases q with
  | tup h' r'=>rw[h] at h';cases h'
  | lst h'=>rfl
  | dct h'=>rw[h] at h';cases h'
 | _,_,_,.dct h,q=>by
  cases q with
  | tup h' r'=>rw[h] at h';cases h'
  | lst h'=>rw[h] at h';cases h'
  | dct h'=>rfl
theorem eM.inj {H:Hp}:∀{vs:List V} {ds es:List Dt},eM H vs ds→eM H vs es→ds=es
 | _,_,_,.nil,.nil=>rfl
 | _,_,_,.cons h r,.cons h' r'=>by rw[IsD.inj h h',eM.inj r r']
end
theorem eM.length:∀{xs:List V} {ds:List Dt},eM H xs ds→xs.length=ds.length
 | _,_,.nil=>rfl
 | _,_,.cons _ r=>by rw[aV,aV,eM.length r]
theorem eM.get:∀{xs:List V} {ds:List Dt} {i:Nat} {x:V},eM H xs ds→xs[i]? =some x→∃d,ds[i]? =some d∧IsD H x d
 | _,_,_,_,.nil,e=>by simp at e
 | _,_,0,_,.cons h _,e=>by simp at e;subst e;exact⟨_,rfl,h⟩
 | _,_,i+1,x,.cons _ r,e=>by
  obtain⟨d,h1,h2⟩:=eM.get (i:=i) (x:=x) r (by simpa using e);exact⟨d,by simpa using h1,h2⟩
theorem eM.at:∀{xs:List V} {ds:List Dt} {i:Nat} {d:Dt},eM H xs ds→ds[i]? =some d→∃x,xs[i]? =some x∧IsD H x d
 | _,_,_,_,.nil,e=>by simp at e
 | _,_,0,_,.cons h _,e=>by simp at e;subst e;exact⟨_,rfl,h⟩
 | _,_,i+1,d,.cons _ r,e=>by
  obtain⟨x,h1,h2⟩:=eM.at (i:=i) (d:=d) r (by simpa using e);exact⟨x,by simpa using h1,h2⟩
theorem eM.append:∀{xs ys:List V} {ds es:List Dt},eM H xs ds→eM H ys es→eM H (xs++ys) (ds++es)
 | _,_,_,_,.nil,s=>s
 | _,_,_,_,.cons h r,s=> .cons h (eM.append r s)
theorem eM.ints:∀(ns:List Int),eM H (ns.map V.int) (ns.map Dt.int)
 | []=> .nil
 | n::r=> .cons (.int n) (eM.ints r)
theorem eM.ints_of:∀{xs:List V} {ns:List Int},eM H xs (ns.map Dt.int)→xs=ns.map V.int
 | _,[],.nil=>rfl
 | _,n::r,.cons h q=>by cases h;rw[eM.ints_of q];rfl
def IsD.tup_of {ds:List Dt}(h:IsD H v (.tup ds)):∃a xs,v= .ref a∧H a=some (.tup xs)∧eM H xs ds:=by
 cases h with
 | tup h r=>exact⟨_,_,rfl,h,r⟩
def Dt.ty:Dt→String
 | .non => "NoneType" | .bl _ => "bool" | .int _ => "int" | .str _ => "str" | .tup _ => "tuple" | .oth T=>T
def IsD.tyn {d:Dt}(h:IsD H v d):tyn H v=some d.ty:=by
 cases h with
 | tup h r=>simp only[L2.tyn];rw[h];rfl
 | lst h=>simp only[L2.tyn];rw[h];rfl
 | dct h=>simp only[L2.tyn];rw[h];rfl
 | _=>rfl
mutual
def eqD:Dt→Dt→Bool
 | .non,.non=>true
 | .bl a,.bl b=>a == b
 | .bl a,.int b=>(if a then 1 else 0) == b
 | .int a,.bl b=>a == (if b then 1 else 0)
 | .int a,.int b=>a == b
 | .str a,.str b=>a == b
 | .tup xs,.tup ys=>eqDs xs ys
 | _,_=>false
def eqDs:List Dt→List Dt→Bool
 | [],[]=>true
 | x::xs,y::ys=>eqD x y && eqDs xs ys
 | _,_=>false
end
mutual
def pl:Dt→Bool
 | .oth _=>false
 | .tup ds=>pls ds
 | _=>true
def pls:List Dt→Bool
 | []=>true
 | d::ds=>pl d && pls ds
end
mutual
def dep:Dt→Nat
 | .tup ds=>deps ds+1
 | _=>0
def deps:List Dt→Nat
 | []=>0
 | d::ds=>max (dep d) (deps ds)
end
mutual
theorem eqD_refl:∀d:Dt,pl d=true→eqD d d=true
 | .non,_=>by unfold eqD;rfl
 | .bl b,_=>by unfold eqD;exact beq_self_eq_true b
 | .int i,_=>by unfold eqD;exact beq_self_eq_true i
 | .str x,_=>by unfold eqD;exact beq_self_eq_true x
 | .tup ds,h=>by
  unfold eqD;unfold pl at h;exact eqDs_refl ds h
 | .oth T,h=>by unfold pl at h;cases h
theorem eqDs_refl:∀ds:List Dt,pls ds=true→eqDs ds ds=true
 | [],_=>by unfold eqDs;rfl
 | d::ds,h=>by
  unfold eqDs;unfold pls at h;rw[cI] at h;rw[eqD_refl d h.1,eqDs_refl ds h.2];rfl
end
def eqD_tup (xs ys:List Dt):eqD (.tup xs) (.tup ys)=eqDs xs ys:=by unfold eqD;rfl
theorem pH:∀(ds es:List Dt),eqDs ds es=((aG (min ds.length es.length)).all (λj=>eqD (ds.getD j .non) (es.getD j .non)) && ds.length == es.length)
 | [],[]=>by unfold eqDs;rfl
 | [],e::es=>by unfold eqDs;simp
 | d::ds,[]=>by unfold eqDs;simp
 | d::ds,e::es=>by
  unfold eqDs;rw[pH ds es];rw[aV,aV];have h1:min (ds.length+1) (es.length+1)=min ds.length es.length+1:=by lia
  rw[h1,List.range_succ_eq_map,List.all_cons,List.all_map];have h2:((ds.length+1) == (es.length+1))=(ds.length == es.length):=by rw[kM];simp
  rw[h2,Bool.and_assoc];rfl
theorem nk:∀{ds:List Dt} {i:Nat} {d:Dt},pls ds=true→ds[i]? =some d→pl d=true
 | [],_,_,_,e=>by simp at e
 | d::ds,0,_,h,e=>by
  unfold pls at h;rw[cI] at h;simp at e;subst e;exact h.1
 | d::ds,i+1,x,h,e=>by
  unfold pls at h;rw[cI] at h;exact nk (i:=i) h.2 (by simpa using e)
theorem pI:∀{ds:List Dt} {i:Nat} {d:Dt},ds[i]? =some d→dep d≤deps ds
 | [],_,_,e=>by simp at e
 | d::ds,0,_,e=>by
  simp at e;subst e;unfold deps;exact Nat.le_max_left _ _
 | d::ds,i+1,x,e=>by
  have:=pI (ds:=ds) (i:=i) (d:=x) (by simpa using e);unfold deps;exact aQ this (Nat.le_max_right _ _)
section
variable {pins:List (aq×Obj)}
def Inv.tupD {ds:List Dt}(I:Inv X pins σ H s)(h:IsD H v (.tup ds))(r:gL v u):∃a its,u= .ref a∧v= .ref a∧s.heap.IsTuple a its.toArray∧∃xs,gz xs its∧eM H xs ds∧its.length=ds.length:=by
 obtain⟨a,xs,rfl,ha,hd⟩:=h.tup_of;cases(show u=af.ref a from r);obtain⟨its,rv,p,_⟩:=I.tuple (SqT.of (K:=X.K) ha);exact⟨a,its,rfl,rfl,p,xs,rv,hd,by rw[←rv.length,hd.length]⟩
def eqAt_D:∀(n:Nat) {A:bT} {x y:V} {u v:af} {d e:Dt},dep d≤n→A.units+n<cLine→Inv X pins σ H s→IsD H x d→IsD H y e→gL x u→gL y v→pl d=true→pl e=true→SeqAt.EqAt A s u v (eqD d e):=by
 intro n
 induction n with
 | zero =>
  intro A x y u v d e hd hu I ix iy rx ry px py;cases ix with
  | tup h r=>unfold dep at hd;lia
  | lst h=>unfold pl at px;cases px
  | dct h=>unfold pl at px;cases px
  | non =>
   cases iy with
   | tup h' r' =>
    obtain⟨a,its,rfl,_,hb,_⟩:=I.tupD (.tup h' r') ry;cases rx;exact SeqAt.EqAt.none_tuple hb ⋯
   | lst h'=>unfold pl at py;cases py
   | dct h'=>unfold pl at py;cases py
   | non=>exact jQ rx ry rfl rfl
   | bl b=>exact jQ rx ry rfl rfl
   | int b=>exact jQ rx ry rfl rfl
   | str b=>exact jQ rx ry rfl rfl
  | bl b =>
   cases iy with
   | tup h' r' =>
    obtain⟨a,its,rfl,_,hb,_⟩:=I.tupD (.tup h' r') ry;cases rx;exact SeqAt.EqAt.bool_tuple b hb ⋯
   | lst h'=>unfold pl at py;cases py
   | dct h'=>unfold pl at py;cases py
   | non=>exact jQ rx ry rfl rfl
   | bl b=>exact jQ rx ry rfl rfl
   | int b=>exact jQ rx ry rfl rfl
   | str b=>exact jQ rx ry rfl rfl
  | int i =>
   cases iy with
   | tup h' r' =>
    obtain⟨a,its,rfl,_,hb,_⟩:=I.tupD (.tup h' r') ry;obtain⟨t,rfl⟩:=rx;exact SeqAt.EqAt.int_tuple i t hb ⋯
   | lst h'=>unfold pl at py;cases py
   | dct h'=>unfold pl at py;cases py
   | non=>exact jQ rx ry rfl rfl
   | bl b=>exact jQ rx ry rfl rfl
   | int b=>exact jQ rx ry rfl rfl
   | str b=>exact jQ rx ry rfl rfl
  | str z =>
   cases iy with
   | tup h' r' =>
    obtain⟨a,its,rfl,_,hb,_⟩:=I.tupD (.tup h' r') ry;obtain⟨t,rfl⟩:=rx;exact SeqAt.EqAt.str_tuple z t hb ⋯
   | lst h'=>unfold pl at py;cases py
   | dct h'=>unfold pl at py;cases py
   | non=>exact jQ rx ry rfl rfl
   | bl b=>exact jQ rx ry rfl rfl
   | int b=>exact jQ rx ry rfl rfl
   | str b=>exact jQ rx ry rfl rfl
 | succ n ih =>
  intro A x y u v d e hd hu I ix iy rx ry px py
  by_cases hz:dep d=0
  ·
   cases ix with
   | tup h r=>unfold dep at hz;lia
   | lst h=>unfold pl at px;cases px
   | dct h=>unfold pl at px;cases px
   | non=>exact ih (by rw[hz];exact bu _) ⋯ I .non iy rx ry px py
   | bl b=>exact ih (by rw[hz];exact bu _) ⋯ I (.bl b) iy rx ry px py
   | int i=>exact ih (by rw[hz];exact bu _) ⋯ I (.int i) iy rx ry px py
   | str z=>exact ih (by rw[hz];exact bu _) ⋯ I (.str z) iy rx ry px py
  ·cases ix with
   | lst h=>unfold pl at px;cases px
   | dct h=>unfold pl at px;cases px
   | non=>exact rS (by unfold dep;rfl) hz
   | bl b=>exact rS (by unfold dep;rfl) hz
   | int i=>exact rS (by unfold dep;rfl) hz
   | str z=>exact rS (by unfold dep;rfl) hz
   | tup h r =>
    rename_i a xs ds;cases(show u=af.ref a from rx);obtain⟨its,rv,p,_⟩:=I.tuple (SqT.of (K:=X.K) h);have p:s.heap.IsTuple a its.toArray:=p;cases iy with
    | lst h'=>unfold pl at py;cases py
    | dct h'=>unfold pl at py;cases py
    | non=>cases ry;exact SeqAt.EqAt.tuple_none p ⋯
    | bl b=>cases ry;exact SeqAt.EqAt.tuple_bool b p ⋯
    | int b=>obtain⟨t,rfl⟩:=ry;exact SeqAt.EqAt.tuple_int b t p ⋯
    | str b=>obtain⟨t,rfl⟩:=ry;exact SeqAt.EqAt.tuple_str b t p ⋯
    | tup h' r' =>
     rename_i b ys es;cases(show v=af.ref b from ry)
     by_cases hab:a=b
     ·subst hab
      have e1:Dt.tup ds=Dt.tup es:=IsD.inj (.tup h r) (.tup h' r');rw[e1];rw[eqD_refl _ py];exact SeqAt.EqAt.same _
     ·obtain⟨its2,rv2,p2,_⟩:=I.tuple (SqT.of (K:=X.K) h')
      have p2:s.heap.IsTuple b its2.toArray:=p2;have l1:its.length=ds.length:=by rw[←rv.length,r.length]
      have l2:its2.length=es.length:=by rw[←rv2.length,r'.length]
      have pd:pls ds=true:=by unfold pl at px;exact px
      have pe:pls es=true:=by unfold pl at py;exact py
      have hd':deps ds≤n:=by unfold dep at hd;lia
      have key:=SeqAt.RcAt.tuples (A:=A) (e:=λj=>eqD (ds.getD j .non) (es.getD j .non)) p p2 ⋯ λj h1 h2=>by
       have h1':j<its.length:=by simpa using h1
       have h2':j<its2.length:=by simpa using h2
       obtain⟨x',ex,dx⟩:=r.at (i:=j) (d:=ds[j]'⋯) (gE ⋯);obtain⟨y',ey,dy⟩:=r'.at (i:=j) (d:=es[j]'⋯) (gE ⋯);obtain⟨u',eu,ru⟩:=rv.get ex;obtain⟨v',ev,rw'⟩:=rv2.get ey;have eu':its[j]=u':=by rw[gE h1'] at eu;exact bE eu
       have ev':its2[j]=v':=by rw[gE h2'] at ev;exact bE ev
       have g1:ds.getD j .non=ds[j]'⋯:=by rw[ae,gE ⋯];rfl
       have g2:es.getD j .non=es[j]'⋯:=by rw[ae,gE ⋯];rfl
       show SeqAt.EqAt A.in1 s (its.toArray[j]) (its2.toArray[j]) (eqD (ds.getD j .non) (es.getD j .non));rw[gB,gB,eu',ev',g1,g2];exact ih (aQ (pI (gE ⋯)) hd') (by show A.units+1+n<cLine;lia) I dx dy ru rw' (nk pd (gE ⋯)) (nk pe (gE ⋯))
      have e2:eqD (.tup ds) (.tup es)=((aG (min its.toArray.size its2.toArray.size)).all (λj=>eqD (ds.getD j .non) (es.getD j .non)) && its.toArray.size == its2.toArray.size):=by
       rw[eqD_tup,pH,aK,aK,l1,l2]
      rw[e2];exact SeqAt.EqAt.of_refs hab key
def op_eqD (hu:X.A.units+64<cLine):OpR X (dX .Eq) (λx y H Q=>∃ds es,IsD H x (.tup ds)∧IsD H y (.tup es)∧pls ds=true∧pls es=true∧deps ds<60∧Q (.bl (eqDs ds es)) H):=by
 intro pins s σ H x y v u Q I rx ry h;obtain⟨ds,es,ix,iy,pd,pe,hd,q⟩:=h;obtain⟨a,xs,rfl,ha,r⟩:=ix.tup_of;obtain⟨b,ys,rfl,hb,r'⟩:=iy.tup_of;cases(show v=af.ref a from rx);cases(show u=af.ref b from ry);obtain⟨its,rv,p,_⟩:=I.tuple (SqT.of (K:=X.K) ha);obtain⟨its2,rv2,p2,_⟩:=I.tuple (SqT.of (K:=X.K) hb);have p:s.heap.IsTuple a its.toArray:=p;have p2:s.heap.IsTuple b its2.toArray:=p2;have l1:its.length=ds.length:=by rw[←rv.length,r.length]
 have l2:its2.length=es.length:=by rw[←rv2.length,r'.length]
 apply SeqAt.eq_tupleAt (e:=λj=>eqD (ds.getD j .non) (es.getD j .non)) p p2 ⋯ (λj h1 h2=>?_) (e7 I q ?_)
 ·have h1':j<its.length:=by simpa using h1
  have h2':j<its2.length:=by simpa using h2
  obtain⟨x',ex,dx⟩:=r.at (i:=j) (d:=ds[j]'⋯) (gE ⋯);obtain⟨y',ey,dy⟩:=r'.at (i:=j) (d:=es[j]'⋯) (gE ⋯);obtain⟨u',eu,ru⟩:=rv.get ex;obtain⟨v',ev,rw'⟩:=rv2.get ey;have eu':its[j]=u':=by rw[gE h1'] at eu;exact bE eu
  have ev':its2[j]=v':=by rw[gE h2'] at ev;exact bE ev
  have g1:ds.getD j .non=ds[j]'⋯:=by rw[ae,gE ⋯];rfl
  have g2:es.getD j .non=es[j]'⋯:=by rw[ae,gE ⋯];rfl
  show SeqAt.EqAt X.A.in1 s (its.toArray[j]) (its2.toArray[j]) (eqD (ds.getD j .non) (es.getD j .non));rw[gB,gB,eu',ev',g1,g2];exact eqAt_D 60 (aQ (pI (gE ⋯)) ⋯) (by show X.A.units+1+60<cLine;lia) I dx dy ru rw' (nk pd (gE ⋯)) (nk pe (gE ⋯))
 ·rw[pH,aK,aK,l1,l2]
end
end L2
variable {ds:List L2.Dt}{fo:List (List (Int×Int)×L2.Dt)}
namespace L2
open PySem PySem.Spec PyProof.Rows
def gH:jV X (.type "tuple") (λxs H Q=>∃p ys,xs=[.ref p]∧SqL X.K H p ys∧New H (.tup ys) Q) :=
 call_tuple_of.imp λ_ _ _ ⟨p,ys,e,h,q⟩=>⟨p,ys,e,.inl ⟨h,q.of⟩⟩
def kit_str (K:au)(h:T∈["NoneType","bool","int","str","list","tuple","dict"]):jr K (.type T) (.type "str")=some (T == "str"):=by
 simp only[aH,cz,or_false] at h
 rcases h with rfl | rfl | rfl | rfl | rfl | rfl | rfl <;> kernel_rfl
def call_isStr:jV X (.builtin "isinstance") (λxs H Q=>∃x T,xs=[x,.ty "str"]∧tyn H x=some T∧Q (.bl (T == "str")) H) :=
 λpins s σ H xs us Q I r ⟨x,T,e,hT,q⟩=>l3 pins s σ H xs us Q I r ⟨x,_,_,_,e,.byName hT,kit_str _ (tyn_mem hT),q⟩
def iT {Q:VK}(Pv:Nat→List V→Hp→Prop)(h0:Pv 0 [] H)(hl:∀i ys H,i≤xs.length→Pv i ys H→SqL K H a xs∧ys.length≤i)(hz:xs.length≤bf)
  (hs:∀i x ys H,xs[i]? =some x→Pv i ys H→tt (some x::c9 σ js) H λb H4=>if b=true then te (some x::c9 σ js) H4 λy H5=>Pv (i+1) (ys++[y]) H5 else Pv (i+1) ys H4)
  (hd:∀ys H,Pv xs.length ys H→∀D,H D=none→Q (.ref D) (upd H D (.lst ys))):CompW js tt te σ Q (Itl K a) H:=by
 apply⟨λi m ys H=>i≤xs.length∧m=xs.length - i∧Pv i ys H,⟨_,bu _,rfl,h0⟩,λi m ys H2 ⟨hi,hm,hp⟩=>?_⟩;obtain⟨hq,hy⟩:=hl i ys H2 hi hp
 by_cases e:i=xs.length
 ·subst e
  exact .inl ⟨⟨xs,hq,aB _⟩,hd ys H2 hp⟩
 ·have hlt:i<xs.length:=fE hi e
  apply .inr ⟨⟨xs,_,hq,gE hlt⟩,⋯,Pv (i+1),λys' H' hp'=>⟨xs.length - (i+1),⋯,⋯,rfl,hp'⟩,λx H3 hy3=>?_⟩;obtain⟨e3,hx⟩:=hy3;subst e3;exact hs i x ys H3 (hx xs hq) hp
def ko {Q:VK}(Pv:Nat→List V→Hp→Prop)(h0:Pv 0 [] H)(hl:∀i ys H,i≤n→Pv i ys H→ys.length≤i)(hz:n≤bf)
  (hs:∀(i:Nat) ys H,i<n→Pv i ys H→tt (some (.int (lo+i))::c9 σ js) H λb H4=>if b=true then te (some (.int (lo+i))::c9 σ js) H4 λy H5=>Pv (i+1) (ys++[y]) H5 else Pv (i+1) ys H4)
  (hd:∀ys H,Pv n ys H→∀D,H D=none→Q (.ref D) (upd H D (.lst ys))):CompW js tt te σ Q (Itr lo n) H:=by
 apply⟨λi m ys H=>i≤n∧m=n - i∧Pv i ys H,⟨_,bu _,rfl,h0⟩,λi m ys H2 ⟨hi,hm,hp⟩=>?_⟩;have hy:=hl i ys H2 hi hp
 by_cases e:i=n
 ·subst e
  exact .inl ⟨aB _,hd ys H2 hp⟩
 ·have hlt:i<n:=fE hi e
  apply .inr ⟨hlt,⋯,Pv (i+1),λys' H' hp'=>⟨n - (i+1),⋯,⋯,rfl,hp'⟩,λx H3 hy3=>?_⟩;obtain⟨e3,hx⟩:=hy3;subst e3 hx;exact hs i ys H3 hlt hp
def ps_setCC {py:Pos}{xs:List Str}
  (hN0:X.N.Nodup) (hi0:X.N[iy]? =some y0) (hx0:Loc X.env.scope y0) (hc:X.calm=true) (hi:PI X tg iter wi)
  (iL:∀y∈scope.names,y.2≠ .cell) (mJ:scope.kind= .function) (lG:∀y∈scope.names,y.2= .local→scope.names.lookup y.1=some .local)
  (hfr:∀y∈scope.names,y.2= .free→X.env.scope.names.lookup y.1=some .cell) (hjs:js.map (λj=>X.N[j]?)=fr.map some) (hfv:∀y∈fr,scope.names.lookup y=some .free)
  (hg:∀cl C s' H' ex,PG (gn X scope cl C (xs++fr) s' H' ex) tg g)
  (hb:∀cl C s' H' ex,PE (gn X scope cl C (xs++fr) s' H' ex) elt te∧PTs (gn X scope cl C (xs++fr) s' H' ex) ifs tt)
  (hCW:∀σ Q J H1,CW σ Q J H1→qQ xs.length g js tt te σ Q J H1) (hs:∀z,fU iter X.env z=fV z:=by intro _;rfl) (hsw:swapsWith (.ListComp elt [⟨tg,iter,ifs,0⟩] scope pos) (some (.Name y0 py)) spos.line X.env=fV true:=by rfl)
  (hf0:X.fn y0=true∨X.env.scope.names.lookup y0=some .local:=by first | exact .inl rfl | exact .inr rfl | assumption) :
  PS X (.Assign [.Name y0 py] (.ListComp elt [⟨tg,iter,ifs,0⟩] scope pos) spos) (tAsg (λσ H Q=>wi σ H λJ H1=>CW σ Q J H1) (oG iy)):=by
 intro pins s σ H Dn I h;rw[exec_Assign_Name_used _ _ _ _ hsw];apply ao (wpAny_standAt (ao ?_));show aW _ X.A (do let _ ← comprehension (.ListComp elt [⟨tg,iter,ifs,0⟩] scope pos) scope X.env _ (newList []) false (eP iter X.env) (some (assign (.Name y0 py) X.env))) _ _ s;apply ao (cx (comp_core (use:=some (assign (.Name y0 py) X.env)) (R:=λ_ s'=>SP X pins Dn .next s') hc hi iL mJ lG hfr hjs hfv hg hb hCW I h (λs4 H5 D C mC hnC I5 nC locC fsC pinX cC sC q=>?_) hs) (λ_ s' hq=>aP (aP hq)) λ_ _ e=>e);obtain⟨oC,esC,epC,hoC,rC⟩:=id hnC;have I6:Inv X ((C,oC)::pins) σ H5 s4:=I5.pins_of λp hp=>by
  rcases aH.mp hp with rfl | hp
  ·apply⟨hoC,nC,locC,fsC,λv z=>?_⟩
   rw[rC.1] at z;cases z
  ·exact I5.pin p (aE _ hp)
 have hPG0:PG X (.Name y0 py) (oG iy):=oE hN0 hi0 hx0 hf0;apply thn (hPG0 _ s4 σ _ (.ref D) (.ref D) (λσ' H'=>Dn.nx σ' H'∧H' C=none) I6 rfl ⟨q,nC⟩) λ_ s6 ⟨σ6,H6,I7,q7,n7⟩=>?_
 have o7:=(I7.pin (C,oC) (aE _ (bq ..))).1;apply⟨mC,⟨oC,esC,epC,o7,rC⟩,λh' hsb=>⟨σ6,H6,?_,q7⟩⟩;have I8:Inv X pins σ6 H6 s6:=I7.pins_of λp hp=>I7.pin p (aE _ (aA _ hp))
 exact I8.turned (t':=s6.toks) (it:=C) (λb o hb' e=>hsb.extBut b o hb' e) n7 locC (.inr sC) cC pinX
def pY {py:Pos}{px:Pos}
  (hN0:X.N.Nodup) (hi0:X.N[iy]? =some y0) (hx0:Loc X.env.scope y0) (hc:X.calm=true) (hi:PI X (.Name x px) iter wi)
  (iL:∀y∈scope.names,y.2≠ .cell) (mJ:scope.kind= .function) (lG:∀y∈scope.names,y.2= .local→scope.names.lookup y.1=some .local) (hx:scope.names.lookup x=some .local)
  (hfr:∀y∈scope.names,y.2= .free→X.env.scope.names.lookup y.1=some .cell) (hnd:(x::fr).Nodup) (hjs:js.map (λj=>X.N[j]?)=fr.map some) (hfv:∀y∈fr,scope.names.lookup y=some .free)
  (hb:∀cl C s' H' ex,PE (gn X scope cl C (x::fr) s' H' ex) elt te∧PTs (gn X scope cl C (x::fr) s' H' ex) ifs tt)
  (hs:∀z,fU iter X.env z=fV z:=by intro _;rfl) (hsw:swapsWith (.ListComp elt [⟨.Name x px,iter,ifs,0⟩] scope pos) (some (.Name y0 py)) spos.line X.env=fV true:=by rfl)
  (hf0:X.fn y0=true∨X.env.scope.names.lookup y0=some .local:=by first | exact .inl rfl | exact .inr rfl | assumption) :
  PS X (.Assign [.Name y0 py] (.ListComp elt [⟨.Name x px,iter,ifs,0⟩] scope pos) spos) (tAsg (tComp wi js tt te) (oG iy)) :=
 ps_setCC (xs:=[x]) (g:=oG 0) hN0 hi0 hx0 hc hi iL mJ lG hfr hjs hfv (λ_ _ _ _ _=>oE hnd rfl (.inl (eV hx)) (.inr (eV hx))) hb (λ_ _ _ _ h=>compW_T h) hs hsw hf0
structure PSt (X:Cx)(st:cF)(t:TS):Prop where
 h:PS X st t
def ps_cutK {t:TS}(h:PS X st t):PS X st (λD σ H=>∃N:St→Hp→Prop,(∀σ' H',N σ' H'→D.nx σ' H')∧t { D with nx:=N } σ H):=by
 intro pins s σ H D I ⟨N,hN,ht⟩;apply thn (h pins s σ H { D with nx:=N } I ht) λf s' q=>?_
 cases f with
 | next=>obtain⟨σ',H',I',n'⟩:=q;exact⟨σ',H',I',hN _ _ n'⟩
 | brk=>exact q
 | cont=>exact q
 | ret u=>exact q
structure PSl (X:Cx)(sts:List cF)(t:TS):Prop where
 h:PSs X sts t
section
variable {a b:Expr}{tb:TE}
def aZ {sts:List cF}{t u:TS}(a:PSt X st t)(b:PSl X sts u):PSl X (st::sts) (tSeq t u):=⟨pss_cons a.h b.h⟩
def cP {t:TS}(a:PSt X st t):PSl X [st] t:=⟨cE a.h⟩
end
def op_neD (hu:X.A.units+64<cLine):OpR X (dX .NotEq) (λx y H Q=>∃ds es,IsD H x (.tup ds)∧IsD H y (.tup es)∧pls ds=true∧pls es=true∧deps ds<60∧Q (.bl (!(eqDs ds es))) H):=by
 intro pins s σ H x y v u Q I rx ry h;obtain⟨ds,es,ix,iy,pd,pe,hd,q⟩:=h;obtain⟨a,xs,rfl,ha,r⟩:=ix.tup_of;obtain⟨b,ys,rfl,hb,r'⟩:=iy.tup_of;cases(show v=af.ref a from rx);cases(show u=af.ref b from ry);obtain⟨its,rv,p,_⟩:=I.tuple (SqT.of (K:=X.K) ha);obtain⟨its2,rv2,p2,_⟩:=I.tuple (SqT.of (K:=X.K) hb);have p:s.heap.IsTuple a its.toArray:=p;have p2:s.heap.IsTuple b its2.toArray:=p2;have l1:its.length=ds.length:=by rw[←rv.length,r.length]
 have l2:its2.length=es.length:=by rw[←rv2.length,r'.length]
 have key:=SeqAt.RcNeAt.tuples (A:=X.A) (e:=fun j=>eqD (ds.getD j .non) (es.getD j .non)) p p2 ⋯ (fun j h1 h2=>by
  have h1':j<its.length:=by simpa using h1
  have h2':j<its2.length:=by simpa using h2
  obtain⟨x',ex,dx⟩:=r.at (i:=j) (d:=ds[j]'⋯) (gE ⋯);obtain⟨y',ey,dy⟩:=r'.at (i:=j) (d:=es[j]'⋯) (gE ⋯);obtain⟨u',eu,ru⟩:=rv.get ex;obtain⟨v',ev,rw'⟩:=rv2.get ey;have eu':its[j]=u':=by rw[gE h1'] at eu;exact bE eu
  have ev':its2[j]=v':=by rw[gE h2'] at ev;exact bE ev
  have g1:ds.getD j .non=ds[j]'⋯:=by rw[ae,gE ⋯];rfl
  have g2:es.getD j .non=es[j]'⋯:=by rw[ae,gE ⋯];rfl
  show SeqAt.EqAt X.A.in1 s (its.toArray[j]) (its2.toArray[j]) (eqD (ds.getD j .non) (es.getD j .non));rw [gB,gB,eu',ev',g1,g2];exact eqAt_D 60 (aQ (pI (gE ⋯)) ⋯) (by show X.A.units+1+60<cLine;lia) I dx dy ru rw' (nk pd (gE ⋯)) (nk pe (gE ⋯)))
 apply key X.prog X.w _ _ (e7 I q ?_);rw[pH,aK,aK,l1,l2]
theorem pG:∀{ns:List Int} {us:List af},gz (ns.map V.int) us→IntsAre us ns
 | [],_,.nil=> .nil
 | _::_,_,.cons ⟨_,e⟩ r=>by cases e;exact .cons _ _ (pG r)
theorem eqDs_ints:∀ns ms:List Int,eqDs (ns.map Dt.int) (ms.map Dt.int)=decide (ns=ms)
 | [],[]=>by unfold eqDs;rfl
 | [],_::_=>by unfold eqDs;rfl
 | _::_,[]=>by unfold eqDs;rfl
 | n::ns,m::ms=>by
  rw[bI,bI];unfold eqDs;rw[eqDs_ints ns ms];unfold eqD
  by_cases h:n=m
  ·by_cases h':ns=ms
   ·simp[h,h']
   ·simp[h,h']
  ·simp[h]
theorem pls_ints:∀ns:List Int,pls (ns.map Dt.int)=true
 | []=>by unfold pls;rfl
 | n::r=>by rw[bI];unfold pls;rw[pls_ints r];unfold pl;rfl
theorem deps_ints:∀ns:List Int,deps (ns.map Dt.int)=0
 | []=>by unfold deps;rfl
 | n::r=>by rw[bI];unfold deps;rw[deps_ints r];unfold dep;rfl
def pE {xs:List Str}
  (hc:X.calm=true) (hi:PI X tg iter wi)
  (iL:∀y∈scope.names,y.2≠ .cell) (mJ:scope.kind= .function) (lG:∀y∈scope.names,y.2= .local→scope.names.lookup y.1=some .local)
  (hfr:∀y∈scope.names,y.2= .free→X.env.scope.names.lookup y.1=some .cell) (hjs:js.map (λj=>X.N[j]?)=fr.map some) (hfv:∀y∈fr,scope.names.lookup y=some .free)
  (hg:∀cl C s' H' ex,PG (gn X scope cl C (xs++fr) s' H' ex) tg g)
  (hb:∀cl C s' H' ex,PE (gn X scope cl C (xs++fr) s' H' ex) elt te∧PTs (gn X scope cl C (xs++fr) s' H' ex) ifs tt)
  (hs:∀z,fU iter X.env z=fV z:=by intro _;rfl) :
  PE X (.ListComp elt [⟨tg,iter,ifs,0⟩] scope pos) (tCompT wi xs.length g js tt te) :=
 pe_compC hc hi iL mJ lG hfr hjs hfv hg hb (λ_ _ _ _ h=>h) hs
abbrev gPair (K:au):TG:=gTup K 2 (gCons (oG 0) (gCons (oG 1) gNil))
def pg_two {ex:List aq}{y:Str}{k:Nat}{pt:Pos}(hc:X.calm=true)(hnd:(x::y::fr).Nodup)(hx:scope.names.lookup x=some .local)(hy:scope.names.lookup y=some .local) :
  PG (gn X scope cl C ([x,y]++fr) s H ex) (.Tuple [.Name x p1,.Name y p2] k pt) (gPair X.K) :=
 pg_tup hc (kR (oE (i:=0) hnd rfl (.inl (eV hx)) (.inr (eV hx))) (kR (oE (i:=1) hnd rfl (.inl (eV hy)) (.inr (eV hy))) pgs_nil))
def getItem_all {t sl:aq}{vl vu:af}{lo:Option Int}(ht:IsTup s.heap t items)(hs:s.heap.IsSliceOf sl vl vu .none)(pl:IsPart vl lo)(pu:IsPart vu hi)
  (hw:HT.sIx items.size 0 lo=0∧HT.sIx items.size items.size hi=items.size) (h:Q (.ref t) s):aW (br prog w) A (getItem (.ref t) (.ref sl)) Q E s:=by
 obtain⟨os,hos,hcs,hds⟩:=id hs;have hTs:s.TypeIs (.ref sl) "slice" := ⟨os,hos,hcs⟩;unfold getItem
 try with_reducible apply dU ?_
 first | apply ao (aP ?_) | skip
 apply ao (wpAny_sequenceKey ht.typeIs ↥0 ?_);apply ao (dJ (name:=cj "__getitem__") ht.typeIs dt
  (fJ dt ht.typeIs entry_tuple_getitem ?_ (args_tuple_getitem _ _)))
 show aW _ _ (cO.Tuple.tupleItemsOf (.ref t) >>= _) _ _ s;apply ao (tupleItemsOf_ ht ?_);apply ao (wpAny_typeOf hTs ?_);rw[rR ↥0];apply ao (HT.sliceApplied_gen hs pl pu ?_);show aW _ _ (if (((HT.sIx items.size 0 lo:Nat):Int) == 0 && (1:Int) == 1 && (HT.sIx items.size items.size hi - HT.sIx items.size 0 lo) == items.size)=true then _ else _) _ _ s;rw[hw.1,hw.2,Nat.sub_zero,rR ∅];unfold cO.Tuple.tupleIsExact;apply ao (ao (wpAny_typeOf ht.typeIs (aP ?_)));rw[rR ↥0];exact ao (wpAny_rule (aP ⟨_,rfl,aP h⟩))
def sl_tupN:SlR X (λx lo hi H Q=>∃a xs,x= .ref a∧H a=some (.tup xs)∧New H (.tup (cutV xs lo hi)) Q):=by
 intro pins s σ H x v vl vu lo hi sl Q I rx hs pl pu h;obtain⟨a,xs,rfl,hx,q⟩:=h
 by_cases hw:HT.sIx xs.length 0 lo=0∧HT.sIx xs.length xs.length hi=xs.length
 ·cases rx
  obtain⟨its,r,ht,hz⟩:=I.tuple (SqT.of (K:=X.K) hx);have hlen:its.toArray.size=xs.length:=by rw[aK];exact r.length.symm
  apply⟨"tuple",_,dt.lookup,ht.typeIs,?_⟩;apply getItem_all ht hs pl pu (by rw[hlen];exact hw) ⟨.ref a,H,I,rfl,q a H (bD.refl H) ?_⟩;have e:cutV xs lo hi=xs:=by unfold cutV;rw[hw.1,hw.2,List.drop_zero,Nat.sub_zero,bo]
  rw[e];exact hx
 ·exact sl_tup pins s σ H _ v vl vu lo hi sl Q I rx hs pl pu ⟨a,xs,rfl,SqT.of hx,hw,q.of⟩
def op_neL0 (hu:X.A.units<cLine):OpR X (dX .NotEq) (λx y H Q=>∃a b xs,x= .ref a∧y= .ref b∧SqL X.K H a xs∧SqL X.K H b []∧Q (.bl (!xs.isEmpty)) H):=by
 intro pins s σ H x y v u Q I rx ry h;obtain⟨a,b,xs,rfl,rfl,ha,hb,q⟩:=h;cases(show v=af.ref a from rx);cases(show u=af.ref b from ry);obtain⟨its,r1,p1,_⟩:=I.list ha;obtain⟨its2,r2,p2,_⟩:=I.list hb;cases r2;cases r1 with
 | nil =>
  apply SeqAt.RcNeAt.lists (A:=X.A) (e:=λ_=>true) p1.isList p2.isList rfl hu (λj h1 _=>rS h1 ∅) X.prog X.w _ _ (e7 I q ∅)
 | cons _ _=>exact SeqAt.RcNeAt.lists_lengths (A:=X.A) p1.isList p2.isList ∅ hu X.prog X.w _ _ (e7 I q ∅)
def metL (ns:List Int):List Int:=firstMet (λi=>ns.getD i 0) ns.length
def call_setL (hc:X.calm=true):jV X (.type "set") (λxs H Q=>∃(p:aq) (ns:List Int),xs=[.ref p]∧SqL X.K H p (ns.map V.int)∧ns.length≤1000∧New H (.set (λk=>(metL ns).any (· == k)) (metL ns).length) Q):=by
 intro pins s σ H xs us Q I r h;obtain⟨p,ns,rfl,hq,hn,q⟩:=h;obtain⟨u,rfl,ru⟩:=oo r;cases(show u=af.ref p from ru);obtain⟨its,rv,pl,hz⟩:=I.list hq;have hl:its.length=ns.length:=by rw[←rv.length,aa]
 apply call_set_list (ns:=ns) (I.ok.hd hc) pl.isList (pG rv) (by rw[aK,hl];show ns.length+1<4096;lia) λh' tk hs hk=>?_
 have hl2:its.toArray.size=ns.length:=by rw[aK,hl]
 rw[hl2] at hs;exact⟨.ref s.heap.objs.size,_,I.laid (t':=tk) (o:= .set (λk=>(metL ns).any (· == k)) (metL ns).length) (λb u e=>hk b u (aN e) e) (aB _) hs,rfl,q.of _ I.fresh⟩
def call_lenS:jV X (.builtin "len") (λxs H Q=>∃(a:aq) (S:Int→Bool) (n:Nat),xs=[.ref a]∧H a=some (.set S n)∧Q (.int n) H):=by
 intro pins s σ H xs us Q I r h;obtain⟨a,S,n,rfl,ha,q⟩:=h;obtain⟨u,rfl,ru⟩:=oo r;cases(show u=af.ref a from ru);obtain⟨o,es,ep,t,e1,e2,e3,_,_,e4,e5,e6⟩:=I.hok a _ ha;have e4:es.size<4096:=e4;apply call_len_set e1 e2 e3 e5 ⋯ ?_;subst e6;exact⟨.int es.size,H,I.tok _,⟨_,rfl⟩,q⟩
theorem vals_at:∀{xs:List V} {us:List af},xs.length=us.length→(∀(i:Nat) (x:V),xs[i]? =some x→∃u,us[i]? =some u∧gL x u)→gz xs us
 | [],[],_,_=> .nil
 | [],_::_,h,_=>by cases h
 | _::_,[],h,_=>by cases h
 | x::xs,u::us,h,k=>by
  obtain⟨u',e,r⟩:=k 0 x rfl;cases e;exact .cons r (vals_at (by simpa using h) λi y hy=>k (i+1) y hy)
def qM:jV X (.type "range") (λxs H Q=>∃j:Int,xs=[.int j]∧New H (.rng 0 j) Q):=by
 intro pins s σ H xs us Q I r h;obtain⟨j,rfl,q⟩:=h;obtain⟨u,rfl,ru⟩:=oo r;obtain⟨t,rfl⟩:=(show ∃t,u=af.int j t from ru);apply call_range_1 ?_;exact⟨.ref s.heap.objs.size,_,I.laid (t':=s.toks+1+1) (o:= .rng 0 j) (λ_ _ z=>ax _ z) (aB _) ⟨_,_,_,aU _ rfl⟩,rfl,q.of _ I.fresh⟩
def rL (hc:X.calm=true):jV X (.type "list") (λxs H Q=>∃(a:aq) (n:Nat),xs=[.ref a]∧H a=some (.rng 0 (n:Int))∧n≤1000∧∀l,H l=none→Q (.ref l) (upd H l (.lst ((aG n).map λk=>V.int (k:Nat))))):=by
 intro pins s σ H xs us Q I r h;obtain⟨a,n,rfl,ha,hn,q⟩:=h;obtain⟨u,rfl,ru⟩:=oo r;cases(show u=af.ref a from ru);obtain⟨t,u,v,hr⟩:=I.hok a _ ha;have hs:dZ 0 (n:Int) 1=n:=by
  unfold dZ;rw[rR ↥0]
  by_cases h0:(0:Int)<n
  ·rw[rR h0,Int.ediv_one];lia
  ·rw[rQ h0];lia
 apply call_list_range (n:=n) (I.ok.hd hc) hr (by unfold ij;rw[hs];unfold cO.Range.rangeFitsLong;simp;lia) hs ⋯ λh' tk acc c hk hg hi=>?_
 apply⟨.ref s.heap.objs.size,_,I.laid (t':=tk) (o:= .lst ((aG n).map λk=>V.int (k:Nat))) hk (aB _) ⟨?_,acc.toList,c,?_,?_⟩,rfl,q _ I.fresh⟩
 ·rw[aa,bb];exact aQ hn ↥0
 ·apply vals_at (by rw[aa,bb,cV,hi.1]) λi x hx=>?_
  rw[az] at hx;obtain⟨k,hk2,rfl⟩:=aM.mp hx;have hik:i<n:=by have:=(ar.mp hk2).1;rw[bb] at this;exact this
  rw[gY hik] at hk2;cases hk2;have hi2:i<acc.size:=by rw[hi.1];exact hik
  have e:=dQ hi2;obtain⟨t2,e2⟩:=hi.2 i _ e;apply⟨_,by rw[jX];exact e,⟨t2,?_⟩⟩;rw[e2];congr 1;lia
 ·rw[km];exact hg
section
variable {κ:Type} [DecidableEq κ]
def l6 (kvs:List (κ×V))(k:κ):Option V:=(kvs.find? λkv=>decide (kv.1=k)).map (·.2)
def nP (kvs:List (κ×V))(k:κ)(v:V):List (κ×V) :=
 if (kvs.any λkv=>decide (kv.1=k))=true then kvs.map (λkv=>if kv.1=k then (kv.1,v) else kv) else kvs++[(k,v)]
def ik {p:κ×V}{r:List (κ×V)}{k:κ}(e:p.1=k):l6 (p::r) k=some p.2:=by simp[l6,ia,e]
def gR {p:κ×V}{r:List (κ×V)}{k:κ}(e:¬p.1=k):l6 (p::r) k=l6 r k:=by simp[l6,ia,e]
theorem nG (k:κ):∀kvs:List (κ×V),(kvs.any λkv=>decide (kv.1=k))=(l6 kvs k).isSome
 | []=>rfl
 | p::r=>by
  rw[jd]
  by_cases e:p.1=k
  ·simp only[ik e,rT e,Bool.true_or,Option.isSome_some]
  ·rw[gR e,rV e,Bool.false_or];exact nG k r
theorem valV_map (k j:κ)(y:V):∀kvs:List (κ×V),l6 (kvs.map λkv=>if kv.1=k then (kv.1,y) else kv) j=(l6 kvs j).map λx=>if j=k then y else x
 | []=>rfl
 | p::r=>by
  have ih:=valV_map k j y r;rw[bI]
  by_cases h:p.1=k
  ·rw[rR h]
   by_cases e:p.1=j
   ·rw[ik (p:=(p.1,y)) e,ik e,gu,rR (e.symm.trans h)]
   ·rw[gR (p:=(p.1,y)) e,gR e,ih]
  ·rw[rQ h]
   by_cases e:p.1=j
   ·rw[ik (p:=p) e,ik e,gu,rQ (λz=>h (e.trans z))]
   ·rw[gR (p:=p) e,gR e,ih]
theorem valV_snoc (k j:κ)(y:V):∀kvs:List (κ×V),l6 kvs k=none→l6 (kvs++[(k,y)]) j=if j=k then some y else l6 kvs j
 | [],_=>by
  by_cases e:k=j
  ·rw[rR e.symm];exact ik (p:=(k,y)) e
  ·rw[rQ (λz=>e z.symm)];exact gR (p:=(k,y)) e
 | p::r,hn=>by
  rw[List.cons_append];have hk:¬p.1=k:=λz=>by rw[ik z] at hn;cases hn
  rw[gR hk] at hn;have ih:=valV_snoc k j y r hn
  by_cases e:p.1=j
  ·rw[ik e,ik e,rQ (λz=>hk (e.trans z))]
  ·rw[gR e,gR e,ih]
def valV_put (kvs:List (κ×V))(k j:κ)(y:V):l6 (nP kvs k y) j=if j=k then some y else l6 kvs j:=by
 unfold nP
 by_cases a:(kvs.any λkv=>decide (kv.1=k))=true
 ·rw[rR a,valV_map]
  rw[nG] at a
  by_cases e:j=k
  ·obtain⟨x,hx⟩:=Option.isSome_iff_exists.mp a
   rw[rR e,e,hx,gu,rR rfl]
  ·rw[rQ e]
   cases l6 kvs j with
   | none=>rfl
   | some x=>rw[gu,rQ e]
 ·rw[rQ a]
  apply valV_snoc k j y kvs ?_;rw[nG] at a;cases q:l6 kvs k with
  | none=>rfl
  | some x=>rw[q] at a;exact(a rfl).elim
def kA (kvs:List (κ×V))(k:κ)(v:V):(nP kvs k v).length≤kvs.length+1:=by
 unfold nP;split
 ·rw[aa];lia
 ·rw[av,aV,List.length_nil];lia
def putK_new {kvs:List (κ×V)}{k:κ}(v:V)(h:l6 kvs k=none):nP kvs k v=kvs++[(k,v)]:=by
 unfold nP;rw[nG,h];exact rQ ↥0
def RelO.isSome_eq {o:Option V}{u:Option af}(r:RelO o u):o.isSome=u.isSome:=by
 cases o with
 | none=>cases u with
  | none=>rfl
  | some _=>exact(show False from r).elim
 | some _=>cases u with
  | none=>exact(show False from r).elim
  | some _=>rfl
def KV.val {kvs:List (κ×V)}{vs:List (κ×af)}(r:KV kvs vs)(k:κ):RelO (l6 kvs k) (valueAt vs k):=by
 unfold KV at r
 induction r with
 | nil=>exact True.intro
 | @cons p q ps qs h t ih =>
  obtain⟨h1,h2⟩:=h
  by_cases e:p.1=k
  ·have e':q.1=k:=h1.symm.trans e
   have b:valueAt (q::qs) k=some q.2:=by simp[valueAt,ia,e']
   rw[ik e,b];exact h2
  ·have e':¬q.1=k:=λz=>e (h1.trans z)
   have b:valueAt (q::qs) k=valueAt qs k:=by simp[valueAt,ia,e']
   rw[gR e,b];exact ih
def KV.any {kvs:List (κ×V)}{vs:List (κ×af)}(r:KV kvs vs)(k:κ):(kvs.any λkv=>decide (kv.1=k))=vs.any λkv=>decide (kv.1=k):=by
 unfold KV at r
 induction r with
 | nil=>rfl
 | cons h t ih=>rw[jd,jd,ih,h.1]
def KV.repl {kvs:List (κ×V)}{vs:List (κ×af)}(r:KV kvs vs)(k:κ){y:V}(ry:gL y u) :
  KV (kvs.map λkv=>if kv.1=k then (kv.1,y) else kv) (vs.map λkv=>if kv.1=k then (kv.1,u) else kv):=by
 unfold KV at r ⊢
 induction r with
 | nil=>exact .nil
 | @cons p q ps qs h t ih =>
  rw[bI,bI];apply .cons ?_ ih;obtain⟨h1,h2⟩:=h
  by_cases e:p.1=k
  ·rw[rR e,rR (h1.symm.trans e)];exact⟨h1,ry⟩
  ·rw[rQ e,rQ (λz=>e (h1.trans z))];exact⟨h1,h2⟩
def KV.put {kvs:List (κ×V)}{vs:List (κ×af)}(r:KV kvs vs)(k:κ){y:V}(ry:gL y u):KV (nP kvs k y) (stored vs k u):=by
 unfold nP stored;rw[r.any k]
 by_cases e:(vs.any λkv=>decide (kv.1=k))=true
 ·rw[rR e,rR e];exact r.repl k ry
 ·rw[rQ e,rQ e];exact Paired.snoc r ⟨rfl,ry⟩
theorem KV.length {kvs:List (κ×V)}{vs:List (κ×af)}(r:KV kvs vs):kvs.length=vs.length:=Paired.length r
end
def kV_is {k:Key}(r:gL (kV k) u):(hW P w).is k u=true:=by
 cases k with
 | inl i=>obtain⟨t,e⟩:=(show ∃t,u=af.int i t from r);subst e;exact mixKind_int P w i t
 | inr x=>obtain⟨t,e⟩:=(show ∃t,u=af.str x t from r);subst e;exact mixKind_str P w x t
theorem items_are {P:aX}{w:bz}:∀{ks:List Key} {us:List af},gz (ks.map kV) us→ItemsAre (hW P w) ks us
 | [],_,r=>by rw[jJ] at r;cases r;exact .nil
 | k::ks,_,r=>by
  rw[bI] at r;cases r with
  | cons h t=>exact .cons (kV_is h) (items_are t)
abbrev KT (H:Hp):List (List Key×V)→List (List Key×aq×af)→Prop:=jS λp q=>p.1=q.1∧H q.2.1=some (.tup (p.1.map kV))∧gL p.2 q.2.2
def KT.val {xs:List (List Key×aq×af)}(r:KT H kvs xs)(k:List Key):RelO (l6 kvs k) ((atKey xs k).map (·.2)):=by
 induction r with
 | nil=>exact True.intro
 | @cons p q ps qs h t ih =>
  obtain⟨h1,_,h2⟩:=h
  by_cases e:p.1=k
  ·have e':q.1=k:=h1.symm.trans e
   have b:atKey (q::qs) k=some q.2:=by simp[atKey,ia,e']
   rw[ik e,b];exact h2
  ·have e':¬q.1=k:=λz=>e (h1.trans z)
   have b:atKey (q::qs) k=atKey qs k:=by simp[atKey,ia,e']
   rw[gR e,b];exact ih
def KT.repl {xs:List (List Key×aq×af)}(r:KT H kvs xs)(k:List Key){y:V}(ry:gL y u) :
  KT H (kvs.map λkv=>if kv.1=k then (kv.1,y) else kv) (xs.map (putAt k u)):=by
 induction r with
 | nil=>exact .nil
 | @cons p q ps qs h t ih =>
  rw[bI,bI];apply .cons ?_ ih;obtain⟨h1,h2,h3⟩:=h;unfold putAt
  by_cases e:p.1=k
  ·rw[rR e,rR (h1.symm.trans e)];exact⟨h1,h2,ry⟩
  ·rw[rQ e,rQ (λz=>e (h1.trans z))];exact⟨h1,h2,h3⟩
def KT.put {xs:List (List Key×aq×af)}(r:KT H kvs xs)(k:List Key){b:aq}{y:V}(hb:H b=some (.tup (k.map kV)))(ry:gL y u) :
  KT H (nP kvs k y) (storedH xs k b u):=by
 have e:(kvs.any λkv=>decide (kv.1=k))=(atKey xs k).isSome:=by
  rw[nG,(r.val k).isSome_eq,Option.isSome_map]
 unfold nP storedH;rw[e]
 by_cases q:(atKey xs k).isSome=true
 ·rw[rR q,rR q];exact r.repl k ry
 ·rw[rQ q,rQ q];exact Paired.snoc r ⟨rfl,hb,ry⟩
def KT.keeps {xs:List (List Key×aq×af)}(r:KT H kvs xs)(ht:∀b ys,H b=some (.tup ys)→H' b=some (.tup ys)):KT H' kvs xs :=
 Paired.mapP r λ_ _ z=>⟨z.1,ht _ _ z.2.1,z.2.2⟩
def rd_of {u:HO}(ok:HOk P w H h)(e:Rd H a u):jk P w H h a u:=e.ok ok
def dk_rd {kvs:List (Key×V)}(ok:HOk P w H h)(e:Rd H a (.dK kvs)):kvs.length≤bf∧(a == i9)=false∧∃vs,KV kvs vs∧h.DictOf (hW P w) a vs :=
 show jk P w H h a (.dK kvs) from rd_of ok e
def dk_of {kvs:List (Key×V)}(ok:HOk P w H h)(e:H a=some (.dK kvs)):kvs.length≤bf∧(a == i9)=false∧∃vs,KV kvs vs∧h.DictOf (hW P w) a vs:=dk_rd ok (.inl e)
def key_of {ks:List Key}(ok:HOk P w H h)(e:H a=some (.tup (ks.map kV))):(tupleKind (hW P w)).is h ks a:=by
 obtain⟨_,its,r,o,h1,h2,_,n,h3⟩:=(show jk P w H h a (.tup (ks.map kV)) from ok a _ e);exact⟨o,its.toArray,n,h1,h2,h3,by simpa using items_are r⟩
def dt_rd (ok:HOk P w H h)(e:Rd H a (.dT kvs)):kvs.length≤bf∧(a == i9)=false ∧
  ∃xs,KT H kvs xs∧h.DictOfH (tupleKind (hW P w)) a xs:=by
 obtain⟨z,y,xs,r,o,es,ep,h1,h2,h3,h4,h5⟩:=(show jk P w H h a (.dT kvs) from rd_of ok e);apply⟨z,y,xs,r,o,es,ep,h1,h2,h3,h4,λx hx=>?_,h5⟩;have all:∀{l:List (List Key×V)} {m:List (List Key×aq×af)},KT H l m→∀x∈m,(tupleKind (hW P w)).is h x.1 x.2.1:=by
  intro l m q
  induction q with
  | nil=>intro x hx;exact nomatch hx
  | @cons p q ps qs hq t ih =>
   intro x hx
   rcases aH.mp hx with e | hx
   ·subst e
    exact key_of ok (by rw[←hq.1];exact hq.2.1)
   ·exact ih x hx
 exact all r x hx
def dt_of (ok:HOk P w H h)(e:H a=some (.dT kvs)):kvs.length≤bf∧(a == i9)=false ∧
  ∃xs,KT H kvs xs∧h.DictOfH (tupleKind (hW P w)) a xs:=dt_rd ok (.inl e)
def DGet (H:Hp)(a:aq)(y:V)(r:Option V):Prop :=
 (∃kvs k,Rd H a (.dK kvs)∧y=kV k∧r=l6 kvs k)∨∃kvs k b,Rd H a (.dT kvs)∧y= .ref b∧H b=some (.tup (k.map kV))∧r=l6 kvs k
def DPut (H:Hp)(a:aq)(y v:V)(H':Hp):Prop :=
 (∃kvs k,H a=some (.dK kvs)∧y=kV k∧kvs.length<bf∧H'=upd H a (.dK (nP kvs k v))) ∨
 ∃kvs k b,H a=some (.dT kvs)∧y= .ref b∧H b=some (.tup (k.map kV))∧kvs.length<bf∧H'=upd H a (.dT (nP kvs k v))
def DGet.k {H:Hp}{a:aq}{kvs:List (Key×V)}{k:Key}(e:H a=some (.dK kvs)):DGet H a (kV k) (l6 kvs k):= .inl ⟨kvs,k,.inl e,rfl,rfl⟩
def DPut.k {H:Hp}{a:aq}{kvs:List (Key×V)}{k:Key}{v:V}(e:H a=some (.dK kvs))(hl:kvs.length<bf):DPut H a (kV k) v (upd H a (.dK (nP kvs k v))):= .inl ⟨kvs,k,e,rfl,hl,rfl⟩
section
variable {pins:List (aq×Obj)}{y:V}{r:af}{o:Option V}
def d_getItem (hu:A.units+1<cLine)(I:Inv X pins σ H s)(g:DGet H a y (some v))(ry:gL y u)(h:∀w' s',Inv X pins σ H s'→gL v w'→Q w' s') :
  aW (br X.prog X.w) A (getItem (.ref a) u) Q E s:=by
 rcases g with ⟨kvs,k,e,ey,l⟩ | ⟨kvs,k,b,e,ey,eb,l⟩
 ·subst ey
  obtain⟨z,hd,vs,rel,dd⟩:=dk_rd I.hok e;obtain⟨w',hw,rw'⟩:=RelO.some_of (v:=v) (o:=valueAt vs k) (by rw[l];exact rel.val k);exact wpAny_getItem_of (kV_is ry) dd.mapOf hw (h w' _ (I.tok _) rw')
 ·subst ey
  cases(show u=af.ref b from ry);obtain⟨z,hd,xs,rel,dd⟩:=dt_rd I.hok e;obtain⟨w',hw,rw'⟩:=RelO.some_of (v:=v) (o:=(atKey xs k).map (·.2)) (by rw[l];exact rel.val k);obtain⟨p,hp,hp2⟩:=aM.mp hw;apply wpAny_getItem_heap (tupleKind_room_in1 hu) (key_of I.hok eb) dd hp ?_;rw[hp2];exact h w' _ (I.tok _) rw'
def d_notIn (hu:A.units+1<cLine)(I:Inv X pins σ H s)(g:DGet H a y o)(ry:gL y u)(h:∀s',Inv X pins σ H s'→Q (.bool (!o.isSome)) s') :
  aW (br X.prog X.w) A (dX .NotIn u (.ref a)) Q E s:=by
 rcases g with ⟨kvs,k,e,ey,l⟩ | ⟨kvs,k,b,e,ey,eb,l⟩
 ·subst ey
  obtain⟨z,hd,vs,rel,dd⟩:=dk_rd I.hok e;apply wpAny_notIn_of (kV_is ry) hd dd.mapOf ?_;rw[←(rel.val k).isSome_eq,←l];exact h _ (I.tok _)
 ·subst ey
  cases(show u=af.ref b from ry);obtain⟨z,hd,xs,rel,dd⟩:=dt_rd I.hok e;apply wpAny_notIn_heap (tupleKind_room_in1 hu) (key_of I.hok eb) hd dd ?_;have q:=(rel.val k).isSome_eq;rw[Option.isSome_map] at q;rw[←q,←l];exact h _ (I.tok _)
def d_write {ob:HO}(I:Inv X pins σ H s)(mu:Mut (H a))(hs:cH a s.heap h')(he:∃q,h'.get? a=some q)(new:jk X.prog X.w (upd H a ob) h' a ob) :
  Inv X pins σ (upd H a ob) { s with heap:=h',toks:=t' } :=
 I.write (x:=a) (e:=a) mu (.inl rfl) (λb q hb z=>(hs.2 b hb).trans z) he new
def dk_new {kvs:List (Key×V)}{vs:List (Key×af)}(z:kvs.length≤bf)(hd:(a == i9)=false)(rel:KV kvs vs)(dd:h'.DictOf (hW P w) a vs) :
  jk P w H' h' a (.dK kvs):=⟨z,hd,vs,rel,dd⟩
def d_setItem {Q:Unit→ay→Prop}(hu:A.units+1<cLine)(I:Inv X pins σ H s)(g:DPut H a y v H')(ry:gL y u)(rv:gL v r)(h:∀s',Inv X pins σ H' s'→Q () s') :
  aW (br X.prog X.w) A (setItem (.ref a) u r) Q E s:=by
 rcases g with ⟨kvs,k,e,ey,l,eH⟩ | ⟨kvs,k,b,e,ey,eb,l,eH⟩
 ·subst ey eH
  obtain⟨z,hd,vs,rel,dd⟩:=dk_of I.hok e;have hz:vs.length≤bf:=by rw[←rel.length];exact z
  have hl:(nP kvs k v).length≤bf:=by have:=kA kvs k v;lia
  apply wpAny_setItem_pairs (hsz:=hz) (kV_is ry) dd λh' dd' hs=>h _ ?_
  have he:∃q,h'.get? a=some q:=let ⟨q,_,_,hq,_⟩:=dd';⟨q,hq⟩;exact d_write I (by rw[e];exact True.intro) hs he (dk_new hl hd (rel.put k rv) dd')
 ·subst ey eH
  cases(show u=af.ref b from ry);obtain⟨z,hd,xs,rel,dd⟩:=dt_of I.hok e;have hz:xs.length≤bf:=by rw[←Paired.length rel];exact z
  have hl:(nP kvs k v).length≤bf:=by have:=kA kvs k v;lia
  apply wpAny_setItem_heap (hsz:=hz) (tupleKind_room_in1 hu) (key_of I.hok eb) dd λh' dd' hs=>h _ ?_
  obtain⟨q,es,ep,hq,h2,h3,h4,_,h5⟩:=dd';apply d_write I (by rw[e];exact True.intro) hs ⟨q,hq⟩ ⟨hl,hd,_,(rel.put k eb rv).keeps λc ys ec=>?_,q,es,ep,hq,h2,h3,h4,h5⟩;rw[bt (fM ec e (λz=>nomatch z))];exact ec
end
def NoSl (i:Expr):Prop:=∀ov iv,subscripted i false ov iv=operate [ov,iv] (getItem ov iv)
def subD_of {slice:Expr}{id:String}
  (hl:typeLookup (.type T) "__getitem__" =fV (some (.builtin id))) (hs:NoSl slice)
  (h:aW (br prog w) A (eP value env) (λo s₁=>aW (br prog w) A (eP slice env) (λi s₂=>s₂.TypeIs o T∧aW (br prog w) A (getItem o i) Q E s₂) E s₁) E s) :
  aW (br prog w) A (eP (.Subscript value slice pos) env) Q E s:=by
 apply Subscript_ (cx h (λo s₁ h₁=>cx h₁ (λi s₂ h₂=>?_) λ_ _ x=>x) λ_ _ x=>x);obtain⟨hT,h₂⟩:=h₂;unfold subscriptTail;apply ao ?_;rw[getitemInPython_of_ne hT.not_modules];apply ao (wpAny_specialOf hT hl ?_);have fin:aW (br prog w) A (subscripted slice false o i) (λr s₃=>aW (br prog w) A (letTemporaryGo value o r >>= λ_=>fV r) Q E s₃) E s₂:=by
  rw[hs o i];exact wpAny_operating (cx h₂ (λr s₃ h₃=>ao (wpAny_letTemporaryGo (aP h₃))) λ_ _ x=>x)
 first
  | exact aP (ao fin)
  | exact ao (aP (ao fin))
  | exact ao fin
def dict_typeIs {pins:List (aq×Obj)}{y:V}{o:Option V}(I:Inv X pins σ H s)(g:DGet H a y o):s.TypeIs (.ref a) "dict" := by
 rcases g with ⟨kvs,k,e,_,_⟩ | ⟨kvs,k,b,e,_,_,_⟩
 ·obtain⟨_,_,vs,_,dd⟩:=dk_rd I.hok e
  exact dd.typeIs
 ·obtain⟨_,_,xs,_,dd⟩:=dt_rd I.hok e
  exact dd.typeIs
def tDGet (td ty:TE):TE:=λσ H Q=>td σ H λx H1=>ty σ H1 λy H2=>∃a v,x= .ref a∧DGet H2 a y (some v)∧Q v H2
def tDNotIn (ty td:TE):TE:=λσ H Q=>ty σ H λy H1=>td σ H1 λx H2=>∃a o,x= .ref a∧DGet H2 a y o∧Q (.bl (!o.isSome)) H2
def sDPut (td ty tv:TE):TS:=λD σ H=>tv σ H λv H1=>td σ H1 λx H2=>ty σ H2 λy H3=>∃a H4,x= .ref a∧DPut H3 a y v H4∧D.nx σ H4
section
variable {o i:Expr}{tpos:Pos}{td ty tv:TE}
def pe_dget (hu:X.A.units+1<cLine)(ho:PE X o td)(hi:PE X i ty)(hs:NoSl i):PE X (.Subscript o i pos) (tDGet td ty):=by
 intro pins s σ H Q I h;apply subD_of PySem.F.slot_dict_getitem.lookup hs (thn (ho pins s σ H _ I h) λu s1 ⟨x,H1,I1,rx,q1⟩=>thn (hi pins s1 σ H1 _ I1 q1) λiv s2 ⟨y,H2,I2,ry,a,v,ex,g,q2⟩=>?_);subst ex;obtain rfl:u=af.ref a:=rx;exact⟨dict_typeIs I2 g,d_getItem hu I2 g ry λw' s3 I3 rw'=>⟨v,H2,I3,rw',q2⟩⟩
def nU (hu:X.A.units+1<cLine)(hi:PE X i ty)(ho:PE X o td):PC X .NotIn i o (tDNotIn ty td):=by
 intro pins s σ H Q I h;apply thn (hi pins s σ H _ I h) λiv s1 ⟨y,H1,I1,ry,q1⟩=>thn (ho pins s1 σ H1 _ I1 q1) λu s2 ⟨x,H2,I2,rx,a,ov,ex,g,q2⟩=>?_
 subst ex;obtain rfl:u=af.ref a:=rx;exact d_notIn hu I2 g ry λs3 I3=>⟨.bl (!ov.isSome),H2,I3,rfl,q2⟩
def ps_dput (hu:X.A.units+1<cLine)(ho:PE X o td)(hi:PE X i ty)(hv:PE X value tv)(hs:swapsWith value (some (.Subscript o i pos')) pos.line X.env=fV false) :
  PS X (.Assign [.Subscript o i pos'] value pos) (sDPut td ty tv):=by
 intro pins s σ H D I h;apply wpAny_Assign_Subscript (thn (hv pins s σ H _ I h) λr s1 ⟨v,H1,I1,rv,q1⟩=>thn (ho pins s1 σ H1 _ I1 q1) λu s2 ⟨x,H2,I2,rx,q2⟩=>thn (hi pins s2 σ H2 _ I2 q2) λiv s3 ⟨y,H3,I3,ry,a,H4,ex,g,q3⟩=>?_) hs;subst ex;obtain rfl:u=af.ref a:=rx;exact d_setItem hu I3 g ry rv λs4 I4=>⟨σ,H4,I4,q3⟩
end
def tPairs:List (TE×TE)→St→Hp→(List (V×V)→Hp→Prop)→Prop
 | [],_,H,Q=>Q [] H
 | (tk,tv)::r,σ,H,Q=>tk σ H λx H1=>tv σ H1 λy H2=>tPairs r σ H2 λps H3=>Q ((x,y)::ps) H3
abbrev VV:List (V×V)→List (af×af)→Prop:=jS λp q=>gL p.1 q.1∧gL p.2 q.2
def PPs (X:Cx)(pos:Pos)(keys:List (Option Expr))(values:List Expr)(trs:List (TE×TE)):Prop :=
 ∀(pins:List (aq×Obj)) (s:ay) (σ:St) (H:Hp) (Q:List (V×V)→Hp→Prop),Inv X pins σ H s→tPairs trs σ H Q →
  aW (br X.prog X.w) X.A (evalPairs (pairTrees keys values X.env pos)) (λvs s'=>∃ps H',Inv X pins σ H' s'∧VV ps vs∧Q ps H') X.xe s
def pps_nil:PPs X pos [] [] []:=λpins s σ H Q I h=>pairTrees_nil_walk ⟨[],H,I,.nil,h⟩
def pps_cons {k v:Expr}{ks:List (Option Expr)}{vs:List Expr}{tk tv:TE}(hk:PE X k tk)(hv:PE X v tv)(hr:PPs X pos ks vs trs) :
  PPs X pos (some k::ks) (v::vs) ((tk,tv)::trs):=λpins s σ H Q I h =>
 pairTrees_cons_walk (thn (hk pins s σ H _ I h) fun u s1 ⟨x,H1,I1,rx,q1⟩=>thn (hv pins s1 σ H1 _ I1 q1) fun w2 s2 ⟨y,H2,I2,ry,q2⟩ =>
  thn (hr pins s2 σ H2 _ I2 q2) fun ws s3 ⟨ps,H3,I3,rel,q3⟩=>⟨(x,y)::ps,H3,I3,.cons ⟨rx,ry⟩ rel,q3⟩)
def nX (kvs more:List (Key×V)):List (Key×V):=more.foldl (λacc kv=>nP acc kv.1 kv.2) kvs
def KV.merge:∀{more:List (Key×V)} {rs:List (Key×af)} {kvs:List (Key×V)} {vs:List (Key×af)},KV more rs→KV kvs vs→KV (nX kvs more) (merged vs rs):=by
 intro more rs kvs vs r;unfold KV at r
 induction r generalizing kvs vs with
 | nil=>intro q;exact q
 | @cons p q ps qs h t ih =>
  intro r0;have e:KV (nP kvs p.1 p.2) (stored vs q.1 q.2):=by
   have:=r0.put p.1 h.2;rw[←h.1];exact this
  exact ih e
theorem n4:∀(more kvs:List (Key×V)),(nX kvs more).length≤kvs.length+more.length
 | [],kvs=>by show kvs.length≤kvs.length+0;lia
 | p::r,kvs=>by
  have h1:=n4 r (nP kvs p.1 p.2);have h2:=kA kvs p.1 p.2;show(nX (nP kvs p.1 p.2) r).length≤_;rw[aV];lia
theorem rK {P:aX}{w:bz}:∀{kvs:List (Key×V)} {ws:List (af×af)},VV (kvs.map λkv=>(kV kv.1,kv.2)) ws→∃rs,Carries (hW P w) ws rs∧KV kvs rs
 | [],_,r=>by rw[jJ] at r;cases r;exact⟨[],True.intro,.nil⟩
 | p::kvs,_,r=>by
  rw[bI] at r;cases r with
  | @cons a b as bs h t =>
   obtain⟨rs,c,q⟩:=rK (P:=P) (w:=w) t;obtain⟨b1,b2⟩:=b;exact⟨(p.1,b2)::rs,⟨kV_is h.1,rfl,c⟩,.cons ⟨rfl,h.2⟩ q⟩
def tDisp (trs:List (TE×TE)):TE:=λσ H Q=>∀p,H p=none→tPairs trs σ (upd H p (.dK [])) λps H2=>H2 p=some (.dK [])∧∃kvs:List (Key×V),ps=kvs.map (λkv=>(kV kv.1,kv.2))∧kvs.length≤15∧Q (.ref p) (upd H2 p (.dK (nX [] kvs)))
def pe_disp {values:List Expr}(h:PPs X pos keys values trs)(hall:keys.all (·.isSome)=true)(hl:keys.length=values.length)(h0:keys≠[])
  (h15:keys.length≤15):PE X (.Dict keys values pos) (tDisp trs):=by
 intro pins s σ H Q I q;have hn:=I.hok.fresh (aB s.heap.objs.size);have I1:=I.laid (a:=s.heap.objs.size) (o:= .dK []) (h':=s.heap.push { cls:= .type "dict",data:= .dict #[] }) (t':=s.toks) (λ_ _ q=>ax _ q) (aB _) (dk_empty s.heap I.big);apply wpAny_Dict_walk (knd:=hW X.prog X.w) hall hl h0 h15 (thn (h pins _ σ _ _ I1 (q _ hn)) λws s2 ⟨ps,H2,I2,rel,e,kvs,ep,lk,q2⟩=>?_);subst ep;obtain⟨rs,c,rk⟩:=rK (P:=X.prog) (w:=X.w) rel;obtain⟨z,hd,vs0,r0,dd⟩:=dk_of I2.hok e;cases r0;apply⟨rs,c,dd,λh' dd' hs=>⟨.ref s.heap.objs.size,_,?_,rfl,q2⟩⟩;have hz:(nX [] kvs).length≤bf:=by
  have h1:=n4 kvs [];rw[List.length_nil] at h1;rw[fu];lia
 have he:∃q,h'.get? s.heap.objs.size=some q:=let ⟨q,_,_,hq,_⟩:=dd';⟨q,hq⟩;exact d_write I2 (by rw[e];exact True.intro) hs he (dk_new hz hd (rk.merge .nil) dd')
structure M2 (X:Cx)(o:Expr)(m:Str)(apos:Pos)(e f:Expr)(cpos:Pos):Prop where
 base:kU o m X.env (eP o X.env)=eP o X.env
 few:((fB cpos (bB [e,f] X.env)).all (fun x=> !x.1) && (backToKw cpos (keywordEach [] X.env)).all (fun x=>x.1.isSome)
  && decide (([e,f]:List Expr).length+([]:List Keyword).length+(if ([]:List Keyword).isEmpty then 0 else 1)<30))=true
 line:(apos.endLine == cpos.line)=true
 trees:fB cpos (bB [e,f] X.env)=[(false,eP e X.env),(false,eP f X.env)]
def IsDct (H:Hp)(a:aq):Prop:=(∃kvs,Rd H a (.dK kvs))∨∃kvs,Rd H a (.dT kvs)
def isDct_at {pins:List (aq×Obj)}(I:Inv X pins σ H s)(d:IsDct H a) :
  s.TypeIs (.ref a) "dict" ∧(∀b,af.ref a= .ref b→∃ob,s.heap.get? b=some ob∧ob.dict=none)∧(a == i9)=false:=by
 rcases d with ⟨kvs,e⟩ | ⟨kvs,e⟩
 ·obtain⟨_,hd,vs,_,dd⟩:=dk_rd I.hok e
  apply⟨dd.typeIs,λb q=>?_,hd⟩;cases q;obtain⟨ob,_,_,h1,h2,_⟩:=dd;exact⟨ob,h1,h2.2.1⟩
 ·obtain⟨_,hd,xs,_,dd⟩:=dt_rd I.hok e
  apply⟨dd.typeIs,λb q=>?_,hd⟩;cases q;obtain⟨ob,_,_,h1,h2,_⟩:=dd;exact⟨ob,h1,h2.2.1⟩
end L2
namespace Att
open PySem PySem.W PySem.Calls PyProof.Rows
end Att
namespace L2
open PySem PySem.Spec PyProof.Rows
section
variable {κ:Type} [DecidableEq κ]
theorem nd_snoc:∀{l:List κ} {k:κ},l.Nodup→¬k∈l→(l++[k]).Nodup
 | [],k,_,_=>by simp
 | a::r,k,h,hk=>by
  obtain⟨h1,h2⟩:=bw.mp h;show(a::(r++[k])).Nodup;apply bw.mpr ⟨λm=>?_,nd_snoc h2 λm=>hk (aH.mpr (Or.inr m))⟩
  rcases aI.mp m with q | q
  ·exact h1 q
  ·exact hk (aH.mpr (Or.inl (aw.mp q).symm))
end
theorem oZ {α β:Type}{f:α→β→Sem (ForInStep β)}{Q:β→ay→Prop}:∀(l:List α) (I:Nat→β→ay→Prop) (b:β) (s:ay),I 0 b s →
  (∀i a b s,l[i]? =some a→I i b s→aW M A (f a b) (λr s'=>∃b',r= .yield b'∧I (i+1) b' s') E s)→(∀b s,I l.length b s→Q b s)→aW M A (forIn l b f) Q E s
 | [],_,b,s,h0,_,hd=>by
  rw[List.forIn_nil];exact aP (hd b s h0)
 | a::l,I,b,s,h0,hs,hd=>by
  rw[List.forIn_cons];apply ao (cx (hs 0 a b s rfl h0) (λr s' ⟨b',e,h'⟩=>?_) λ_ _ f=>f);subst e;exact oZ l (λi=>I (i+1)) b' s' h' (λi a b s ha hi=>hs (i+1) a b s ha hi) λb s h=>hd b s h
structure Sq where
 l:Bool
 a:aq
def SqAt (h:bO)(c:Sq)(xs:Array af):Prop:=match c.l with | true=>h.IsList c.a xs | false=>h.IsTuple c.a xs
def ItAt (h:bO)(c:Sq)(i:aq)(k:Nat):Prop:=match c.l with | true=>h.IsListIter i c.a k | false=>h.IsTupleIter i c.a k
abbrev nA (h:bO)(T:aq)(vs:List af):Prop:=h.get? T=some { cls:= .type "tuple",data:= .seq vs.toArray }
def SqAt.ext {g:bO}{c:Sq}{xs:Array af}(x:SqAt h c xs)(e:∀o,h.get? c.a=some o→g.get? c.a=some o):SqAt g c xs:=by
 obtain⟨l,a⟩:=c;cases l with
 | true=>obtain⟨o,ho,r⟩:=(show h.IsList a xs from x);exact⟨o,e o ho,r⟩
 | false=>obtain⟨o,ho,r⟩:=(show h.IsTuple a xs from x);exact⟨o,e o ho,r⟩
def ItAt.ext {g:bO}{c:Sq}{i:aq}{k:Nat}(x:ItAt h c i k)(e:∀o,h.get? i=some o→g.get? i=some o):ItAt g c i k:=by
 obtain⟨l,a⟩:=c;cases l with
 | true=>obtain⟨o,ho,r⟩:=(show h.IsListIter i a k from x);exact⟨o,e o ho,r⟩
 | false=>obtain⟨o,ho,r⟩:=(show h.IsTupleIter i a k from x);exact⟨o,e o ho,r⟩
def ItAt.obj {c:Sq}{i:aq}{k:Nat}(x:ItAt h c i k):∃o,h.get? i=some o∧∀v,o.data≠ .cell v:=by
 obtain⟨l,a⟩:=c;cases l with
 | true=>obtain⟨o,ho,_,d⟩:=(show h.IsListIter i a k from x);exact⟨o,ho,λv z=>by rw[d] at z;cases z⟩
 | false=>obtain⟨o,ho,_,d⟩:=(show h.IsTupleIter i a k from x);exact⟨o,ho,λv z=>by rw[d] at z;cases z⟩
def rG {c:Sq}{i:aq}{k:Nat}{xs:Array af}{v:af}(jt:ItAt s.heap c i k)(tt:SqAt s.heap c xs)(hv:xs[k]? =some v)
  (q:∀g,ItAt g c i (k+1)→cH i s.heap g→Q v { s with heap:=g }):aW (br prog w) A (cT (.ref i)) Q E s:=by
 obtain⟨l,a⟩:=c;cases l with
 | true=>exact wpAny_nextOf_list_item (show s.heap.IsListIter i a k from jt) (show s.heap.IsList a xs from tt) hv λg h1 h2=>q g h1 h2
 | false=>exact nextT_item (show s.heap.IsTupleIter i a k from jt) (show s.heap.IsTuple a xs from tt) hv λg h1 h2=>q g h1 h2
def nextS_end {c:Sq}{i:aq}{k:Nat}{xs:Array af}(hh:A.handled=none)(jt:ItAt s.heap c i k)(tt:SqAt s.heap c xs)(hv:xs[k]? =none)
  (q:∀g x,bO.ExtBut i s.heap g→(∃o,g.get? x=some o∧o.cls= .type "StopIteration")→E (.ref x) { s with heap:=g }):aW (br prog w) A (cT (.ref i)) Q E s:=by
 obtain⟨l,a⟩:=c;cases l with
 | true=>exact wpAny_nextOf_list_end hh (show s.heap.IsListIter i a k from jt) (show s.heap.IsList a xs from tt) hv λg x h1 h2=>q g x h1 h2
 | false=>exact nextT_end hh (show s.heap.IsTupleIter i a k from jt) (show s.heap.IsTuple a xs from tt) hv λg x h1 h2=>q g x h1 h2
def iterS {c:Sq}{xs:Array af}(tt:SqAt s.heap c xs)
  (q:∀g,ItAt g c s.heap.objs.size 0→g.objs.size=s.heap.objs.size+1→(∀b o,s.heap.get? b=some o→g.get? b=some o)→Q (.ref s.heap.objs.size) { s with heap:=g }):aW (br prog w) A (pyIter (.ref c.a)) Q E s:=by
 obtain⟨l,a⟩:=c;cases l with
 | true=>exact fT (show s.heap.IsList a xs from tt) (q _ ⟨_,aU _ rfl,rfl,rfl⟩ (eE ..) λb o e=>ax _ e)
 | false=>exact wpAny_pyIter_tuple (show s.heap.IsTuple a xs from tt) (q _ ⟨_,aU _ rfl,rfl,rfl⟩ (eE ..) λb o e=>ax _ e)
def updRow {T:aq}{x:af}{k:Nat}{Q:Unit→ay→Prop}(hT:nA s.heap T vs)(hz:vs.length≤100)
  (h:∀g,nA g T (vs.set k x)→cH T s.heap g→Q () { s with heap:=g }):aW (br prog w) A (updateSeq T (·.setIfInBounds k x)) Q E s:=by
 apply wpAny_updateSeq hT rfl (h _ ?_ (gv ..)) (by rw[aK];exact aQ hz ↥0) (by rw[Array.size_setIfInBounds,aK];exact aQ hz ↥0);show bO.get? _ T=_;rw[bO.get?_update_self _ hT rfl];simp[cN]
structure ZIn (h g:bO)(z TI TO:aq)(cs:List Sq)(is:List aq)(k j:Nat)(vs old:List af):Prop where
 sz:g.objs.size=h.objs.size
 zip:IsZip g z TI TO .ellipsis
 row:nA g TO (vs.take j++old.drop j)
 its:∀(n:Nat) c i,cs[n]? =some c→is[n]? =some i→ItAt g c i (if n<j then k+1 else k)
 ext:∀e o,e≠z→e≠TO→e ∉ is→h.get? e=some o→g.get? e=some o
structure ZOk (h:bO)(z TI TO:aq)(cs:List Sq)(is:List aq)(k:Nat)(old:List af):Prop where
 len:is.length=cs.length
 few:cs.length≤8
 pos:0<cs.length
 nod:(z::TI::TO::is).Nodup
 zip:IsZip h z TI TO .none
 ti:nA h TI (is.map af.ref)
 to:nA h TO old
 lo:old.length=cs.length
 its:∀(n:Nat) c i,cs[n]? =some c→is[n]? =some i→ItAt h c i k
 off:∀c∈cs,c.a≠z∧c.a≠TO∧c.a ∉ is
def nod_ne {is:List aq}{i:aq}{e:aq}(hn:is.Nodup)(h1:is[j]? =some i)(h2:is[n]? =some e)(h:n≠j):e≠i:=λz=>by
 subst z;have a:=(ar.mp h1);have b:=(ar.mp h2);obtain⟨ha,ea⟩:=a;obtain⟨hb,eb⟩:=b;exact h ((j7 hn).mp (eb.trans ea.symm))
def ZIn.step {g:bO}{z TI TO:aq}{cs:List Sq}{is:List aq}{k:Nat}{i:aq}{c:Sq}(D:ZOk h z TI TO cs is k old)(Z:ZIn h g z TI TO cs is k j vs old)(hi:is[j]? =some i)(hc:cs[j]? =some c){g2 g3:bO}{v:af}(hv:vs[j]? =some v)(lv:vs.length=cs.length)
  (n2:ItAt g2 c i (k+1)) (s2:cH i g g2) (r3:nA g3 TO ((vs.take j++old.drop j).set j v)) (s3:cH TO g2 g3):ZIn h g3 z TI TO cs is k (j+1) vs old:=by
 have nod:=D.nod;rw[bw,bw,bw] at nod;obtain⟨nz,nT,nO,ni⟩:=nod;have mi:i∈is:=aL hi;have iz:z≠i:=λq=>nz (by rw[q];simp[mi])
 have iO:TO≠i:=λq=>nO (by rw[q];exact mi)
 have zO:z≠TO:=λq=>nz (by rw[q];simp)
 have jl:j<cs.length:=(ar.mp hc).1;apply⟨by rw[s3.1,s2.1,Z.sz],s3.extBut _ _ zO (s2.extBut _ _ iz Z.zip),?_,λn c' i' hc' hi'=>?_,λe o e1 e2 e3 q=>s3.extBut _ _ e2 (s2.extBut _ _ (λy=>e3 (by rw[y];exact mi)) (Z.ext e o e1 e2 e3 q))⟩
 ·have lo:=D.lo
  have e:(vs.take j++old.drop j).set j v=vs.take (j+1)++old.drop (j+1):=by
   have l1:(vs.take j).length=j:=by rw[bM];lia
   rw[List.set_append,rQ ⋯,l1,fY,List.drop_eq_getElem_cons (by lia:j<old.length),List.set_cons_zero,bj,hv];simp
  rw[←e];exact r3
 ·have mi':i'∈is:=aL hi'
  have iO':i'≠TO:=λq=>nO (by rw[←q];exact mi')
  by_cases e:n=j
  ·subst e
   rw[hi] at hi';rw[hc] at hc';cases hi';cases hc';rw[rR ⋯];exact n2.ext λo q=>s3.extBut _ _ iO' q
  ·have q:=Z.its n c' i' hc' hi'
   have e2:(if n<j+1 then k+1 else k)=(if n<j then k+1 else k):=by
    by_cases y:n<j
    ·rw[rR y,rR ⋯]
    ·rw[rQ y,rQ ⋯]
   rw[e2];exact q.ext λo r=>s3.extBut _ _ iO' (s2.extBut _ _ (nod_ne ni hi hi' e) r)
def zipS_go {z TI TO:aq}{cs:List Sq}{is:List aq}{k:Nat}{Q:Option af→ay→Prop}(D:ZOk s.heap z TI TO cs is k old)
  (hv:∀(n:Nat) c,cs[n]? =some c→∃xs v,SqAt s.heap c xs∧xs[k]? =some v∧vs[n]? =some v) (lv:vs.length=cs.length)
  (q:∀ g,IsZip g z TI TO (rawInt s.heap.objs.size)→nA g TO vs→(∀ (n:Nat) c i,cs[n]? =some c→is[n]? =some i→ItAt g c i (k+1))→nA g s.heap.objs.size vs→g.objs.size=s.heap.objs.size+1 →
   (∀ e o,e≠z→e≠TO→e ∉ is→s.heap.get? e=some o→g.get? e=some o)→Q (some (.ref s.heap.objs.size)) { s with heap:=g }):aW (br prog w) A (pyNext (.ref z)) Q E s:=by
 have hT:s.TypeIs (.ref z) "zip" := ⟨_,D.zip,rfl⟩;have nod:=D.nod;rw[bw,bw,bw] at nod;obtain⟨nz,nT,nO,ni⟩:=nod;have zO:z≠TO:=λq=>nz (by rw[q];simp)
 have few:=D.few;have len:=D.len;unfold pyNext;apply ao (wpAny_attempt (dJ (name:=cj "__next__") hT F.slot_zip_next (fJ F.slot_zip_next hT F.entry_zip_next ?_ (F.args_zip_next_1 _))));show aW _ _ (field (.ref z) 2 >>= _) _ _ s;apply ao (cS D.zip rfl (x:= .bool false) (by rfl) ?_);show aW _ _ (field (.ref z) 3 >>= _) _ _ s;apply ao (cS D.zip rfl (x:= .ref TI) (by rfl) ?_);apply ao (fR D.ti rfl ?_)
 dsimp only
 rw[rQ (by intro y;rw[Array.isEmpty_iff_size_eq_zero,aK,aa,len] at y;have:=D.pos;lia)];apply ao ?_;unfold ft;apply ao (cS D.zip rfl (x:= .none) (by rfl) (aP ?_));simp only[if_true];apply ao (wpAny_rule ?_);apply ao (cS D.zip rfl (x:= .ref TO) (by rfl) ?_);apply ao (dN D.zip ∅ λg1 z1 s1=>?_);have z1:IsZip g1 z TI TO .ellipsis:=z1;apply ao ?_;apply oZ _ (λj b s'=>b=_∧∃g,s'={ s with heap:=g }∧ZIn s.heap g z TI TO cs is k j vs old) _ _ ⟨rfl,g1,rfl,?_⟩ ?_ ?_
 ·apply⟨s1.1,z1,s1.extBut _ _ zO.symm D.to,λn c i hc hi=>?_,λe o e1 _ _ h=>s1.extBut _ _ e1 h⟩
  rw[rQ ⋯];exact(D.its n c i hc hi).ext λo h=>s1.extBut _ _ (λy=>nz (by rw[←y];simp[aL hi])) h
 ·rintro j a b s' ha ⟨rfl,g,rfl,Z⟩
  rw[List.getElem?_zipIdx] at ha;obtain⟨x,hx,rfl⟩:=aM.mp ha;have hx:(is.map af.ref)[j]? =some x:=by simpa using hx
  rw[az] at hx;obtain⟨i,hi,rfl⟩:=aM.mp hx;have jl:j<cs.length:=by rw[←len];exact(ar.mp hi).1
  have hc:cs[j]? =some cs[j]:=gE jl;obtain⟨xs,v,hq,hxv,hvv⟩:=hv j _ hc;obtain⟨o1,o2,o3⟩:=D.off _ (aY jl);have it:=Z.its j _ i hc hi;rw[rQ ⋯] at it
  dsimp only
  apply ao (wpAny_onRaise ?_);show aW _ _ (cT (.ref i) >>= _) _ _ _;apply ao (rG it (hq.ext λo h=>Z.ext _ o o1 o2 o3 h) hxv λg2 n2 s2=>aP ?_);have iO:TO≠i:=λq=>nO (by rw[q];exact aL hi)
  have r2:nA g2 TO (vs.take j++old.drop j):=s2.extBut _ _ iO Z.row;apply ao (fR r2 rfl ?_);apply ao (updRow (x:=v) (k:=0+j) r2 (by rw[av,bM,dm];have:=D.lo;lia) λg3 r3 s3=>?_);rw[Nat.zero_add] at r3;apply ao (jW (aP ⟨_,rfl,rfl,g3,rfl,Z.step D hi hc hvv lv n2 s2 r3 s3⟩))
 ·rintro b s' ⟨rfl,g5,rfl,Z⟩
  have ll:((is.map af.ref).toArray.toList.zipIdx).length=cs.length:=by simp[len]
  rw[ll] at Z;have z5:=Z.zip;have o5:nA g5 TO vs:=by
   have:=Z.row;rw[←lv,bo,lv,←D.lo,List.drop_length,c5] at this;exact this
  have m5:∀(n:Nat) c i,cs[n]? =some c→is[n]? =some i→ItAt g5 c i (k+1):=λn c i hc hi=>by
   have:=Z.its n c i hc hi;rw[rR (ar.mp hc).1] at this;exact this
  dsimp only
  apply ao (fR o5 rfl ?_);apply ao (wpAny_newTuple ?_);have zlt:z<g5.objs.size:=aN z5;have sz:=Z.sz;apply ao ?_;unfold hV;have z6:IsZip (g5.push { cls:= .type "tuple",data:= .seq vs.toArray }) z TI TO .ellipsis:=ax _ z5;apply ao (dN z6 ∅ λg7 z7 s7=>?_);have z7:IsZip g7 z TI TO (rawInt g5.objs.size):=z7;apply dN z7 ∅ λg8 z8 s8=>?_
  have z8:IsZip g8 z TI TO (rawInt g5.objs.size):=z8;have up:∀e o,e≠z→g5.get? e=some o→g8.get? e=some o:=λe o c1 h=>s8.extBut _ _ c1 (s7.extBut _ _ c1 (ax _ h))
  have t8:nA g8 g5.objs.size vs:=s8.extBut _ _ (cZ zlt) (s7.extBut _ _ (cZ zlt) (aU _ rfl));have sz8:g8.objs.size=g5.objs.size+1:=by rw[s8.1,s7.1,eE]
  rw[sz] at z8 t8 sz8;apply aP ⟨_,rfl,?_⟩;apply aP ?_;show Q (some (.ref g5.objs.size)) _;rw[sz];apply q g8 z8 (up _ _ zO.symm o5) (λn c i hc hi=>(m5 n c i hc hi).ext λo h=>up _ o (λy=>nz (by rw[←y];simp[aL hi])) h) t8 sz8 λe o c1 c2 c3 h=>up e o c1 (Z.ext e o c1 c2 c3 h)
def zipS_stop {z TI TO:aq}{cs:List Sq}{is:List aq}{k:Nat}{cm:Sq}{Q:Option af→ay→Prop}(hh:A.handled=none)(D:ZOk s.heap z TI TO cs is k old)
  (hv:∀(n:Nat) c,cs[n]? =some c→n<m→∃xs v,SqAt s.heap c xs∧xs[k]? =some v∧vs[n]? =some v) (lv:vs.length=cs.length) (hm:cs[m]? =some cm) {xm:Array af} (hxm:SqAt s.heap cm xm) (hem:xm[k]? =none)
  (q:∀g,(∀e o,e≠z→e≠TO→e ∉ is→s.heap.get? e=some o→g.get? e=some o)→Q none { s with heap:=g }):aW (br prog w) A (pyNext (.ref z)) Q E s:=by
 have hT:s.TypeIs (.ref z) "zip" := ⟨_,D.zip,rfl⟩;have nod:=D.nod;rw[bw,bw,bw] at nod;obtain⟨nz,nT,nO,ni⟩:=nod;have zO:z≠TO:=λq=>nz (by rw[q];simp)
 have few:=D.few;have len:=D.len;have fin:∀g x,(∀e o,e≠z→e≠TO→e ∉ is→s.heap.get? e=some o→g.get? e=some o)→(∃o,g.get? x=some o∧o.cls= .type "StopIteration") →
   aW (br prog w) A (do if ← isInstance (.ref x) (.type "StopIteration") then fV none else throw (.ref x)) Q E { s with heap:=g }:=λg x k ⟨o,ho,hc⟩=>by
  apply ao (wpAny_isInstance (T := "StopIteration") (b:=true) ⟨o,ho,hc⟩ isSubtype_stop ?_);exact aP (q g k)
 have ml:m<cs.length:=(ar.mp hm).1;unfold pyNext;apply ao (wpAny_attempt (dJ (name:=cj "__next__") hT F.slot_zip_next (fJ F.slot_zip_next hT F.entry_zip_next ?_ (F.args_zip_next_1 _))));show aW _ _ (field (.ref z) 2 >>= _) _ _ s;apply ao (cS D.zip rfl (x:= .bool false) (by rfl) ?_);show aW _ _ (field (.ref z) 3 >>= _) _ _ s;apply ao (cS D.zip rfl (x:= .ref TI) (by rfl) ?_);apply ao (fR D.ti rfl ?_)
 dsimp only
 rw[rQ (by intro y;rw[Array.isEmpty_iff_size_eq_zero,aK,aa,len] at y;have:=D.pos;lia)];apply ao ?_;unfold ft;apply ao (cS D.zip rfl (x:= .none) (by rfl) (aP ?_));simp only[if_true];apply ao (wpAny_rule ?_);apply ao (cS D.zip rfl (x:= .ref TO) (by rfl) ?_);apply ao (dN D.zip ∅ λg1 z1 s1=>?_);have z1:IsZip g1 z TI TO .ellipsis:=z1;apply ao ?_;apply oZ _ (λj b s'=>b=_∧j≤m∧∃g,s'={ s with heap:=g }∧ZIn s.heap g z TI TO cs is k j vs old) _ _ ⟨rfl,bu _,g1,rfl,?_⟩ ?_ ?_
 ·apply⟨s1.1,z1,s1.extBut _ _ zO.symm D.to,λn c i hc hi=>?_,λe o e1 _ _ h=>s1.extBut _ _ e1 h⟩
  rw[rQ ⋯];exact(D.its n c i hc hi).ext λo h=>s1.extBut _ _ (λy=>nz (by rw[←y];simp[aL hi])) h
 ·rintro j a b s' ha ⟨rfl,jm,g,rfl,Z⟩
  rw[List.getElem?_zipIdx] at ha;obtain⟨x,hx,rfl⟩:=aM.mp ha;have hx:(is.map af.ref)[j]? =some x:=by simpa using hx
  rw[az] at hx;obtain⟨i,hi,rfl⟩:=aM.mp hx;have jl:j<cs.length:=by rw[←len];exact(ar.mp hi).1
  have hc:cs[j]? =some cs[j]:=gE jl;obtain⟨o1,o2,o3⟩:=D.off _ (aY jl);have it:=Z.its j _ i hc hi;rw[rQ ⋯] at it;have iO:TO≠i:=λq=>nO (by rw[q];exact aL hi)
  have iz:z≠i:=λq=>nz (by rw[q];simp[aL hi])
  dsimp only
  apply ao (wpAny_onRaise ?_);show aW _ _ (cT (.ref i) >>= _) _ _ _
  by_cases e:j=m
  ·subst e
   rw[hc] at hm;cases hm;apply ao (nextS_end hh it (hxm.ext λo h=>Z.ext _ o o1 o2 o3 h) hem λg2 x s2 hx2=>?_);obtain⟨oe,e1,e2⟩:=hx2;have z2:IsZip g2 z TI TO .ellipsis:=s2 _ _ iz Z.zip;have xz:x≠z:=λr=>by subst r;rw[z2] at e1;cases e1;simp at e2
   exact dN z2 ∅ λg3 _ s3=>fin g3 x (λe o c1 c2 c3 h=>s3.extBut _ _ c1 (s2 _ _ (λy=>c3 (by rw[y];exact aL hi)) (Z.ext e o c1 c2 c3 h))) ⟨oe,s3.extBut _ _ xz e1,e2⟩
  ·obtain⟨xs,v,hq,hxv,hvv⟩:=hv j _ hc ⋯
   apply ao (rG it (hq.ext λo h=>Z.ext _ o o1 o2 o3 h) hxv λg2 n2 s2=>aP ?_);have r2:nA g2 TO (vs.take j++old.drop j):=s2.extBut _ _ iO Z.row;apply ao (fR r2 rfl ?_);apply ao (updRow (x:=v) (k:=0+j) r2 (by rw[av,bM,dm];have:=D.lo;lia) λg3 r3 s3=>?_);rw[Nat.zero_add] at r3;apply ao (jW (aP ⟨_,rfl,rfl,⋯,g3,rfl,Z.step D hi hc hvv lv n2 s2 r3 s3⟩))
 ·rintro b s' ⟨rfl,jm,g5,rfl,Z⟩
  have ll:((is.map af.ref).toArray.toList.zipIdx).length=cs.length:=by simp[len]
  rw[ll] at jm;lia
theorem nv {α:Type}{P:Nat→α→Prop}:∀(k:Nat),(∀n,n<k→∃u,P n u)→∃us:List α,us.length=k∧∀(n:Nat) u,us[n]? =some u→P n u
 | 0,_=>⟨[],rfl,λn u h=>by simp at h⟩
 | k+1,h=>by
  obtain⟨us,hl,hu⟩:=nv k λn hn=>h n ⋯
  obtain⟨u,pu⟩:=h k ⋯;apply⟨us++[u],by rw[av,hl];rfl,λn v hv=>?_⟩
  by_cases e:n<us.length
  ·rw[cu e] at hv
   exact hu n v hv
  ·rw[bp ⋯] at hv
   have hn:n=us.length:=by
    have:=(ar.mp hv).1;simp at this;lia
   subst hn;rw[fY] at hv;cases hv;rw[hl];exact pu
theorem vals_of:∀{vs:List V} {us:List af},vs.length=us.length→(∀(n:Nat) v u,vs[n]? =some v→us[n]? =some u→gL v u)→gz vs us
 | [],[],_,_=> .nil
 | v::vs,u::us,hl,h=> .cons (h 0 v u rfl rfl) (vals_of (by simpa using hl) λn v' u' a b=>h (n+1) v' u' a b)
 | [],_::_,hl,_=>by simp at hl
 | _::_,[],hl,_=>by simp at hl
def HSq (H:Hp)(c:Sq)(xs:List V):Prop:=match c.l with | true=>H c.a=some (.lst xs) | false=>H c.a=some (.tup xs)
def HSq.inj {c:Sq}(a:HSq H c xs)(b:HSq H c ys):xs=ys:=by
 obtain⟨l,q⟩:=c;cases l with
 | true=>have a:H q=some (.lst xs):=a;have b:H q=some (.lst ys):=b;rw[a] at b;cases b;rfl
 | false=>have a:H q=some (.tup xs):=a;have b:H q=some (.tup ys):=b;rw[a] at b;cases b;rfl
def HSq.has {c:Sq}(a:HSq H c xs):∃o,H c.a=some o:=by
 obtain⟨l,q⟩:=c;cases l with
 | true=>exact⟨_,a⟩
 | false=>exact⟨_,a⟩
def HSq.at {pins:List (aq×Obj)}{c:Sq}(I:Inv X pins σ H s)(h:HSq H c xs):∃its,gz xs its∧SqAt s.heap c its.toArray:=by
 obtain⟨l,q⟩:=c;cases l with
 | true =>
  obtain⟨its,r,p,_⟩:=I.list (SqL.of (K:=X.K) (show H q=some (.lst xs) from h));exact⟨its,r,p.isList⟩
 | false =>
  obtain⟨its,r,p,_⟩:=I.tuple (SqT.of (K:=X.K) (show H q=some (.tup xs) from h));exact⟨its,r,p⟩
def Itq (cs:List Sq):It :=
 ⟨fun i H=>∃ vs:List V,vs.length=cs.length∧∀ (n:Nat) c,cs[n]? =some c→∃ xs x,HSq H c xs∧xs[i]? =some x∧vs[n]? =some x,
  λi H v H'=>∃p vs,H p=none∧v= .ref p∧H'=upd H p (.tup vs)∧vs.length=cs.length∧∀(n:Nat) c x xs,cs[n]? =some c→HSq H c xs→vs[n]? =some x→xs[i]? =some x,
  fun i H=>∃ m cm xm,cs[m]? =some cm∧HSq H cm xm∧xm.length≤i∧∀ (n:Nat) c,cs[n]? =some c→n<m→∃ xs x,HSq H c xs∧xs[i]? =some x⟩
def turn_zipS {k0}{z TI TO:aq}{cs:List Sq}{is:List aq} :
  Turn P w K (.Tuple es k0 pos) (Itq cs) (z::TI::TO::is) z (λi h=>∃old,ZOk h z TI TO cs is i old) where
 mem:=by simp
 obj:=λi h st c hc=>by
  obtain⟨old,D⟩:=st;simp only[aH] at hc
  rcases hc with rfl | rfl | rfl | hc
  ·exact⟨_,D.zip,λv z=>by cases z⟩
  ·exact⟨_,D.ti,λv z=>by cases z⟩
  ·exact⟨_,D.to,λv z=>by cases z⟩
  ·obtain⟨n,hn⟩:=List.getElem?_of_mem hc
   have hl:n<cs.length:=by rw[←D.len];exact(ar.mp hn).1
   exact(D.its n _ c (gE hl) hn).obj
 keep:=λi h h' st k=>by
  obtain⟨old,D⟩:=st;exact⟨old,D.len,D.few,D.pos,D.nod,k z ∅ _ D.zip,k TI ∅ _ D.ti,k TO ∅ _ D.to,D.lo,λn c i hc hi=>(D.its n c i hc hi).ext λo e=>k i (by simp[aL hi]) o e,D.off⟩
 item:=by
  intro X hP hw hK hc i pins s σ H E I hf st hg;subst hP hw hK;obtain⟨old,D⟩:=st;obtain⟨vs,lv,hv⟩:=hg;have nz:∀e∈z::TI::TO::is,H e=none:=λe he=>(hf e he).1
  have hT:H s.heap.objs.size=none:=I.fresh;have ex:∀n,n<cs.length→∃u:af,(∀c,cs[n]? =some c→∃xs,SqAt s.heap c xs∧xs[i]? =some u)∧∀v,vs[n]? =some v→gL v u:=λn hn=>by
   obtain⟨xs,x,h1,h2,h3⟩:=hv n _ (gE hn);obtain⟨its,r,p⟩:=h1.at I;obtain⟨u,hu,ru⟩:=r.get h2;apply⟨u,λc hc=>?_,λv hv'=>?_⟩
   ·rw[gE hn] at hc
    cases hc;exact⟨_,p,by simpa using hu⟩
   ·rw[h3] at hv'
    cases hv';exact ru
  obtain⟨us,lu,hu⟩:=nv cs.length ex;have hrel:gz vs us:=vals_of ⋯ λn v u a b=>(hu n u b).2 v a
  apply zipS_go D (vs:=us) (λn c hc=>?_) lu λg z1 to1 m1 tp sz kk=>⟨_,rfl,?_⟩
  ·have hn:n<us.length:=by rw[lu];exact(ar.mp hc).1
   obtain⟨xs,a,b⟩:=(hu n _ (gE hn)).1 c hc;exact⟨xs,us[n],a,b,gE hn⟩
  apply wpAny_letOwnedTupleGo_zip z1 λg2 z2 s2=>?_
  have s2:cH z g g2:=s2;have k2:∀e o,e ∉ z::TO::is→s.heap.get? e=some o→g2.get? e=some o:=λe o hn h=>by
   simp only[aH,not_or] at hn;exact s2.extBut _ _ hn.1 (kk e o hn.1 hn.2.1 hn.2.2 h)
  have zlt:z<s.heap.objs.size:=aN D.zip;have tp2:nA g2 s.heap.objs.size us:=s2.extBut _ _ (cZ zlt) tp;have sub:∀e∈z::TO::is,e∈z::TI::TO::is:=λe he=>by
   simp only[aH] at he ⊢
   rcases he with rfl | rfl | he <;> simp[*]
  have trk:∀e o,H e=some o→e ∉ z::TO::is:=λe o he hm=>by rw[nz e (sub e hm)] at he;cases he
  have J:Inv X pins σ (upd H s.heap.objs.size (.tup vs)) { s with heap:=g2 }:=by
   apply I.turnAll (ch:=z::TO::is) (λe he=>hf e (sub e he)) k2 (λe o h=>by rw[bt (bF h hT)];exact h) (λe o h n=>by rw[bt (bG (aN h))];exact n) λe o h=>?_
   by_cases q:e=s.heap.objs.size
   ·subst q
    rw[aR] at h;cases h;exact⟨by rw[lv];exact aQ D.few ↥0,us,hrel,_,tp2,rfl,rfl,_,rfl⟩
   ·rw[bt q] at h
    apply (I.hok e o h).stay (fun c v hc' q'=>k2 c v (by
     rcases hc' with z' | z'
     ·rw[z'];exact trk e o h
     ·exact trk c _ z') q') (fun c q'=>by rw [bt (bF q' hT)];exact q') fun c xs q'=>by rw [bt (bF q' hT)];exact q'
  have nod:=D.nod;rw[bw,bw,bw] at nod;obtain⟨nz',nT,nO,ni⟩:=nod;apply⟨.ref s.heap.objs.size,_,J,rfl,⟨_,vs,hT,rfl,rfl,lv,λn c x xs hc hq hx=>?_⟩,⟨us,D.len,D.few,D.pos,D.nod,z2,?_,s2.extBut _ _ (λy=>nz' (by rw[←y];simp)) to1,lu,λn c j hc hj=>?_,D.off⟩,λe he=>?_⟩
  ·obtain⟨ys,y,h1,h2,h3⟩:=hv n c hc
   rw[h1.inj hq] at h2;rw[h3] at hx;cases hx;exact h2
  ·apply k2 _ _ (λy=>?_) D.ti
   rcases aH.mp y with y | y
   ·exact nz' (by rw[←y];simp)
   ·exact nT y
  ·exact(m1 n c j hc hj).ext λo e=>s2.extBut _ _ (λy=>nz' (by rw[←y];simp[aL hj])) e
  ·have hlt:e<s.heap.objs.size:=by
    simp only[aH] at he
    rcases he with rfl | rfl | rfl | he
    ·exact aN D.zip
    ·exact aN D.ti
    ·exact aN D.to
    ·obtain⟨n,hn⟩:=List.getElem?_of_mem he
     have hl:n<cs.length:=by rw[←D.len];exact(ar.mp hn).1
     obtain⟨o,ho,_⟩:=(D.its n _ e (gE hl) hn).obj;exact aN ho
   rw[bt (bG hlt)];exact nz e he
 done:=by
  intro X hP hw hK hc i pins s σ H E I hf st hg;subst hP hw hK;obtain⟨old,D⟩:=st;obtain⟨m,cm,xm,hm,hxm,hi,hv⟩:=hg;have nz:∀e∈z::TI::TO::is,H e=none:=λe he=>(hf e he).1
  have ex:∀n,n<cs.length→∃u:af,∀c,cs[n]? =some c→n<m→∃xs,SqAt s.heap c xs∧xs[i]? =some u:=λn hn=>by
   by_cases e:n<m
   ·obtain⟨xs,x,h1,h2⟩:=hv n _ (gE hn) e
    obtain⟨its,r,p⟩:=h1.at I;obtain⟨u,hu,ru⟩:=r.get h2;apply⟨u,λc hc _=>?_⟩;rw[gE hn] at hc;cases hc;exact⟨_,p,by simpa using hu⟩
   ·exact⟨.none,λc _ z=>rS z e⟩
  obtain⟨us,lu,hu⟩:=nv cs.length ex;obtain⟨its,r,p⟩:=hxm.at I;have hl:=r.length;apply zipS_stop (I.ok.hd hc) D (vs:=us) (m:=m) (λn c hc hn=>?_) lu hm p (by simp;lia) λg kk=>⟨rfl,?_⟩
  ·have hn':n<us.length:=by rw[lu];exact(ar.mp hc).1
   obtain⟨xs,a,b⟩:=hu n _ (gE hn') c hc hn;exact⟨xs,us[n],a,b,gE hn'⟩
  have sub:∀e∈z::TO::is,e∈z::TI::TO::is:=λe he=>by
   simp only[aH] at he ⊢
   rcases he with rfl | rfl | he <;> simp[*]
  have k2:∀e o,e ∉ z::TO::is→s.heap.get? e=some o→g.get? e=some o:=λe o hn h=>by
   simp only[aH,not_or] at hn;exact kk e o hn.1 hn.2.1 hn.2.2 h
  have trk:∀e o,H e=some o→e ∉ z::TO::is:=λe o he hm=>by rw[nz e (sub e hm)] at he;cases he
  apply I.turnAll (ch:=z::TO::is) (λe he=>hf e (sub e he)) k2 (λ_ _ h=>h) (λ_ _ _ n=>n) λe o h=>?_
  exact (I.hok e o h).stay (fun c v hc' q'=>k2 c v (by
   rcases hc' with z' | z'
   ·rw[z'];exact trk e o h
   ·exact trk c _ z') q') (fun _ q'=>q') fun _ _ q'=>q'
 self:=λ_ _ _ _ _ st h=>let ⟨_,D⟩:=st;wpAny_pyIter_zip D.zip h
structure ZNew (h g:bO)(cs:List Sq):Prop where
 zip:IsZip g (h.objs.size+cs.length+2) (h.objs.size+cs.length) (h.objs.size+cs.length+1) .none
 ti:nA g (h.objs.size+cs.length) (((aG cs.length).map λj=>h.objs.size+j).map af.ref)
 to:nA g (h.objs.size+cs.length+1) (bx cs.length .none)
 its:∀(n:Nat) c,cs[n]? =some c→ItAt g c (h.objs.size+n) 0
 ext:∀b o,h.get? b=some o→g.get? b=some o
def newClass_zip (vs:List af):cO.SmallTypes.newClass "zip" ⟨.type "zip" :: vs,[]⟩=fV (.type "zip",vs):=by
 unfold cO.SmallTypes.newClass;simp only[isType,sub_zip,pure_bind,Bool.not_true,Bool.false_eq_true,if_false]
def zipS_new (cs:List Sq)(few:cs.length≤8) :
  Meets (cO.«zip.__new__» ⟨.type "zip" :: cs.map λc=>af.ref c.a,[]⟩) (λ_ R s=>(∀c∈cs,∃xs,SqAt s.heap c xs)∧∀g,ZNew s.heap g cs→R (.ok (.ret (.ref (s.heap.objs.size+cs.length+2)))) { s with heap:=g }) :=
 .of_wp λprog w A R s h=>by
  obtain⟨h1,h⟩:=h;unfold cO.«zip.__new__»;apply ao (wpAny_of_eq (newClass_zip _) ?_);show aW _ _ (cO.SmallTypes.iterAll (cs.map λc=>af.ref c.a) >>= _) _ _ _;apply ao ?_;unfold cO.SmallTypes.iterAll;apply ao (oZ _ (λj its s'=>∃g,s'={ s with heap:=g }∧g.objs.size=s.heap.objs.size+j∧its=((aG j).map λi=>af.ref (s.heap.objs.size+i)).toArray∧(∀(n:Nat) c,n<j→cs[n]? =some c→ItAt g c (s.heap.objs.size+n) 0)∧∀b o,s.heap.get? b=some o→g.get? b=some o) _ _ ⟨s.heap,rfl,rfl,rfl,λn c hn=>rS hn ⋯,λ_ _ e=>e⟩ ?_ ?_)
  ·rintro j a its s' ha ⟨g,rfl,sz,rfl,hit,ext⟩
   rw[az] at ha;obtain⟨c,hc,rfl⟩:=aM.mp ha;obtain⟨xs,hx⟩:=h1 c (aL hc);apply ao (dU (iterS (c:=c) (xs:=xs) (hx.ext λo e=>ext _ o e) λg2 i2 z2 e2=>?_));apply aP ⟨_,rfl,g2,rfl,?_,?_,λn c' hn hc'=>?_,λb o e=>e2 b o (ext b o e)⟩
   ·show g2.objs.size=_
    rw[z2];show g.objs.size+1=_;rw[sz];lia
   ·show Array.push _ (af.ref g.objs.size)=_
    rw[sz,fj,aD];simp
   ·by_cases e:n=j
    ·subst e
     rw[hc] at hc';cases hc';have i2:ItAt g2 c g.objs.size 0:=i2;rw[sz] at i2;exact i2
    ·exact(hit n c' ⋯ hc').ext λo q=>e2 _ o q
  ·rintro its s' ⟨g,rfl,sz,rfl,hit,ext⟩
   have ll:(cs.map λc=>af.ref c.a).length=cs.length:=aa ..;rw[ll] at sz hit ⊢;apply aP ?_
   dsimp only
   have n8:((aG cs.length).map λi=>af.ref (s.heap.objs.size+i)).length≤bf:=by
    rw[aa,bb];exact aQ few ↥0
   apply ao (wpAny_newTuple ?_ (by simpa using n8));apply ao (wpAny_newTuple ?_ (by simpa using n8));apply ao ?_;unfold cO.SmallTypes.newRecord;apply fk (aP ⟨_,rfl,?_⟩) (by show 5≤bf+2;decide);have e1:(g.push { cls:= .type "tuple",data:= .seq ((aG cs.length).map λi=>af.ref (s.heap.objs.size+i)).toArray }).objs.size=s.heap.objs.size+cs.length+1:=by rw[eE,sz]
   have e2:((g.push { cls:= .type "tuple",data:= .seq ((aG cs.length).map λi=>af.ref (s.heap.objs.size+i)).toArray }).push { cls:= .type "tuple",data:= .seq ((((aG cs.length).map λi=>af.ref (s.heap.objs.size+i)).toArray.toList.map λ_=>af.none)).toArray }).objs.size=s.heap.objs.size+cs.length+2:=by rw[eE,e1]
   have key:=h (((g.push { cls:= .type "tuple",data:= .seq ((aG cs.length).map λi=>af.ref (s.heap.objs.size+i)).toArray }).push { cls:= .type "tuple",data:= .seq ((((aG cs.length).map λi=>af.ref (s.heap.objs.size+i)).toArray.toList.map λ_=>af.none)).toArray }).push { cls:= .type "zip",data:= .fields #[.none,.bool false,.bool false,.ref (s.heap.objs.size+cs.length),.ref (s.heap.objs.size+cs.length+1)] })
    ⟨by rw[←e2];exact aU _ rfl,?_,?_,λn c hc=>(hit n c (ar.mp hc).1 hc).ext λo q=>ax _ (ax _ (ax _ q)),λb o q=>ax _ (ax _ (ax _ (ext b o q)))⟩
   ·rw[←e2] at key
    have e1':(s.heap.objs.size+cs.length:Nat)=g.objs.size:=sz.symm;rw[←e1,e1'] at key;exact key
   ·have em:(((aG cs.length).map λj=>s.heap.objs.size+j).map af.ref)=((aG cs.length).map λi=>af.ref (s.heap.objs.size+i)):=by rw[cW];rfl
    show bO.get? _ _=_;rw[em,←sz];exact ax _ (ax _ (aU _ rfl))
   ·rw[←e1]
    have er:(((aG cs.length).map λi=>af.ref (s.heap.objs.size+i)).toArray.toList.map λ_=>af.none)=bx cs.length af.none:=by
     rw[List.eq_replicate_iff];exact⟨∅,λx hx=>by obtain⟨_,_,rfl⟩:=ba.mp hx;rfl⟩
    rw[er];exact ax _ (aU _ rfl)
def zip_walk {pins:List (aq×Obj)}{s1:ay}{k0}{pt:Pos}{R:It→Hp→Prop}{cs:List Sq}(I1:Inv X pins σ H1 s1)(few:cs.length≤8)(pos:0<cs.length)(hq:∀c∈cs,∃xs,HSq H1 c xs)(q:R (Itq cs) H1){g:bO}(Z:ZNew s1.heap g cs) :
  aW (br X.prog X.w) X.A (pyIter (.ref (s1.heap.objs.size+cs.length+2))) (PIE X pins σ (.Tuple es k0 pt) R) E { s1 with heap:=g }:=by
 have small:∀c∈cs,c.a<s1.heap.objs.size:=λc hc=>by
  obtain⟨xs,hx⟩:=hq c hc;obtain⟨o,ho⟩:=hx.has;exact Nat.lt_of_not_le λhge=>by rw[I1.hok.fresh hge] at ho;cases ho
 apply wpAny_pyIter_zip Z.zip ⟨_,(s1.heap.objs.size+cs.length+2)::(s1.heap.objs.size+cs.length)::(s1.heap.objs.size+cs.length+1)::((aG cs.length).map λj=>s1.heap.objs.size+j),_,Itq cs,H1,rfl,I1.kept (t':=s1.toks) Z.ext,turn_zipS,⟨_,?_,few,pos,?_,Z.zip,Z.ti,Z.to,by rw[eC],λn c i hc hi=>?_,λc hc=>?_⟩,λe he=>?_,q⟩
 ·rw[aa,bb]
 ·have nd:((aG cs.length).map λj=>s1.heap.objs.size+j).Nodup:=by
   rw[b9,fP];exact(b9.mp List.nodup_range).imp λh e=>h ⋯
  have out:∀x,s1.heap.objs.size+cs.length≤x→x ∉ ((aG cs.length).map λj=>s1.heap.objs.size+j):=λx hx hm=>by
   obtain⟨j,hj,rfl⟩:=ba.mp hm;have:=bS.mp hj;lia
  rw[bw,bw,bw];apply⟨λh=>?_,λh=>?_,λh=>out _ (by show @LE.le Nat _ _ _;lia) h,nd⟩
  ·rcases aH.mp h with h | h
   ·have h: @Eq Nat _ _:=h
    lia
   ·rcases aH.mp h with h | h
    ·have h: @Eq Nat _ _:=h
     lia
    ·exact out _ (by show @LE.le Nat _ _ _;lia) h
  ·rcases aH.mp h with h | h
   ·have h: @Eq Nat _ _:=h
    lia
   ·exact out _ (by show @LE.le Nat _ _ _;lia) h
 ·rw[az,gY (ar.mp hc).1] at hi
  cases hi;exact Z.its n c hc
 ·have:=small c hc
  have this: @LT.lt Nat _ c.a s1.heap.objs.size:=this;apply⟨by show @Ne Nat _ _;lia,by show @Ne Nat _ _;lia,λhm=>?_⟩;obtain⟨j,hj,e⟩:=ba.mp hm;have e: @Eq Nat _ _:=e;lia
 ·have hge:s1.heap.objs.size≤e:=by
   simp only[aH] at he
   rcases he with rfl | rfl | rfl | he
   ·show @LE.le Nat _ _ _;lia
   ·show @LE.le Nat _ _ _;lia
   ·show @LE.le Nat _ _ _;lia
   ·obtain⟨j,hj,rfl⟩:=ba.mp he
    show @LE.le Nat _ _ _;lia
  exact I1.fpOk hge (I1.hok.fresh hge)
def iZip2 (ta:TA):TI:=λσ H R=>ta σ H λvs H1=>∃c1 c2 xs ys,vs=[.ref c1.a,.ref c2.a]∧HSq H1 c1 xs∧HSq H1 c2 ys∧R (Itq [c1,c2]) H1
def pi_zip2 {eb:Expr}{ta:TA}{p:Pos}{k0}{pt:Pos}(hg:Gl X "zip")(hm:X.mg "zip" =none)(ha:PA X [ea,eb] ta)(hs:bB [ea,eb] X.env=[(false,eP ea X.env),(false,eP eb X.env)]:=by rfl)(hs2:bB [eb] X.env=[(false,eP eb X.env)]:=by rfl) :
  PI X (.Tuple es k0 pt) (.Call (.Name "zip" p) [ea,eb] [] pos) (iZip2 ta):=by
 intro pins s σ H R I h;apply Call_ (mU I hg hm boot_zip (fH (thn (ha pos pins s σ H _ I h) λus s1 ⟨vs,H1,I1,r1,q1⟩=>?_) (by rw[hs,hs2]) (by rw[hs2];rfl)));obtain⟨c1,c2,xs,ys,e,h1,h2,q⟩:=q1;subst e;obtain⟨u1,u2,rfl,r2,r3⟩:=vals2 r1;cases(show u1=af.ref c1.a from r2);cases(show u2=af.ref c2.a from r3);obtain⟨_,_,p1⟩:=h1.at I1;obtain⟨_,_,p2⟩:=h2.at I1;apply callType_new F.called_zip ↥0 (F.typeCall_zip_2 _ _) (F.newCall_zip_2 _ _) (λobj=>F.args_object_init_3 obj _ _) F.entry_zip_new (zipS_new [c1,c2] (by show 2≤8;decide)) ⟨λc hc=>?_,λg Z=>⟨⟨_,Z.zip,rfl⟩,?_⟩⟩
 ·simp only[aH,cz,or_false] at hc
  rcases hc with rfl | rfl
  ·exact⟨_,p1⟩
  ·exact⟨_,p2⟩
 ·apply zip_walk (cs:=[c1,c2]) I1 (by show 2≤8;decide) (by show 0<2;decide) (λc hc=>?_) q Z
  simp only[aH,cz,or_false] at hc
  rcases hc with rfl | rfl
  ·exact⟨_,h1⟩
  ·exact⟨_,h2⟩
def for_zip2 {c1 c2:Sq}{tb:TS}{D:kQ}(Pv:Nat→St→Hp→Prop)(h0:Pv 0 σ H)(hl:∀i σ H,i≤xs.length→Pv i σ H→HSq H c1 xs∧HSq H c2 ys)(hxy:xs.length=ys.length)
  (hs:∀i x y p σ H,xs[i]? =some x→ys[i]? =some y→Pv i σ H→H p=none→g (.ref p) σ (upd H p (.tup [x,y])) λσ2 H2=>tb { D with nx:=Pv (i+1),ct:=Pv (i+1),bk:=D.nx } σ2 H2) (hd:∀σ H,Pv xs.length σ H→D.nx σ H) :
  ∃W:Nat→Nat→St→Hp→Prop,(∃m,W 0 m σ H)∧∀i m σ H,W i m σ H →
   ((Itq [c1,c2]).stop i H∧D.nx σ H)∨((Itq [c1,c2]).go i H∧∃N:St→Hp→Prop,(∀σ' H',N σ' H'→∃m',m'<m∧W (i+1) m' σ' H')∧∀x H',(Itq [c1,c2]).yld i H x H'→g x σ H' λσ2 H2=>tb { D with nx:=N,ct:=N,bk:=D.nx } σ2 H2):=by
 apply⟨λi m σ H=>i≤xs.length∧m=xs.length - i∧Pv i σ H,⟨_,bu _,rfl,h0⟩,λi m σ H ⟨hi,hm,hp⟩=>?_⟩;obtain⟨qa,qb⟩:=hl i σ H hi hp
 by_cases e:i=xs.length
 ·subst e
  exact .inl ⟨⟨0,c1,xs,rfl,qa,aB _,λn c _ hn=>rS hn ⋯⟩,hd σ H hp⟩
 ·have hlt:i<xs.length:=fE hi e
  have hlt2:i<ys.length:=by lia
  apply .inr ⟨⟨[xs[i],ys[i]],rfl,λn c hc=>?_⟩,Pv (i+1),λσ' H' hp'=>⟨xs.length - (i+1),⋯,⋯,rfl,hp'⟩,λv H3 hy=>?_⟩
  ·match n,hc with
   | 0,hc=>cases hc;exact⟨xs,xs[i],qa,gE hlt,rfl⟩
   | 1,hc=>cases hc;exact⟨ys,ys[i],qb,gE hlt2,rfl⟩
   | n+2,hc=>simp at hc
  ·obtain⟨p,vs,hn,rfl,rfl,lv,hx⟩:=hy
   match vs,lv,hx with
   | [x,y],_,hx=>exact hs i x y p σ H (hx 0 c1 x xs rfl qa rfl) (hx 1 c2 y ys rfl qb rfl) hp hn
def ps_setCT {py:Pos}{xs:List Str}
  (hN0:X.N.Nodup) (hi0:X.N[iy]? =some y0) (hx0:Loc X.env.scope y0) (hc:X.calm=true) (hi:PI X tg iter wi)
  (iL:∀y∈scope.names,y.2≠ .cell) (mJ:scope.kind= .function) (lG:∀y∈scope.names,y.2= .local→scope.names.lookup y.1=some .local)
  (hfr:∀y∈scope.names,y.2= .free→X.env.scope.names.lookup y.1=some .cell) (hjs:js.map (λj=>X.N[j]?)=fr.map some) (hfv:∀y∈fr,scope.names.lookup y=some .free)
  (hg:∀cl C s' H' ex,PG (gn X scope cl C (xs++fr) s' H' ex) tg g)
  (hb:∀cl C s' H' ex,PE (gn X scope cl C (xs++fr) s' H' ex) elt te∧PTs (gn X scope cl C (xs++fr) s' H' ex) ifs tt)
  (hs:∀z,fU iter X.env z=fV z:=by intro _;rfl) (hsw:swapsWith (.ListComp elt [⟨tg,iter,ifs,0⟩] scope pos) (some (.Name y0 py)) spos.line X.env=fV true:=by rfl)
  (hf0:X.fn y0=true∨X.env.scope.names.lookup y0=some .local:=by first | exact .inl rfl | exact .inr rfl | assumption) :
  PS X (.Assign [.Name y0 py] (.ListComp elt [⟨tg,iter,ifs,0⟩] scope pos) spos) (tAsg (tCompT wi xs.length g js tt te) (oG iy)) :=
 ps_setCC hN0 hi0 hx0 hc hi iL mJ lG hfr hjs hfv hg hb (λ_ _ _ _ h=>h) hs hsw hf0
def PE.cutV {t:TE}(h:PE X e t):PE X e (λσ H Q=>∃N:VK,(∀v H',N v H'→Q v H')∧t σ H N):=λpins s σ H Q I ⟨N,i,q⟩ =>
 thn (h pins s σ H N I q) λu s' ⟨v,H',I',rv,q'⟩=>⟨v,H',I',rv,i _ _ q'⟩
end L2
variable {cs:List L2.Sq}
local macro_rules
 | `(tactic|exists $s:term) => `(tactic|(show ∀ y:bW×PySem.NameKind,y∈_→y.2=PySem.NameKind.free→eN y.1 (L2.defScope $s).names=some PySem.NameKind.cell;decide +kernel))
local macro_rules
 | `(tactic|trivial) => `(tactic|first|decide +kernel|exact ⟨rfl,rfl,rfl,by decide +kernel,rfl,by decide +kernel,by decide +kernel⟩|exact True.intro)
local macro_rules
 | `(tactic|contradiction) => `(tactic|(intro _ _ _ _ h;first | (cases h;subst_vars;rfl) | ((repeat (obtain ⟨_,h⟩:=h));subst_vars;rfl)))
namespace L2
open PySem PyProof.Rows
def ixZ {a:Expr}{p q:Pos}{i:Int}{j}(h:PE X a ta):PE X (.Subscript a (.Constant (.int i) j p) q) (tOp (pq X.K) ta (tC (.int i))):=dO dF h bP (λ_ _=>rfl)
def szZ1:1≤bf:=by decide
def o6:2≤bf:=by decide
def szZ4:4≤bf:=by decide
def szZ5:5≤bf:=by decide
def psZ (i:Nat)(hN:X.N.Nodup)(he:PE X e te)(hi:X.N[i]? =some x:=by rfl)(hx:Loc X.env.scope x:=by first|exact .inl rfl|exact .inr rfl)(hs:swapsWith e (some (.Name x pos')) pos.line X.env=fV false:=by rfl)(hf:X.fn x=true∨X.env.scope.names.lookup x=some .local:=by first|exact .inl rfl|exact .inr rfl|assumption):PS X (.Assign [.Name x pos'] e pos) (tAsg te (oG i)):=ps_set hN hi hx he hs hf
def pgZ (i:Nat)(hN:X.N.Nodup)(hi:X.N[i]? =some x:=by rfl)(hx:Loc X.env.scope x:=by first|exact .inl rfl|exact .inr rfl)(hf:X.fn x=true∨X.env.scope.names.lookup x=some .local:=by first|exact .inl rfl|exact .inr rfl|assumption):PG X (.Name x pos) (oG i):=oE hN hi hx hf
end L2
namespace L2
abbrev pza:List bW:=["net"]
abbrev pzb:List bW:=["net","thing"]
abbrev pzc:List bW:=["net","step"]
abbrev pzd:List bW:=["net","table"]
abbrev pze:List bW:=["net","bounds","ring"]
abbrev pzf:List bW:=["net","span"]
abbrev pzg:List bW:=["beat","number"]
abbrev pzh:List bW:=["_law_script","_law_k"]
abbrev pzi:List bW:=["_law_net_here","_law_table_here"]
abbrev pzj:List bW:=["net","parts","table","other"]
abbrev pzk:List bW:=["net","most"]
abbrev pzl:List bW:=["net","one","other"]
abbrev pzm:List bW:=["_law_net_here","_law_found"]
abbrev pzn:List bW:=["thing","low","high"]
abbrev pzo:List bW:=["thing","word","many"]
abbrev pzp:List bW:=["bounds","span","low","high"]
abbrev pzq:List bW:=["net","spans","happening"]
abbrev pzr:List bW:=["net","parts","table","shifts"]
abbrev pzs:List bW:=["net","case"]
abbrev pzt:List bW:=["numbers"]
abbrev pzu:List bW:=["case","span"]
abbrev pzv:List bW:=["table","other"]
abbrev pzw:List bW:=["_law_box_here","_law_most"]
abbrev pzx:List bW:=["net","bounds","leaf"]
abbrev pzy:List bW:=["rings","span"]
abbrev pzz:List bW:=["net","leaf_in"]
abbrev pzA:List bW:=["_law_net_here","_law_other"]
abbrev pzB:List bW:=["net","table","some"]
abbrev pzC:List bW:=["_law_net_here","_law_table_here","_law_some"]
abbrev pzD:List bW:=["_law_net_here","_law_table_here","_law_hidden"]
abbrev pzE:List bW:=["bounds","thing"]
abbrev pzF:List bW:=["bounds","cut"]
abbrev pzG:List bW:=["bounds","way"]
abbrev pzH:List bW:=["_law_net_here","_law_span","_law_table_here"]
abbrev pzI:List bW:=["net","spans","begin","end"]
abbrev pzJ:List bW:=["net","steps","bounds"]
abbrev pzK:List bW:=["self","case","span","at"]
abbrev pzL:List bW:=["_law_net_here","_law_table_here","_law_other"]
abbrev pzM:List bW:=["net","table","one","other"]
abbrev pzN:List bW:=["_law_box_here"]
abbrev pzO:List bW:=["_law_box_here","_law_net_here","_law_hidden"]
end L2
namespace HN
open PySem L2 PyProof.Rows
def mr {b:Bool}{A:Prop}(h:b=true)(x:A):if b=true then A else B:=by rw[rR h];exact x
def j3 {b:Bool}{A:Prop}(h:b=false)(x:B):if b=true then A else B:=by rw[rQ (by rw[h];exact bc)];exact x
structure Nm (mg:Str→Option af):Prop where
 isin:mg "isinstance" =none
 tint:mg "int" =none
 tbool:mg "bool" =none
 ttup:mg "tuple" =none
 len:mg "len" =none
 min:mg "min" =none
 all:mg "all" =none
structure Fn (K:au)(mg:Str→Option af)(x:Str)(st:cF)(ps:List Str)(f:aq)(fd:bg):Prop where
 F:Fun K x x st f fd
 mg:mg x=some (.ref f)
 b:oM K fd ps []
def pc1 {k:Nat}{sp:Sp}{p:Pos}(G:Fn X.K X.mg x st ps f fd)(F:cJ X.prog X.w X.K X.mg X.base CX0 k f fd ps sp)(hr:gP k X.A)
  (ha:PA X (e::es) t) (hg:Gl X x:=by rfl) (hdb:(x == ("__debug__" :Str))=false:=by decide) (he:bB (e::es) X.env=(false,eP e X.env)::bB es X.env:=by rfl) (hpl:(fB pos (bB es X.env)).any (·.1)=false:=by rfl) :
  PE X (.Call (.Name x p) (e::es) [] pos) (tCall sp [] E0 t):=pe_call F hr hg G.mg G.F.kp G.b .nil pass0 ha hdb he hpl
def qd {i:Int}(hm:∃t,X.mg x=some (.int i t))(hg:Gl X x:=by rfl)(hd:(x == ("__debug__" :Str))=false:=by decide):PE X (.Name x pos) (tC (.int i)) :=
 let ⟨t,e⟩:=hm;pe_glob (v:= .int i) (u:= .int i t) hg e ⟨t,rfl⟩ hd
def nS {p:Pos}(N:Nm X.mg)(he:PE X e te)(hg:Gl X "isinstance" := by rfl)(hg2:Gl X "tuple" := by rfl)
  (hs1:bB [e,.Name "tuple" p2] X.env=(false,eP e X.env)::bB [.Name "tuple" p2] X.env:=by rfl) (hpl:(fB pos (bB [.Name "tuple" p2] X.env)).any (·.1)=false:=by rfl) :
  PE X (.Call (.Name "isinstance" p) [e,.Name "tuple" p2] [] pos) (tCB (λxs H Q=>∃x T,xs=[x,.ty "tuple"]∧tyn H x=some T∧Q (.bl (T == "tuple")) H) (oV te (oV (tC (.ty "tuple")) tNil))) :=
 cp call_isTup hg N.isin boot_isinstance (ai he (ai (pe_bltn hg2 N.ttup fW rfl) aF) hs1) (he:=hs1) (hpl:=hpl)
def pe_isInt {p:Pos}(N:Nm X.mg)(he:PE X e te)(hg:Gl X "isinstance" := by rfl)(hg2:Gl X "int" := by rfl)
  (hs1:bB [e,.Name "int" p2] X.env=(false,eP e X.env)::bB [.Name "int" p2] X.env:=by rfl) (hpl:(fB pos (bB [.Name "int" p2] X.env)).any (·.1)=false:=by rfl) :
  PE X (.Call (.Name "isinstance" p) [e,.Name "int" p2] [] pos) (tCB (λxs H Q=>∃x T,xs=[x,.ty "int"]∧tyn H x=some T∧Q (.bl (T == "int" || T == "bool")) H) (oV te (oV (tC (.ty "int")) tNil))) :=
 cp call_isInt hg N.isin boot_isinstance (ai he (ai (pe_bltn hg2 N.tint boot_int rfl) aF) hs1) (he:=hs1) (hpl:=hpl)
def pe_isBool {p:Pos}(N:Nm X.mg)(he:PE X e te)(hg:Gl X "isinstance" := by rfl)(hg2:Gl X "bool" := by rfl)
  (hs1:bB [e,.Name "bool" p2] X.env=(false,eP e X.env)::bB [.Name "bool" p2] X.env:=by rfl) (hpl:(fB pos (bB [.Name "bool" p2] X.env)).any (·.1)=false:=by rfl) :
  PE X (.Call (.Name "isinstance" p) [e,.Name "bool" p2] [] pos) (tCB (λxs H Q=>∃x T,xs=[x,.ty "bool"]∧tyn H x=some T∧Q (.bl (T == "bool")) H) (oV te (oV (tC (.ty "bool")) tNil))) :=
 cp call_isBool hg N.isin boot_isinstance (ai he (ai (pe_bltn hg2 N.tbool boot_bool rfl) aF) hs1) (he:=hs1) (hpl:=hpl)
structure Sn where
 s:Int
 g:Int
 l:Int
 o:Int
 w:Int
abbrev Sn.row (x:Sn):List Int:=[x.s,x.g,x.l,x.o,x.w]
abbrev jv (b m:Int)(sp:List Sn):Dt:= .tup [.int b,.int m,.tup (sp.map λx=> .tup (x.row.map Dt.int))]
def fe {m:Int}{sp:List Sn}(h:IsD H v (jv b m sp)):∃t p ys,v= .ref t∧H t=some (.tup [.int b,.int m,.ref p])∧H p=some (.tup ys)∧ys.length=sp.length∧∀(i:Nat) (x:Sn),sp[i]? =some x→∃q,ys[i]? =some (.ref q)∧H q=some (.tup [.int x.s,.int x.g,.int x.l,.int x.o,.int x.w]):=by
 obtain⟨t,xs,rfl,ht,rx⟩:=h.tup_of;cases rx with
 | cons h0 r0 =>
  cases r0 with
  | cons h1 r1 =>
   cases r1 with
   | cons h2 r2 =>
    cases r2;cases h0;cases h1;obtain⟨p,ys,rfl,hp,ry⟩:=h2.tup_of;apply⟨t,p,ys,rfl,ht,hp,by rw[ry.length,aa],λi x hx=>?_⟩;obtain⟨y,hy,dy⟩:=ry.at (i:=i) (d:= .tup (x.row.map Dt.int)) (by rw[az,hx];rfl);obtain⟨q,zs,rfl,hq,rz⟩:=dy.tup_of;have ez:=rz.ints_of;subst ez;exact⟨q,hy,hq⟩
def tm (ts:List Int)(i:Int):Int:=ts.getD i.toNat 0
def kr {i:Int}(h0:0≤i)(h1:i<ts.length):atI (ts.map V.int) i=some (.int (tm ts i)):=by
 obtain⟨j,rfl⟩:=c6 h0;apply aO ?_;rw[az,gE ⋯];unfold tm;rw[cA,ae,gE ⋯];rfl
structure Rdy (b:Int)(ts:List Int)(sp:List Sn):Prop where
 b1:0<b
 few:sp.length≤1000
 ends:∀x∈sp,0≤x.s∧x.s<ts.length∧0≤x.g∧x.g<ts.length
def iJ (b:Int)(ts:List Int)(x:Sn):Int:=(tm ts x.g - tm ts x.s - x.l) % b
def brk (b:Int)(ts:List Int)(x:Sn):Bool:=decide (x.o - x.l<iJ b ts x)
def kB (b:Int)(ts:List Int)(sp:List Sn):Bool:= !(sp.any (brk b ts))
def waitOfM (b:Int)(ts:List Int)(sp:List Sn):Int:=(sp.map λx=>x.w * iJ b ts x).sum
def qo (b k:Int)(ns:List Int):List Int:=ns.map λn=>(n+k) % b
def de (h:n≤1000):n≤bf:=aQ h ↥0
structure Nt (mg:Str→Option af):Prop where
 range:mg "range" =none
 enum:mg "enumerate" =none
 zip:mg "zip" =none
 sum:mg "sum" =none
 tlist:mg "list" =none
 max:mg "max" =none
structure SnOk (b m:Int)(x:Sn):Prop where
 s0:0≤x.s
 s1:x.s<m
 g0:0≤x.g
 g1:x.g<m
 ne:x.s≠x.g
 l0:0≤x.l
 lo:x.l≤x.o
 ob:x.o<x.l+b
 o60:x.o<10 ^ 60
 w0:0≤x.w
 w1:x.w≤1000000000000
structure jb (b m:Int)(sp:List Sn):Prop where
 b1:1≤b
 b2:b≤10 ^ 59
 m1:1≤m
 m2:m≤16
 few:sp.length≤40
 all:∀x∈sp,SnOk b m x
def jb.rdy {m:Int}{sp:List Sn}(h:jb b m sp)(ht:(ts.length:Int)=m):Rdy b ts sp :=
 ⟨by have:=h.b1;lia,by have:=h.few;lia,λx hx=>by have:=h.all x hx;exact⟨this.s0,by have:=this.s1;lia,this.g0,by have:=this.g1;lia⟩⟩
def tm_in {i:Int}(h:∀i∈ts,0≤i∧i<b)(h0:0≤i)(h1:i<ts.length):0≤tm ts i∧tm ts i<b:=by
 have hi:i.toNat<ts.length:=by lia
 have e:tm ts i=ts[i.toNat]:=by unfold tm;rw[ae,gE hi];rfl
 rw[e];exact h _ (aY hi)
def rest_two (x y l b:Int):(x % b - y % b - l) % b=(x - y - l) % b:=by
 have hx:=iu x b;have hy:=iu y b;have e:x - y - l=(x % b - y % b - l)+b * (x / b - y / b):=by rw[jw];lia
 rw[e,iU]
def tm_moved {k:Int}{i:Int}(h0:0≤i)(h1:i<ts.length):tm (qo b k ts) i=(tm ts i+k) % b:=by
 have hi:i.toNat<ts.length:=by lia
 unfold tm qo;rw[ae,ae,az,gE hi];rfl
inductive spRest (vs:List V)(H:Hp)(Q:VK)(_:XK):Prop
 | mk (b n:_)(_:vs=[.int b,.int n])(_:0<b)(_:Q (.int (n % b)) H)
inductive spWidth (vs:List V)(H:Hp)(Q:VK)(_:XK):Prop
 | mk (v b m sp i x:_)(_:vs=[v,.int (i:Nat)])(_:IsD H v (jv b m sp))(_:sp[i]? =some x)(_:Q (.int (x.o - x.l)) H)
def Mb (p:aq)(H H':Hp):Prop:=(∀b o,b≠p→H b=some o→H' b=some o)∧∃x y,H' p=some (.lst [.int x,.int y])
def Mb.refl {p:aq}{x:Int}(h:H p=some (.lst [.int x,.int y])):Mb p H H:=⟨λ_ _ _ e=>e,x,y,h⟩
def Mb.trans {p:aq}(a:Mb p H H1)(b:Mb p H1 H2):Mb p H H2:=⟨λc o hc e=>b.1 c o hc (a.1 c o hc e),b.2⟩
def Mb.then {p:aq}(a:Mb p H H1)(e:bD H1 H2):Mb p H H2:=⟨λc o hc q=>e _ _ (a.1 c o hc q),let ⟨x,y,h⟩:=a.2;⟨x,y,e _ _ h⟩⟩
def Mb.at {p q:aq}(a:Mb p H H1)(h:H q=some o)(hne:q≠p):H1 q=some o:=a.1 q o hne h
def bD.mb {p:aq}(e:bD H H1)(hp:H p=none)(m:Mb p H1 H2):bD H H2:=λb o q=>m.1 b o (λz=>by rw[z,hp] at q;cases q) (e b o q)
inductive spCell (K:au)(vs:List V)(H:Hp)(Q:VK)(_:XK):Prop
 | mk (a:aq)(ns:List Int)(k:Int)(_:vs=[.ref a,.int k])(_:SqL K H a (ns.map V.int))(_:0≤k)(_:∀c:Int,Q (.int c) H)
inductive spBox (K:au)(vs:List V)(H:Hp)(Q:VK)(_:XK):Prop
 | mk (a:aq)(ns:List Int)(k:Int)(_:vs=[.ref a,.int k])(_:SqL K H a (ns.map V.int))(_:0≤k)(_:∀x y p,H p=none→Q (.ref p) (upd H p (.lst [.int x,.int y])))
inductive spDraw (vs:List V)(H:Hp)(Q:VK)(_:XK):Prop
 | mk (p x y m:_)(_:vs=[.ref p,.int m])(_:H p=some (.lst [.int x,.int y]))(_:0<m)(_:m<10 ^ 61)(_:∀r H',0≤r→r<m→Mb p H H'→Q (.int r) H')
def boxed {p:aq}{x:Int}{sp:List Sn}:∀{zs:List V},eM H zs (sp.map λz=> .tup (z.row.map Dt.int))→Mb p H H'→H p=some (.lst [.int x,.int y])→eM H' zs (sp.map λz=> .tup (z.row.map Dt.int)):=by
 induction sp with
 | nil=>intro zs h _ _;cases h;exact .nil
 | cons z r ih =>
  intro zs h M hp;cases h with
  | cons h1 h2 =>
   apply .cons ?_ (ih h2 M hp);obtain⟨q,ws,rfl,hq,rw'⟩:=h1.tup_of;have e:=rw'.ints_of;subst e;exact .tup (M.1 q _ (fM hq hp nofun) hq) (eM.ints _)
def atI_in {xs:List α}{r:Int}(h0:0≤r)(h1:r<xs.length):∃v,atI xs r=some v∧v∈xs:=by
 obtain⟨j,rfl⟩:=c6 h0;have hj:j<xs.length:=by lia
 exact⟨xs[j],aO (gE hj),aY hj⟩
def log_ok {m:Int}(h0:0<m)(h:m<10 ^ 61):0<m∧m.natAbs.log2<9000:=by
 apply⟨h0,?_⟩;have h1:m.natAbs<2 ^ 300:=by
  have:(10:Nat) ^ 61<2 ^ 300:=by trivial
  have h2:m.natAbs<10 ^ 61:=by lia
  exact Nat.lt_trans h2 this
 have h3:m.natAbs≠0:=by lia
 have:=(Nat.log2_lt h3).mpr h1;lia
def goal_ok {s t m:Int}(h0:0≤s)(h1:s<m)(h2:0≤t)(h3:t<m - 1):0≤(s+1+t) % m∧(s+1+t) % m<m∧s≠(s+1+t) % m:=by
 have hm:0<m:=by lia
 have a:=dh (s+1+t) (by lia:m≠0);have b:=df (s+1+t) hm;apply⟨a,b,?_⟩
 by_cases q:s+1+t<m
 ·rw[fQ ⋯ q];lia
 ·have e:(s+1+t) % m=(s+1+t - m) % m:=(Int.sub_emod_right _ _).symm
  rw[e,fQ ⋯ ⋯];lia
abbrev rowsP {α:Type}(f:α→List Int)(xs:List α):Dt:= .tup (xs.map λx=> .tup ((f x).map Dt.int))
def iX {f:α→List Int}{xs:List α}(r:eM H ys (xs.map λx=> .tup ((f x).map Dt.int))){x:α}(hx:xs[i]? =some x):∃q,ys[i]? =some (.ref q)∧H q=some (.tup ((f x).map V.int)):=by
 obtain⟨y,hy,dy⟩:=r.at (i:=i) (d:= .tup ((f x).map Dt.int)) (by rw[az,hx];rfl);obtain⟨q,zs,rfl,hq,rz⟩:=dy.tup_of;have ez:=rz.ints_of;subst ez;exact⟨q,hy,hq⟩
def gT {f:α→List Int}{xs:List α}(h:IsD H v (rowsP f xs)):∃p ys,v= .ref p∧H p=some (.tup ys)∧ys.length=xs.length∧eM H ys (xs.map λx=> .tup ((f x).map Dt.int)):=by
 obtain⟨p,ys,rfl,hp,ry⟩:=h.tup_of;exact⟨p,ys,rfl,hp,by rw[ry.length,aa],ry⟩
structure Stp where
 i:Nat
 d:Int
abbrev Stp.row (s:Stp):List Int:=[(s.i:Int),s.d]
abbrev oU (ws:List Stp):Dt:=rowsP Stp.row ws
abbrev bndR (p:Int×Int):List Int:=[p.1,p.2]
abbrev bndP (bs:List (Int×Int)):Dt:=rowsP bndR bs
def frm (x:Sn)(d:Int):Int:=if d=1 then x.s else x.g
def too (x:Sn)(d:Int):Int:=if d=1 then x.g else x.s
def qV (n:Nat)(ws:List Stp):Prop:=∀s∈ws,s.i<n∧(s.d=1∨s.d= -1)
def kY (sp:List Sn)(s:Stp):Int:=match sp[s.i]? with | some x=>frm x s.d | none=>0
def fb (sp:List Sn)(s:Stp):Int:=match sp[s.i]? with | some x=>too x s.d | none=>0
def lowS (bs:List (Int×Int))(s:Stp):Int:=match bs[s.i]? with | some p=>if s.d=1 then p.1 else -p.2 | none=>0
def mK (bs:List (Int×Int))(s:Stp):Int:=match bs[s.i]? with | some p=>if s.d=1 then p.2 else -p.1 | none=>0
def gw (bs:List (Int×Int))(ws:List Stp):Int:=(ws.map (lowS bs)).sum
def iR (bs:List (Int×Int))(ws:List Stp):Int:=(ws.map (mK bs)).sum
def atI_last {xs:List α}{x:α}(h:xs[xs.length - 1]? =some x):atI xs (-1)=some x:=by
 have hl:xs.length - 1<xs.length:=(ar.mp h).1;unfold atI ixN;rw[rQ ↥0,rR ⋯];show xs[(-1+(xs.length:Int)).toNat]? =some x;rw[show(-1+(xs.length:Int)).toNat=xs.length - 1 by lia];exact h
inductive ra (vs:List V)(H:Hp)(Q:VK)(_:XK):Prop
 | mk (v:V)(q:aq)(b m:Int)(sp:List Sn)(s:Stp)(x:Sn)(_:vs=[v,.ref q])(_:IsD H v (jv b m sp))(_:H q=some (.tup (s.row.map V.int)))(_:sp[s.i]? =some x)(_:Q (.int (frm x s.d)) H)
inductive spTo (vs:List V)(H:Hp)(Q:VK)(_:XK):Prop
 | mk (v:V)(q:aq)(b m:Int)(sp:List Sn)(s:Stp)(x:Sn)(_:vs=[v,.ref q])(_:IsD H v (jv b m sp))(_:H q=some (.tup (s.row.map V.int)))(_:sp[s.i]? =some x)(_:Q (.int (too x s.d)) H)
inductive spFirst (vs:List V)(H:Hp)(Q:VK)(_:XK):Prop
 | mk (v:V)(b m:Int)(sp:List Sn)(_:vs=[v])(_:IsD H v (jv b m sp))(_:sp.length≤1000)(_:∀u H',bD H H'→IsD H' u (bndP (sp.map λx=>(x.l,x.o)))→Q u H')
inductive spSum (vs:List V)(H:Hp)(Q:VK)(_:XK):Prop
 | mk (vb vw:V)(bs:List (Int×Int))(ws:List Stp)(_:vs=[vb,vw])(_:IsD H vb (bndP bs))(_:IsD H vw (oU ws))(_:qV bs.length ws)(_:∀p H',bD H H'→H' p=some (.tup [.int (gw bs ws),.int (iR bs ws)])→Q (.ref p) H')
def netP_mb {p:aq}{x:Int}{m:Int}{sp:List Sn}(h:IsD H v (jv b m sp))(hp:H p=some (.lst [.int x,.int y]))(M:Mb p H H'):IsD H' v (jv b m sp):=by
 obtain⟨t,xs,rfl,ht,rx⟩:=h.tup_of;cases rx with
 | cons h0 r0 =>
  cases r0 with
  | cons h1 r1 =>
   cases r1 with
   | cons h2 r2 =>
    cases r2;cases h0;cases h1;obtain⟨q,ys,rfl,hq,ry⟩:=h2.tup_of;exact .tup (M.1 t _ (fM ht hp nofun) ht) (.cons (.int b) (.cons (.int m) (.cons (.tup (M.1 q _ (fM hq hp nofun) hq) (boxed ry M hp)) .nil)))
abbrev fF {α:Type}(f:α→List Int)(xs:List α):List Dt:=xs.map λx=> .tup ((f x).map Dt.int)
structure N3 (mg:Str→Option af):Prop where
 tset:mg "set" =none
def oX (ss:List Stp):List Int:=ss.map λs=>(s.i:Int)
def numsS_take {ss:List Stp}(h:i<ss.length):oX (ss.take (i+1))=oX (ss.take i)++[(ss[i].i:Int)]:=by
 unfold oX;rw[bj,gE h,aD];rfl
def kK (H H':Hp):Prop:=∀q xs,H q=some (.tup xs)→H' q=some (.tup xs)
def kK.trans (a:kK H H1)(b:kK H1 H2):kK H H2:=λq xs h=>b q xs (a q xs h)
def bD.tupK (e:bD H H'):kK H H':=λ_ _ h=>e _ _ h
def Mb.tupK {p:aq}(hp:H p=some (.lst xs))(M:Mb p H H'):kK H H':=λq ys h=>M.1 q _ (fM h hp nofun) h
def fm {p:aq}(hp:H p=some (.lst xs)):kK H (upd H p o):=λq ys h=>by rw[bt (fM h hp nofun)];exact h
theorem eO {α:Type}{f:α→List Int}{H H':Hp}(e:kK H H'):∀{xs:List α} {zs:List V},eM H zs (fF f xs)→eM H' zs (fF f xs)
 | [],_,h=>by cases h;exact .nil
 | x::xs,zs,h=>by
  unfold fF at h ⊢;rw[bI] at h ⊢;cases h with
  | cons h1 h2 =>
   obtain⟨q,ws,rfl,hq,rw'⟩:=h1.tup_of;have e2:=rw'.ints_of;subst e2;exact .cons (.tup (e q _ hq) (eM.ints _)) (eO e h2)
def upB (b s:Int):Int:= -(-s / b)
inductive spBeats (vs:List V)(H:Hp)(Q:VK)(_:XK):Prop
 | mk (vn vb vw:V)(b m:Int)(sp:List Sn)(bs:List (Int×Int))(ws:List Stp)(_:vs=[vn,vb,vw])(_:IsD H vn (jv b m sp))(_:0<b)(_:b<10 ^ 61)(_:IsD H vb (bndP bs))(_:IsD H vw (oU ws))(_:qV bs.length ws)(_:∀p H',bD H H'→H' p=some (.tup [.int (upB b (gw bs ws)),.int (iR bs ws / b)])→Q (.ref p) H')
inductive Lf where
 | ring (ws:List Stp)
 | price (rows:List (Int×List Stp))
abbrev rowD (r:Int×List Stp):Dt:= .tup [.int r.1,oU r.2]
def leafP:Lf→Dt
 | .ring ws=> .tup [.str "ring",oU ws]
 | .price rows=> .tup [.str "price",.tup (rows.map rowD)]
def jA (b:Int)(bs:List (Int×Int))(ws:List Stp):Bool:=decide (upB b (gw bs ws) > iR bs ws / b)
def sureB (b:Int)(bs:List (Int×Int))(ws:List Stp):Bool:=decide (upB b (gw bs ws)=iR bs ws / b)
inductive spDead (vs:List V)(H:Hp)(Q:VK)(_:XK):Prop
 | mk (vn vb vw:V)(b m:Int)(sp:List Sn)(bs:List (Int×Int))(ws:List Stp)(_:vs=[vn,vb,vw])(_:IsD H vn (jv b m sp))(_:0<b)(_:b<10 ^ 61)(_:IsD H vb (bndP bs))(_:IsD H vw (oU ws))(_:qV bs.length ws)(_:∀H',bD H H'→Q (.bl (jA b bs ws)) H')
theorem eM.takeN {H:Hp}:∀{xs:List V} {ds:List Dt} (n:Nat),eM H xs ds→eM H (xs.take n) (ds.take n)
 | _,_,0,_=> .nil
 | _,_,_+1,.nil=> .nil
 | _,_,n+1,.cons h r=> .cons h (eM.takeN n r)
theorem eM.dropN {H:Hp}:∀{xs:List V} {ds:List Dt} (n:Nat),eM H xs ds→eM H (xs.drop n) (ds.drop n)
 | _,_,0,h=>h
 | _,_,_+1,.nil=> .nil
 | _,_,n+1,.cons _ r=>eM.dropN n r
def oY (sp:List Sn):Int→List Stp→Int→Prop
 | x,[],y=>x=y
 | x,s::ws,y=>kY sp s=x∧oY sp (fb sp s) ws y
theorem oY.append {sp:List Sn}:∀{us:List Stp} {x y z:Int} {vs:List Stp},oY sp x us y→oY sp y vs z→oY sp x (us++vs) z
 | [],_,_,_,_,h,k=>by cases h;exact k
 | _::us,_,_,_,_,h,k=>⟨h.1,oY.append (us:=us) h.2 k⟩
def nu {sp:List Sn}(h:j<sp.length):kY sp ⟨j,d⟩=frm sp[j] d:=by
 unfold kY;show(match sp[j]? with | some x=>frm x d | none=>0)=_;rw[gE h]
def lM {sp:List Sn}(h:j<sp.length):fb sp ⟨j,d⟩=too sp[j] d:=by
 unfold fb;show(match sp[j]? with | some x=>too x d | none=>0)=_;rw[gE h]
def ends_of_span {sp:List Sn}{st:Stp}(h:j<sp.length)(e:st.i=j)(hs:st.d=1∨st.d= -1)(hd:d=1∨d= -1):fb sp st=fb sp ⟨j,d⟩∨kY sp st=fb sp ⟨j,d⟩:=by
 obtain⟨i,dd⟩:=st;have e:i=j:=e;subst e;have hs:dd=1∨dd= -1:=hs;rw[lM h,lM h,nu h];unfold too frm
 rcases hs with rfl | rfl <;> rcases hd with rfl | rfl <;> simp
structure Bk (sp:List Sn)(be ou:Int)(x:Int)(ws:List Stp):Prop where
 inn:qV sp.length ws
 alo:oY sp be ws x
 one:(ws.map Stp.i).Nodup
 out:∀s∈ws,(s.i:Int)≠ou
structure Rg (sp:List Sn)(ws:List Stp):Prop where
 inn:qV sp.length ws
 two:2≤ws.length
 few:ws.length≤17
 one:(ws.map Stp.i).Nodup
 rnd:∃x,oY sp x ws x
def Bk.ring {sp:List Sn}{k:Nat}{ws:List Stp}(hk:k<sp.length)(hne:sp[k].s≠sp[k].g)(h:Bk sp sp[k].g (k:Nat) sp[k].s ws)(hl:ws.length≤16):Rg sp (⟨k,1⟩::ws):=by
 apply⟨λs hs=>?_,?_,by rw[aV];lia,?_,sp[k].s,?_,?_⟩
 ·rcases aH.mp hs with rfl | hs
  ·exact⟨hk,.inl rfl⟩
  ·exact h.inn s hs
 ·cases ws with
  | nil=>exact rS h.alo.symm hne
  | cons a r=>rw[aV,aV];lia
 ·rw[bI,bw]
  apply⟨λz=>?_,h.one⟩;obtain⟨st,hst,e⟩:=ba.mp z;exact h.out st hst (by rw[e])
 ·rw[nu hk];rfl
 ·rw[lM hk];exact h.alo
def pe_isStrT {p:Pos}(N:Nm X.mg)(TS:X.mg "str" =none)(he:PE X e te)(hg:Gl X "isinstance" := by rfl)(hg2:Gl X "str" := by rfl)
  (hs1:bB [e,.Name "str" p2] X.env=(false,eP e X.env)::bB [.Name "str" p2] X.env:=by rfl) (hpl:(fB pos (bB [.Name "str" p2] X.env)).any (·.1)=false:=by rfl) :
  PE X (.Call (.Name "isinstance" p) [e,.Name "str" p2] [] pos) (tCB (λxs H Q=>∃x T,xs=[x,.ty "str"]∧tyn H x=some T∧Q (.bl (T == "str")) H) (oV te (oV (tC (.ty "str")) tNil))) :=
 cp call_isStr hg N.isin boot_isinstance (ai he (ai (pe_bltn hg2 TS boot_str rfl) aF) hs1) (he:=hs1) (hpl:=hpl)
inductive spWithB (vs:List V)(H:Hp)(Q:VK)(_:XK):Prop
 | mk (vb:V)(k:Nat)(lo hi:Int)(bs:List (Int×Int))(_:vs=[vb,.int (k:Nat),.int lo,.int hi])(_:IsD H vb (bndP bs))(_:k<bs.length)(_:bs.length≤40)(_:∀u H',bD H H'→IsD H' u (bndP (bs.set k (lo,hi)))→Q u H')
inductive Tq where
 | leaf (d:Dt)
 | cut (k:Nat) (a:Int) (x y:Tq)
def jY:Tq→Dt
 | .leaf d=>d
 | .cut k a x y=> .tup [.str "cut",.int (k:Nat),.int a,jY x,jY y]
def kZ (bs:List (Int×Int))(k:Nat)(a:Int):List (Int×Int):=bs.set k ((bs.getD k (0,0)).1,a)
def d7 (bs:List (Int×Int))(k:Nat)(a:Int):List (Int×Int):=bs.set k (a+1,(bs.getD k (0,0)).2)
def lvs:Tq→List (Int×Int)→List (List (Int×Int)×Dt)
 | .leaf d,bs=>[(bs,d)]
 | .cut k a x y,bs=>lvs x (kZ bs k a)++lvs y (d7 bs k a)
def siz:Tq→Nat
 | .leaf _=>1
 | .cut _ _ x y=>siz x+siz y+1
def plcD (p:List (Int×Int)×Dt):Dt:= .tup [bndP p.1,p.2]
inductive spSides (vs:List V)(H:Hp)(Q:VK)(_:XK):Prop
 | mk (vb:V)(c:aq)(bs:List (Int×Int))(k:Nat)(a:Int)(x3 x4:V)(_:vs=[vb,.ref c])(_:IsD H vb (bndP bs))(_:H c=some (.tup [.str "cut",.int (k:Nat),.int a,x3,x4]))(_:k<bs.length)(_:bs.length≤40)(_:∀p q r u1 u3 H',bD H H'→H' p=some (.tup [.ref q,.ref r])→H' q=some (.tup [u1,x3])→IsD H' u1 (bndP (kZ bs k a))→H' r=some (.tup [u3,x4])→IsD H' u3 (bndP (d7 bs k a))→Q (.ref p) H')
theorem lvs_siz:∀(t:Tq) (bs:List (Int×Int)),(lvs t bs).length≤siz t
 | .leaf _,_=>by show 1≤1;decide
 | .cut k a x y,bs=>by
  show(lvs x _++lvs y _).length≤siz x+siz y+1;rw[av];have:=lvs_siz x (kZ bs k a);have:=lvs_siz y (d7 bs k a);lia
def one_len (bs:List (Int×Int))(k:Nat)(a:Int):(kZ bs k a).length=bs.length:=by unfold kZ;rw[eI]
def nV (bs:List (Int×Int))(k:Nat)(a:Int):(d7 bs k a).length=bs.length:=by unfold d7;rw[eI]
def getD_all (ns:List Int):((aG ns.length).map λi=>ns.getD i 0)=ns:=by
 apply List.ext_getElem (by rw[aa,bb]) λi h1 h2=>?_
 rw[j6,k5,ae,gE h2];rfl
def met_eq (ns:List Int):metL ns=ns.foldl step_dedup []:=by
 unfold metL firstMet;rw[getD_all]
theorem fold_new:∀(ns acc:List Int),ns.Nodup→(∀x∈ns,x ∉ acc)→ns.foldl step_dedup acc=acc++ns
 | [],acc,_,_=>by simp
 | x::ns,acc,hn,h=>by
  obtain⟨h1,h2⟩:=bw.mp hn;have e:step_dedup acc x=acc++[x]:=by
   unfold step_dedup;have:¬(acc.any (· == x))=true:=by
    intro z;obtain⟨y,hy,e⟩:=List.any_eq_true.mp z;have e:y=x:=by simpa using e
    exact h x ∅ (e ▸ hy)
   rw[rQ this]
  rw[bQ,e,fold_new ns (acc++[x]) h2 λy hy z=>?_]
  ·simp
  ·rcases aI.mp z with z | z
   ·exact h y (aA _ hy) z
   ·rw[aw.mp z] at hy;exact h1 hy
def met_nodup (h:ns.Nodup):(metL ns).length=ns.length:=by
 rw[met_eq,fold_new ns [] h (λ_ _ z=>rS z ∅),List.nil_append]
end HN
variable {S ws:List HN.Stp}{c:List (Int×List HN.Stp)×List Int}{rows:List (Int×List HN.Stp)}{rs:List (Nat×List HN.Stp)}{sp:List HN.Sn}
namespace L2
open PySem PyProof.Rows HN
mutual
theorem IsD.keepP {H H':Hp}(e:kK H H'):∀{v:V} {d:Dt},IsD H v d→pl d=true→IsD H' v d
 | _,_,.non,_=> .non
 | _,_,.bl b,_=> .bl b
 | _,_,.int i,_=> .int i
 | _,_,.str x,_=> .str x
 | _,_,.tup h r,p=> .tup (e _ _ h) (eM.keepP e r (by unfold pl at p;exact p))
 | _,_,.lst h,p=>by unfold pl at p;cases p
 | _,_,.dct h,p=>by unfold pl at p;cases p
theorem eM.keepP {H H':Hp}(e:kK H H'):∀{xs:List V} {ds:List Dt},eM H xs ds→pls ds=true→eM H' xs ds
 | _,_,.nil,_=> .nil
 | _,_,.cons h r,p=>by
  unfold pls at p;rw[cI] at p;exact .cons (IsD.keepP e h p.1) (eM.keepP e r p.2)
end
end L2
namespace HN
open PySem L2 PyProof.Rows
theorem nj {α:Type}{f:α→Dt}:∀(xs:List α),(∀x∈xs,pl (f x)=true)→pls (xs.map f)=true
 | [],_=>by show pls []=true;unfold pls;rfl
 | x::xs,h=>by
  show pls (f x::xs.map f)=true;unfold pls;rw[h x ∅,nj xs λy hy=>h y (aA _ hy)];rfl
def pl_ints (ns:List Int):pl (.tup (ns.map Dt.int))=true:=by
 unfold pl;exact nj ns λx _=>by unfold pl;rfl
def p7 (f:α→List Int)(xs:List α):pl (rowsP f xs)=true:=by
 unfold rowsP;unfold pl;exact nj xs λx _=>pl_ints (f x)
def RowOk (b:Int)(sp:List Sn)(bs:List (Int×Int))(r:Int×List Stp):Prop:=Rg sp r.2∧sureB b bs r.2=true∧ -1000000000000≤r.1∧r.1≤1000000000000
def LfOk (b:Int)(sp:List Sn)(bs:List (Int×Int)):Lf→Prop
 | .ring ws=>Rg sp ws∧jA b bs ws=true
 | .price rows=>rows.length≤40∧∀r∈rows,RowOk b sp bs r
def cg {m:Int}(e:kK H H')(h:IsD H v (jv b m sp)):IsD H' v (jv b m sp):=by
 obtain⟨t,xs,rfl,ht,rx⟩:=h.tup_of;cases rx with
 | cons h0 r0 =>
  cases r0 with
  | cons h1 r1 =>
   cases r1 with
   | cons h2 r2 =>
    cases r2;cases h0;cases h1;obtain⟨p,ys,rfl,hp,ry⟩:=h2.tup_of;exact .tup (e _ _ ht) (.cons (.int _) (.cons (.int _) (.cons (.tup (e _ _ hp) (eO (f:=Sn.row) (xs:=sp) e ry)) .nil)))
def sideS (k:Int)(x:Sn):Sn:=⟨x.s+k,x.g+k,x.l,x.o,x.w⟩
theorem Rdy.side {k:Int}{t1 t2:List Int}{sp1 sp2:List Sn}(hk:(t1.length:Int)=k)(R1:Rdy b t1 sp1)(R2:Rdy b t2 sp2)(few:sp1.length+sp2.length≤1000):Rdy b (t1++t2) (sp1++sp2.map (sideS k)) :=
 ⟨R1.b1,by rw [av,aa];exact few,fun x hx=>by
  rw[av]
  rcases aI.mp hx with hx | hx
  ·obtain⟨s0,s1,g0,g1⟩:=R1.ends x hx
   exact⟨s0,⋯,g0,⋯⟩
  ·obtain⟨y,hy,rfl⟩:=ba.mp hx
   obtain ⟨s0,s1,g0,g1⟩:=R2.ends y hy;show 0≤y.s+k∧y.s+k<((t1.length+t2.length:Nat):Int)∧0≤y.g+k∧y.g+k<((t1.length+t2.length:Nat):Int);lia⟩
structure Sides (b m1 m2:Int)(sp1 sp2:List Sn):Prop where
 N1:jb b m1 sp1
 N2:jb b m2 sp2
 m:m1+m2≤16
 few:sp1.length+sp2.length≤40
def TabsL (H:Hp)(b m:Int)(us:List V):Prop:=∀u∈us,∃(q:aq) (ts:List Int),u= .ref q∧H q=some (.tup (ts.map V.int))∧(ts.length:Int)=m
def TabsL.same {m:Int}{us:List V}(h:TabsL H b m us)(e:bD H H'):TabsL H' b m us:=λu hu=>let ⟨q,ts,a,c,d⟩:=h u hu;⟨q,ts,a,e _ _ c,d⟩
def netP_rows {m:Int}(h:IsD H v (jv b m sp)):∃t p ys,v= .ref t∧H t=some (.tup [.int b,.int m,.ref p])∧H p=some (.tup ys)∧eM H ys (fF Sn.row sp):=by
 obtain⟨t,xs,rfl,ht,rx⟩:=h.tup_of;cases rx with
 | cons h0 r0 =>
  cases r0 with
  | cons h1 r1 =>
   cases r1 with
   | cons h2 r2 =>
    cases r2;cases h0;cases h1;obtain⟨p,ys,rfl,hp,ry⟩:=h2.tup_of;exact⟨t,p,ys,rfl,ht,hp,ry⟩
inductive spWithSp (vs:List V)(H:Hp)(Q:VK)(_:XK):Prop
 | mk (v:V)(L:aq)(b m:Int)(sp more:List Sn)(zs:List V)(_:vs=[v,.ref L])(_:IsD H v (jv b m sp))(_:H L=some (.lst zs))(_:eM H zs (fF Sn.row more))(_:sp.length+more.length≤40)(_:∀u H',bD H H'→IsD H' u (jv b m (sp++more))→Q u H')
def strS (n:Int)(x:Sn):Sn:=⟨x.s,x.g,x.l * n,x.o * n,x.w⟩
def strT (n:Int)(ts:List Int):List Int:=ts.map λt=>t * n
def strT_len (n:Int)(ts:List Int):(strT n ts).length=ts.length:=by unfold strT;rw[aa]
def Rdy.str {n:Int}(R:Rdy b ts sp)(hn:0<n):Rdy (b * n) (strT n ts) (sp.map (strS n)) :=
 ⟨Int.mul_pos R.b1 hn,by rw [aa];exact R.few,fun x hx=>by
  obtain ⟨y,hy,rfl⟩:=ba.mp hx;rw [strT_len];exact R.ends y hy⟩
end HN
namespace L2
open PySem PySem.W PyProof.Rows
def Gd {α:Type}(lt:Nat→Nat→Bool)(n:Nat):KasT α→(α→Prop)→Prop
 | .ret a,P=>P a
 | .ask i j k,P=>i<n∧j<n∧Gd lt n (k (lt i j)) P
theorem Gd.mono {α:Type}{lt:Nat→Nat→Bool}{n:Nat}{P R:α→Prop}(h:∀a,P a→R a):∀{t:KasT α},Gd lt n t P→Gd lt n t R
 | .ret a,g=>h a g
 | .ask _ _ _,g=>⟨g.1,g.2.1,Gd.mono h g.2.2⟩
theorem Gd.bind {α β:Type}{lt:Nat→Nat→Bool}{n:Nat}{f:α→KasT β}{P:β→Prop}:∀{t:KasT α},Gd lt n t (λa=>Gd lt n (f a) P)→Gd lt n (t.bind f) P
 | .ret _,g=>g
 | .ask _ _ _,g=>⟨g.1,g.2.1,Gd.bind g.2.2⟩
theorem Gd.wp {α:Type}{lt:Nat→Nat→Bool}{n:Nat}{P:α→Prop}{cmp:Nat→Nat→(Bool→ay→Prop)→ay→Prop}{Q:α→ay→Prop}{s:ay}(hc:∀i j C,i<n→j<n→C (lt i j) s→cmp i j C s)(hq:∀a,P a→Q a s):∀{t:KasT α},Gd lt n t P→t.kasWp cmp Q s
 | .ret a,g=>hq a g
 | .ask i j k,g=>hc i j _ g.1 g.2.1 (Gd.wp hc hq g.2.2)
structure Ord (lt:Nat→Nat→Bool)(n:Nat):Prop where
 tot:∀i j,i<n→j<n→i≠j→lt i j=false→lt j i=true
 tr:∀i j k,lt i j=true→lt j k=true→lt i k=true
abbrev gA (p:Array Nat)(i:Nat):Nat:=p.getD i 0
abbrev Pm (n:Nat)(p:Array Nat):Prop:=p.toList.Perm (aG n)
def mL:gA p i=p[i]?.getD 0:=by
 show p.getD i 0=_;rw[Array.getD_eq_getD_getElem?]
def Pm.size (h:Pm n p):p.size=n:=by
 have:=h.length_eq;rw[bb,cV] at this;exact this
def Pm.lt (h:Pm n p)(hi:i<n):gA p i<n:=by
 have hs:i<p.size:=by rw[h.size];exact hi
 have e:gA p i=p[i]:=by rw[mL,dQ hs];rfl
 rw[e];have:p[i]∈p.toList:=by simp
 exact bS.mp (h.mem_iff.mp this)
def Pm.ne (h:Pm n p)(hij:i<j)(hj:j<n):gA p i≠gA p j:=by
 have hd:p.toList.Nodup:=h.nodup_iff.mpr List.nodup_range;have si:i<p.toList.length:=by rw[cV,h.size];lia
 have sj:j<p.toList.length:=by rw[cV,h.size];lia
 have ei:gA p i=p.toList[i]:=by rw[mL,dQ (by rw[h.size];lia)];simp
 have ej:gA p j=p.toList[j]:=by rw[mL,dQ (by rw[h.size];lia)];simp
 rw[ei,ej];exact List.pairwise_iff_getElem.mp (b9.mp hd) i j si sj hij
def Pm.of {q:Array Nat}(h:Pm n p)(e:q.Perm p):Pm n q:=(Array.perm_iff_toList_perm.mp e).trans h
def SoA (lt:Nat→Nat→Bool)(p:Array Nat)(m:Nat):Prop:=∀i j,i<j→j<m→lt (gA p i) (gA p j)=true
def DeA (lt:Nat→Nat→Bool)(p:Array Nat)(m:Nat):Prop:=∀i j,i<j→j<m→lt (gA p j) (gA p i)=true
section
variable {lt:Nat→Nat→Bool}
theorem SoA.more (O:Ord lt n)(h:SoA lt p m)(h1:lt (gA p (m - 1)) (gA p m)=true):SoA lt p (m+1):=λi j hij hj=>by
 by_cases e:j<m
 ·exact h i j hij e
 ·have ej:j=m:=by lia
  rw[ej]
  by_cases ei:i=m - 1
  ·rw[ei];exact h1
  ·exact O.tr _ _ _ (h i (m - 1) ⋯ ⋯) h1
theorem DeA.more (O:Ord lt n)(h:DeA lt p m)(h1:lt (gA p m) (gA p (m - 1))=true):DeA lt p (m+1):=λi j hij hj=>by
 by_cases e:j<m
 ·exact h i j hij e
 ·have ej:j=m:=by lia
  rw[ej]
  by_cases ei:i=m - 1
  ·rw[ei];exact h1
  ·exact O.tr _ _ _ h1 (h i (m - 1) ⋯ ⋯)
theorem asc_ok (O:Ord lt n){p:Array Nat}(hp:Pm n p):∀(f m:Nat),1≤m→m+f=n→SoA lt p m→Gd lt n (kas_asc p f m) (λr=>m≤r∧r≤n∧SoA lt p r∧(r<n→lt (gA p r) (gA p (r - 1))=true))
 | 0,m,_,h1,hs=>⟨aB _,⋯,hs,λz=>rS z ⋯⟩
 | f+1,m,h0,h1,hs=>by
  apply⟨hp.lt ⋯,hp.lt ⋯,?_⟩;cases c:lt (gA p m) (gA p (m - 1)) with
  | true =>
   exact⟨aB _,⋯,hs,λ_=>c⟩
  | false =>
   have h2:=O.tot _ _ (hp.lt ⋯) (hp.lt ⋯) (hp.ne (by lia:m - 1<m) ⋯).symm c;apply(asc_ok O hp f (m+1) ⋯ ⋯ (hs.more O h2)).mono λr ⟨a,b,cc,d⟩=>⟨⋯,b,cc,d⟩
theorem desc_ok (O:Ord lt n){p:Array Nat}(hp:Pm n p):∀(f m:Nat),1≤m→m+f=n→DeA lt p m→Gd lt n (kas_desc f p m 0) (λr=>r.1=p∧r.2.2=0∧m≤r.2.1∧r.2.1≤n∧DeA lt p r.2.1)
 | 0,m,_,h1,hs=>⟨rfl,rfl,aB _,by show m≤n;lia,hs⟩
 | f+1,m,h0,h1,hs=>by
  apply⟨hp.lt ⋯,hp.lt ⋯,?_⟩;cases c:lt (gA p m) (gA p (m - 1)) with
  | true =>
   apply(desc_ok O hp f (m+1) ⋯ ⋯ (hs.more O c)).mono λr ⟨a,b,cc,d,e⟩=>⟨a,b,⋯,d,e⟩
  | false =>
   have h2:=O.tot _ _ (hp.lt ⋯) (hp.lt ⋯) (hp.ne (by lia:m - 1<m) ⋯).symm c;apply⟨hp.lt ⋯,hp.lt ⋯,?_⟩;show Gd lt n (if (lt (gA p (m - 1)) (gA p m))=true then KasT.ret (p,m,0) else kas_desc f p (m+1) (0+1)) _;rw[rR h2];exact⟨rfl,rfl,aB _,by show m≤n;lia,hs⟩
def rev_ok (hp:Pm n p)(hm:m≤n):Pm n (kas_rev p 0 m):=hp.of (mirror_perm _ _ _ _)
theorem rev_so (hp:Pm n p)(hm:m≤n)(h:DeA lt p m):SoA lt (kas_rev p 0 m) m:=λi j hij hj=>by
 have e:∀k,k<m→gA (kas_rev p 0 m) k=gA p (m - 1 - k):=λk hk=>by
  rw[mL,mL];have:=getElem?_mirror_all (xs:=p) (i:=0) (j:=m) (by rw[hp.size];exact hm) k;unfold kas_rev;rw[this,rR ⟨bu _,hk⟩];congr 2;lia
 rw[e i ⋯,e j hj];exact h _ _ ⋯ ⋯
theorem tail_ok (O:Ord lt n)(hp:Pm n p)(h1:1≤m)(hm:m≤n)(h:DeA lt p m):Gd lt n (kas_tail3 m n p) (λr=>Pm n r.2∧1≤r.1∧r.1≤n∧SoA lt r.2 r.1):=by
 unfold kas_tail3;apply Gd.bind ((asc_ok O (rev_ok hp hm) (n - m) m h1 ⋯ (rev_so hp hm h)).mono λr ⟨a,b,c,_⟩=>?_);exact⟨rev_ok hp hm,by show 1≤r;lia,b,c⟩
theorem count_ok (O:Ord lt n)(h1:1≤n)(hp:Pm n p):Gd lt n (kas_count n p) (λr=>Pm n r.2∧1≤r.1∧r.1≤n∧SoA lt r.2 r.1):=by
 unfold kas_count;apply Gd.bind ((asc_ok O hp (n - 1) 1 (aB _) ⋯ (λi j a b=>rS a ⋯)).mono λr ⟨a,b,c,d⟩=>?_)
 by_cases e:r=n
 ·rw[rR (by rw[e];exact beq_self_eq_true n)]
  exact⟨hp,a,b,c⟩
 ·rw[rQ (by rw[beq_iff_eq];exact e)]
  by_cases e2:r > 1
  ·rw[rR e2]
   apply⟨hp.lt ⋯,hp.lt ⋯,?_⟩;show Gd lt n (if (lt (gA p 0) (gA p (r - 1)))=true then KasT.ret (r,p) else _) _;rw[rR (c 0 (r - 1) ⋯ ⋯)];exact⟨hp,a,b,c⟩
  ·rw[rQ e2]
   have er:r=1:=by lia
   subst er;have hn:1<n:=by lia
   have dd:=d hn;unfold kas_descPart;apply Gd.bind ((desc_ok O hp (n - (1+1)) (1+1) ⋯ ⋯ (fun i j x y=>by
    have ei:i=0:=by lia
    have ej:j=1:=by lia
    rw [ei,ej];exact dd)).mono fun q ⟨q1,q2,q3,q4,q5⟩=>?_)
   rw[rQ (by rw[q2];lia),q1];exact tail_ok O hp ⋯ q4 q5
theorem place_ok (O:Ord lt n){p:Array Nat}(hp:Pm n p){k:Nat}(hk:k<n)(hs:SoA lt p k):∀(f l r:Nat),l≤r→r≤k→r - l≤f→(∀i,i<l→lt (gA p i) (gA p k)=true)→(∀i,r≤i→i<k→lt (gA p k) (gA p i)=true)→Gd lt n (kas_place p k f l r) (λm=>m≤k∧(∀i,i<m→lt (gA p i) (gA p k)=true)∧∀i,m≤i→i<k→lt (gA p k) (gA p i)=true)
 | 0,l,r,h1,h2,h3,a,b=>⟨⋯,a,λi x y=>b i ⋯ y⟩
 | f+1,l,r,h1,h2,h3,a,b=>by
  show Gd lt n (if l ≥ r then KasT.ret l else KasT.ask (gA p k) (gA p ((l+r) / 2)) λc=>if c=true then kas_place p k f l ((l+r) / 2) else kas_place p k f ((l+r) / 2+1) r) _
  by_cases e:l ≥ r
  ·rw[rR e]
   exact⟨⋯,a,λi x y=>b i ⋯ y⟩
  ·rw[rQ e]
   apply⟨hp.lt hk,hp.lt ⋯,?_⟩;cases c:lt (gA p k) (gA p ((l+r) / 2)) with
   | true =>
    apply place_ok O hp hk hs f l ((l+r) / 2) ⋯ ⋯ ⋯ a λi x y=>?_
    by_cases ei:i=(l+r) / 2
    ·rw[ei];exact c
    ·exact O.tr _ _ _ c (hs _ _ ⋯ y)
   | false =>
    have h5:=O.tot _ _ (hp.lt hk) (hp.lt ⋯) (hp.ne (by lia:(l+r) / 2<k) hk).symm c;apply place_ok O hp hk hs f ((l+r) / 2+1) r ⋯ h2 ⋯ (λi x=>?_) b
    by_cases ei:i=(l+r) / 2
    ·rw[ei];exact h5
    ·exact O.tr _ _ _ (hs i _ (by lia:i<(l+r) / 2) ⋯) h5
theorem bub_so (O:Ord lt n)(hp:Pm n p){k:Nat}(hk:k<n)(hm:m≤k)(hs:SoA lt p k)(a:∀i,i<m→lt (gA p i) (gA p k)=true)(b:∀i,m≤i→i<k→lt (gA p k) (gA p i)=true):SoA lt (bubble p k (k - m)) (k+1):=λi j hij hj=>by
 have e:∀x,gA (bubble p k (k - m)) x=if x=m then gA p k else if m<x∧x≤k then gA p (x - 1) else gA p x:=λx=>by
  have:=getElem?_bubble (xs:=p) (src:=k) (by rw[hp.size];exact hk) (k - m) ⋯ x;have e0:k - (k - m)=m:=by lia
  rw[e0] at this;rw[mL,this]
  by_cases h1:x=m
  ·rw[rR h1,rR h1,mL]
  ·rw[rQ h1,rQ h1]
   by_cases h2:m<x∧x≤k
   ·rw[rR h2,rR h2,mL]
   ·rw[rQ h2,rQ h2,mL]
 rw[e i,e j]
 by_cases i1:i=m
 ·rw[rR i1,rQ ⋯,rR ⋯]
  exact b _ ⋯ ⋯
 ·rw[rQ i1]
  by_cases i2:m<i∧i≤k
  ·rw[rR i2,rQ ⋯,rR ⋯]
   exact hs _ _ ⋯ ⋯
  ·rw[rQ i2]
   by_cases j1:j=m
   ·rw[rR j1];exact a _ ⋯
   ·rw[rQ j1]
    by_cases j2:m<j∧j≤k
    ·rw[rR j2];exact hs _ _ ⋯ ⋯
    ·rw[rQ j2];exact hs _ _ hij ⋯
theorem bin_ok (O:Ord lt n):∀(f:Nat) (p:Array Nat) (k:Nat),k+f=n→Pm n p→SoA lt p k→Gd lt n (kas_bin f p k) (λq=>Pm n q∧SoA lt q n)
 | 0,p,k,h1,hp,hs=>by
  have e:k=n:=by lia
  rw[e] at hs;exact⟨hp,hs⟩
 | f+1,p,k,h1,hp,hs=>by
  show Gd lt n ((kas_place p k k 0 k).bind λl=>kas_bin f (bubble p k (k - l)) (k+1)) _;apply Gd.bind ((place_ok O hp ⋯ hs k 0 k (bu _) (aB _) ⋯ (λi x=>rS x ⋯) (λi x y=>rS x ⋯)).mono λm ⟨m1,m2,m3⟩=>?_);exact bin_ok O f _ (k+1) ⋯ (hp.of (bubble_perm _ _ _)) (bub_so O hp ⋯ m1 hs m2 m3)
theorem sort_ok (O:Ord lt n)(h1:1≤n):Gd lt n (kas_sort n) (λq=>Pm n q∧SoA lt q n):=by
 unfold kas_sort;apply Gd.bind ((count_ok O h1 (p:=(aG n).toArray) (by show(aG n).toArray.toList.Perm _;rw[e8])).mono λr ⟨a,b,c,d⟩=>?_)
 by_cases e:r.1<n
 ·rw[rR e]
  have em:max r.1 1=r.1:=by lia
  rw[em];exact bin_ok O _ _ _ ⋯ a d
 ·rw[rQ e]
  have er:r.1=n:=by lia
  rw[er] at d;exact⟨a,d⟩
end
def mw {out:Array af}{b:aq}{u:Obj}(hb:b≠a)(e:h.get? b=some u):(sortedHeap h a vs out).get? b=some u:=by
 unfold sortedHeap;rw[gZ _ _ _ _ hb];exact ax _ (ax _ (by rw[gZ _ _ _ _ hb];exact e))
def nJ {out:Array af}(e:h.get? a=some (bJ "list" vs.toArray n)):∃c,(sortedHeap h a vs out).get? a=some (bJ "list" out c):=by
 unfold sortedHeap;exact⟨_,gO (ax _ (ax _ (gO e λ_=> #[]))) λ_=>out⟩
def preAll (h:bO)(vs:List af):bO:=((h.push (bJ "list" #[] 0)).update h.objs.size (cN (· ++ vs.toArray))).push (bJ "list" vs.toArray 0)
def preAll_keep {b:aq}{u:Obj}(e:h.get? b=some u):(preAll h vs).get? b=some u:=by
 have hb:=aN e;exact ax _ (by rw[gZ _ _ _ _ (bG hb)];exact ax _ e)
def preAll_at:(preAll h vs).get? (h.objs.size+1)=some (bJ "list" vs.toArray 0):=by
 have hsz:((h.push (bJ "list" #[] 0)).update h.objs.size (cN (· ++ vs.toArray))).objs.size=h.objs.size+1:=by
  rw[bO.size_update,size_push']
 unfold preAll;rw[←hsz];exact aU _ rfl
def call_sortedI:jV X (.builtin "sorted") (λxs H Q=>∃(p:aq) (ns:List Int),xs=[.ref p]∧SqL X.K H p (ns.map V.int)∧ns.length<64∧∀(l:aq) (ns':List Int),H l=none→ns'.Perm ns→ns'.Pairwise (· ≤ ·)→Q (.ref l) (upd H l (.lst (ns'.map V.int)))):=by
 intro pins s σ H xs us Q I r h;obtain⟨p,ns,rfl,hq,hn,q⟩:=h;obtain⟨u,rfl,ru⟩:=oo r;cases(show u=af.ref p from ru);obtain⟨its,rv,pl,hz⟩:=I.list hq;have hl:its.length=ns.length:=by rw[←rv.length,aa]
 apply sorted_ints pl.isList (pG rv) ⋯ λout ns' a1 a2 a3=>?_
 obtain⟨c,hc⟩:=nJ (h:=preAll s.heap its) (vs:=its) (out:=out) preAll_at;apply⟨.ref (s.heap.objs.size+1),_,I.laid (o:= .lst (ns'.map V.int)) (t':=s.toks) (λb u e=>mw (bG (iG (aN e))) (preAll_keep e)) (Nat.le_succ _) ⟨?_,out.toList,c,nF a1,?_⟩,rfl,q _ ns' (I.hok.fresh (Nat.le_succ _)) a2 a3⟩
 ·rw[aa,a2.length_eq];exact aQ (by lia:ns.length≤1000) ↥0
 ·rw[km];exact hc
def kW (h:bO)(a:aq)(vs:List af):bO:=((h.update a (cN λ_=>(#[]:Array af))).push (bJ "tuple" vs.toArray 0)).push (bJ "list" #[] 0)
def mid_keep {b:aq}{u:Obj}(hb:b≠a)(e:h.get? b=some u):(kW h a vs).get? b=some u :=
 ax _ (ax _ (by rw[gZ _ _ _ _ hb];exact e))
def ltP (k m:Int×Int):Bool:=if (k.1 == m.1)=true then (if (k.2 == m.2)=true then false else decide (k.2<m.2)) else decide (k.1<m.1)
theorem ltP_iff {k m:Int×Int}:ltP k m=true↔(k.1<m.1∨(k.1=m.1∧k.2<m.2)):=by
 unfold ltP
 by_cases h1:k.1=m.1
 ·rw[rR (by rw[beq_iff_eq];exact h1)]
  by_cases h2:k.2=m.2
  ·rw[rR (by rw[beq_iff_eq];exact h2)]
   constructor
   ·intro h;cases h
   ·intro h;lia
  ·rw[rQ (by rw[beq_iff_eq];exact h2),decide_eq_true_eq]
   lia
 ·rw[rQ (by rw[beq_iff_eq];exact h1),decide_eq_true_eq]
  lia
abbrev kyP (ks:List (Int×Int))(i:Nat):Int×Int:=ks.getD i (0,0)
def kyP_at (h:i<ks.length):kyP ks i=ks[i]:=by
 show ks.getD i (0,0)=_;rw[ae,gE h];rfl
theorem ord_of (h:ks.Nodup):Ord (λi j=>ltP (kyP ks i) (kyP ks j)) ks.length:=by
 apply⟨λi j hi hj hne hf=>?_,λi j k h1 h2=>?_⟩
 ·show ltP (kyP ks j) (kyP ks i)=true
  have hn:kyP ks i≠kyP ks j:=by
   rw[kyP_at hi,kyP_at hj];intro e;exact hne ((j7 h).mp e)
  have hf:¬ltP (kyP ks i) (kyP ks j)=true:=by
   show ¬ltP (kyP ks i) (kyP ks j)=true;rw[show ltP (kyP ks i) (kyP ks j)=false from hf];decide
  rw[ltP_iff] at hf ⊢;have:¬((kyP ks i).1=(kyP ks j).1∧(kyP ks i).2=(kyP ks j).2):=λz=>hn (Prod.ext z.1 z.2)
  lia
 ·have h1:ltP (kyP ks i) (kyP ks j)=true:=h1
  have h2:ltP (kyP ks j) (kyP ks k)=true:=h2;show ltP (kyP ks i) (kyP ks k)=true;rw[ltP_iff] at h1 h2 ⊢;lia
def PrsAt (h:bO)(vs:List af)(ks:List (Int×Int)):Prop:=vs.length=ks.length∧∀(i:Nat) (v:af) (k:Int×Int),vs[i]? =some v→ks[i]? =some k→∃a o t u n,v= .ref a∧h.get? a=some o∧o.cls= .type "tuple" ∧o.data= .seq #[.int k.1 t,.int k.2 u] n
theorem prs_tups {h:bO}:∀{vs:List af} {ks:List (Int×Int)},PrsAt h vs ks→∃fs:List af,KatTups h vs fs∧fs.length=vs.length∧∀f∈fs,∃i t,f=af.int i t
 | [],[],_=>⟨[],trivial,rfl,λf hf=>rS hf ∅⟩
 | [],_::_,p=>rS p.1 ∅
 | _::_,[],p=>rS p.1 ∅
 | v::vs,k::ks,p=>by
  obtain⟨fs,t1,t2,t3⟩:=prs_tups (vs:=vs) (ks:=ks) ⟨by have:=p.1;simp only[aV] at this;lia,λi v' k' e1 e2=>p.2 (i+1) v' k' (by simpa using e1) (by simpa using e2)⟩;obtain⟨a,o,t,u,n,rfl,q2,q3,q4⟩:=p.2 0 v k rfl rfl;apply⟨.int k.1 t::fs,KatTups.cons q2 q3 q4 rfl t1,by rw[aV,aV,t2],λf hf=>?_⟩
  rcases aH.mp hf with rfl | hf
  ·exact⟨_,_,rfl⟩
  ·exact t3 f hf
def prs_kind (p:PrsAt s.heap vs ks)(h1:1≤vs.length){Q:SortKind→ay→Prop}(q:Q (tuples' true) s):aW (br prog w) A (keyKind' vs.toArray) Q E s:=by
 obtain⟨fs,t1,t2,t3⟩:=prs_tups p;have e1:((af.type "int" :af) == af.type "int")=true:=by trivial
 have e2:((af.type "int" :af) != af.type "tuple")=true:=by trivial
 apply kat_kind (T:= .type "int") t1 ⋯ (λv hv=>?_) e1 (by rw[e2];exact q);obtain⟨i,t,rfl⟩:=t3 v hv;exact Looks.of_pure rfl
def prs_ask (p:PrsAt s.heap vs ks)(hi:i<vs.length)(hj:j<vs.length){C:Bool→ay→Prop}(c:C (ltP (kyP ks i) (kyP ks j)) s):kas_ask prog w A (tuples' true) vs i j C s:=by
 have li:=p.1;obtain⟨a,o,t,u,n,e1,q2,q3,q4⟩:=p.2 i vs[i] ks[i] (gE hi) (gE ⋯);obtain⟨a',o',t',u',n',e1',q2',q3',q4'⟩:=p.2 j vs[j] ks[j] (gE hj) (gE ⋯);unfold kas_ask;have ei:vs.getD i af.none= .ref a:=by rw[ae,gE hi];exact e1
 have ej:vs.getD j af.none= .ref a':=by rw[ae,gE hj];exact e1'
 rw[ei,ej];rw[kyP_at ⋯,kyP_at ⋯] at c;apply kat_lt q2 q4 q2' q4' ?_;apply kat_cons (wpAny_eqBool_int ?_);unfold ltP at c
 by_cases h1:(ks[i].1 == ks[j].1)=true
 ·rw[rR h1] at c
  rw[h1];apply kat_yes (kat_cons (wpAny_eqBool_int ?_))
  by_cases h2:(ks[i].2 == ks[j].2)=true
  ·rw[rR h2] at c
   rw[h2];exact kat_yes (kat_nil c)
  ·rw[rQ h2] at c
   rw[jM.mpr h2];exact kat_no (kat_one _ _ (lt_int (Q:=PySem.W.BoolBack C) c))
 ·rw[rQ h1] at c
  rw[jM.mpr h1];exact kat_no (oneLt_int c)
def qK (h:bO)(kS a:aq)(out:List af):bO:=(h.update kS (cN λ_=>(#[]:Array af))).update a (cN λ_=>out.toArray)
def key_tail {st:SortSt}{out ks:List af}{e:Nat}{P:PySem.Fin→ay→Prop}(hout:(arrOf st).map (·.2)=jG out)(hz:out.length<64)(hkz:ks.length<64)(hf:failedOf st=none)
  (hk:s.heap.get? kS=some (bJ "list" ks.toArray e)) (ha:s.heap.get? a=some (bJ "list" #[] e1)) (hne:kS≠a)
  (h:P (.done (.ret .none)) { s with heap:=qK s.heap kS a out }):aW (br prog w) A (ksk_tail a false e1 (.ref kS) st) P E s:=by
 have na:(s.heap.update kS (cN λ_=>(#[]:Array af))).get? a=some (bJ "list" #[] e1):=by
  rw[gZ _ _ _ _ (cK hne)];exact ha
 unfold ksk_tail
 try dsimp only
 rw[hout];apply ao (listUpdate_at hk rfl ?_ (by rw[aK,fu];lia) (bu _));apply ao (jW ?_);apply ao (seqEpoch_at na rfl ?_);apply ao (listUpdate_at na rfl ?_ (bu _) (by show(if false=true then _ else out.toArray).size≤_;rw[rQ ↥0,aK,fu];lia));rw[hf];simp only[bne_self_eq_false,Bool.false_eq_true,if_false];exact aP h
def key_end {ks:List af}{e:Nat}{κ:SortKind}{lt:Nat→Nat→Bool}{P:PySem.Fin→ay→Prop}(hl:ks.length=vs.length)(h2:2≤vs.length)(h64:vs.length<64)(O:Ord lt vs.length)
  (hk:s.heap.get? kS=some (bJ "list" ks.toArray e)) (ha:s.heap.get? a=some (bJ "list" #[] e1)) (hne:kS≠a)
  (hkk:∀Q:SortKind→ay→Prop,Q κ s→aW (br prog w) A (keyKind' ks.toArray) Q (λ_ _=>False) s)
  (hc:∀i j C,i<vs.length→j<vs.length→C (lt i j) s→kas_ask prog w A κ ks i j C s)
  (h:∀p:Array Nat,Pm vs.length p→SoA lt p vs.length→P (.done (.ret .none)) { s with heap:=qK s.heap kS a (p.toList.map λi=>vs.getD i af.none) }) :
  aW (br prog w) A (ksk_end a false vs.toArray e1 (.ref kS) ks.toArray) P E s:=by
 have hn2:¬vs.toArray.size<2:=by rw[aK];lia
 unfold ksk_end
 try dsimp only
 rw[rQ ↥0,rQ hn2,rQ hn2,rQ ↥0];apply ao (cx (hkk (λκ' s'=>κ'=κ∧s'=s) ⟨rfl,rfl⟩) (λκ' s0 z=>?_) λ_ _ x=>x.elim);obtain⟨z1,z2⟩:=z;subst z1;subst z2;have G:=(sort_ok O ⋯).wp (cmp:=kas_ask prog w A κ' ks) (s:=s0) (Q:=λp s'=>s'=s0∧Pm vs.length p∧SoA lt p vs.length) hc (λp hp=>⟨rfl,hp.1,hp.2⟩);apply ao (cx (kat_run (Q:=λst' s'=>∃p:Array Nat,p.size=vs.length∧arrOf st'=p.map (kas_item (ks.toArray.zip vs.toArray))∧failedOf st'=none∧s'=s0∧Pm vs.length p∧SoA lt p vs.length) hl h2 h64 (λp' st' s' a1 a2 a3 a4=>⟨p',a1,a2,a3,a4.1,a4.2.1,a4.2.2⟩) G) ?_ λ_ _ e=>e);rintro⟨⟨⟩,st'⟩ s' ⟨p,hp,har,hf,rfl,pm,so⟩
 try dsimp only
 exact key_tail (kat_snds hl har) (by rw[aa,cV,hp];exact h64) ⋯ hf hk ha hne (h p pm so)
theorem key_fold {f:af}{kS:aq}{body:af→PUnit→Sem (ForInStep PUnit)}(J:List af→ay→Prop)(vs:List af)(h64:vs.length<64)
  (hb:∀ x ks e (t:ay),ks.length<64→t.heap.get? kS=some (bJ "list" ks.toArray e) →
   aW (br prog w) A (call f [x]) (λk t'=>t'.heap.get? kS=some (bJ "list" ks.toArray e)∧∀h' c,cH kS t'.heap h'→h'.get? kS=some (bJ "list" (ks++[k]).toArray c)→J (ks++[k]) { t' with heap:=h' }) (λ_ _=>False) t →
   aW (br prog w) A (body x ⟨⟩) (fun r t'=>r= .yield ⟨⟩∧∃ k c,t'.heap.get? kS=some (bJ "list" (ks++[k]).toArray c)∧J (ks++[k]) t') E t)
  (hc:∀ ks x e (t:ay),vs[ks.length]? =some x→J ks t→t.heap.get? kS=some (bJ "list" ks.toArray e) →
   aW (br prog w) A (call f [x]) (fun k t'=>t'.heap.get? kS=some (bJ "list" ks.toArray e)∧∀ h' c,cH kS t'.heap h'→h'.get? kS=some (bJ "list" (ks++[k]).toArray c)→J (ks++[k]) { t' with heap:=h' }) (fun _ _=>False) t) :
  ∀(r ks:List af) (e:Nat) (t:ay),vs=vs.take ks.length++r→ks.length+r.length=vs.length→t.heap.get? kS=some (bJ "list" ks.toArray e)→J ks t →
   aW (br prog w) A (forIn r PUnit.unit body) (λ_ t'=>∃ks e,t'.heap.get? kS=some (bJ "list" ks.toArray e)∧ks.length=vs.length∧J ks t') E t
 | [],ks,e,t,_,hl,hk,j=>by
  rw[List.forIn_nil];exact aP ⟨ks,e,hk,by simpa using hl,j⟩
 | x::r,ks,e,t,hv,hl,hk,j=>by
  rw[aV] at hl;rw[List.forIn_cons];have hx:vs[ks.length]? =some x:=by
   rw[hv,bp (by rw[bM];lia),bM,show ks.length - min ks.length vs.length=0 by lia];rfl
  apply ao (cx (hb x ks e t ⋯ hk (hc ks x e t hx j hk)) (λq t' hq=>?_) λ_ _ z=>z);obtain⟨rfl,k,c,hk',j'⟩:=hq;show aW (br prog w) A (forIn r PUnit.unit body) _ E t';apply key_fold J vs h64 hb hc r (ks++[k]) c t' ?_ (by rw[av,cU];lia) hk' j';rw[av,cU,bj,hx]
  simpa using hv
theorem key_rest {f:af}{P:PySem.Fin→ay→Prop}(J:List af→ay→Prop)(h64:vs.length<64)(hk:s.heap.get? kS=some (bJ "list" #[] 0))(j0:J [] s)
  (hc:∀ ks x e (t:ay),vs[ks.length]? =some x→J ks t→t.heap.get? kS=some (bJ "list" ks.toArray e) →
   aW (br prog w) A (call f [x]) (fun k t'=>t'.heap.get? kS=some (bJ "list" ks.toArray e)∧∀ h' c,cH kS t'.heap h'→h'.get? kS=some (bJ "list" (ks++[k]).toArray c)→J (ks++[k]) { t' with heap:=h' }) (fun _ _=>False) t)
  (h:∀ks e (t:ay),ks.length=vs.length→J ks t→t.heap.get? kS=some (bJ "list" ks.toArray e)→aW (br prog w) A (ksk_end a false vs.toArray e1 (.ref kS) ks.toArray) P E t) :
  aW (br prog w) A (ksk_rest a f false vs.toArray e1 (.ref kS)) P E s:=by
 unfold ksk_rest;apply ao (wpAny_rule ?_)
 first
  | rw[List.forIn_toArray]
  | (rw[←Array.forIn_toList];simp only[e8])
  | rw[←Array.forIn_toList]
 apply ao (cx (key_fold J vs h64 (λx ks e t hz ht hx=>?_) hc vs [] 0 s ∅ ∅ hk j0) (λ_ t hd=>?_) λ_ _ z=>z)
 ·apply ao (wpAny_attempt (cx hx (λk t' hk=>?_) λ_ _ hF=>hF.elim))
  obtain⟨k1,k2⟩:=hk;have s1:=gv t'.heap kS (cN (·.push k));have ea:(jG ks).push k=jG (ks++[k]):=by simp
  obtain⟨c2,hc2⟩:∃c2,(t'.heap.update kS (cN (·.push k))).get? kS=some (bJ "list" (jG (ks++[k])) c2):=⟨_,by rw[←ea];exact gO k1 (·.push k)⟩
  try dsimp only
  apply ao (listUpdate_at k1 rfl ?_ (by rw[aK,fu];lia) (aQ (Nat.le_of_eq (Array.size_push ..)) (by rw[aK,fu];lia)));exact aP ⟨rfl,k,c2,hc2,k2 _ c2 s1 hc2⟩
 ·obtain⟨ks,e,hk',hl,j⟩:=hd
  try dsimp only
  apply ao (listItems_at hk' rfl ?_);exact h ks e t hl j hk'
def collect_range {r:aq}{a c:Int}{t u v:Tok}{Q:List af→ay→Prop}(hh:A.handled=none)(hr:IsRange s.heap r a b c t u v)(hsmall:ij a b c=true)(hn:dZ a b c=n)(hlen:n≤2 ^ 24)
  (h:∀h' tk acc,(∀b o,s.heap.get? b=some o→h'.get? b=some o)→s.heap.objs.size<h'.objs.size→ItemsOf (λi v=>∃t,v= .int (a+i * c) t) acc n→Q acc.toList { s with heap:=h',toks:=tk }) :
  aW (br prog w) A (collect (.ref r)) Q E s:=by
 unfold collect;apply ao (wpAny_runValue (lI entry_proto_collect' ?_));show aW _ _ (do again (.builtin "list.__iadd__" ⟨[←newList [],.ref r],[]⟩)) _ _ s;apply ao (wpAny_newList (aP ⟨Code.quiet_builtin _ ⇑0,lI entry_list_iadd' ?_⟩));have key:=wpAny_extend_range (prog:=prog) (w:=w) (A:=A) (s:={ s with heap:=s.heap.push (bJ "list" #[] 0) }) (R:=fun r s'=>match r with
   | .ok (.ret v)=>aW (br prog w) A (match v with
    | .ref a=>do
     let o ← load a
     match o.data with
     | .seq xs _=>fV xs.toList
     | _=>unsupported "internal:collect"
    | _=>unsupported "internal:collect") Q E s'
   | .ok _=>False
   | .error e=>E e s') hh (ax _ hr) hsmall hn hlen s.heap.objs.size (.ref s.heap.objs.size) 0 (aU _ rfl) (λh' tk acc c' hk hS hacc=>by
  show aW (br prog w) A (do
    let o ← load s.heap.objs.size
    match o.data with
    | .seq xs _=>fV xs.toList
    | _=>unsupported "internal:collect") Q E { s with heap:=h',toks:=tk }
  apply ao (wpAny_load hS ?_);exact aP (h h' tk acc (fun b o e=>hk b o (bG (aN e)) (ax _ e)) (aN hS) hacc))
 exact key
def KeyDo (prog:aX)(w:bz)(B:bT)(f:af)(vs:List af)(kS D:aq)(e1:Nat)(Q:ay→Prop)(s1:ay):Prop :=
 ∃J:List af→ay→Prop,J [] s1 ∧
  (∀ ks x e (t:ay),vs[ks.length]? =some x→J ks t→t.heap.get? kS=some (bJ "list" ks.toArray e) →
   aW (br prog w) B (call f [x]) (fun k t'=>t'.heap.get? kS=some (bJ "list" ks.toArray e)∧∀ h' c,cH kS t'.heap h'→h'.get? kS=some (bJ "list" (ks++[k]).toArray c)→J (ks++[k]) { t' with heap:=h' }) (fun _ _=>False) t) ∧
  ∀ks (t:ay),ks.length=vs.length→J ks t→t.heap.get? D=some (bJ "list" #[] e1)∧∃κ lt,Ord lt vs.length ∧
   (2≤vs.length→∀Q:SortKind→ay→Prop,Q κ t→aW (br prog w) B (keyKind' ks.toArray) Q (λ_ _=>False) t) ∧
   (∀i j C,i<vs.length→j<vs.length→C (lt i j) t→kas_ask prog w B κ ks i j C t) ∧
   ∀p:Array Nat,Pm vs.length p→SoA lt p vs.length→Q { t with heap:=qK t.heap kS D (p.toList.map λi=>vs.getD i af.none) }
theorem zip_snd:∀(ks vs:List af),ks.length=vs.length→(ks.zip vs).map (·.2)=vs
 | [],[],_=>rfl
 | [],_::_,h=>by cases h
 | _::_,[],h=>by cases h
 | _::ks,v::vs,h=>by
  show v::(ks.zip vs).map (·.2)=v::vs;rw[zip_snd ks vs (by simpa using h)]
def key_end_few {ks:List af}{e:Nat}{P:PySem.Fin→ay→Prop}(hl:ks.length=vs.length)(h2:vs.length<2)
  (hk:s.heap.get? kS=some (bJ "list" ks.toArray e)) (ha:s.heap.get? a=some (bJ "list" #[] e1)) (hne:kS≠a)
  (h:P (.done (.ret .none)) { s with heap:=qK s.heap kS a vs }) :
  aW (br prog w) A (ksk_end a false vs.toArray e1 (.ref kS) ks.toArray) P E s:=by
 have hn2:vs.toArray.size<2:=by rw[aK];lia
 unfold ksk_end
 try dsimp only
 rw[rQ ↥0,rR hn2,rR hn2,rQ ↥0];apply ao (aP ?_);rw[StateT.run_pure];apply ao (aP ?_)
 try dsimp only
 apply key_tail (out:=vs) ?_ ⋯ ⋯ rfl hk ha hne h;show(ks.toArray.zip vs.toArray).map (·.2)=vs.toArray
 apply Array.toList_inj.mp ?_
 rw[Array.toList_map,Array.toList_zip];exact zip_snd ks vs hl
def range_getD (vs:List af):((aG vs.length).map λi=>vs.getD i af.none)=vs:=by
 apply List.ext_getElem? λi=>?_
 rw[az]
 by_cases hi:i<vs.length
 ·rw[gY hi]
  show some (vs.getD i af.none)=_;rw[ae,gE hi];rfl
 ·rw[List.getElem?_eq_none (by rw[bb];lia),List.getElem?_eq_none ⋯];rfl
def key_tree {q:aq}{P:PySem.Fin→ay→Prop}(ho:s.heap.get? a=some (bJ "list" vs.toArray n))(h64:vs.length<64)
  (h:∀e1,(kW s.heap a vs).get? a=some (bJ "list" #[] e1)→(kW s.heap a vs).get? (s.heap.objs.size+1)=some (bJ "list" #[] 0)→KeyDo prog w A (.ref q) vs (s.heap.objs.size+1) a e1 (λt=>P (.done (.ret .none)) t) { s with heap:=kW s.heap a vs }) :
  aW (br prog w) A (ksk_tree a (.ref q) false) P E s:=by
 obtain⟨e1,ho1⟩:∃e1,(s.heap.update a (cN λ_=>(#[]:Array af))).get? a=some (bJ "list" #[] e1):=⟨_,gO ho λ_=> #[]⟩;have ha:a<s.heap.objs.size:=aN ho;have ho6:(kW s.heap a vs).get? a=some (bJ "list" #[] e1):=ax _ (ax _ ho1);have hkS:((s.heap.update a (cN λ_=>(#[]:Array af))).push (bJ "tuple" vs.toArray 0)).objs.size=s.heap.objs.size+1:=by rw[size_push',bO.size_update]
 have hk0:(kW s.heap a vs).get? (s.heap.objs.size+1)=some (bJ "list" #[] 0):=by
  unfold kW;rw[←hkS];exact aU _ rfl
 obtain⟨J,j0,jc,je⟩:=h e1 ho6 hk0;unfold ksk_tree;apply ao (listItems_at ho rfl ?_);apply ao (listUpdate_at ho rfl ?_ (by rw[aK,fu];lia) (bu _));apply ao (seqEpoch_at ho1 rfl ?_);apply ao (wpAny_newTuple ?_ (by show vs.length≤_;rw[fu];lia));apply ao (wpAny_newList ?_ (bu _));apply dU ?_;show aW (br prog w) A (ksk_rest a (.ref q) false vs.toArray e1 (.ref ((s.heap.update a (cN λ_=>(#[]:Array af))).push (bJ "tuple" vs.toArray 0)).objs.size)) P E { s with heap:=kW s.heap a vs };rw[hkS];apply key_rest J h64 hk0 j0 jc λks e t hl j hk=>?_
 obtain⟨ha',κ,lt,O,hkk,hc,hP⟩:=je ks t hl j
 by_cases h2:vs.length<2
 ·have hh:=hP (aG vs.length).toArray (by show(aG vs.length).toArray.toList.Perm _;rw[e8]) (λi j x y=>rS y ⋯)
  rw[e8,range_getD] at hh;exact key_end_few hl h2 hk ha' (cZ (iG ha)) hh
 ·exact key_end hl ⋯ h64 O hk ha' (cZ (iG ha)) (hkk ⋯) hc hP
def sorted_keyR {r q:aq}{a c:Int}{t u v:Tok}(hh:A.handled=none)(hr:IsRange s.heap r a b c t u v)(hsmall:ij a b c=true)(hn:dZ a b c=n)(h64:n<64)
  (h:∀ (vs:List af) (h1:bO) (tk:Nat) (D kS:aq) (e1:Nat),vs.length=n→(∀ (i:Nat) x,vs[i]? =some x→∃ t,x= .int (a+i * c) t)→(∀ b o,s.heap.get? b=some o→h1.get? b=some o)→s.heap.objs.size≤D→D<kS→h1.get? D=some (bJ "list" #[] e1)→h1.get? kS=some (bJ "list" #[] 0) →
   KeyDo prog w A.in1.in1 (.ref q) vs kS D e1 (fun t'=>Q (.ref D) t') { s with heap:=h1,toks:=tk }) :
  aW (br prog w) A (call (.builtin "sorted") [.ref r] [(cj "key",.ref q)]) Q E s:=by
 apply call_function_entry_kw kind_sorted plain_sorted entry_sorted (ksk_s1 _ _) ?_;unfold cO.«sorted»;apply ao (m:=checkCount "sorted" 1 1 _) (aP ?_);apply ao (collect_range hh hr hsmall hn ⋯ λh' tk acc hk hlt hi=>?_);have hl:acc.toList.length=n:=by rw[cV];exact hi.1
 apply ao (wpAny_newList ?_ (by rw[hl,fu];lia));have hoL:(h'.push (bJ "list" acc.toList.toArray 0)).get? h'.objs.size=some (bJ "list" acc.toList.toArray 0):=aU _ rfl;show aW _ _ _ _ _ { s with heap:=h'.push (bJ "list" acc.toList.toArray 0),toks:=tk };apply ao (dU (wpAny_call_entry_kw slot_list_sort ⟨_,hoL,rfl⟩ entry_list_sort ?body (ksk_l1 _ _)))
 case body =>
  show aW (br prog w) A.in1.in1 (cO.«list.sort» ⟨[.ref h'.objs.size],[(cj "key",.ref q)]⟩) _ _ _;rw[ksk_t1];apply key_tree (s:={ s with heap:=h'.push (bJ "list" acc.toList.toArray 0),toks:=tk }) hoL ⋯ λe1 g1 g2=>?_
  have K:=h acc.toList (kW (h'.push (bJ "list" acc.toList.toArray 0)) h'.objs.size acc.toList) tk h'.objs.size ((h'.push (bJ "list" acc.toList.toArray 0)).objs.size+1) e1 hl ?_ ?_ (iZ hlt) (by rw[size_push'];exact iG (ki _)) g1 g2
  ·obtain⟨J,j0,jc,je⟩:=K
   apply⟨J,j0,jc,λks t' x1 x2=>?_⟩;obtain⟨y1,κ,lt,y2,y3,y4,y5⟩:=je ks t' x1 x2;exact⟨y1,κ,lt,y2,y3,y4,λp p1 p2=>⟨_,rfl,aP ⟨_,rfl,y5 p p1 p2⟩⟩⟩
  ·intro i x hx
   rw[jX] at hx;exact hi.2 i x hx
  ·exact λb o e=>mid_keep (bG (Nat.lt_trans (aN e) hlt)) (ax _ (hk b o e))
section
variable {pins:List (aq×Obj)}{σ:List (Option V)}
def Inv.take {D:aq}(I:Inv X pins σ H s)(hn:H D=none)(hs0:X.s₀.heap.objs.size≤D)(hL:D≠X.env.locals)(hC:∀x c,X.env.cells.lookup x=some c→c≠D)(hP:∀p∈X.pn++pins,p.1≠D)(new:jk X.prog X.w (upd H D o) s.heap D o):Inv X pins σ (upd H D o) s where
 ok:=I.ok
 os:=I.os
 bare:=I.bare
 base :=
  {keep:=I.base.keep
   slot:=I.base.slot
   free:=λb ob e nb hx=>by rw[bt (bG (aS (aN e) hs0))];exact I.base.free b ob e nb hx
   there:=I.base.there
   tups:=λb xs e=>by have q:=I.base.tups b xs e;rw[bt (bF q hn)];exact q
   frzs:=λb o u e=>by have q:=I.base.frzs b o u e;rw[bt (bF q hn)];exact q
   tbls:=fun b ps e=>by obtain ⟨more,q⟩:=I.base.tbls b ps e;exact ⟨more,by rw [bt (bF q hn)];exact q⟩ }
 loc:=I.loc
 cell:=I.cell
 free:=by rw[bt hL.symm];exact I.free
 freeC:=λx c e=>by rw[bt (hC x c e)];exact I.freeC x c e
 pin:=λp hp=>by
  obtain⟨a,b,c,d,e⟩:=I.pin p hp;exact⟨a,by rw[bt (hP p hp)];exact b,c,d,e⟩
 hok:=I.hok.take hn new
 len:=I.len
def Inv.unpin {p0:aq×Obj}(I:Inv X (p0::pins) σ H s):Inv X pins σ H s:=I.pins_of λp hp=>I.pin p (aE _ (aA _ hp))
def Inv.repin {o o':Obj}(I:Inv X ((kS,o)::pins) σ H s)(hs0:X.s₀.heap.objs.size≤kS)(hC:∀x c,X.env.cells.lookup x=some c→c≠kS)(hP:∀p∈X.pn++pins,p.1≠kS)(hsb:cH kS s.heap h')(ho':h'.get? kS=some o')(hd:∀v,o'.data≠ .cell v):Inv X ((kS,o')::pins) σ H { s with heap:=h' }:=by
 obtain⟨p1,p2,p3,p4,_⟩:=I.pin (kS,o) (aE _ (bq ..));have I2:=I.unpin.turned (t':=s.toks) (it:=kS) (h':=h') (λb o hb e=>hsb.extBut b o hb e) p2 p3 (.inr hs0) hC hP;apply I2.pins_of λp hp=>?_
 rcases aH.mp hp with rfl | hp
 ·exact⟨ho',p2,p3,p4,hd⟩
 ·exact I2.pin p (aE _ hp)
def prs_of {as:List aq}(I:Inv X pins σ H s)(hl:as.length=ks.length)(h:∀(i:Nat) a k,as[i]? =some a→ks[i]? =some k→H a=some (.tup [.int k.1,.int k.2])):PrsAt s.heap (as.map af.ref) ks:=by
 apply⟨by rw[aa,hl],λi v k e1 e2=>?_⟩;rw[az] at e1;obtain⟨a,ea,rfl⟩:=aM.mp e1;obtain⟨tz,tts,tr,o,ho,hcl,_,nn,hdt⟩:=I.hok a _ (h i a k ea e2);cases tr with
 | cons r1 tr=>cases tr with
  | cons r2 tr =>
   cases tr;obtain⟨t1,rfl⟩:=r1;obtain⟨t2,rfl⟩:=r2;exact⟨a,o,t1,t2,nn,rfl,ho,hcl,hdt⟩
theorem keyDo_of {B:bT}{f:af}{num:Nat→Int}{key:Nat→Int×Int}{D:aq}{Q:ay→Prop}
  (I:Inv X ((kS,bJ "list" #[] 0)::(D,bJ "list" #[] e1)::pins) σ H s) (hl:vs.length=n) (h64:n<64) (hv:∀(i:Nat) x,vs[i]? =some x→∃t,x= .int (num i) t)
  (k0:X.s₀.heap.objs.size≤kS) (d0:X.s₀.heap.objs.size≤D) (kC:∀x c,X.env.cells.lookup x=some c→c≠kS) (dC:∀x c,X.env.cells.lookup x=some c→c≠D) (kP:∀p∈X.pn++pins,p.1≠kS) (dP:∀p∈X.pn++pins,p.1≠D) (hne:kS≠D)
  (hnd:((aG n).map key).Nodup)
  (hf:∀(t:ay) (H':Hp) (pins':List (aq×Obj)) (i:Nat) (tk:Tok),i<n→Inv X pins' σ H' t→bD H H'→aW (br X.prog X.w) B (call f [.int (num i) tk]) (λk t'=>∃q H'',Inv X pins' σ H'' t'∧bD H' H''∧k= .ref q∧H'' q=some (.tup [.int (key i).1,.int (key i).2])) (λ_ _=>False) t)
  (fin:∀(t:ay) (H':Hp) (π:List Nat),bD H H'→H' D=none→Inv X pins σ (upd H' D (.lst (π.map λi=>V.int (num i)))) t→π.Perm (aG n)→π.Pairwise (λi j=>ltP (key i) (key j)=true)→Q t) :
  KeyDo X.prog X.w B f vs kS D e1 Q s:=by
 have pK:∀p∈X.pn++((D,bJ "list" #[] e1)::pins),p.1≠kS:=λp hp=>by
  rcases aI.mp hp with hp | hp
  ·exact kP p (aJ _ hp)
  ·rcases aH.mp hp with rfl | hp
   ·exact cK hne
   ·exact kP p (aE _ hp)
 apply⟨λks t=>∃e H' as,Inv X ((kS,bJ "list" ks.toArray e)::(D,bJ "list" #[] e1)::pins) σ H' t∧bD H H'∧ks=as.map af.ref∧∀(i:Nat) a,as[i]? =some a→H' a=some (.tup [.int (key i).1,.int (key i).2]),⟨0,H,[],I,bD.refl H,rfl,λi a e=>by simp at e⟩,?_,?_⟩
 ·rintro ks x e t hx ⟨e',H',as,I',S',rfl,has⟩ hk
  rw[aa] at hx;have hi:as.length<n:=by rw[←hl];exact(ar.mp hx).1
  obtain⟨tk,rfl⟩:=hv _ x hx;apply cx (hf t H' _ as.length tk hi I' S') (λk t' hk'=>?_) λ_ _ z=>z
  obtain⟨q,H'',I'',S'',rfl,hq⟩:=hk';have pk:=(I''.pin _ (aE _ (bq ..))).1;have pk0:=(I'.pin _ (aE _ (bq ..))).1;have pk0:t.heap.get? kS=some (bJ "list" (as.map af.ref).toArray e'):=pk0;rw[hk] at pk0;have ee:e=e':=by cases pk0;rfl
  apply⟨by rw[ee];exact pk,λh' c hsb hg=>⟨c,H'',as++[q],I''.repin k0 kC pK hsb hg (λv z=>by cases z),S'.trans S'',by rw[aD];rfl,λi a ea=>?_⟩⟩
  by_cases hlt:i<as.length
  ·rw[cu hlt] at ea
   exact S'' _ _ (has i a ea)
  ·rw[bp ⋯] at ea
   have hz:i=as.length:=by
    have:=(ar.mp ea).1;simp only[cU] at this;lia
   subst hz;rw[fY] at ea;cases ea;exact hq
 ·rintro ks t hks ⟨e',H',as,I',S',rfl,has⟩
  rw[aa] at hks;obtain⟨pd,nD,lD,fD,_⟩:=I'.pin (D,bJ "list" #[] e1) (aE _ (aA _ (bq ..)));obtain⟨pk,nK,lK,fK,_⟩:=I'.pin (kS,bJ "list" (as.map af.ref).toArray e') (aE _ (bq ..));have pd:t.heap.get? D=some (bJ "list" #[] e1):=pd;have pk:t.heap.get? kS=some (bJ "list" (as.map af.ref).toArray e'):=pk;have kat:∀i,i<n→kyP ((aG n).map key) i=key i:=λi hi=>by
   rw[kyP_at (by rw[aa,bb];exact hi),j6,k5]
  have PR:PrsAt t.heap (as.map af.ref) ((aG n).map key):=prs_of I' (by rw[aa,bb];lia) λi a k ea ek=>by
   rw[az] at ek;obtain⟨j,ej,rfl⟩:=aM.mp ek;have hi:i<n:=by have:=(ar.mp ej).1;rw[bb] at this;exact this
   rw[gY hi] at ej;cases ej;exact has i a ea
  have ln:((aG n).map key).length=n:=by rw[aa,bb]
  have O:=ord_of hnd;rw[ln] at O;apply⟨pd,tuples' true,λi j=>ltP (kyP ((aG n).map key) i) (kyP ((aG n).map key) j),by rw[hl];exact O,λh2 Q' q'=>prs_kind (s:=t) PR (by rw[aa];lia) q',λi j C hi hj c=>prs_ask (s:=t) PR (by rw[aa];lia) (by rw[aa];lia) c,λp pm so=>?_⟩;rw[hl] at pm so;have s1:=gv t.heap kS (cN λ_=>(#[]:Array af));obtain⟨ck,hck⟩:∃ck,(t.heap.update kS (cN λ_=>(#[]:Array af))).get? kS=some (bJ "list" #[] ck):=⟨_,gO pk λ_=> #[]⟩;have I1:=I'.repin k0 kC pK s1 hck (λv z=>by cases z);have I2:=I1.unpin;have hD1:(t.heap.update kS (cN λ_=>(#[]:Array af))).get? D=some (bJ "list" #[] e1):=by rw[gZ _ _ _ _ (cK hne)];exact pd
  have s2:=gv (t.heap.update kS (cN λ_=>(#[]:Array af))) D (cN λ_=>jG (p.toList.map λi=>vs.getD i af.none));obtain⟨cD,hcD⟩:∃cD,(qK t.heap kS D (p.toList.map λi=>vs.getD i af.none)).get? D=some (bJ "list" (jG (p.toList.map λi=>vs.getD i af.none)) cD):=⟨_,gO hD1 λ_=>jG (p.toList.map λi=>vs.getD i af.none)⟩;have I3:=(I2.repin d0 dC dP s2 hcD (λv z=>by cases z)).unpin;apply fin _ H' p.toList S' nD (I3.take nD d0 lD dC dP ⟨?_,_,cD,?_,hcD⟩) pm ?_
  ·rw[aa,pm.length_eq,bb];exact aQ (by lia:n≤1000) ↥0
  ·apply vals_at (by rw[aa,aa]) λi x hx=>?_
   rw[az] at hx;obtain⟨j,hj,rfl⟩:=aM.mp hx;have hjn:j<n:=bS.mp (pm.mem_iff.mp (aL hj));obtain⟨tk,ex⟩:=hv j vs[j] (gE ⋯);apply⟨vs.getD j af.none,by rw[az,hj];rfl,?_⟩;rw[ae,gE ⋯];exact⟨tk,ex⟩
  ·apply List.pairwise_iff_getElem.mpr λa b ha hb hab=>?_
   have sz:=Pm.size pm;rw[cV] at ha hb;have:=so a b hab ⋯;have ea:gA p a=p.toList[a]:=by rw[mL,dQ ha];simp
   have eb:gA p b=p.toList[b]:=by rw[mL,dQ hb];simp
   have la:p.toList[a]<n:=by rw[←ea];exact pm.lt ⋯
   have lb:p.toList[b]<n:=by rw[←eb];exact pm.lt ⋯
   have this:ltP (kyP ((aG n).map key) (gA p a)) (kyP ((aG n).map key) (gA p b))=true:=this;rw[ea,eb,kat _ la,kat _ lb] at this;exact this
end
end L2
namespace L2
open PySem PySem.W PySem.Spec PyProof.Rows
def BM (mg:Str→Option af)(base:bO):Prop:=∃bm ob,mg "__builtins__" =some (.ref bm)∧bm≠builtinsNs∧bm≠bL∧base.get? bm=some ob∧ob.cls= .type "module" ∧ob.dict=some builtinsNs∧ob.data= .plain
def CdK (q:Str)(H:Hp)(c:aq):Prop:=∃oc vs t,H c=some (.frz oc (.own 0))∧oc.data= .fields vs∧vs[1]? =some (.str q t)
def Tb (P:aq)(H H':Hp):Prop:=∀a o,a≠P→H a=some o→H' a=some o
def Tb.refl {P:aq}(H:Hp):Tb P H H:=λ_ _ _ e=>e
def Tb.trans {P:aq}(a:Tb P H H1)(b:Tb P H1 H2):Tb P H H2:=λx o n e=>b x o n (a x o n e)
def bD.tb {P:aq}(a:bD H H'):Tb P H H':=λx o _ e=>a x o e
def CdK.tb {P:aq}{c:aq}(a:Tb P H H')(hn:c≠P)(k:CdK q H c):CdK q H' c:=let ⟨oc,vs,t,e,r⟩:=k;⟨oc,vs,t,a _ _ hn e,r⟩
def LamG (P:aq)(q:Str)(H:Hp):Prop:=∃l:List (Pos×aq),H P=some (.tbl (triples l).toArray)∧∀e∈l,CdK q H e.2
def LamG.tbl {P:aq}(k:LamG P q H):∃ps,H P=some (.tbl ps):=let ⟨_,e,_⟩:=k;⟨_,e⟩
def LamG.nil {P:aq}(e:H P=some (.tbl #[])):LamG P q H:=⟨[],e,λ_ h=>rS h ∅⟩
def CdK.ne {P c:aq}{ps:Array af}(k:CdK q H c)(e:H P=some (.tbl ps)):c≠P:=λz=>by
 obtain⟨oc,vs,t,e2,_⟩:=k;rw[z,e] at e2;cases e2
def LamG.stay {P:aq}(k:LamG P q H)(hT:∀ps,H P=some (.tbl ps)→H' P=some (.tbl ps))(hf:∀a o u,H a=some (.frz o u)→H' a=some (.frz o u)):LamG P q H':=by
 obtain⟨l,e,r⟩:=k;apply⟨l,hT _ e,λx hx=>?_⟩;obtain⟨oc,vs,t,e2,z⟩:=r x hx;exact⟨oc,vs,t,hf _ _ _ e2,z⟩
def LamG.same {P:aq}(a:bD H H')(k:LamG P q H):LamG P q H':=k.stay (λ_ e=>a _ _ e) λ_ _ _ e=>a _ _ e
theorem oq:∀l:List (Pos×aq),TriplesOk (triples l)
 | []=>trivial
 | (p,c)::r=>oq r
theorem pL {pos:Pos}:∀{l:List (Pos×aq)} {cv:af},codeAmong pos (triples l)=some cv→∃e∈l,cv= .ref e.2
 | [],cv,h=>by cases h
 | (p,c)::r,cv,h=>by
  have h:(if (((p.line:Nat):Int) == ((pos.line:Nat):Int) && ((p.col:Nat):Int) == ((pos.col:Nat):Int))=true then some (af.ref c) else codeAmong pos (triples r))=some cv:=h;split at h
  ·cases h;exact⟨(p,c),∅,rfl⟩
  ·obtain⟨e,he,z⟩:=pL h
   exact⟨e,by simp[he],z⟩
abbrev LamT (P:aq)(_:Pos)(q:Str)(H:Hp):Prop:=LamG P q H
def LamT.same {P:aq}(a:bD H H')(k:LamT P pos q H):LamT P pos q H':=LamG.same a k
def LamF (q:Str)(params:gQ)(body:Expr)(scope:fN)(cl:List (Str×aq))(f:aq)(H:Hp):Prop :=
 ∃pm c ct,H f=some (.frz (kla_obj "<lambda>" q params body scope cl pm c ct) (.own 0))∧CdK q H c
def LamF.same (a:bD H H')(k:LamF q params body scope cl f H):LamF q params body scope cl f H' :=
 let ⟨pm,c,ct,e,oc,vs,t,e2,r⟩:=k;⟨pm,c,ct,a _ _ e,oc,vs,t,a _ _ e2,r⟩
section
variable {pins:List (aq×Obj)}{σ:List (Option V)}
def Inv.grown {P:aq}{ps more:Array af}{tk:Nat}(I:Inv X pins σ H s)(hP:H P=some (.tbl ps))(hx:bO.ExtBut P s.heap h')(ht:h'.get? P=some (tabObj (ps++more))) :
  Inv X pins σ (upd H P (.tbl (ps++more))) { s with heap:=h',toks:=tk }:=by
 have neP:∀b,H b=none→b≠P:=λb e z=>by rw[z,hP] at e;cases e
 have neO:∀b o,H b=some o→(∀ps,o≠ .tbl ps)→b≠P:=λb o e hn z=>by rw[z,hP] at e;exact hn ps (bE e).symm
 apply I.step (g':=s.gens) (d':=s.drawn) (ch:=[]) (λ_ z=>nomatch z) (λb o _ _ _ e n=>hx b o (neP b n) e) (λb o _ _ _ e n=>⟨o.slots,hx b o (neP b n) e⟩) (λb o _ _ n=>by rw[bt (neP b n)];exact n)
  (λb o _ e=>?_) (λb xs e=>by rw[bt (neO b _ e λ_ z=>by cases z)];exact e) (λb o u e=>by rw[bt (neO b _ e λ_ z=>by cases z)];exact e) (λb qs e=>?_) (λm hn=>hn.extBut hx (neP _ I.free)) (λb u e=>?_) I.bare
 ·by_cases hb:b=P
  ·exact⟨_,hb ▸ ht⟩
  ·exact⟨o,hx b o hb e⟩
 ·by_cases hb:b=P
  ·subst hb
   rw[hP] at e;cases e;exact⟨more,aR⟩
  ·exact⟨#[],by rw[bt hb,e];simp⟩
 ·by_cases hb:b=P
  ·subst hb
   rw[aR] at e;cases e;exact ht
  ·rw[bt hb] at e
   apply(I.hok b u e).stay (λc v hc q=>hx c v ?_ q) (λc q=>by rw[bt (neO c _ q λ_ z=>by cases z)];exact q) λc xs q=>by rw[bt (neO c _ q λ_ z=>by cases z)];exact q
   rcases hc with rfl | hc
   ·exact hb
   ·exact neO c _ hc λ_ z=>by cases z
def n6 {c P:aq}(I:Inv X pins σ H s)(hd:defaultsOf params X.env=([],[]))(qU:X.env.code= .ref c)(C:codeHdIn X.K c P=true)(B:BM X.mg X.base)
  (hfr:∀y∈scope.names,y.2= .free→X.env.scope.names.lookup y.1=some .cell) (T:LamG P (X.env.qual ++ "<lambda>") H)
  (h:∀f cl H' s',Inv X pins σ H' s'→Tb P H H'→LamG P (X.env.qual ++ "<lambda>") H'→LamF (X.env.qual ++ "<lambda>") params body scope cl f H'→(∀x c,cl.lookup x=some c→X.env.cells.lookup x=some c)→(∀y∈scope.names,y.2= .free→cl.lookup y.1=X.env.cells.lookup y.1)→Q (.ref f) s') :
  aW (br X.prog X.w) X.A (eP (.Lambda params body scope pos) X.env) Q X.xe s:=by
 obtain⟨cl,hclos,c1,c2⟩:=qL (scope:=scope) (env:=X.env) λy hy hk=>I.ok.has _ (.inl (hfr y hy hk))
 apply kla_eval hd ?_;have hgs:s.heap.Ns bL X.mg:=I.mod.glob.keeps I.bk;obtain⟨bm,ob,b1,b2,b3,b4,b5⟩:=B;have CH:CodeHd s.heap c P:=codeHd_of_K I.kIn C;obtain⟨l,hP,K⟩:=T;have hbP:bm≠P:=λq=>by have z:=(I.bs bm ob b4).2;rw[q,hP] at z;cases z
 have hgP:bL≠P:=λq=>by
  obtain⟨o,es,ep,e,_⟩:=I.mod.glob;have z:=(I.bs _ o e).2;rw[q,hP] at z;cases z
 have hBA:s.heap.BuiltinsAt X.mg P:=⟨bm,ob,b1,b2,b3,hbP,I.bk _ _ b4,b5⟩;have fin:∀(H1:Hp) (h1:bO) (tk:Nat) (c':aq) (ctv:af),Inv X pins σ H1 { s with heap:=h1,toks:=tk }→Tb P H H1→LamG P (X.env.qual ++ "<lambda>") H1→CdK (X.env.qual ++ "<lambda>") H1 c' →
   Q (.ref h1.objs.size) { s with heap:=h1.push (kla_obj "<lambda>" (X.env.qual ++ "<lambda>") params body scope cl ((X.mg "__name__").getD .none) c' ctv),toks:=tk }:=λH1 h1 tk c' ctv I1 t1 T1 K1=>by
  have fr:H1 h1.objs.size=none:=I1.hok.fresh (aB _);have S:bD H1 (upd H1 h1.objs.size (.frz (kla_obj "<lambda>" (X.env.qual ++ "<lambda>") params body scope cl ((X.mg "__name__").getD .none) c' ctv) (.own 0))):=λa o e=>by rw[bt (bF e fr)];exact e
  have I2:=I1.laid (t':=tk) (a:=h1.objs.size) (o:= .frz (kla_obj "<lambda>" (X.env.qual ++ "<lambda>") params body scope cl ((X.mg "__name__").getD .none) c' ctv) (.own 0)) (h':=h1.push (kla_obj "<lambda>" (X.env.qual ++ "<lambda>") params body scope cl ((X.mg "__name__").getD .none) c' ctv)) (λb u e=>ax _ e) (aB _) ⟨aU _ rfl,_,aU _ rfl⟩;obtain⟨oc,vs,t,e,r⟩:=K1;exact h _ cl _ _ I2 (t1.trans S.tb) (T1.same S) ⟨_,c',ctv,aR,oc,vs,t,S _ _ e,r⟩ c1 c2
 have hPh:s.heap.get? P=some (tabObj (triples l).toArray):=I.hok P _ hP;cases hq:codeAmong pos (triples l) with
 | none =>
  apply kla_makeFunction (mg:=X.mg) hclos I.ok.glob hgs qU CH hPh (by rw[e8];exact oq l) (by rw[e8];exact hq) hgP hBA λc' ctv h' tk hx hge hlt hrec htb=>?_
  have I1:=I.grown (tk:=tk) hP hx htb;obtain⟨c2',oc,vs,t,e2,hoc,hdd,hv⟩:=hrec;cases e2;have Plt:P<s.heap.objs.size:=aN hPh;have ncP:c'≠P:=cZ (aS Plt hge);have frc:H c'=none:=I.hok.fresh hge;have hn1:(upd H P (.tbl ((triples l).toArray++ #[rawInt pos.line,rawInt pos.col,.ref c']))) c'=none:=by rw[bt ncP];exact frc
  have old:∀b o,s.heap.get? b=some o→b≠c':=λb o e=>bG (aS (aN e) hge)
  have I2:=I1.take (D:=c') (o:= .frz oc (.own 0)) hn1 (aQ I.sz hge) (cZ (aS I.lt hge)) (λx d e=>by obtain⟨v,o,ho,_⟩:=I.cell x d e;exact old d o ho) (λp hp=>old _ _ (I.pin p hp).1) ⟨hoc,_,hoc⟩;have tb:Tb P H (upd (upd H P (.tbl ((triples l).toArray++ #[rawInt pos.line,rawInt pos.col,.ref c']))) c' (.frz oc (.own 0))):=λa o hn e=>by
   rw[bt (bF e frc),bt hn];exact e
  apply fin _ h' tk c' ctv I2 tb ⟨l++[(pos,c')],?_,λx hx=>?_⟩ ⟨oc,vs,t,aR,hdd,hv⟩
  ·rw[bt (cK ncP),aR,triples_append]
   congr 2
   apply Array.toList_inj.mp ?_
   simp
  ·rcases aI.mp hx with hx | hx
   ·exact(K x hx).tb tb ((K x hx).ne hP)
   ·rw[aw.mp hx]
    exact⟨oc,vs,t,aR,hdd,hv⟩
 | some cv =>
  obtain⟨e,he,rfl⟩:=pL hq;apply kla_makeFunctionHit (cv:= .ref e.2) (mg:=X.mg) hclos I.ok.glob hgs qU CH hPh (by rw[e8];exact oq l) (by rw[e8];exact hq) hBA λctv h' tk hk hsz=>?_
  exact fin H h' tk e.2 ctv (I.kept hk) (Tb.refl H) ⟨l,hP,K⟩ (K e he)
def cxLam (X:Cx)(q:Str)(scope:fN)(cl:List (Str×aq))(L f:aq)(cd:af)(N:List Str)(s:ay)(H:Hp):Cx :=
 { X with A:=X.A.in1.in1.deeper (envX q scope L f cd cl),N:=N,s₀:=s,H₀:=H,env:=envX q scope L f cd cl,outer:=X.stack,stack:=envX q scope L f cd cl::X.stack,ex:=[],calm:=true,fn:=λ_=>false,pn:=[],xe:=λ_ _=>False }
def lam_call {Q:VK}(I:Inv X pins σ H s)(hc:X.calm=true)(hr:X.A.depth<ka)(F:LamF q params body scope cl f H)(ru:gL v u)
  (hbind:∀pm cdv ct,bindArgs (kla_fn "<lambda>" q params body scope cl pm cdv ct) ⟨[u],[]⟩=fV [(x,u)])
  (hk:scope.kind= .function) (hco:scope.isCoroutine=false) (hgen:scope.isGenerator=false) (iL:∀y∈scope.names,y.2≠ .cell) (hx:scope.names.lookup x=some .local) (hfx:x ∉ fr)
  (c1:∀x c,cl.lookup x=some c→X.env.cells.lookup x=some c) (c2:∀y∈scope.names,y.2= .free→cl.lookup y.1=X.env.cells.lookup y.1)
  (hfr:∀y∈scope.names,y.2= .free→X.env.scope.names.lookup y.1=some .cell) (hjs:js.map (λj=>X.N[j]?)=fr.map some) (hfv:∀y∈fr,scope.names.lookup y=some .free)
  (hb:∀L cd s' H',PE (cxLam X q scope cl L f cd (x::fr) s' H') body te) (ht:te (some v::c9 σ js) H Q) :
  aW (br X.prog X.w) X.A.in1.in1 (call (.ref f) [u]) (EP X pins σ Q) (λ_ _=>False) s:=by
 obtain⟨pm,cd,ct,e,oc,vs,t,ec,hdc,hvc⟩:=F;have ho:s.heap.get? f=some (kla_obj "<lambda>" q params body scope cl pm cd ct):=(I.hok f _ e).1;have hoc:s.heap.get? cd=some oc:=(I.hok cd _ ec).1;apply wpAny_call (kla_callFunE hr ho rfl hco hgen rfl ⟨cd,oc,vs,t,rfl,hoc,hdc,hvc⟩ ?_);rw[hbind];apply aP (wpAny_newFunctionEnv iL (λy hy=>?_) (λh₁ hns hsb=>⟨I.nolimit.fresh _ hsb,?_⟩) hk)
 ·rw[aw.mp hy];exact hx
 show jj _ _ (.expr body (envX q scope s.heap.objs.size f (.ref cd) cl)) _ _;have old:∀b o,s.heap.get? b=some o→h₁.get? b=some o:=λb o e=>hsb.extBut b o (bG (aN e)) (ax _ e)
 apply kla_codeExpr ?_;have ok':(cxLam X q scope cl s.heap.objs.size f (.ref cd) (x::fr) s H).Ok:=by
  apply⟨I.ok.mod,hk,rfl,rfl,aB _,λa b c e1 e2=>I.ok.inj a b c (c1 a c e1) (c1 b c e2),λy hy=>?_,λ_ _ z=>rS z (by intro q;cases q),λ_=>I.ok.hd hc,bT.frames_deeper I.ok.frames,.inr ⟨rfl,rfl⟩,λb hb=>rS (show b∈([]:List aq) from hb) ∅,I.bs,aQ I.ok.bsz I.sz,λb o e hb=>rS (show b∈([]:List aq) from hb) ∅,λb hb=>rS (show b∈([]:List aq) from hb) ∅,I.stack,I.stkFree⟩;have hy:scope.names.lookup y=some .cell∨scope.names.lookup y=some .free:=hy
  rcases hy with hy | hy
  ·exact rS rfl (iL _ (cB hy))
  ·have hm:=cB hy
   obtain⟨c,e⟩:=I.ok.has y (.inl (hfr _ hm rfl));exact⟨c,(c2 _ hm rfl).trans e⟩
 have lenB:(c9 σ js).length=fr.length:=by
  have e:=rX List.length hjs;rw[aa,aa] at e;unfold c9;rw[aa];exact e
 have I1:Inv (cxLam X q scope cl s.heap.objs.size f (.ref cd) (x::fr) s H) [] (some v::c9 σ js) H { s with heap:=h₁,toks:=s.toks+1 }:=by
  apply⟨ok',rfl,I.bare,Un.kept old,⟨_,hns,λi y v' e1 e2 e3=>?_⟩,λy c e=>?_,I.hok.fresh (aB _),λy c e=>I.freeC y c (c1 y c e),λp hp=>rS (show p∈([]:List (aq×Obj)) from hp) ∅,I.hok.kept old,?_⟩
  ·cases i with
   | zero =>
    have e1:some x=some y:=e1;have e2:some (some v)=some (some v'):=e2;cases e1;cases e2;exact⟨u,ru,.inl ⟨hx,by show eN x [(x,u)]=_;rw[dk,beq_self_eq_true]⟩⟩
   | succ i =>
    have e1:fr[i]? =some y:=e1;have e2:(c9 σ js)[i]? =some (some v'):=e2;unfold c9 at e2;rw[az] at e2;obtain⟨j,ej,e2⟩:=aM.mp e2;have hN:X.N[j]? =some y:=by
     have q:=rX (λl=>l[i]?) hjs;simp only[az,ej,e1,gu] at q;exact bE q
    have hσ:σ[j]? =some (some v'):=by
     cases z:σ[j]? with
     | none=>rw[z] at e2;cases e2
     | some w=>rw[z] at e2;exact rX some e2
    have hfree:=hfv y (aL e1);have hm:=cB hfree;have hce:X.env.scope.names.lookup y=some .cell:=hfr _ hm rfl;obtain⟨m,_,hl⟩:=I.loc;obtain⟨u',ru',look⟩:=hl j y v' hN hσ (.inr (.inl hce));apply⟨u',ru',.inr ⟨.inr hfree,?_⟩⟩
    rcases look with ⟨k,_⟩ | ⟨_,c,ec,ho⟩
    ·have k:X.env.scope.names.lookup y=some .local:=k
     rw[hce] at k;cases k
    ·obtain⟨o,ho,hd⟩:=ho
     exact⟨c,(c2 _ hm rfl).trans ec,o,old c o ho,hd⟩
  ·obtain⟨v',o,ho,hd⟩:=I.cell y c (c1 y c e)
   exact⟨v',o,old c o ho,hd⟩
  ·show(some v::c9 σ js).length=(x::fr).length
   rw[aV,aV,lenB]
 apply cx (hb _ _ s H [] _ _ H Q I1 ht) (λw s' hs=>?_) λ_ _ z=>z.elim
 obtain⟨v',H',J,rv,qv⟩:=hs;exact I.after ⟨v',H',J.os,J.bare,J.base,J.hok,rv,qv⟩
end
def SortQ (P:aq)(lp:Pos)(lq:Str)(js:List Nat)(te:TE)(σ:St)(Q:VK)(v:V)(H1:Hp):Prop:=∃(r:aq) (n:Nat) (key:Nat→Int×Int),v= .ref r∧H1 r=some (.rng 0 n)∧n<64∧LamT P lp lq H1∧((aG n).map key).Nodup ∧
 (∀i:Nat,i<n→∀H2,Tb P H1 H2→te (some (.int i)::c9 σ js) H2 λu H3=>bD H2 H3∧∃a,u= .ref a∧H3 a=some (.tup [.int (key i).1,.int (key i).2])) ∧
 ∀(D:aq) (H4:Hp) (π:List Nat),Tb P H1 H4→LamT P lp lq H4→H4 D=none→π.Perm (aG n)→π.Pairwise (λi j=>ltP (key i) (key j)=true)→Q (.ref D) (upd H4 D (.lst (π.map λ(i:Nat)=>V.int i)))
def tSortL (P:aq)(lp:Pos)(lq:Str)(tr:TE)(js:List Nat)(te:TE):TE:=λσ H Q=>tr σ H λv H1=>SortQ P lp lq js te σ Q v H1
def SortQ1 (P:aq)(lp:Pos)(lq:Str)(js:List Nat)(te:TE)(σ:St)(Q:VK):List V→Hp→Prop
 | [v],H1=>SortQ P lp lq js te σ Q v H1
 | _,_=>False
def rng_size0:dZ 0 (n:Int) 1=n:=by
 unfold dZ;rw[rR ↥0]
 by_cases h0:(0:Int)<n
 ·rw[rR h0,Int.ediv_one];lia
 ·rw[rQ h0];lia
theorem rng_small0 (h:n<64):ij 0 (n:Int) 1=true:=by unfold ij;rw[rng_size0];unfold cO.Range.rangeFitsLong;simp;lia
theorem pe_sortL {tr:TE}{p kp:Pos}{c P:aq}(hc:X.calm=true)(hrm:X.A.depth<ka)(hg:Gl X "sorted")(hm:X.mg "sorted" =none)(hi:PE X re tr)
  (hd:defaultsOf params X.env=([],[])) (qU:X.env.code= .ref c) (C:codeHdIn X.K c P=true) (B:BM X.mg X.base)
  (hbind:∀q cl pm cdv ct (u:af),bindArgs (kla_fn "<lambda>" q params body scope cl pm cdv ct) ⟨[u],[]⟩=fV [(x,u)])
  (hk:scope.kind= .function) (hco:scope.isCoroutine=false) (hgen:scope.isGenerator=false) (iL:∀y∈scope.names,y.2≠ .cell) (hx:scope.names.lookup x=some .local) (hfx:x ∉ fr)
  (hfr:∀y∈scope.names,y.2= .free→X.env.scope.names.lookup y.1=some .cell) (hjs:js.map (λj=>X.N[j]?)=fr.map some) (hfv:∀y∈fr,scope.names.lookup y=some .free)
  (hb:∀cl L f cd s' H',PE (cxLam X (X.env.qual ++ "<lambda>") scope cl L f cd (x::fr) s' H') body te)
  (he:fB pos (bB [re] X.env)=(false,eP re X.env)::fB pos (bB [] X.env):=by rfl)
  (hs:bB [re] X.env=(false,eP re X.env)::bB [] X.env:=by rfl) (hpl:(fB pos (bB [re] X.env)).any (·.1)=false:=by rfl) :
  PE X (.Call (.Name "sorted" p) [re] [⟨some "key",.Lambda params body scope lp,kp⟩] pos) (tSortL P lp (X.env.qual ++ "<lambda>") tr js te):=by
 intro pins s σ H Q I h;apply eQ (mU I hg hm (u:= .builtin "sorted") ⇑0 ?_);apply callWith_kw (kws:=[⟨some "key",.Lambda params body scope lp,kp⟩]) (thn ((ai hi aF hs) pos pins s σ H (SortQ1 P lp (X.env.qual ++ "<lambda>") js te σ Q) I h) λus s1 ⟨vs,H1,I1,r1,q0⟩=>?_) he hpl;apply kws_cons ?_;obtain⟨v,rfl⟩:∃v,vs=[v]:=by
  cases vs with
  | nil=>exact q0.elim
  | cons v r=>cases r with
   | nil=>exact⟨v,rfl⟩
   | cons _ _=>exact q0.elim
 have q1:SortQ P lp (X.env.qual ++ "<lambda>") js te σ Q v H1:=q0;obtain⟨r,n,key,rfl,hr,h64,T,hnd,hkey,hQ⟩:=q1;obtain rfl:us=[.ref r]:=by
  cases r1 with
  | cons ru rs =>
   cases rs;exact rX (λz=>[z]) ru
 apply n6 (body:=body) I1 hd qU C B hfr T λf cl H2 s2 I2 tb T2 F2 c1 c2=>?_
 apply kws_nil ?_;show aW _ _ (call (.builtin "sorted") [.ref r] [(cj "key",.ref f)]) _ _ _;have rP:r≠P:=λz=>by
  obtain⟨ps,e⟩:=LamG.tbl T;rw[←z,hr] at e;cases e
 obtain⟨t1,t2,t3,e3⟩:=I2.hok r _ (tb r _ rP hr);have hr3:IsRange s2.heap r 0 n 1 t1 t2 t3:=by first | exact e3 | exact⟨_,e3,rfl,rfl⟩
 apply sorted_keyR (I2.ok.hd hc) hr3 (rng_small0 h64) rng_size0 h64 λws h1 tk D kS e1 hl hw hkeep hD hDk gD gK=>?_
 have I3:Inv X pins σ H2 { s2 with heap:=h1,toks:=tk }:=I2.kept hkeep;have old:∀b o,s2.heap.get? b=some o→b≠D∧b≠kS:=λb o e=>⟨bG (aS (aN e) hD),bG (Nat.lt_trans (aS (aN e) hD) hDk)⟩
 have hDs:=aN gD;have hKs:=aN gK;have frD:H2 D=none:=I2.hok.fresh hD;have frK:H2 kS=none:=I2.hok.fresh (iZ (cf hD hDk));have cc:∀y d,X.env.cells.lookup y=some d→d≠D∧d≠kS:=λy d e=>by obtain⟨v,o,ho,_⟩:=I2.cell y d e;exact old d o ho
 have pp:∀z∈X.pn++pins,z.1≠D∧z.1≠kS:=λz hz=>old _ _ (I2.pin z hz).1
 have nl:s2.heap.objs.size≤kS:=iZ (cf hD hDk);have I4:Inv X ((kS,bJ "list" #[] 0)::(D,bJ "list" #[] e1)::pins) σ H2 { s2 with heap:=h1,toks:=tk }:=I3.pins_of λz hz=>by
  rcases aH.mp hz with rfl | hz
  ·exact⟨gK,frK,cZ (aS I2.lt nl),I2.nofs nl,λv z=>by cases z⟩
  ·rcases aH.mp hz with rfl | hz
   ·exact⟨gD,frD,cZ (aS I2.lt hD),I2.nofs hD,λv z=>by cases z⟩
   ·exact I3.pin z (aE _ hz)
 apply keyDo_of (num:=λi=>(i:Int)) (key:=key) I4 hl h64 (λi x e=>by obtain⟨t,q⟩:=hw i x e;exact⟨t,by rw[q];congr 1;lia⟩) (aQ I2.sz nl) (aQ I2.sz hD) (λy d e=>(cc y d e).2) (λy d e=>(cc y d e).1) (λz hz=>(pp z hz).2) (λz hz=>(pp z hz).1) (cZ hDk) hnd ?_ ?_
 ·intro t H' pins' i tk hi' I' S'
  apply cx (lam_call (v:= .int i) I' hc hrm (F2.same S') ⟨_,rfl⟩ (λpm cdv ct=>hbind _ _ _ _ _ _) hk hco hgen iL hx hfx c1 c2 hfr hjs hfv (λL cd s' H'=>hb cl L f cd s' H') (hkey i hi' H' (tb.trans S'.tb))) (λk t' ⟨v,H'',I'',rv,S'',a,ev,ea⟩=>?_) λ_ _ z=>z
  subst ev;obtain rfl:k= .ref a:=rv;exact⟨a,H'',I'',S'',rfl,ea⟩
 ·intro t H' π S' hD' I' pm pw
  exact⟨.ref D,_,I',rfl,hQ D H' π (tb.trans S'.tb) (T2.same S') hD' pm pw⟩
end L2
namespace HN
open PySem L2 PyProof.Rows
def z0:Sn:=⟨0,0,0,0,0⟩
def sAt (sp:List Sn)(i:Nat):Sn:=sp.getD i z0
def ju (h:i<sp.length):sp[i]? =some (sAt sp i):=by
 unfold sAt;rw[ae,gE h];rfl
def fc (h:i<sp.length):sAt sp i∈sp:=aL (ju h)
def wkey (sp:List Sn)(i:Nat):Int×Int:=((sAt sp i).o - (sAt sp i).l,(i:Int))
def Ordd (sp:List Sn)(π:List Nat):Prop:=π.Perm (aG sp.length)∧π.Pairwise λi j=>ltP (wkey sp i) (wkey sp j)=true
def wkey_nodup (sp:List Sn)(n:Nat):((aG n).map (wkey sp)).Nodup:=by
 rw[b9,fP];apply List.Pairwise.imp (λ{a b} h e=>h ?_) List.nodup_range;have:=rX Prod.snd e;exact Int.ofNat.inj this
theorem ltP_asym {x y:Int×Int}(h:ltP x y=true)(k:ltP y x=true):False:=by
 rw[ltP_iff] at h k;lia
theorem perm_eq {α:Type}{R:α→α→Prop}(as:∀a b,R a b→R b a→a=b):∀{l k:List α},l.Perm k→l.Pairwise R→k.Pairwise R→l=k
 | [],k,p,_,_=>(List.nil_perm.mp p).symm
 | a::l,k,p,hl,hk=>by
  cases k with
  | nil=>exact rS p.symm (by intro z;have:=List.nil_perm.mp z;cases this)
  | cons b k =>
   have ab:a=b:=by
    have ha:a∈b::k:=p.mem_iff.mp bq;have hb:b∈a::l:=p.mem_iff.mpr bq
    rcases aH.mp ha with e | ha
    ·exact e
    ·rcases aH.mp hb with e | hb
     ·exact e.symm
     ·exact as a b (List.rel_of_pairwise_cons hl hb) (List.rel_of_pairwise_cons hk ha)
   subst ab;rw[perm_eq as p.cons_inv (jq.mp hl).2 (jq.mp hk).2]
theorem Ordd.one {ρ:List Nat}(a:Ordd sp π)(b:Ordd sp ρ):π=ρ :=
 perm_eq (λ_ _ h k=>(ltP_asym h k).elim) (a.1.trans b.1.symm) a.2 b.2
def Ordd.lt (a:Ordd sp π)(h:i∈π):i<sp.length:=bS.mp (a.1.mem_iff.mp h)
def Ordd.len (a:Ordd sp π):π.length=sp.length:=by rw[a.1.length_eq,bb]
def ja (gs:List Int)(x y:Int):List Int:=gs.map λg=>if g=y then x else g
def gq (sp:List Sn)(c:List Int×List Nat)(i:Nat):List Int×List Nat :=
 if tm c.1 (sAt sp i).s=tm c.1 (sAt sp i).g then c else (ja c.1 (tm c.1 (sAt sp i).s) (tm c.1 (sAt sp i).g),c.2++[i])
def j4 (m:Nat):List Int:=(aG m).map λ(k:Nat)=>(k:Int)
def kX (sp:List Sn)(m:Nat)(π:List Nat):List Int×List Nat:=π.foldl (gq sp) (j4 m,[])
def eJ (ps:List (List Int))(x:Int):List Int:=(ps.filter λp=>decide (x∈p)).headD []
def stepQ (sp:List Sn)(c:List (List Int)×List Nat)(i:Nat):List (List Int)×List Nat :=
 if eJ c.1 (sAt sp i).s=eJ c.1 (sAt sp i).g then c
 else (c.1.filter (λp=> !(decide (p=eJ c.1 (sAt sp i).s)) && !(decide (p=eJ c.1 (sAt sp i).g)))++[eJ c.1 (sAt sp i).s++eJ c.1 (sAt sp i).g],c.2++[i])
def prt0 (m:Nat):List (List Int):=(aG m).map λ(k:Nat)=>[(k:Int)]
structure Rl (m:Nat)(gs:List Int)(ps:List (List Int)):Prop where
 len:gs.length=m
 cov:∀x:Int,0≤x→x<m→∃p∈ps,x∈p
 one:∀p∈ps,∀q∈ps,∀x,x∈p→x∈q→p=q
 eqv:∀x y:Int,0≤x→x<m→0≤y→y<m→(tm gs x=tm gs y↔∃p∈ps,x∈p∧y∈p)
def Rl.part {ps:List (List Int)}(R:Rl m gs ps){x:Int}(h0:0≤x)(h1:x<m):eJ ps x∈ps∧x∈eJ ps x:=by
 obtain⟨p,hp,hx⟩:=R.cov x h0 h1;unfold eJ;have hm:p∈ps.filter λp=>decide (x∈p):=bX.mpr ⟨hp,rT hx⟩
 cases e:ps.filter λp=>decide (x∈p) with
 | nil=>rw[e] at hm;cases hm
 | cons q r =>
  have hq:q∈ps.filter λp=>decide (x∈p):=by rw[e];exact bq
  obtain⟨a,b⟩:=bX.mp hq;exact⟨a,rW b⟩
def Rl.is {ps:List (List Int)}(R:Rl m gs ps){x:Int}(h0:0≤x)(h1:x<m)(k0:0≤y)(k1:y<m):tm gs x=tm gs y↔x∈eJ ps y:=by
 obtain⟨p1,p2⟩:=R.part k0 k1;apply(R.eqv x y h0 h1 k0 k1).trans ⟨λ⟨p,hp,hx,hy⟩=>?_,λh=>⟨_,p1,h,p2⟩⟩;rw[←R.one p hp _ p1 y hy p2];exact hx
def Rl.same {ps:List (List Int)}(R:Rl m gs ps){x:Int}(h0:0≤x)(h1:x<m)(k0:0≤y)(k1:y<m):tm gs x=tm gs y↔eJ ps x=eJ ps y:=by
 apply(R.is h0 h1 k0 k1).trans ⟨λh=>?_,λh=>?_⟩
 ·exact R.one _ (R.part h0 h1).1 _ (R.part k0 k1).1 x (R.part h0 h1).2 h
 ·rw[←h];exact(R.part h0 h1).2
def lN {u v x:Int}(h0:0≤x)(h1:x<gs.length):tm (ja gs u v) x=if tm gs x=v then u else tm gs x:=by
 obtain⟨j,rfl⟩:=c6 h0;have hj:j<gs.length:=by lia
 unfold tm ja;simp only[cA,ae,az,gE hj,gu,Option.getD_some]
def Rl.join {ps:List (List Int)}(R:Rl m gs ps){a:Int}(a0:0≤a)(a1:a<m)(b0:0≤b)(b1:b<m) :
  Rl m (ja gs (tm gs a) (tm gs b)) (ps.filter (λp=> !(decide (p=eJ ps a)) && !(decide (p=eJ ps b)))++[eJ ps a++eJ ps b]):=by
 obtain⟨pa,ha⟩:=R.part a0 a1;obtain⟨pb,hb⟩:=R.part b0 b1;have mem:∀p,p∈ps.filter (λp=> !(decide (p=eJ ps a)) && !(decide (p=eJ ps b)))++[eJ ps a++eJ ps b]↔(p∈ps∧p≠eJ ps a∧p≠eJ ps b)∨p=eJ ps a++eJ ps b:=λp=>by
  rw[aI,bX,aw];simp only[cI,iA,decide_eq_false_iff_not,ne_eq]
 have uni:∀p∈ps,p≠eJ ps a→p≠eJ ps b→∀x,x∈p→x ∉ eJ ps a++eJ ps b:=λp hp n1 n2 x hx hz=>by
  rcases aI.mp hz with hz | hz
  ·exact n1 (R.one p hp _ pa x hx hz)
  ·exact n2 (R.one p hp _ pb x hx hz)
 apply⟨by unfold ja;rw[aa];exact R.len,λx h0 h1=>?_,λp hp q hq x hx hy=>?_,λx y h0 h1 k0 k1=>?_⟩
 ·obtain⟨p,hp,hx⟩:=R.cov x h0 h1
  by_cases e1:p=eJ ps a
  ·exact⟨_,(mem _).mpr (.inr rfl),aJ _ (e1 ▸ hx)⟩
  ·by_cases e2:p=eJ ps b
   ·exact⟨_,(mem _).mpr (.inr rfl),aE _ (e2 ▸ hx)⟩
   ·exact⟨p,(mem p).mpr (.inl ⟨hp,e1,e2⟩),hx⟩
 ·rcases(mem p).mp hp with ⟨p1,p2,p3⟩ | rfl
  ·rcases(mem q).mp hq with ⟨q1,q2,q3⟩ | rfl
   ·exact R.one p p1 q q1 x hx hy
   ·exact rS hy (uni p p1 p2 p3 x hx)
  ·rcases(mem q).mp hq with ⟨q1,q2,q3⟩ | rfl
   ·exact rS hx (uni q q1 q2 q3 x hy)
   ·rfl
 ·rw[lN h0 (by rw[R.len];exact h1),lN k0 (by rw[R.len];exact k1)]
  have xa:=R.is h0 h1 a0 a1;have xb:=R.is h0 h1 b0 b1;have ya:=R.is k0 k1 a0 a1;have yb:=R.is k0 k1 b0 b1;have xy:=R.eqv x y h0 h1 k0 k1
  constructor
  ·intro h
   by_cases e:tm gs x=tm gs y
   ·obtain⟨p,hp,hx,hy⟩:=xy.mp e
    by_cases e1:p=eJ ps a
    ·exact⟨_,(mem _).mpr (.inr rfl),aJ _ (e1 ▸ hx),aJ _ (e1 ▸ hy)⟩
    ·by_cases e2:p=eJ ps b
     ·exact⟨_,(mem _).mpr (.inr rfl),aE _ (e2 ▸ hx),aE _ (e2 ▸ hy)⟩
     ·exact⟨p,(mem p).mpr (.inl ⟨hp,e1,e2⟩),hx,hy⟩
   ·apply⟨_,(mem _).mpr (.inr rfl),?_,?_⟩
    ·by_cases e1:tm gs x=tm gs b
     ·exact aE _ (xb.mp e1)
     ·rw[rQ e1] at h
      by_cases e2:tm gs y=tm gs b
      ·rw[rR e2] at h;exact aJ _ (xa.mp h)
      ·rw[rQ e2] at h;exact rS h e
    ·by_cases e1:tm gs y=tm gs b
     ·exact aE _ (yb.mp e1)
     ·rw[rQ e1] at h
      by_cases e2:tm gs x=tm gs b
      ·rw[rR e2] at h;exact aJ _ (ya.mp h.symm)
      ·rw[rQ e2] at h;exact rS h e
  ·rintro⟨p,hp,hx,hy⟩
   rcases(mem p).mp hp with ⟨p1,p2,p3⟩ | rfl
   ·rw[xy.mpr ⟨p,p1,hx,hy⟩]
   ·have fx:∀z:Int,(z∈eJ ps a→tm gs z=tm gs a)→(z∈eJ ps b→tm gs z=tm gs b)→z∈eJ ps a++eJ ps b→(if tm gs z=tm gs b then tm gs a else tm gs z)=tm gs a:=λz f1 f2 hz=>by
     by_cases e:tm gs z=tm gs b
     ·rw[rR e]
     ·rw[rQ e]
      rcases aI.mp hz with hz | hz
      ·exact f1 hz
      ·exact rS (f2 hz) e
    rw[fx x xa.mpr xb.mpr hx,fx y ya.mpr yb.mpr hy]
def mW {x:Int}(h0:0≤x)(h1:x<m):tm (j4 m) x=x:=by
 obtain⟨j,rfl⟩:=c6 h0;unfold tm j4;rw[cA,ae,az,gY ⋯];rfl
theorem Rl.start (m:Nat):Rl m (j4 m) (prt0 m):=by
 have mem:∀p,p∈prt0 m↔∃k:Nat,k<m∧p=[(k:Int)]:=λp=>by
  unfold prt0;rw[ba];exact⟨λ⟨k,a,b⟩=>⟨k,bS.mp a,b.symm⟩,λ⟨k,a,b⟩=>⟨k,bS.mpr a,b.symm⟩⟩
 apply⟨by unfold j4;rw[aa,bb],λx h0 h1=>⟨[x],(mem _).mpr ⟨x.toNat,⋯,by rw[dv h0]⟩,aw.mpr rfl⟩,λp hp q hq x hx hy=>?_,λx y h0 h1 k0 k1=>?_⟩
 ·obtain⟨k,_,rfl⟩:=(mem p).mp hp
  obtain⟨j,_,rfl⟩:=(mem q).mp hq;rw[←aw.mp hx,←aw.mp hy]
 ·rw[mW h0 h1,mW k0 k1]
  apply⟨λe=>⟨[x],(mem _).mpr ⟨x.toNat,⋯,by rw[dv h0]⟩,aw.mpr rfl,by rw[e];exact aw.mpr rfl⟩,λ⟨p,hp,hx,hy⟩=>?_⟩;obtain⟨k,_,rfl⟩:=(mem p).mp hp;rw[aw.mp hx,aw.mp hy]
def kQ (m:Nat)(sp:List Sn):Prop:=∀x∈sp,0≤x.s∧x.s<m∧0≤x.g∧x.g<m
theorem qI {m:Nat}{sp:List Sn}(E:kQ m sp):∀(π:List Nat) (gs:List Int) (ps:List (List Int)) (tk:List Nat),(∀i∈π,i<sp.length)→Rl m gs ps→Rl m (π.foldl (gq sp) (gs,tk)).1 (π.foldl (stepQ sp) (ps,tk)).1∧(π.foldl (gq sp) (gs,tk)).2=(π.foldl (stepQ sp) (ps,tk)).2
 | [],gs,ps,tk,_,R=>⟨R,rfl⟩
 | i::π,gs,ps,tk,h,R=>by
  obtain⟨a0,a1,b0,b1⟩:=E _ (fc (h i bq));have hs:=R.same a0 a1 b0 b1;rw[bQ,bQ];unfold gq stepQ
  by_cases e:tm gs (sAt sp i).s=tm gs (sAt sp i).g
  ·rw[rR (show tm (gs,tk).1 _=tm (gs,tk).1 _ from e),rR (show eJ (ps,tk).1 _=eJ (ps,tk).1 _ from hs.mp e)]
   exact qI E π gs ps tk (λj hj=>h j (aA _ hj)) R
  ·rw[rQ (show ¬tm (gs,tk).1 _=tm (gs,tk).1 _ from e),rQ (show ¬eJ (ps,tk).1 _=eJ (ps,tk).1 _ from λz=>e (hs.mpr z))]
   exact qI E π _ _ _ (λj hj=>h j (aA _ hj)) (R.join a0 a1 b0 b1)
theorem ky (sp:List Sn):∀(π:List Nat) (c:List Int×List Nat),(∀i∈(π.foldl (gq sp) c).2,i∈c.2∨i∈π)∧(π.foldl (gq sp) c).2.length≤c.2.length+π.length
 | [],c=>⟨λi h=> .inl h,aB _⟩
 | j::π,c=>by
  obtain⟨a,b⟩:=ky sp π (gq sp c j);rw[bQ];have key:(∀i∈(gq sp c j).2,i∈c.2∨i=j)∧(gq sp c j).2.length≤c.2.length+1:=by
   unfold gq;split
   ·exact⟨λi h=> .inl h,⋯⟩
   ·apply⟨λi h=>?_,by rw[av];exact aB _⟩
    rcases aI.mp h with h | h
    ·exact .inl h
    ·exact .inr (aw.mp h)
  apply⟨λi hi=>?_,by rw[aV];lia⟩
  rcases a i hi with h | h
  ·rcases key.1 i h with h | h
   ·exact .inl h
   ·exact .inr (h ▸ bq)
  ·exact .inr (aA _ h)
def oK (m:Nat)(sp:List Sn)(ns:List Int):Prop:=∃π,Ordd sp π∧ns.Perm ((kX sp m π).2.map λ(i:Nat)=>(i:Int))∧ns.Pairwise (· ≤ ·)
def oK.one {ms:List Int}(a:oK m sp ns)(b:oK m sp ms):ns=ms:=by
 obtain⟨π,o1,p1,w1⟩:=a;obtain⟨ρ,o2,p2,w2⟩:=b;rw[o1.one o2] at p1;exact perm_eq (λa b h k=>by lia) (p1.trans p2.symm) w1 w2
def oK.len (a:oK m sp ns):ns.length≤sp.length:=by
 obtain⟨π,o,p,_⟩:=a;rw[p.length_eq,aa];have:=(ky sp π (j4 m,[])).2;have h2:=o.len;have h3:((j4 m,([]:List Nat)).2).length=0:=rfl;unfold kX;lia
theorem jb.ends {m:Int}(N:jb b m sp):kQ m.toNat sp:=λx hx=>by
 obtain⟨s0,s1,g0,g1,_⟩:=N.all x hx;lia
def Tb.tupK {T:aq}(hT:∃ps,H T=some (.tbl ps))(e:L2.Tb T H H'):kK H H':=λq xs h=>e q _ (by obtain⟨ps,hT⟩:=hT;exact fM h hT nofun) h
def LamT.tbl {T:aq}(h:L2.LamT T lp lq H):∃ps,H T=some (.tbl ps):=L2.LamG.tbl h
def LamT.upd {T:aq}(h:L2.LamT T lp lq H)(ha:∀p u,H a=some (.frz p u)→False)(hb:∀ps,H a=some (.tbl ps)→False):L2.LamT T lp lq (upd H a o):=L2.LamG.stay h (λps e=>by rw[bt (λz=>hb _ (z ▸ e))];exact e) λc p u e=>by rw[bt (λz=>ha _ _ (z ▸ e))];exact e
inductive spSpW (T:aq)(lp:Pos)(lq:Str)(vs:List V)(H:Hp)(Q:VK)(_:XK):Prop
 | mk (v b m sp:_)(_:vs=[v])(_:IsD H v (jv b m sp))(_:sp.length≤40)(_:L2.LamT T lp lq H)(_:∀D H' π,L2.Tb T H H'→L2.LamT T lp lq H'→H' D=none→Ordd sp π→Q (.ref D) (L2.upd H' D (.lst (π.map λ(i:Nat)=>V.int i))))
inductive lP (T:aq)(lp:Pos)(lq:Str)(vs:List V)(H:Hp)(Q:VK)(_:XK):Prop
 | mk (v b m sp:_)(_:vs=[v])(_:IsD H v (jv b m sp))(_:jb b m sp)(_:L2.LamT T lp lq H)(_:∀u H' ns,L2.Tb T H H'→L2.LamT T lp lq H'→H' u=some (.tup (ns.map V.int))→oK m.toNat sp ns→Q (.ref u) H')
def Finer (m:Nat)(gs hs:List Int):Prop:=∀x y:Int,0≤x→x<m→0≤y→y<m→tm gs x=tm gs y→tm hs x=tm hs y
def Finer.refl (m:Nat)(gs:List Int):Finer m gs gs:=λ_ _ _ _ _ _ h=>h
def mI (gs:List Int)(u v:Int):(ja gs u v).length=gs.length:=by unfold ja;rw[aa]
def Finer.wide {u v:Int}(F:Finer m gs hs)(l2:hs.length=m):Finer m gs (ja hs u v):=by
 intro x y x0 x1 y0 y1 h;rw[lN x0 ⋯,lN y0 ⋯,F x y x0 x1 y0 y1 h]
def join_meets {a:Int}(l1:gs.length=m)(a0:0≤a)(a1:a<m)(b0:0≤b)(b1:b<m):tm (ja gs (tm gs a) (tm gs b)) a=tm (ja gs (tm gs a) (tm gs b)) b:=by
 rw[lN a0 ⋯,lN b0 ⋯,rR rfl]
 by_cases e:tm gs a=tm gs b
 ·rw[rR e]
 ·rw[rQ e]
def jy (sp:List Sn)(gs:List Int)(tk:List Nat)(i:Nat):(tm gs (sAt sp i).s=tm gs (sAt sp i).g∧gq sp (gs,tk) i=(gs,tk))∨(tm gs (sAt sp i).s≠tm gs (sAt sp i).g∧gq sp (gs,tk) i=(ja gs (tm gs (sAt sp i).s) (tm gs (sAt sp i).g),tk++[i])):=by
 unfold gq
 by_cases e:tm gs (sAt sp i).s=tm gs (sAt sp i).g
 ·exact .inl ⟨e,rR e⟩
 ·exact .inr ⟨e,rQ e⟩
theorem oa {m:Nat}{sp:List Sn}:∀(π:List Nat) (gs hs:List Int) (tk:List Nat),hs.length=m→Finer m gs hs→Finer m gs (π.foldl (gq sp) (hs,tk)).1
 | [],_,_,_,_,F=>F
 | i::π,gs,hs,tk,l,F=>by
  rw[bQ]
  rcases jy sp hs tk i with ⟨_,e⟩ | ⟨_,e⟩ <;> rw[e]
  ·exact oa π gs hs tk l F
  ·exact oa π gs _ _ (by rw[mI];exact l) (F.wide l)
theorem lH {m:Nat}{sp:List Sn}(E:kQ m sp):∀(π:List Nat) (gs:List Int) (tk:List Nat),gs.length=m→(∀i∈π,i<sp.length)→∀i∈π,tm (π.foldl (gq sp) (gs,tk)).1 (sAt sp i).s=tm (π.foldl (gq sp) (gs,tk)).1 (sAt sp i).g
 | [],_,_,_,_,i,h=>by cases h
 | j::π,gs,tk,l,hp,i,h=>by
  rw[bQ];obtain⟨a0,a1,b0,b1⟩:=E _ (fc (hp j bq));have hp':∀i∈π,i<sp.length:=λk hk=>hp k (aA _ hk)
  rcases jy sp gs tk j with ⟨q,e⟩ | ⟨_,e⟩ <;> rw[e]
  ·rcases aH.mp h with rfl | h
   ·exact oa π gs gs tk l (Finer.refl m gs) _ _ a0 a1 b0 b1 q
   ·exact lH E π gs tk l hp' i h
  ·have l':(ja gs (tm gs (sAt sp j).s) (tm gs (sAt sp j).g)).length=m:=by rw[mI];exact l
   rcases aH.mp h with rfl | h
   ·exact oa π _ _ _ l' (Finer.refl m _) _ _ a0 a1 b0 b1 (join_meets l a0 a1 b0 b1)
   ·exact lH E π _ _ l' hp' i h
def oN {x:Int}(h0:0≤x)(h1:x<gs.length):tm gs x∈gs:=by
 obtain⟨j,rfl⟩:=c6 h0;unfold tm;rw[cA,ae,gE ⋯];exact aY _
def Cnt (m:Nat)(gs:List Int)(k:Nat):Prop:=∃D:List Int,D.Nodup∧(∀v,v∈D↔v∈gs)∧D.length+k=m
theorem Cnt.join {k:Nat}(C:Cnt m gs k){u v:Int}(hu:u∈gs)(hv:v∈gs)(n:u≠v):Cnt m (ja gs u v) (k+1):=by
 obtain⟨D,nd,mem,l⟩:=C;have hvD:=(mem v).mpr hv;apply⟨D.erase v,nd.erase v,λz=>?_,by rw[List.length_erase_of_mem hvD];have:=List.length_pos_of_mem hvD;lia⟩;rw[nd.mem_erase_iff,mem];unfold ja;rw[ba]
 constructor
 ·rintro⟨h1,h2⟩
  exact⟨z,h2,rQ h1⟩
 ·rintro⟨w,hw,rfl⟩
  by_cases e:w=v
  ·rw[rR e];exact⟨n,hu⟩
  ·rw[rQ e];exact⟨e,hw⟩
theorem gone_cnt {m:Nat}{sp:List Sn}(E:kQ m sp):∀(π:List Nat) (gs:List Int) (tk:List Nat),gs.length=m→(∀i∈π,i<sp.length)→Cnt m gs tk.length→Cnt m (π.foldl (gq sp) (gs,tk)).1 (π.foldl (gq sp) (gs,tk)).2.length
 | [],_,_,_,_,C=>C
 | j::π,gs,tk,l,hp,C=>by
  rw[bQ];obtain⟨a0,a1,b0,b1⟩:=E _ (fc (hp j bq));have hp':∀i∈π,i<sp.length:=λk hk=>hp k (aA _ hk)
  rcases jy sp gs tk j with ⟨_,e⟩ | ⟨n,e⟩ <;> rw[e]
  ·exact gone_cnt E π gs tk l hp' C
  ·apply gone_cnt E π _ _ (by rw[mI];exact l) hp' ?_
   rw[av];exact C.join (oN a0 ⋯) (oN b0 ⋯) n
def Cnt.start (m:Nat):Cnt m (j4 m) 0:=by
 apply⟨j4 m,?_,λ_=>Iff.rfl,by unfold j4;rw[aa,bb];lia⟩;unfold j4;rw[b9,fP];exact List.Pairwise.imp (λ{a b} h e=>h (Int.ofNat.inj e)) List.nodup_range
theorem lO:∀{l k:List Int},l.Nodup→(∀x∈l,x∈k)→l.length≤k.length
 | [],_,_,_=>bu _
 | a::l,k,nd,h=>by
  have ha:=h a bq;have ih:=lO (l:=l) (k:=k.erase a) (bw.mp nd).2 λx hx=>by
   have hxk:=h x (aA _ hx);have hne:x≠a:=λz=>(bw.mp nd).1 (z ▸ hx)
   exact(List.mem_erase_of_ne hne).mpr hxk
  rw[List.length_erase_of_mem ha] at ih;have:=List.length_pos_of_mem ha;rw[aV];lia
def kg (m:Nat):(j4 m).length=m:=by unfold j4;rw[aa,bb]
theorem pP (sp:List Sn):∀(π:List Nat) (gs:List Int) (tk:List Nat),∃more,(π.foldl (gq sp) (gs,tk)).2=tk++more
 | [],gs,tk=>⟨[],(c5 tk).symm⟩
 | j::π,gs,tk=>by
  rw[bQ]
  rcases jy sp gs tk j with ⟨_,e⟩ | ⟨_,e⟩ <;> rw[e]
  ·exact pP sp π gs tk
  ·obtain⟨more,h⟩:=pP sp π (ja gs (tm gs (sAt sp j).s) (tm gs (sAt sp j).g)) (tk++[j])
   exact⟨j::more,by rw[h,jK];rfl⟩
def kd (sp:List Sn)(l:List Nat):Int:=l.foldl (λc i=>c * ((wkey sp i).1+1)) 1
def prodW_snoc (sp:List Sn)(l:List Nat)(i:Nat):kd sp (l++[i])=kd sp l * ((wkey sp i).1+1):=by unfold kd;rw[cG];rfl
theorem fold_mul (sp:List Sn):∀(l:List Nat) (c:Int),l.foldl (λc i=>c * ((wkey sp i).1+1)) c=c * kd sp l
 | [],c=>(Int.mul_one c).symm
 | i::l,c=>by
  unfold kd;rw[bQ,bQ,fold_mul sp l,fold_mul sp l,Int.one_mul,Int.mul_assoc]
def oA (sp:List Sn)(l:List Nat)(i:Nat):kd sp (i::l)=((wkey sp i).1+1) * kd sp l:=by
 show l.foldl _ (1 * ((wkey sp i).1+1))=_;rw[fold_mul,Int.one_mul]
def lkW (l:List (Int×List Stp))(x:Int):Option (List Stp):=(l.find? λp=>decide (p.1=x)).map (·.2)
def lZ (p:Int×List Stp)(l:List (Int×List Stp))(x:Int):lkW (p::l) x=if p.1=x then some p.2 else lkW l x:=by
 unfold lkW;rw[ia]
 by_cases e:p.1=x
 ·rw[rT e,rR e];rfl
 ·rw[rV e,rQ e]
def nq {l:List (Int×List Stp)}(h:lkW l y=none)(x:Int):lkW (l++[(y,ws)]) x=if x=y then some ws else lkW l x:=by
 induction l with
 | nil =>
  show lkW [(y,ws)] x=_;rw[lZ]
  by_cases e:x=y
  ·rw[rR e,rR e.symm]
  ·rw[rQ e,rQ (λz=>e z.symm)]
 | cons p l ih =>
  rw[lZ] at h
  by_cases e:p.1=y
  ·rw[rR e] at h;cases h
  ·rw[rQ e] at h
   rw[List.cons_append,lZ,lZ,ih h]
   by_cases e1:p.1=x
   ·rw[rR e1,rR e1,rQ (λz=>e (e1.trans z))]
   ·rw[rQ e1,rQ e1]
def stF (tk:List Nat):List Stp:=tk.map (λi=>⟨i,1⟩)++tk.map (λi=>⟨i,-1⟩)
def dE (sp:List Sn)(tk:List Nat)(x:Int):List Stp:=(stF tk).filter λs=>decide (kY sp s=x)
def iQ (sp:List Sn)(x:Int)(c:List (Int×List Stp)×List Int)(s:Stp):List (Int×List Stp)×List Int :=
 if lkW c.1 (fb sp s)=none then (c.1++[(fb sp s,(lkW c.1 x).getD []++[s])],c.2++[fb sp s]) else c
def mH (l:List Int):Int:=l.getLast?.getD 0
def qR (sp:List Sn)(tk:List Nat)(c:List (Int×List Stp)×List Int):List (Int×List Stp)×List Int :=
 (dE sp tk (mH c.2)).foldl (iQ sp (mH c.2)) (c.1,c.2.dropLast)
def itW (sp:List Sn)(tk:List Nat)(be:Int):Nat→List (Int×List Stp)×List Int
 | 0=>([(be,[])],[be])
 | k+1=>qR sp tk (itW sp tk be k)
def WayR (sp:List Sn)(tk:List Nat)(be en:Int)(p:List Stp):Prop:=∃k,lkW (itW sp tk be k).1 en=some p∧∀j,j<k→lkW (itW sp tk be j).1 en=none
structure Pth (sp:List Sn)(tk:List Nat)(be x:Int)(ws:List Stp):Prop where
 inn:∀s∈ws,s.i∈tk∧s.i<sp.length∧(s.d=1∨s.d= -1)
 alo:oY sp be ws x
 one:(ws.map Stp.i).Nodup
 met:(be::ws.map (fb sp)).Nodup
def mem_stF {s:Stp}(h:s∈stF tk):s.i∈tk∧(s.d=1∨s.d= -1):=by
 rcases aI.mp h with h | h
 ·obtain⟨i,hi,rfl⟩:=ba.mp h;exact⟨hi,.inl rfl⟩
 ·obtain⟨i,hi,rfl⟩:=ba.mp h;exact⟨hi,.inr rfl⟩
structure WI (m:Nat)(sp:List Sn)(tk:List Nat)(be:Int)(c:List (Int×List Stp)×List Int):Prop where
 pth:∀x ws,lkW c.1 x=some ws→Pth sp tk be x ws∧∀s∈ws,lkW c.1 (kY sp s)≠none∧lkW c.1 (fb sp s)≠none
 rng:∀x,lkW c.1 x≠none→0≤x∧x<m
 ahd:∀x∈c.2,lkW c.1 x≠none
 beg:lkW c.1 be≠none
def Clo (sp:List Sn)(tk:List Nat)(ex:Int→Prop)(c:List (Int×List Stp)×List Int):Prop:=∀x,lkW c.1 x≠none→x ∉ c.2→¬ex x→∀s∈dE sp tk x,lkW c.1 (fb sp s)≠none
def oi (l:List (Int×List Stp)):Nat:=(aG 16).countP λx=>(lkW l ((x:Nat):Int)).isNone
theorem count_lt' {α:Type}{P Q:α→Bool}:∀{l:List α},(∀x∈l,Q x=true→P x=true)→∀{a:α},a∈l→P a=true→Q a=false→l.countP Q<l.countP P
 | [],_,_,h,_,_=>rS h ∅
 | x::l,hPQ,a,h,hP,hQ=>by
  have le:l.countP Q≤l.countP P:=List.countP_mono_left λy hy=>hPQ y (aA _ hy)
  rw[iW,iW]
  rcases aH.mp h with rfl | h
  ·rw[hP,hQ];simp;lia
  ·have ih:=count_lt' (P:=P) (Q:=Q) (l:=l) (λy hy=>hPQ y (aA _ hy)) h hP hQ
   have:=hPQ x ∅;cases q:Q x with
   | true=>rw[this q];simp;lia
   | false=>simp;lia
def cntW_new {l:List (Int×List Stp)}(h:lkW l y=none)(y0:0≤y)(y1:y<16):oi (l++[(y,ws)])<oi l:=by
 unfold oi;obtain⟨n,rfl⟩:=c6 y0;apply count_lt' (a:=n) (λx _ hx=>?_) (bS.mpr ⋯) ?_ ?_
 ·rw[nq h] at hx
  split at hx
  ·cases hx
  ·exact hx
 ·show(lkW l ((n:Nat):Int)).isNone=true
  rw[h];rfl
 ·show(lkW (l++[(((n:Nat):Int),ws)]) ((n:Nat):Int)).isNone=false
  rw[nq h,rR rfl];rfl
def jC (E:kQ m sp){s:Stp}(hi:s.i<sp.length):0≤fb sp s∧fb sp s<m:=by
 obtain⟨i,d⟩:=s;have hi:i<sp.length:=hi;rw[lM hi];obtain⟨a,b,c,e⟩:=E _ (aY hi);unfold too;split
 ·exact⟨c,e⟩
 ·exact⟨a,b⟩
def visit_ok {x:Int}(E:kQ m sp)(m16:m≤16)(ht:∀i∈tk,i<sp.length){s:Stp}(I:WI m sp tk be c)(hx:lkW c.1 x≠none)(hs:s∈dE sp tk x)(C:Clo sp tk (· =x) c) :
  WI m sp tk be (iQ sp x c s)∧Clo sp tk (· =x) (iQ sp x c s)∧lkW (iQ sp x c s).1 (fb sp s)≠none∧(∀y,lkW c.1 y≠none→lkW (iQ sp x c s).1 y=lkW c.1 y)∧2 * oi (iQ sp x c s).1+(iQ sp x c s).2.length≤2 * oi c.1+c.2.length∧(iQ sp x c s).1.length+oi (iQ sp x c s).1≤c.1.length+oi c.1:=by
 obtain⟨hs1,hs2⟩:=bX.mp hs;have hfr:kY sp s=x:=rW hs2;obtain⟨hst,hsd⟩:=mem_stF hs1;have hsn:=ht _ hst;have tr:=jC E hsn;unfold iQ
 by_cases e:lkW c.1 (fb sp s)=none
 ·rw[rR e]
  obtain⟨ws,hws⟩:∃ws,lkW c.1 x=some ws:=Option.ne_none_iff_exists'.mp hx;have eg:(lkW c.1 x).getD []=ws:=by rw[hws];rfl
  rw[eg];have keep:∀y,lkW c.1 y≠none→lkW (c.1++[(fb sp s,ws++[s])]) y=lkW c.1 y:=λy hy=>by
   rw[nq e,rQ (λ(z:y=fb sp s)=>hy (by rw[z];exact e))]
  have new:lkW (c.1++[(fb sp s,ws++[s])]) (fb sp s)=some (ws++[s]):=by rw[nq e,rR rfl]
  have more:∀y,lkW c.1 y≠none→lkW (c.1++[(fb sp s,ws++[s])]) y≠none:=λy hy=>by rw[keep y hy];exact hy
  obtain⟨P,K⟩:=I.pth x ws hws;have hne:∀st∈ws,st.i=s.i→False:=λst hst' e2=>by
   obtain⟨k1,k2⟩:=K st hst'
   rcases ends_of_span (sp:=sp) (st:=st) (d:=s.d) hsn e2 (P.inn st hst').2.2 hsd with z | z
   ·have z:fb sp st=fb sp s:=z
    rw[z] at k2;exact k2 e
   ·have z:kY sp st=fb sp s:=z
    rw[z] at k1;exact k1 e
  have hnew:Pth sp tk be (fb sp s) (ws++[s]):=by
   apply⟨λst hst'=>?_,P.alo.append ⟨hfr,rfl⟩,?_,?_⟩
   ·rcases aI.mp hst' with h | h
    ·exact P.inn st h
    ·rw[aw.mp h];exact⟨hst,hsn,hsd⟩
   ·rw[aD]
    apply il.mpr ⟨P.one,∅,λa ha b hb e3=>?_⟩;obtain⟨st,hst',rfl⟩:=ba.mp ha;have hb:b=s.i:=by simpa using hb
    exact hne st hst' (by rw[e3,hb])
   ·rw[aD,←List.cons_append]
    apply il.mpr ⟨P.met,∅,λa ha b hb e3=>?_⟩;have hb:b=fb sp s:=by simpa using hb
    subst hb;subst e3
    rcases aH.mp ha with z | z
    ·rw[z] at e;exact I.beg e
    ·obtain⟨st,hst',e4⟩:=ba.mp z
     exact(K st hst').2 (by rw[e4];exact e)
  apply⟨⟨λy vs hy=>?_,λy hy=>?_,λy hy=>?_,more _ I.beg⟩,λy hy hn ex t ht'=>?_,?_,keep,?_,?_⟩
  ·rw[nq e] at hy
   by_cases ey:y=fb sp s
   ·rw[rR ey] at hy
    cases hy;rw[ey];apply⟨hnew,λst hst'=>?_⟩
    rcases aI.mp hst' with h | h
    ·exact⟨more _ (K st h).1,more _ (K st h).2⟩
    ·rw[aw.mp h,hfr]
     exact⟨more _ hx,by rw[new];exact λz=>nomatch z⟩
   ·rw[rQ ey] at hy
    obtain⟨P',K'⟩:=I.pth y vs hy;exact⟨P',λst h=>⟨more _ (K' st h).1,more _ (K' st h).2⟩⟩
  ·have hy:lkW (c.1++[(fb sp s,ws++[s])]) y≠none:=hy
   rw[nq e] at hy
   by_cases ey:y=fb sp s
   ·rw[ey];exact tr
   ·rw[rQ ey] at hy;exact I.rng y hy
  ·rcases aI.mp hy with h | h
   ·exact more _ (I.ahd y h)
   ·rw[aw.mp h];show lkW (c.1++[(fb sp s,ws++[s])]) (fb sp s)≠none;rw[new];exact λz=>nomatch z
  ·have hy:lkW (c.1++[(fb sp s,ws++[s])]) y≠none:=hy
   have hn:y ∉ c.2++[fb sp s]:=hn;have ey:y≠fb sp s:=λz=>hn (aE _ (aw.mpr z))
   rw[nq e,rQ ey] at hy;exact more _ (C y hy (λz=>hn (aJ _ z)) ex t ht')
  ·show lkW (c.1++[(fb sp s,ws++[s])]) (fb sp s)≠none
   rw[new];exact λz=>nomatch z
  ·have:=cntW_new (ws:=ws++[s]) e tr.1 ⋯
   show 2 * oi (c.1++[(fb sp s,ws++[s])])+(c.2++[fb sp s]).length≤_;rw[av];have:[fb sp s].length=1:=rfl;lia
  ·have:=cntW_new (ws:=ws++[s]) e tr.1 ⋯
   show(c.1++[(fb sp s,ws++[s])]).length+oi (c.1++[(fb sp s,ws++[s])])≤_;rw[av];have:[(fb sp s,ws++[s])].length=1:=rfl;lia
 ·rw[rQ e]
  exact⟨I,C,e,λ_ _=>rfl,aB _,aB _⟩
theorem pJ {m:Nat}{sp:List Sn}{tk:List Nat}{be x:Int}(E:kQ m sp)(m16:m≤16)(ht:∀i∈tk,i<sp.length):∀{L:List Stp} {c:List (Int×List Stp)×List Int},WI m sp tk be c→lkW c.1 x≠none→(∀s∈L,s∈dE sp tk x)→Clo sp tk (· =x) c →
  WI m sp tk be (L.foldl (iQ sp x) c)∧Clo sp tk (· =x) (L.foldl (iQ sp x) c)∧(∀s∈L,lkW (L.foldl (iQ sp x) c).1 (fb sp s)≠none)∧(∀y,lkW c.1 y≠none→lkW (L.foldl (iQ sp x) c).1 y=lkW c.1 y)∧2 * oi (L.foldl (iQ sp x) c).1+(L.foldl (iQ sp x) c).2.length≤2 * oi c.1+c.2.length∧(L.foldl (iQ sp x) c).1.length+oi (L.foldl (iQ sp x) c).1≤c.1.length+oi c.1
 | [],c,I,_,_,C=>⟨I,C,λ_ h=>(by cases h),λ_ _=>rfl,aB _,aB _⟩
 | s::L,c,I,hx,hL,C=>by
  obtain⟨a1,a2,a3,a4,a5,a6⟩:=visit_ok E m16 ht I hx (hL s bq) C;obtain⟨b1,b2,b3,b4,b5,b6⟩:=pJ E m16 ht (L:=L) a1 (by rw[a4 x hx];exact hx) (λt h=>hL t (aA _ h)) a2;rw[bQ];apply⟨b1,b2,λt h=>?_,λy hy=>?_,aQ b5 a5,aQ b6 a6⟩
  ·rcases aH.mp h with rfl | h
   ·rw[b4 _ a3];exact a3
   ·exact b3 t h
  ·rw[b4 y (by rw[a4 y hy];exact hy),a4 y hy]
def turn_ok (E:kQ m sp)(m16:m≤16)(ht:∀i∈tk,i<sp.length)(I:WI m sp tk be c)(C:Clo sp tk (λ_=>False) c)(hne:c.2≠[]) :
  WI m sp tk be (qR sp tk c)∧Clo sp tk (λ_=>False) (qR sp tk c)∧2 * oi (qR sp tk c).1+(qR sp tk c).2.length<2 * oi c.1+c.2.length∧(qR sp tk c).1.length+oi (qR sp tk c).1≤c.1.length+oi c.1:=by
 have hl:c.2.getLast? =some (c.2.getLast hne):=List.getLast?_eq_some_getLast hne;have e0:c.2=c.2.dropLast++[mH c.2]:=by
  unfold mH;rw[hl];exact(List.dropLast_concat_getLast hne).symm
 have hmem:mH c.2∈c.2:=by rw[e0];unfold mH;simp
 have hx:=I.ahd _ hmem;have I0:WI m sp tk be (c.1,c.2.dropLast):=⟨I.pth,I.rng,fun y hy=>I.ahd y ((List.dropLast_sublist _).subset hy),I.beg⟩;have C0:Clo sp tk (· =mH c.2) (c.1,c.2.dropLast):=fun y hy hn ex t ht'=>C y hy (fun z=>by
  rw[e0] at z
  rcases aI.mp z with z | z
  ·exact hn z
  ·exact ex (aw.mp z)) (fun z=>z) t ht'
 obtain⟨b1,b2,b3,b4,b5,b6⟩:=pJ E m16 ht (L:=dE sp tk (mH c.2)) I0 hx (λ_ h=>h) C0;apply⟨b1,λy hy hn _ t ht'=>?_,?_,b6⟩
 ·by_cases e:y=mH c.2
  ·subst e;exact b3 t ht'
  ·exact b2 y hy hn e t ht'
 ·have l1:c.2.dropLast.length+1=c.2.length:=by
   have:=rX List.length e0;rw[av] at this;exact this.symm
  have b5:2 * oi (qR sp tk c).1+(qR sp tk c).2.length≤2 * oi c.1+c.2.dropLast.length:=b5;lia
def start_ok (b0:0≤be)(b1:be<m):WI m sp tk be ([(be,[])],[be])∧Clo sp tk (λ_=>False) ([(be,[])],[be]):=by
 have lk:∀x,lkW [(be,[])] x=if be=x then some [] else none:=λx=>by rw[lZ];rfl
 have kb:∀x,lkW [(be,([]:List Stp))] x≠none→x=be:=λx h=>by
  rw[lk] at h
  by_cases e:be=x
  ·exact e.symm
  ·rw[rQ e] at h;exact rS rfl h
 have kn:lkW [(be,([]:List Stp))] be≠none:=by rw[lk,rR rfl];exact λz=>nomatch z
 apply⟨⟨λx ws h=>?_,λx h=>by rw[kb x h];exact⟨b0,b1⟩,λx h=>by rw[aw.mp h];exact kn,kn⟩,λx h hn=>?_⟩
 ·have h:lkW [(be,[])] x=some ws:=h
  rw[lk] at h
  by_cases e:be=x
  ·rw[rR e] at h
   cases h;exact⟨⟨λ_ h=>(nomatch h),e,jI,bw.mpr ⟨λh=>(nomatch h),jI⟩⟩,λ_ h=>(nomatch h)⟩
  ·rw[rQ e] at h;cases h
 ·exact rS (aw.mpr (kb x h)) hn
def rO (sp:List Sn)(tk:List Nat)(be en:Int):Prop:=∀S:Int→Prop,(∀i∈tk,S (sAt sp i).s↔S (sAt sp i).g)→S be→S en
def qJ (h:i<sp.length):kY sp ⟨i,1⟩=(sAt sp i).s∧fb sp ⟨i,1⟩=(sAt sp i).g∧kY sp ⟨i,-1⟩=(sAt sp i).g∧fb sp ⟨i,-1⟩=(sAt sp i).s:=by
 have e:sAt sp i=sp[i]:=by unfold sAt;rw[ae,gE h];rfl
 rw[nu h,lM h,nu h,lM h,e];unfold frm too;exact⟨rfl,rfl,rfl,rfl⟩
def left_of {en:Int}(ht:∀i∈tk,i<sp.length)(hh:rO sp tk be en)(I:WI m sp tk be c)(C:Clo sp tk (λ_=>False) c)(hn:lkW c.1 en=none):c.2≠[]:=λz=>by
 apply hh (λx=>lkW c.1 x≠none) (λi hi=>?_) I.beg hn;have hin:=ht i hi;obtain⟨f1,f2,f3,f4⟩:=qJ hin;have m1:(⟨i,1⟩:Stp)∈dE sp tk (sAt sp i).s:=bX.mpr ⟨aJ _ (ba.mpr ⟨i,hi,rfl⟩),rT f1⟩;have m2:(⟨i,-1⟩:Stp)∈dE sp tk (sAt sp i).g:=bX.mpr ⟨aE _ (ba.mpr ⟨i,hi,rfl⟩),rT f3⟩
 constructor
 ·intro h
  have:=C _ h (by rw[z];exact cz) (λz=>z) _ m1;rw[f2] at this;exact this
 ·intro h
  have:=C _ h (by rw[z];exact cz) (λz=>z) _ m2;rw[f4] at this;exact this
theorem held_of {m:Nat}{sp:List Sn}(E:kQ m sp)(S:Int→Prop):∀(π:List Nat) (gs:List Int) (tk:List Nat),gs.length=m→(∀i∈π,i<sp.length)→(∀i∈(π.foldl (gq sp) (gs,tk)).2,S (sAt sp i).s↔S (sAt sp i).g) →
  (∀x y:Int,0≤x→x<m→0≤y→y<m→tm gs x=tm gs y→(S x↔S y))→∀x y:Int,0≤x→x<m→0≤y→y<m→tm (π.foldl (gq sp) (gs,tk)).1 x=tm (π.foldl (gq sp) (gs,tk)).1 y→(S x↔S y)
 | [],_,_,_,_,_,h=>h
 | j::π,gs,tk,l,hp,hS,h=>by
  rw[bQ] at hS ⊢;obtain⟨a0,a1,b0,b1⟩:=E _ (fc (hp j bq));have hp':∀i∈π,i<sp.length:=λk hk=>hp k (aA _ hk)
  rcases jy sp gs tk j with ⟨_,e⟩ | ⟨_,e⟩ <;> rw[e] at hS ⊢
  ·exact held_of E S π gs tk l hp' hS h
  ·apply held_of E S π _ _ (by rw[mI];exact l) hp' hS λx y x0 x1 y0 y1 hxy=>?_
   obtain⟨more,hm⟩:=pP sp π (ja gs (tm gs (sAt sp j).s) (tm gs (sAt sp j).g)) (tk++[j]);have hj:=hS j (by rw[hm];simp);rw[lN x0 ⋯,lN y0 ⋯] at hxy
   by_cases e1:tm gs x=tm gs (sAt sp j).g
   ·have f1:=h x _ x0 x1 b0 b1 e1
    rw[rR e1] at hxy
    by_cases e2:tm gs y=tm gs (sAt sp j).g
    ·exact f1.trans (h y _ y0 y1 b0 b1 e2).symm
    ·rw[rQ e2] at hxy
     exact f1.trans (hj.symm.trans (h _ y a0 a1 y0 y1 hxy))
   ·rw[rQ e1] at hxy
    by_cases e2:tm gs y=tm gs (sAt sp j).g
    ·rw[rR e2] at hxy
     exact(h x _ x0 x1 a0 a1 hxy).trans (hj.trans (h y _ y0 y1 b0 b1 e2).symm)
    ·rw[rQ e2] at hxy
     exact h x y x0 x1 y0 y1 hxy
def held_span (E:kQ m sp)(O:Ordd sp π)(pm:l.Perm (kX sp m π).2){k:Nat}(hk:k<sp.length):rO sp l (sAt sp k).g (sAt sp k).s:=by
 intro S hS hg;have hp:∀i∈π,i<sp.length:=λi hi=>O.lt hi
 obtain⟨a0,a1,b0,b1⟩:=E _ (fc hk);apply(held_of E S π (j4 m) [] (kg m) hp (λi hi=>hS i (pm.mem_iff.mpr hi)) (λx y x0 x1 y0 y1 h=>?_) _ _ a0 a1 b0 b1 (lH E π (j4 m) [] (kg m) hp k (O.1.mem_iff.mpr (bS.mpr hk)))).mpr hg;rw[mW x0 x1,mW y0 y1] at h;rw[h]
def WayR.pth {en:Int}(E:kQ m sp)(m16:m≤16)(ht:∀i∈tk,i<sp.length)(b0:0≤be)(b1:be<m)(hh:rO sp tk be en){p:List Stp}(h:WayR sp tk be en p):Pth sp tk be en p:=by
 obtain⟨k,h1,h2⟩:=h;have key:∀j,j≤k→WI m sp tk be (itW sp tk be j)∧Clo sp tk (λ_=>False) (itW sp tk be j):=by
  intro j
  induction j with
  | zero=>intro _;exact start_ok b0 b1
  | succ j ih =>
   intro hj;obtain⟨I,C⟩:=ih ⋯;obtain⟨a,b,_⟩:=turn_ok E m16 ht I C (left_of ht hh I C (h2 j ⋯));exact⟨a,b⟩
 exact((key k (aB _)).1.pth en p h1).1
theorem Pth.len {en:Int}{p:List Stp}(E:kQ m sp)(b0:0≤be)(b1:be<m)(h:Pth sp tk be en p):p.length+1≤m:=by
 have:=lO h.met (k:=j4 m) λx hx=>by
  have key:∀x:Int,0≤x→x<m→x∈j4 m:=λx x0 x1=>by
   unfold j4;exact ba.mpr ⟨x.toNat,bS.mpr ⋯,dv x0⟩
  rcases aH.mp hx with rfl | hx
  ·exact key _ b0 b1
  ·obtain⟨s,hs,rfl⟩:=ba.mp hx
   have t:=jC E (h.inn s hs).2.1;exact key _ t.1 t.2
 rw[aV,aa,kg] at this;exact this
def mq (pr:Int)(ps:List Int)(s:Stp):List Int:=ps.set s.i (ps.getD s.i 0 - pr * s.d)
def rowP (ps:List Int)(r:Int×List Stp):List Int:=r.2.foldl (mq r.1) ps
def ownM (sp:List Sn)(rows:List (Int×List Stp)):List Int:=rows.foldl rowP (sp.map Sn.w)
theorem pN {pr:Int}:∀(ws:List Stp) (ps:List Int),(ws.foldl (mq pr) ps).length=ps.length
 | [],_=>rfl
 | s::ws,ps=>by
  rw[bQ,pN ws];unfold mq;rw[eI]
def hasS (k:Nat)(d:Int)(ws:List Stp):Bool:=ws.any λs=>decide (s.i=k) && decide (s.d=d)
def ownV (k:Nat)(acc pr:Int)(ws:List Stp):Int:=if hasS k (-1) ws=true then (if hasS k 1 ws=true then acc - pr else acc)+pr else (if hasS k 1 ws=true then acc - pr else acc)
def ownS (k:Nat)(acc:Int)(r:Int×List Stp):Int:=ownV k acc r.1 r.2
theorem hasS_no {k:Nat}{d:Int}:∀{ws:List Stp},k ∉ ws.map Stp.i→hasS k d ws=false
 | [],_=>rfl
 | s::ws,h=>by
  show(decide (s.i=k) && decide (s.d=d) || hasS k d ws)=false;rw[hasS_no (ws:=ws) λz=>h (by rw[bI];exact aA _ z),rV (λz=>h (by rw[bI,z];simp))];rfl
theorem steps_at {k:Nat}{pr:Int}:∀(ws:List Stp) (ps:List Int),k<ps.length→(∀s∈ws,s.d=1∨s.d= -1)→(ws.map Stp.i).Nodup→(ws.foldl (mq pr) ps).getD k 0=ownV k (ps.getD k 0) pr ws
 | [],_,_,_,_=>rfl
 | s::ws,ps,hk,hd,hn=>by
  rw[bI,bw] at hn;rw[bQ,steps_at ws _ (by unfold mq;rw[eI];exact hk) (λt ht=>hd t (aA _ ht)) hn.2]
  by_cases e:s.i=k
  ·have h0:∀d,hasS k d ws=false:=λd=>hasS_no (by rw[←e];exact hn.1)
   have h1:∀d,hasS k d (s::ws)=decide (s.d=d):=λd=>by
    show(decide (s.i=k) && decide (s.d=d) || hasS k d ws)=_;rw[h0,rT e];simp
   have h2:(mq pr ps s).getD k 0=ps.getD k 0 - pr * s.d:=by
    unfold mq;rw[e,ae,dM hk];rfl
   unfold ownV;rw[h0,h0,h1,h1,h2]
   rcases hd s ∅ with d1 | d1
   ·rw[d1];simp
   ·rw[d1];simp
  ·have h1:∀d,hasS k d (s::ws)=hasS k d ws:=λd=>by
    show(decide (s.i=k) && decide (s.d=d) || hasS k d ws)=_;rw[rV e];simp
   have h2:(mq pr ps s).getD k 0=ps.getD k 0:=by
    unfold mq;rw[ae,dH e,←ae]
   unfold ownV;rw[h1,h1,h2]
structure RwOk (n:Nat)(r:Int×List Stp):Prop where
 inn:qV n r.2
 one:(r.2.map Stp.i).Nodup
 few:r.2.length≤17
 lo: -1000000000000≤r.1
 hi:r.1≤1000000000000
theorem pW {k n:Nat}:∀(rows:List (Int×List Stp)) (ps:List Int),k<ps.length→(∀r∈rows,RwOk n r)→(rows.foldl rowP ps).getD k 0=rows.foldl (ownS k) (ps.getD k 0)
 | [],_,_,_=>rfl
 | r::rows,ps,hk,h=>by
  have hr:=h r ∅;rw[bQ,bQ,pW rows _ (by show k<(r.2.foldl (mq r.1) ps).length;rw[pN];exact hk) λt ht=>h t (aA _ ht)];congr 1;exact steps_at r.2 ps hk (λs hs=>(hr.inn s hs).2) hr.one
def wOf (sp:List Sn)(k:Nat):Int:=match sp[k]? with | some x=>x.w | none=>0
def lOf (sp:List Sn)(k:Nat):Int:=match sp[k]? with | some x=>x.l | none=>0
def owK (sp:List Sn)(rows:List (Int×List Stp))(k:Nat):Int:=rows.foldl (ownS k) (wOf sp k)
def own_at {k:Nat}(hk:k<sp.length)(h:∀r∈rows,RwOk n r):(ownM sp rows).getD k 0=owK sp rows k:=by
 unfold ownM owK;rw[pW rows _ (by rw[aa];exact hk) h];congr 1;unfold wOf;rw[ae,az,gE hk];rfl
def termW (sp:List Sn)(bs:List (Int×Int))(rows:List (Int×List Stp))(k:Nat):Int:=owK sp rows k * (if owK sp rows k<0 then (bs.getD k (0,0)).2 else (bs.getD k (0,0)).1) - wOf sp k * lOf sp k
def rowsW (b:Int)(bs:List (Int×Int))(rows:List (Int×List Stp)):Int:=(rows.map λr=>r.1 * upB b (gw bs r.2) * b).sum
def worthM (b:Int)(sp:List Sn)(bs:List (Int×Int))(rows:List (Int×List Stp)):Int:=rowsW b bs rows+((aG sp.length).map (termW sp bs rows)).sum
end HN
namespace L2
open PySem PySem.Spec PyProof.Rows
theorem compT_lst {Q:VK}(Pv:Nat→List V→Hp→Prop)(h0:Pv 0 [] H)(hl:∀i ys H,i≤xs.length→Pv i ys H→SqL K H a xs∧ys.length≤i)(hz:xs.length≤bf)
  (hs:∀i v ys H,xs[i]? =some v→Pv i ys H→∃q x y,v= .ref q∧H q=some (.tup [x,y])∧tt (some x::some y::c9 σ js) H λb H4=>if b=true then te (some x::some y::c9 σ js) H4 λz H5=>Pv (i+1) (ys++[z]) H5 else Pv (i+1) ys H4)
  (hd:∀ys H,Pv xs.length ys H→∀D,H D=none→Q (.ref D) (upd H D (.lst ys))):qQ 2 (gPair K) js tt te σ Q (Itl K a) H:=by
 apply⟨λi m ys H=>i≤xs.length∧m=xs.length - i∧Pv i ys H,⟨_,bu _,rfl,h0⟩,λi m ys H2 z=>?_⟩;obtain⟨hi,hm,hp⟩:=z;obtain⟨hq,hy⟩:=hl i ys H2 hi hp
 by_cases e:i=xs.length
 ·subst e
  exact .inl ⟨⟨xs,hq,aB _⟩,hd ys H2 hp⟩
 ·have hlt:i<xs.length:=fE hi e
  apply .inr ⟨⟨xs,_,hq,gE hlt⟩,⋯,Pv (i+1),λys' H' hp'=>⟨xs.length - (i+1),⋯,⋯,rfl,hp'⟩,λv H3 hy3 v0 hv0=>?_⟩;obtain⟨e3,hx⟩:=hy3;subst e3;obtain⟨q,x,y,rfl,hq2,k⟩:=hs i v ys H3 (hx xs hq) hp
  match v0,hv0 with
  | [v1,v2],_=>exact⟨q,_,rfl,SqT.of hq2,rfl,_,_,rfl,_,_,rfl,rfl,⟨[some x,some y],rfl,rfl⟩,k⟩
end L2
namespace HN
open PySem L2 PyProof.Rows
def mZ (f:Nat→Int):Nat→Int
 | 0=>0
 | n+1=>mZ f n+f n
theorem qZ (f:Nat→Int):∀n,((aG n).map f).sum=mZ f n
 | 0=>rfl
 | n+1=>by
  rw[fj,aD,List.sum_append,qZ f n];show mZ f n+(f n+0)=mZ f n+f n;lia
theorem o9 (f g:Nat→Int):∀n,mZ (λk=>f k+g k) n=mZ f n+mZ g n
 | 0=>rfl
 | n+1=>by
  show mZ (λk=>f k+g k) n+(f n+g n)=(mZ f n+f n)+(mZ g n+g n);rw[o9 f g n];lia
theorem o8 (c:Int)(f:Nat→Int):∀n,mZ (λk=>c * f k) n=c * mZ f n
 | 0=>(i4 c).symm
 | n+1=>by
  show mZ (λk=>c * f k) n+c * f n=c * (mZ f n+f n);rw[o8 c f n,jx]
theorem kx {f g:Nat→Int}:∀n,(∀k,k<n→f k=g k)→mZ f n=mZ g n
 | 0,_=>rfl
 | n+1,h=>by
  show mZ f n+f n=mZ g n+g n;rw[kx n λk hk=>h k ⋯,h n ⋯]
theorem sumN_none {i:Nat}{c:Int}{y:Nat→Int}:∀n,n≤i→mZ (λk=>(if i=k then c else 0) * y k) n=0
 | 0,_=>rfl
 | n+1,h=>by
  show mZ (λk=>(if i=k then c else 0) * y k) n+(if i=n then c else 0) * y n=0;rw[sumN_none n ⋯,rQ ⋯,gJ];rfl
theorem sumN_one {i:Nat}{c:Int}{y:Nat→Int}:∀n,i<n→mZ (λk=>(if i=k then c else 0) * y k) n=c * y i
 | 0,h=>rS h ⋯
 | n+1,h=>by
  show mZ (λk=>(if i=k then c else 0) * y k) n+(if i=n then c else 0) * y n=c * y i
  by_cases e:i=n
  ·subst e
   rw[sumN_none i (aB _),rR rfl,fZ]
  ·rw[sumN_one n ⋯,rQ e,gJ,Int.add_zero]
theorem sumN_list {α:Type}(f:α→Int)(xs:List α):∀n,n≤xs.length→((xs.take n).map f).sum=mZ (λk=>match xs[k]? with | some x=>f x | none=>0) n
 | 0,_=>rfl
 | n+1,h=>by
  rw[bj,gE ⋯,aD,List.sum_append,sumN_list f xs n ⋯];show _+(f xs[n]+0)=mZ _ n+(match xs[n]? with | some x=>f x | none=>0);rw[gE ⋯];show _+(f xs[n]+0)=_+f xs[n];lia
def sg (k:Nat):List Stp→Int
 | []=>0
 | s::ws=>(if s.i=k then s.d else 0)+sg k ws
def alg (y:Nat→Int):List Stp→Int
 | []=>0
 | s::ws=>s.d * y s.i+alg y ws
theorem fold_sg {k:Nat}{pr:Int}:∀(ws:List Stp) (ps:List Int),k<ps.length→(ws.foldl (mq pr) ps).getD k 0=ps.getD k 0 - pr * sg k ws
 | [],ps,_=>by show ps.getD k 0=ps.getD k 0 - pr * 0;rw[i4,Int.sub_zero]
 | s::ws,ps,hk=>by
  rw[bQ,fold_sg ws _ (by unfold mq;rw[eI];exact hk)];show _=ps.getD k 0 - pr * ((if s.i=k then s.d else 0)+sg k ws);rw[jx]
  by_cases e:s.i=k
  ·have h2:(mq pr ps s).getD k 0=ps.getD k 0 - pr * s.d:=by
    unfold mq;rw[e,ae,dM hk];rfl
   rw[h2,rR e];lia
  ·have h2:(mq pr ps s).getD k 0=ps.getD k 0:=by
    unfold mq;rw[ae,dH e,←ae]
   rw[h2,rQ e,i4];lia
def sgR (k:Nat):List (Int×List Stp)→Int
 | []=>0
 | r::rows=>r.1 * sg k r.2+sgR k rows
theorem rows_sg {k:Nat}:∀(rows:List (Int×List Stp)) (ps:List Int),k<ps.length→(rows.foldl rowP ps).getD k 0=ps.getD k 0 - sgR k rows
 | [],ps,_=>by show ps.getD k 0=ps.getD k 0 - 0;rw[Int.sub_zero]
 | r::rows,ps,hk=>by
  rw[bQ,rows_sg rows _ (by show k<(r.2.foldl (mq r.1) ps).length;rw[pN];exact hk)];show(r.2.foldl (mq r.1) ps).getD k 0 - sgR k rows=ps.getD k 0 - (r.1 * sg k r.2+sgR k rows);rw[fold_sg r.2 ps hk];lia
def owK_sg {k:Nat}(hk:k<sp.length)(h:∀r∈rows,RwOk n r):owK sp rows k=wOf sp k - sgR k rows:=by
 rw[←own_at hk h];unfold ownM;rw[rows_sg rows _ (by rw[aa];exact hk)];congr 1;unfold wOf;rw[ae,az,gE hk];rfl
theorem sum_sg {y:Nat→Int}{n:Nat}:∀(ws:List Stp),(∀s∈ws,s.i<n)→mZ (λk=>sg k ws * y k) n=alg y ws
 | [],_=>by
  show mZ (λk=>0 * y k) n=0;rw[kx (g:=λ_=>0 * 0) n λk _=>by rw[gJ,gJ],o8 0 (λ_=>0) n,gJ]
 | s::ws,h=>by
  show mZ (λk=>((if s.i=k then s.d else 0)+sg k ws) * y k) n=s.d * y s.i+alg y ws;rw[kx (g:=λk=>(if s.i=k then s.d else 0) * y k+sg k ws * y k) n λk _=>Int.add_mul ..,o9,sumN_one n (h s ∅),sum_sg ws λt ht=>h t (aA _ ht)]
def algR (y:Nat→Int):List (Int×List Stp)→Int
 | []=>0
 | r::rows=>r.1 * alg y r.2+algR y rows
theorem sum_sgR {y:Nat→Int}{n:Nat}:∀(rows:List (Int×List Stp)),(∀r∈rows,∀s∈r.2,s.i<n)→mZ (λk=>sgR k rows * y k) n=algR y rows
 | [],_=>by
  show mZ (λk=>0 * y k) n=0;rw[kx (g:=λ_=>0 * 0) n λk _=>by rw[gJ,gJ],o8 0 (λ_=>0) n,gJ]
 | r::rows,h=>by
  show mZ (λk=>(r.1 * sg k r.2+sgR k rows) * y k) n=r.1 * alg y r.2+algR y rows;rw[kx (g:=λk=>r.1 * (sg k r.2 * y k)+sgR k rows * y k) n λk _=>by rw[Int.add_mul,Int.mul_assoc],o9,o8,sum_sg r.2 (h r ∅),sum_sgR rows λt ht=>h t (aA _ ht)]
def ke (b:Int)(ts:List Int)(sp:List Sn)(k:Nat):Int:=match sp[k]? with | some x=>x.l+iJ b ts x | none=>0
def InB (y:Nat→Int)(bs:List (Int×Int)):Prop:=∀k,k<bs.length→(bs.getD k (0,0)).1≤y k∧y k≤(bs.getD k (0,0)).2
def lay_in (hb:0<b)(hf:kB b ts sp=true):InB (ke b ts sp) (sp.map λx=>(x.l,x.o)):=λk hk=>by
 rw[aa] at hk;have e:(sp.map λx=>(x.l,x.o)).getD k (0,0)=(sp[k].l,sp[k].o):=by
  rw[ae,az,gE hk];rfl
 have e2:ke b ts sp k=sp[k].l+iJ b ts sp[k]:=by
  unfold ke;rw[gE hk]
 rw[e,e2];have h0:0≤iJ b ts sp[k]:=by unfold iJ;exact dh _ ⋯
 have h1:¬(sp[k].o - sp[k].l<iJ b ts sp[k]):=by
  unfold kB at hf;rw[iA,ir] at hf;have:=hf sp[k] (aY hk);unfold brk at this
  simpa using this
 exact⟨by show sp[k].l≤_;lia,by show _≤sp[k].o;lia⟩
def inB_one {y:Nat→Int}{bs:List (Int×Int)}{k:Nat}{a:Int}(h:InB y bs)(ha:y k≤a):InB y (kZ bs k a):=λj hj=>by
 rw[one_len] at hj;have hh:=h j hj;unfold kZ;rw[ae]
 by_cases e:k=j
 ·subst e
  rw[dM hj];exact⟨hh.1,ha⟩
 ·rw[dH e,←ae]
  exact hh
def inB_other {y:Nat→Int}{bs:List (Int×Int)}{k:Nat}{a:Int}(h:InB y bs)(ha:a+1≤y k):InB y (d7 bs k a):=λj hj=>by
 rw[nV] at hj;have hh:=h j hj;unfold d7;rw[ae]
 by_cases e:k=j
 ·subst e
  rw[dM hj];exact⟨ha,hh.2⟩
 ·rw[dH e,←ae]
  exact hh
theorem alg_way {b:Int}{ts:List Int}{sp:List Sn}:∀(ws:List Stp) (x z:Int),qV sp.length ws→oY sp x ws z→∃Z,alg (ke b ts sp) ws=tm ts z - tm ts x+b * Z
 | [],x,z,_,h=>by
  have h:x=z:=h;subst h;exact⟨0,by show(0:Int)=_;rw[i4];lia⟩
 | s::ws,x,z,hw,h=>by
  obtain⟨h1,h2⟩:=h;obtain⟨Z,hZ⟩:=alg_way (b:=b) (ts:=ts) ws _ z (λt ht=>hw t (aA _ ht)) h2;obtain⟨hs,hd⟩:=hw s ∅;obtain⟨i,d⟩:=s;have hs:i<sp.length:=hs;have hd:d=1∨d= -1:=hd;have e2:ke b ts sp i=sp[i].l+iJ b ts sp[i]:=by
   unfold ke;rw[gE hs]
  have hm:=iu (tm ts sp[i].g - tm ts sp[i].s - sp[i].l) b;show ∃Z,d * ke b ts sp i+alg (ke b ts sp) ws=_;rw[hZ,e2];unfold iJ;rw[lM hs] at *;rw[nu hs] at h1;unfold frm at h1;unfold too at *;generalize (tm ts sp[i].g - tm ts sp[i].s - sp[i].l) / b=q at hm;generalize (tm ts sp[i].g - tm ts sp[i].s - sp[i].l) % b=r at hm ⊢
  rcases hd with rfl | rfl
  ·rw[rR rfl] at h1 ⊢
   subst h1;exact⟨Z - q,by rw[jw];lia⟩
  ·rw[rQ ↥0] at h1 ⊢
   subst h1;exact⟨Z+q,by rw[jx b Z q];lia⟩
theorem alg_lo {y:Nat→Int}{bs:List (Int×Int)}(h:InB y bs):∀(ws:List Stp),qV bs.length ws→gw bs ws≤alg y ws∧alg y ws≤iR bs ws
 | [],_=>⟨d8 _,d8 _⟩
 | s::ws,hw=>by
  obtain⟨i1,i2⟩:=alg_lo h ws λt ht=>hw t (aA _ ht)
  obtain⟨hs,hd⟩:=hw s ∅;obtain⟨b1,b2⟩:=h s.i hs;have e:bs.getD s.i (0,0)=bs[s.i]:=by rw[ae,gE hs];rfl
  rw[e] at b1 b2;have e1:gw bs (s::ws)=lowS bs s+gw bs ws:=rfl;have e2:iR bs (s::ws)=mK bs s+iR bs ws:=rfl;have f1:lowS bs s=if s.d=1 then bs[s.i].1 else -bs[s.i].2:=by unfold lowS;rw[gE hs]
  have f2:mK bs s=if s.d=1 then bs[s.i].2 else -bs[s.i].1:=by unfold mK;rw[gE hs]
  rw[e1,e2,f1,f2];show _≤s.d * y s.i+alg y ws∧s.d * y s.i+alg y ws≤_
  rcases hd with d1 | d1
  ·rw[d1,rR rfl,rR rfl];lia
  ·rw[d1,rQ ↥0,rQ ↥0];lia
theorem ring_in {bs:List (Int×Int)}(hb:0<b)(hl:bs.length=sp.length)(h:InB (ke b ts sp) bs)(hr:Rg sp ws) :
  ∃Z,alg (ke b ts sp) ws=b * Z∧upB b (gw bs ws)≤Z∧Z≤iR bs ws / b:=by
 obtain⟨x,hx⟩:=hr.rnd;obtain⟨Z,hZ⟩:=alg_way (b:=b) (ts:=ts) ws x x hr.inn hx;obtain⟨l1,l2⟩:=alg_lo h ws (by rw[hl];exact hr.inn);have e:alg (ke b ts sp) ws=b * Z:=by lia
 rw[e] at l1 l2;apply⟨Z,e,?_,?_⟩
 ·unfold upB
  have: -Z≤ -gw bs ws / b:=by
   rw[Int.le_ediv_iff_mul_le hb,Int.neg_mul,Int.mul_comm Z b];lia
  lia
 ·rw[Int.le_ediv_iff_mul_le hb,Int.mul_comm Z b];exact l2
def wait_sum:waitOfM b ts sp=mZ (λk=>wOf sp k * ke b ts sp k - wOf sp k * lOf sp k) sp.length:=by
 unfold waitOfM;have:=sumN_list (λx:Sn=>x.w * iJ b ts x) sp sp.length (aB _);rw[bo] at this;rw[this];apply kx _ λk hk=>?_
 unfold wOf ke lOf;rw[gE hk];show sp[k].w * iJ b ts sp[k]=sp[k].w * (sp[k].l+iJ b ts sp[k]) - sp[k].w * sp[k].l;rw[jx];lia
theorem rows_in {b:Int}{ts:List Int}{sp:List Sn}{bs:List (Int×Int)}(hb:0<b)(hl:bs.length=sp.length)(h:InB (ke b ts sp) bs):∀(rows:List (Int×List Stp)),(∀r∈rows,RowOk b sp bs r)→algR (ke b ts sp) rows=rowsW b bs rows
 | [],_=>rfl
 | r::rows,hr=>by
  obtain⟨h1,h2,_⟩:=hr r ∅;obtain⟨Z,e,z1,z2⟩:=ring_in hb hl h h1;have h2:=rW h2;have ez:Z=upB b (gw bs r.2):=by lia
  have ih:=rows_in hb hl h rows λt ht=>hr t (aA _ ht)
  have e3:rowsW b bs (r::rows)=r.1 * upB b (gw bs r.2) * b+rowsW b bs rows:=rfl;show r.1 * alg (ke b ts sp) r.2+algR (ke b ts sp) rows=_;rw[e3,ih,e,ez,Int.mul_comm b,Int.mul_assoc]
def longer (b:Nat)(tt:List (List Int)):List (List Int):=tt.flatMap λt=>(aG b).map λc:Nat=>t++[(0:Int)+(c:Nat)]
def allT (b:Nat):Nat→List (List Int)
 | 0=>[[]]
 | n+1=>longer b (allT b n)
def rO.more {tk':List Nat}{x:Int}(h:∀i∈tk,i∈tk')(k:rO sp tk x y):rO sp tk' x y:=λS hS=>k S λi hi=>hS i (h i hi)
def rO.trans {x:Int}(a:rO sp tk x y)(c:rO sp tk y z):rO sp tk x z:=λS hS h=>c S hS (a S hS h)
def rO.symm {x:Int}(a:rO sp tk x y):rO sp tk y x:=λS hS h=>eZ λn=>a (λz=>¬S z) (λi hi=>not_congr (hS i hi)) n h
inductive Acy (sp:List Sn):List Nat→Prop where
 | nil:Acy sp []
 | snoc {tk:List Nat} {k:Nat} (h:Acy sp tk) (hk:k<sp.length) (s:∃S:Int→Prop,(∀i∈tk,S (sAt sp i).s↔S (sAt sp i).g)∧S (sAt sp k).s∧¬S (sAt sp k).g):Acy sp (tk++[k])
def Acy.pot (h:Acy sp tk)(y:Nat→Int):∃π:Int→Int,∀i∈tk,π (sAt sp i).g - π (sAt sp i).s=y i:=by
 induction h with
 | nil=>exact⟨λ_=>0,λ_ h=>rS h ∅⟩
 | snoc h hk s ih =>
  rename_i tk k;obtain⟨π,hπ⟩:=ih;obtain⟨S,hS,s1,s2⟩:=s;have dec:∀x,Decidable (S x):=λx=>Classical.propDecidable _
  apply⟨λx=>if S x then π x else π x+(y k - (π (sAt sp k).g - π (sAt sp k).s)),λi hi=>?_⟩
  rcases aI.mp hi with hi | hi
  ·have e:=hπ i hi
   have f:=hS i hi;show(if S (sAt sp i).g then _ else _) - (if S (sAt sp i).s then _ else _)=_
   by_cases c:S (sAt sp i).s
   ·rw[rR c,rR (f.mp c)];exact e
   ·rw[rQ c,rQ (λz=>c (f.mpr z))];lia
  ·rw[aw.mp hi]
   show(if S (sAt sp k).g then _ else _) - (if S (sAt sp k).s then _ else _)=_;rw[rQ s2,rR s1];lia
def Acy.nodup (h:Acy sp tk):tk.Nodup∧∀i∈tk,i<sp.length:=by
 induction h with
 | nil=>exact⟨jI,λ_ h=>rS h ∅⟩
 | snoc h hk s ih =>
  rename_i tk k;obtain⟨S,hS,s1,s2⟩:=s;apply⟨il.mpr ⟨ih.1,∅,λa ha c hc e=>?_⟩,λi hi=>?_⟩
  ·rw[aw.mp hc] at e
   subst e;exact s2 ((hS _ ha).mp s1)
  ·rcases aI.mp hi with hi | hi
   ·exact ih.2 i hi
   ·rw[aw.mp hi];exact hk
structure Pots (sp:List Sn)(tk:List Nat):Prop where
 nodup:tk.Nodup∧∀i∈tk,i<sp.length
 pot:∀y:Nat→Int,∃π:Int→Int,∀i∈tk,π (sAt sp i).g - π (sAt sp i).s=y i
def Acy.pots (h:Acy sp tk):Pots sp tk:=⟨h.nodup,h.pot⟩
def Pots.perm (h:Pots sp tk)(p:l.Perm tk):Pots sp l :=
 ⟨⟨p.nodup_iff.mpr h.nodup.1,λi hi=>h.nodup.2 i (p.mem_iff.mp hi)⟩,λy=>let ⟨π,k⟩:=h.pot y;⟨π,λi hi=>k i (p.mem_iff.mp hi)⟩⟩
structure Gd (m:Nat)(sp:List Sn)(gs:List Int)(tk:List Nat):Prop where
 len:gs.length=m
 eq:∀i∈tk,tm gs (sAt sp i).s=tm gs (sAt sp i).g
 held:∀x y:Int,0≤x→x<m→0≤y→y<m→tm gs x=tm gs y→rO sp tk x y
 acy:Acy sp tk
 cnt:Cnt m gs tk.length
def Gd.start (m:Nat)(sp:List Sn):Gd m sp (j4 m) []:=by
 apply⟨kg m,λ_ h=>rS h ∅,λx y x0 x1 y0 y1 e=>?_,.nil,Cnt.start m⟩;rw[mW x0 x1,mW y0 y1] at e;subst e;exact λS _ h=>h
theorem Gd.step (E:kQ m sp)(g:Gd m sp gs tk)(hi:i<sp.length):Gd m sp (gq sp (gs,tk) i).1 (gq sp (gs,tk) i).2:=by
 obtain⟨s0,s1,g0,g1⟩:=E _ (fc hi);unfold gq
 by_cases e:tm gs (sAt sp i).s=tm gs (sAt sp i).g
 ·rw[rR e];exact g
 ·rw[rQ e]
  have l:=g.len;have old:∀j∈tk,j<sp.length:=g.acy.nodup.2;have jt:∀x:Int,0≤x→x<m→tm (ja gs (tm gs (sAt sp i).s) (tm gs (sAt sp i).g)) x=if tm gs x=tm gs (sAt sp i).g then tm gs (sAt sp i).s else tm gs x:=λx x0 x1=>lN x0 ⋯
  have up:∀{x y:Int},rO sp tk x y→rO sp (tk++[i]) x y:=λh=>h.more λj hj=>aJ _ hj
  have ed:rO sp (tk++[i]) (sAt sp i).s (sAt sp i).g:=λS hS h=>(hS i (aE _ (aw.mpr rfl))).mp h
  apply⟨by show(ja _ _ _).length=m;rw[mI];exact l,λj hj=>?_,λx y x0 x1 y0 y1 h=>?_,.snoc g.acy hi ⟨λx=>tm gs x=tm gs (sAt sp i).s,λj hj=>by show tm gs _=_↔tm gs _=_;rw[g.eq j hj],rfl,λz=>e z.symm⟩,?_⟩
  ·show tm (ja _ _ _) _=tm (ja _ _ _) _
   rcases aI.mp hj with hj | hj
   ·obtain⟨a0,a1,b0,b1⟩:=E _ (fc (old j hj))
    rw[jt _ a0 a1,jt _ b0 b1,g.eq j hj]
   ·rw[aw.mp hj,jt _ s0 s1,jt _ g0 g1,rR rfl,rQ e]
  ·have h:tm (ja _ _ _) x=tm (ja _ _ _) y:=h
   rw[jt x x0 x1,jt y y0 y1] at h;show rO sp (tk++[i]) x y
   by_cases c1:tm gs x=tm gs (sAt sp i).g
   ·by_cases c2:tm gs y=tm gs (sAt sp i).g
    ·exact up (g.held x y x0 x1 y0 y1 (c1.trans c2.symm))
    ·rw[rR c1,rQ c2] at h
     exact(up (g.held x _ x0 x1 g0 g1 c1)).trans (ed.symm.trans (up (g.held _ y s0 s1 y0 y1 h)))
   ·by_cases c2:tm gs y=tm gs (sAt sp i).g
    ·rw[rQ c1,rR c2] at h
     exact(up (g.held x _ x0 x1 s0 s1 h)).trans (ed.trans (up (g.held _ y g0 g1 y0 y1 c2.symm)))
    ·rw[rQ c1,rQ c2] at h
     exact up (g.held x y x0 x1 y0 y1 h)
  ·show Cnt m (ja _ _ _) (tk++[i]).length
   rw[av];exact g.cnt.join (oN s0 ⋯) (oN g0 ⋯) e
theorem Gd.fold {m:Nat}{sp:List Sn}(E:kQ m sp):∀(π:List Nat) (gs:List Int) (tk:List Nat),(∀i∈π,i<sp.length)→Gd m sp gs tk→Gd m sp (π.foldl (gq sp) (gs,tk)).1 (π.foldl (gq sp) (gs,tk)).2
 | [],_,_,_,g=>g
 | i::π,gs,tk,h,g=>by
  rw[bQ];exact Gd.fold E π _ _ (λj hj=>h j (aA _ hj)) (g.step E (h i ∅))
def Gd.few (g:Gd m sp gs tk)(h:0<m):tk.length<m:=by
 obtain⟨D,_,mem,l⟩:=g.cnt;have:D≠[]:=λz=>by
  have h0:tm gs 0∈gs:=oN (d8 0) (by rw[g.len];lia);have:=(mem _).mpr h0;rw[z] at this;cases this
 have:=om.mpr this;lia
structure RK (sp:List Sn)(tk:List Nat)(q:Nat×List Stp):Prop where
 lt:q.1<sp.length
 out:q.1 ∉ tk
 way:∃p,q.2=⟨q.1,1⟩::p∧Pth sp tk (sAt sp q.1).g (sAt sp q.1).s p
theorem RK.rg {m:Int}{q:Nat×List Stp}(N:jb b m sp)(h:RK sp tk q)(hl:tk.length≤15):Rg sp q.2:=by
 obtain⟨p,e,P⟩:=h.way;have hk:=h.lt;have eA:sAt sp q.1=sp[q.1]:=by unfold sAt;rw[ae,gE hk];rfl
 rw[e];apply Bk.ring hk (N.all _ (aY hk)).ne ⟨λs hs=>(P.inn s hs).2,by rw[←eA];exact P.alo,P.one,λs hs z=>?_⟩ ?_
 ·have z:s.i=q.1:=by lia
  exact h.out (z ▸ (P.inn s hs).1)
 ·have hn:((p.map Stp.i).map λn:Nat=>(n:Int)).Nodup:=by
   rw[b9,fP];exact(b9.mp P.one).imp λhh e=>hh ⋯
  have:=lO (l:=(p.map Stp.i).map λn:Nat=>(n:Int)) (k:=tk.map λn:Nat=>(n:Int)) hn λx hx=>by
   obtain⟨i,hi,rfl⟩:=ba.mp hx;obtain⟨s,hs,rfl⟩:=ba.mp hi;exact ba.mpr ⟨_,(P.inn s hs).1,rfl⟩
  rw[aa,aa,aa] at this;lia
structure OB (sp:List Sn)(tk:List Nat)(bs:List (Int×Int)):Prop where
 len:bs.length=sp.length
 out:∀k,k<sp.length→k ∉ tk→bs.getD k (0,0)=((sAt sp k).l,(sAt sp k).o)
 lo:∀k,k<sp.length→(sAt sp k).l≤(bs.getD k (0,0)).1∧(bs.getD k (0,0)).1≤(bs.getD k (0,0)).2∧(bs.getD k (0,0)).2≤(sAt sp k).o
def iV {bs:List (Int×Int)}{k:Nat}{x:Int×Int}(hj:j<bs.length):(bs.set k x).getD j (0,0)=if k=j then x else bs.getD j (0,0):=by
 rw[ae]
 by_cases e:k=j
 ·subst e
  rw[dM hj,rR rfl];rfl
 ·rw[dH e,rQ e,←ae]
def OB.one {bs:List (Int×Int)}{k:Nat}{a:Int}(h:OB sp tk bs)(hk:k∈tk)(hn:k<sp.length)(h1:(bs.getD k (0,0)).1≤a)(h2:a<(bs.getD k (0,0)).2):OB sp tk (kZ bs k a):=by
 have l:=h.len;apply⟨by rw[one_len];exact l,λj hj hjn=>?_,λj hj=>?_⟩
 ·unfold kZ
  rw[iV ⋯,rQ (λ(z:k=j)=>hjn (z ▸ hk))];exact h.out j hj hjn
 ·unfold kZ
  rw[iV ⋯];have:=h.lo j hj
  by_cases e:k=j
  ·rw[rR e]
   subst e;exact⟨this.1,h1,by show a≤_;lia⟩
  ·rw[rQ e];exact this
def OB.other {bs:List (Int×Int)}{k:Nat}{a:Int}(h:OB sp tk bs)(hk:k∈tk)(hn:k<sp.length)(h1:(bs.getD k (0,0)).1≤a)(h2:a<(bs.getD k (0,0)).2):OB sp tk (d7 bs k a):=by
 have l:=h.len;apply⟨by rw[nV];exact l,λj hj hjn=>?_,λj hj=>?_⟩
 ·unfold d7
  rw[iV ⋯,rQ (λ(z:k=j)=>hjn (z ▸ hk))];exact h.out j hj hjn
 ·unfold d7
  rw[iV ⋯];have:=h.lo j hj
  by_cases e:k=j
  ·rw[rR e]
   subst e;exact⟨by show _≤a+1;lia,by show a+1≤(bs.getD k (0,0)).2;lia,this.2.2⟩
  ·rw[rQ e];exact this
def OB.first {m:Int}(N:jb b m sp)(tk:List Nat):OB sp tk (sp.map λx=>(x.l,x.o)):=by
 have e:∀k,k<sp.length→(sp.map λx=>(x.l,x.o)).getD k (0,0)=((sAt sp k).l,(sAt sp k).o):=λk hk=>by
  rw[ae,az,ju hk];rfl
 apply⟨aa ..,λk hk _=>e k hk,λk hk=>?_⟩;rw[e k hk];have:=N.all _ (fc hk);exact⟨d8 _,this.lo,d8 _⟩
def ng (sp:List Sn)(rg:List (Nat×List Stp)):List (Int×List Stp):=rg.map λq=>((sAt sp q.1).w,q.2)
structure Fx (b:Int)(tk:List Nat)(rg:List (Nat×List Stp))(bs:List (Int×Int)):Prop where
 fix:∀k∈tk,(bs.getD k (0,0)).1=(bs.getD k (0,0)).2
 alive:∀q∈rg,jA b bs q.2=false
structure FF (m:Int)(sp:List Sn)(tk:List Nat)(rg:List (Nat×List Stp)):Prop where
 acy:Pots sp tk
 few:(tk.length:Int)<m
 rk:∀q∈rg,RK sp tk q
 all:∀k,k<sp.length→k ∉ tk→∃r,(k,r)∈rg
 one:(rg.map (·.1)).Nodup
theorem low_fix {bs:List (Int×Int)}{tk:List Nat}(h:∀k∈tk,k<bs.length∧(bs.getD k (0,0)).1=(bs.getD k (0,0)).2):∀(p:List Stp),(∀s∈p,s.i∈tk∧(s.d=1∨s.d= -1))→gw bs p=alg (λk=>(bs.getD k (0,0)).1) p∧iR bs p=alg (λk=>(bs.getD k (0,0)).1) p
 | [],_=>⟨rfl,rfl⟩
 | s::p,hp=>by
  obtain⟨i1,i2⟩:=low_fix h p λt ht=>hp t (aA _ ht)
  obtain⟨h1,h2⟩:=hp s ∅;obtain⟨h3,h4⟩:=h s.i h1;have e:bs.getD s.i (0,0)=bs[s.i]:=by rw[ae,gE h3];rfl
  have e1:gw bs (s::p)=lowS bs s+gw bs p:=rfl;have e2:iR bs (s::p)=mK bs s+iR bs p:=rfl;have f1:lowS bs s=if s.d=1 then bs[s.i].1 else -bs[s.i].2:=by unfold lowS;rw[gE h3]
  have f2:mK bs s=if s.d=1 then bs[s.i].2 else -bs[s.i].1:=by unfold mK;rw[gE h3]
  rw[e] at h4;rw[e1,e2,f1,f2,i1,i2];show _=s.d * (bs.getD s.i (0,0)).1+_∧_=s.d * (bs.getD s.i (0,0)).1+_;rw[e]
  rcases h2 with d1 | d1
  ·rw[d1,rR rfl,rR rfl];lia
  ·rw[d1,rQ ↥0,rQ ↥0];lia
def pM {bs:List (Int×Int)}{q:Nat×List Stp}(h:RK sp tk q)(O:OB sp tk bs)(fix:∀k∈tk,(bs.getD k (0,0)).1=(bs.getD k (0,0)).2) :
  ∃p,q.2=⟨q.1,1⟩::p∧Pth sp tk (sAt sp q.1).g (sAt sp q.1).s p∧gw bs q.2=(sAt sp q.1).l+alg (λk=>(bs.getD k (0,0)).1) p∧iR bs q.2=(sAt sp q.1).o+alg (λk=>(bs.getD k (0,0)).1) p:=by
 obtain ⟨p,e,P⟩:=h.way;have hk:=h.lt;have l:=O.len;obtain ⟨a1,a2⟩:=low_fix (bs:=bs) (tk:=p.map Stp.i) (fun k hk'=>by
  obtain ⟨s,hs,rfl⟩:=ba.mp hk';exact ⟨by rw [l];exact (P.inn s hs).2.1,fix _ (P.inn s hs).1⟩) p fun s hs=>⟨ba.mpr ⟨s,hs,rfl⟩,(P.inn s hs).2.2⟩
 have eb:=O.out q.1 hk h.out;have hb:q.1<bs.length:=by lia
 have e0:bs.getD q.1 (0,0)=bs[q.1]:=by rw[ae,gE hb];rfl
 apply⟨p,e,P,?_,?_⟩
 ·rw[e,show gw bs (⟨q.1,1⟩::p)=lowS bs ⟨q.1,1⟩+gw bs p from rfl,a1]
  congr 1;unfold lowS;show(match bs[q.1]? with | some p=>if (1:Int)=1 then p.1 else -p.2 | none=>0)=_;rw[gE hb];show(if (1:Int)=1 then bs[q.1].1 else _)=_;rw[rR rfl,←e0,eb]
 ·rw[e,show iR bs (⟨q.1,1⟩::p)=mK bs ⟨q.1,1⟩+iR bs p from rfl,a2]
  congr 1;unfold mK;show(match bs[q.1]? with | some p=>if (1:Int)=1 then p.2 else -p.1 | none=>0)=_;rw[gE hb];show(if (1:Int)=1 then bs[q.1].2 else _)=_;rw[rR rfl,←e0,eb]
def beat_one {hi:Int}(hb:0<b)(h:upB b lo≤hi / b)(hw:hi - lo<b):upB b lo=hi / b∧lo≤b * upB b lo∧b * upB b lo≤hi:=by
 have e:=iu (-lo) b;have r0:=dh (-lo) (by lia:b≠0);have r1:=df (-lo) hb;have e':=iu hi b;have r0':=dh hi (by lia:b≠0);have r1':=df hi hb;unfold upB at h ⊢;generalize -lo / b=u at *;generalize hi / b=v at *;have m1:b * -u= -(b * u):=Int.mul_neg ..;have h2:b * -u≤b * v:=Int.mul_le_mul_of_nonneg_left h ⋯;apply⟨?_,⋯,⋯⟩
 rcases Int.lt_or_le (-u) v with c | c
 ·have:b * (-u+1)≤b * v:=Int.mul_le_mul_of_nonneg_left ⋯ ⋯
  rw[jx,Int.mul_one] at this;lia
 ·lia
theorem fx_sure {m:Int}{rg:List (Nat×List Stp)}{bs:List (Int×Int)}(N:jb b m sp)(f:FF m sp tk rg)(O:OB sp tk bs)(x:Fx b tk rg bs):LfOk b sp bs (.price (ng sp rg)):=by
 have m2:=N.m2;have fw:=f.few;have tl:tk.length≤15:=by lia
 apply⟨?_,λr hr=>?_⟩
 ·show(rg.map _).length≤40
  rw[aa];have hn:((rg.map (·.1)).map λn:Nat=>(n:Int)).Nodup:=by
   rw[b9,fP];exact(b9.mp f.one).imp λhh e=>hh ⋯
  have:=lO (l:=(rg.map (·.1)).map λn:Nat=>(n:Int)) (k:=(aG sp.length).map λn:Nat=>(n:Int)) hn λz hz=>by
   obtain⟨i,hi,rfl⟩:=ba.mp hz;obtain⟨q,hq,rfl⟩:=ba.mp hi;exact ba.mpr ⟨_,bS.mpr (f.rk q hq).lt,rfl⟩
  rw[aa,aa,aa,bb] at this;have:=N.few;lia
 ·obtain⟨q,hq,rfl⟩:=ba.mp hr
  have K:=f.rk q hq;have sn:=N.all _ (fc K.lt);apply⟨K.rg N tl,?_,by have:=sn.w0;show -1000000000000≤(sAt sp q.1).w;lia,sn.w1⟩;obtain⟨p,e,P,e1,e2⟩:=pM K O x.fix;have al:=x.alive q hq;have al:¬(upB b (gw bs q.2) > iR bs q.2 / b):=by
   unfold jA at al
   simpa using al
  show decide (upB b (gw bs q.2)=iR bs q.2 / b)=true;apply rT (beat_one (by have:=N.b1;lia) ⋯ ?_).1;have:=sn.ob;rw[e1,e2];lia
theorem alg_pot {sp:List Sn}{tk:List Nat}{y:Nat→Int}{π:Int→Int}(ht:∀i∈tk,i<sp.length)(hπ:∀i∈tk,π (sAt sp i).g - π (sAt sp i).s=y i):∀(p:List Stp) (u z:Int),(∀s∈p,s.i∈tk∧(s.d=1∨s.d= -1))→oY sp u p z→alg y p=π z - π u
 | [],u,z,_,a=>by
  have a:u=z:=a;subst a;show(0:Int)=_;lia
 | s::p,u,z,hp,a=>by
  obtain⟨a1,a2⟩:=a;have ih:=alg_pot ht hπ p _ z (λt h=>hp t (aA _ h)) a2;obtain⟨h1,h2⟩:=hp s ∅;obtain⟨f1,f2,f3,f4⟩:=qJ (ht s.i h1);have e:=hπ s.i h1;obtain⟨i,d⟩:=s
  dsimp only at e f1 f2 f3 f4
  have h2:d=1∨d= -1:=h2;show d * y i+alg y p=_;rw[ih,←a1]
  rcases h2 with rfl | rfl
  ·rw[f1,f2];show 1 * y i+_=_;lia
  ·rw[f3,f4];show -1 * y i+_=_;lia
def potT (b:Int)(π:Int→Int)(m:Nat):List Int:=(aG m).map λx:Nat=>(π (x:Nat) - π 0) % b
def potT_at {π:Int→Int}{x:Int}(h0:0≤x)(h1:x<m):tm (potT b π m) x=(π x - π 0) % b:=by
 obtain⟨n,rfl⟩:=c6 h0;unfold tm potT;rw[cA,ae,az,gY ⋯];rfl
def wait_pot {π:Int→Int}{x:Sn}(s0:0≤x.s)(s1:x.s<m)(g0:0≤x.g)(g1:x.g<m):iJ b (potT b π m) x=(π x.g - π x.s - x.l) % b:=by
 unfold iJ;rw[potT_at s0 s1,potT_at g0 g1,rest_two];congr 1;lia
def rest_in {Y l Z:Int}(h0:l≤Y)(h1:Y<l+b):(Y - b * Z - l) % b=Y - l:=by
 rw[show Y - b * Z - l=(Y - l)+b * (-Z) by rw[Int.mul_neg];lia,iU];exact fQ ⋯ ⋯
theorem sg_no {k:Nat}:∀(p:List Stp),(∀s∈p,s.i≠k)→sg k p=0
 | [],_=>rfl
 | s::p,h=>by
  show(if s.i=k then s.d else 0)+sg k p=0;rw[rQ (h s ∅),sg_no p λt ht=>h t (aA _ ht)];rfl
theorem sgR_no {sp:List Sn}{tk:List Nat}{k:Nat}(hk:k ∉ tk):∀(rg:List (Nat×List Stp)),(∀q∈rg,RK sp tk q)→k ∉ rg.map (·.1)→sgR k (ng sp rg)=0
 | [],_,_=>rfl
 | q::rg,h,hn=>by
  have ih:=sgR_no hk rg (λt ht=>h t (aA _ ht)) λz=>hn (aA _ z)
  show(sAt sp q.1).w * sg k q.2+sgR k (ng sp rg)=0;obtain⟨p,e,P⟩:=(h q ∅).way;rw[ih,e,sg_no _ λs hs=>?_,i4];rfl
  rcases aH.mp hs with rfl | hs
  ·exact λz=>hn (by show k∈q.1::_;rw[show k=q.1 from z.symm];simp)
  ·exact λz=>hk (z ▸ (P.inn s hs).1)
theorem sgR_own {sp:List Sn}{tk:List Nat}{k:Nat}(hk:k ∉ tk):∀(rg:List (Nat×List Stp)),(∀q∈rg,RK sp tk q)→(rg.map (·.1)).Nodup→k∈rg.map (·.1)→sgR k (ng sp rg)=(sAt sp k).w
 | [],_,_,h=>rS h ∅
 | q::rg,h,hn,hm=>by
  rw[bI,bw] at hn;show(sAt sp q.1).w * sg k q.2+sgR k (ng sp rg)=_;obtain⟨p,e,P⟩:=(h q ∅).way;have hp:∀s∈p,s.i≠k:=λs hs z=>hk (z ▸ (P.inn s hs).1)
  have e2:sg k q.2=if q.1=k then 1 else 0:=by
   rw[e];show(if q.1=k then (1:Int) else 0)+sg k p=_;rw[sg_no p hp,Int.add_zero]
  rw[e2]
  by_cases c:q.1=k
  ·rw[rR c,c,Int.mul_one,sgR_no hk rg (λt ht=>h t (aA _ ht)) (c ▸ hn.1),Int.add_zero]
  ·rw[rQ c,i4,fZ]
   exact sgR_own hk rg (λt ht=>h t (aA _ ht)) hn.2 ((aH.mp hm).resolve_left λz=>c z.symm)
theorem mem_allT {b:Nat}:∀(n:Nat) (ts:List Int),ts.length=n→(∀x∈ts,0≤x∧x<(b:Int))→ts∈allT b n
 | 0,ts,h,_=>by rw[g9.mp h];exact aw.mpr rfl
 | n+1,ts,h,hx=>by
  have hne:ts≠[]:=λz=>by rw[z] at h;cases h
  have e:=List.dropLast_concat_getLast hne;have hd:ts.dropLast∈allT b n:=mem_allT n _ (by rw[List.length_dropLast];lia) λx h'=>hx x ((List.dropLast_sublist _).subset h')
  obtain⟨l0,l1⟩:=hx _ (List.getLast_mem hne);obtain⟨c,hc⟩:=c6 l0;apply List.mem_flatMap.mpr ⟨ts.dropLast,hd,ba.mpr ⟨c,bS.mpr ⋯,?_⟩⟩;rw[fZ];show ts.dropLast++[((c:Nat):Int)]=ts;rw[show((c:Nat):Int)=ts.getLast hne from hc.symm];exact e
theorem tight {m:Int}{rg:List (Nat×List Stp)}{bs:List (Int×Int)}(N:jb b m sp)(f:FF m sp tk rg)(O:OB sp tk bs)(x:Fx b tk rg bs) :
  ∃ts∈allT b.toNat m.toNat,ts.getD 0 0=0∧kB b ts sp=true∧waitOfM b ts sp=worthM b sp bs (ng sp rg):=by
 have hb:0<b:=by have:=N.b1;lia
 have m1:=N.m1;obtain⟨ht1,ht2⟩:=f.acy.nodup;obtain⟨π,hπ⟩:=f.acy.pot λk=>(bs.getD k (0,0)).1
 have eW:∀k,k<sp.length→iJ b (potT b π m.toNat) (sAt sp k)=(π (sAt sp k).g - π (sAt sp k).s - (sAt sp k).l) % b:=λk hk=>by
  have s:=N.all _ (fc hk);exact wait_pot s.s0 (by have:=s.s1;lia) s.g0 (by have:=s.g1;lia)
 have key:∀k,k<sp.length→∃Y,iJ b (potT b π m.toNat) (sAt sp k)=Y - (sAt sp k).l∧(bs.getD k (0,0)).1≤Y∧Y≤(bs.getD k (0,0)).2:=λk hk=>by
  have s:=N.all _ (fc hk);have lo:=O.lo k hk
  by_cases c:k∈tk
  ·have e:=hπ k c
   have fx:=x.fix k c;apply⟨(bs.getD k (0,0)).1,?_,d8 _,⋯⟩;rw[eW k hk,show π (sAt sp k).g - π (sAt sp k).s - (sAt sp k).l=(bs.getD k (0,0)).1 - b * 0 - (sAt sp k).l by rw[i4];lia];exact rest_in lo.1 (by have:=s.ob;lia)
  ·obtain⟨r,hr⟩:=f.all k hk c
   have K:=f.rk _ hr;obtain⟨p,e,P,e1,e2⟩:=pM K O x.fix;have al:=x.alive _ hr;have al:¬(upB b (gw bs r) > iR bs r / b):=by unfold jA at al;simpa using al
   obtain ⟨_,z1,z2⟩:=beat_one hb (lo:=gw bs r) (hi:=iR bs r) ⋯ (by
    have e1:gw bs r=_:=e1;have e2:iR bs r=_:=e2;have:=s.ob;rw [e1,e2];show (sAt sp k).o+_ - ((sAt sp k).l+_)<b;lia)
   have ea:=alg_pot ht2 hπ p _ _ (λs hs=>⟨(P.inn s hs).1,(P.inn s hs).2.2⟩) P.alo;have e1:gw bs r=(sAt sp k).l+alg (λk=>(bs.getD k (0,0)).1) p:=e1;have e2:iR bs r=(sAt sp k).o+alg (λk=>(bs.getD k (0,0)).1) p:=e2;have ea:alg (λk=>(bs.getD k (0,0)).1) p=π (sAt sp k).s - π (sAt sp k).g:=ea;have eo:=O.out k hk c;rw[eo];apply⟨b * upB b (gw bs r) - alg (λk=>(bs.getD k (0,0)).1) p,?_,by show(sAt sp k).l≤_;lia,by show _≤(sAt sp k).o;lia⟩;rw[eW k hk];have hs:=s.ob;have:=rest_in (b:=b) (Y:=b * upB b (gw bs r) - alg (λk=>(bs.getD k (0,0)).1) p) (l:=(sAt sp k).l) (Z:=upB b (gw bs r)) ⋯ ⋯;rw[←this];congr 1;lia
 have lay:∀k,k<sp.length→ke b (potT b π m.toNat) sp k=(sAt sp k).l+iJ b (potT b π m.toNat) (sAt sp k):=λk hk=>by
  unfold ke;rw[ju hk]
 have hin:InB (ke b (potT b π m.toNat) sp) bs:=λk hk=>by
  have hk:k<sp.length:=by rw[←O.len];exact hk
  obtain⟨Y,e,y1,y2⟩:=key k hk;rw[lay k hk,e]
  constructor <;> lia
 apply⟨potT b π m.toNat,mem_allT _ _ (by unfold potT;rw[aa,bb]) (λz hz=>?_),?_,?_,?_⟩
 ·obtain⟨i,_,rfl⟩:=ba.mp hz
  have h0:=dh (π (i:Nat) - π 0) (by lia:b≠0);have h1:=df (π (i:Nat) - π 0) hb;exact⟨h0,⋯⟩
 ·have:=potT_at (b:=b) (π:=π) (m:=m.toNat) (x:=0) (d8 0) ⋯
  rw[Int.sub_self,Int.zero_emod] at this;exact this
 ·unfold kB
  rw[iA,ir];intro s hs;obtain⟨k,hk,rfl⟩:=bK hs;have eA:sAt sp k=sp[k]:=by unfold sAt;rw[ae,gE hk];rfl
  obtain⟨Y,e,y1,y2⟩:=key k hk;have:=(O.lo k hk).2.2;rw[eA] at e this;unfold brk;rw[rV ⋯];exact bc
 ·have rok:∀r∈ng sp rg,RowOk b sp bs r:=(fx_sure N f O x).2
  have rw1:∀r∈ng sp rg,RwOk sp.length r:=λr hh=>by
   have q:=rok r hh;exact⟨q.1.inn,q.1.one,q.1.few,q.2.2.1,q.2.2.2⟩
  have e1:=rows_in hb O.len hin _ rok;have e2:=sum_sgR (y:=ke b (potT b π m.toNat) sp) (n:=sp.length) (ng sp rg) λr hh s hs=>((rw1 r hh).inn s hs).1
  unfold worthM;rw[qZ,←e1,←e2,wait_sum,←o9];apply kx _ λk hk=>?_
  unfold termW;have eo:=owK_sg hk rw1;have hl:=hin k (by rw[O.len];exact hk);have ew:wOf sp k=(sAt sp k).w:=by unfold wOf;rw[ju hk]
  have keyo:owK sp (ng sp rg) k * (if owK sp (ng sp rg) k<0 then (bs.getD k (0,0)).2 else (bs.getD k (0,0)).1)=owK sp (ng sp rg) k * ke b (potT b π m.toNat) sp k:=by
   by_cases c:k∈tk
   ·have fx:=x.fix k c
    have e:ke b (potT b π m.toNat) sp k=(bs.getD k (0,0)).1:=by lia
    rw[e];split
    ·rw[←fx]
    ·rfl
   ·have z:owK sp (ng sp rg) k=0:=by
     obtain⟨r,hr⟩:=f.all k hk c;rw[eo,ew,sgR_own c rg f.rk f.one (ba.mpr ⟨_,hr,rfl⟩),Int.sub_self]
    rw[z,gJ,gJ]
  have ex:owK sp (ng sp rg) k * ke b (potT b π m.toNat) sp k=wOf sp k * ke b (potT b π m.toNat) sp k - sgR k (ng sp rg) * ke b (potT b π m.toNat) sp k:=by rw[eo,Int.sub_mul]
  lia
def jo (m:Nat)(sp:List Sn)(l:List Nat):Prop:=oK m sp (l.map λ(i:Nat)=>(i:Int))∧∃π,Ordd sp π∧l.Perm (kX sp m π).2
theorem qi:∀{l k:List Nat},l.map (λ(i:Nat)=>(i:Int))=k.map (λ(i:Nat)=>(i:Int))→l=k
 | [],[],_=>rfl
 | [],_::_,h=>by cases h
 | _::_,[],h=>by cases h
 | a::l,b::k,h=>by
  rw[bI,bI] at h;injection h with h1 h2
  have h1:a=b:=by lia
  rw[h1,qi h2]
def jo.one {k:List Nat}(a:jo m sp l)(b:jo m sp k):l=k:=qi (oK.one a.1 b.1)
def jo.gd (E:kQ m sp)(a:jo m sp l):∃gs tk,Gd m sp gs tk∧l.Perm tk∧∀i,i<sp.length→tm gs (sAt sp i).s=tm gs (sAt sp i).g:=by
 obtain⟨_,π,O,pm⟩:=a;apply⟨(kX sp m π).1,(kX sp m π).2,Gd.fold E π _ _ (λi hi=>O.lt hi) (Gd.start m sp),pm,λi hi=>?_⟩;exact lH E π (j4 m) [] (kg _) (λi hi=>O.lt hi) i (O.1.mem_iff.mpr (bS.mpr hi))
def jo.pots (E:kQ m sp)(a:jo m sp l):Pots sp l:=by
 obtain⟨gs,tk,g,p,_⟩:=a.gd E;exact g.acy.pots.perm p
def jo.few (E:kQ m sp)(h:0<m)(a:jo m sp l):l.length<m:=by
 obtain⟨gs,tk,g,p,_⟩:=a.gd E;rw[p.length_eq];exact g.few h
def jo.held (E:kQ m sp)(a:jo m sp l){k:Nat}(hk:k<sp.length):rO sp l (sAt sp k).s (sAt sp k).g:=by
 obtain⟨gs,tk,g,p,me⟩:=a.gd E;obtain⟨s0,s1,g0,g1⟩:=E _ (fc hk);exact(g.held _ _ s0 s1 g0 g1 (me k hk)).more λi hi=>p.mem_iff.mpr hi
def pX (sp:List Sn)(tk:List Nat):List Nat:=(aG sp.length).filter λk=> !(decide (k∈tk))
structure FR (m:Int)(sp:List Sn)(l:List Nat)(rg:List (Nat×List Stp)):Prop where
 fr:jo m.toNat sp l
 rk:∀q∈rg,RK sp l q
 ks:rg.map (·.1)=pX sp l
theorem FR.ff {m:Int}{rg:List (Nat×List Stp)}(N:jb b m sp)(a:FR m sp l rg):FF m sp l rg:=by
 have m1:=N.m1;apply⟨a.fr.pots N.ends,by have:=a.fr.few N.ends ⋯;lia,a.rk,λk hk hn=>?_,?_⟩
 ·have:k∈rg.map (·.1):=by
   rw[a.ks];exact bX.mpr ⟨bS.mpr hk,by rw[rV hn];rfl⟩
  obtain⟨q,hq,rfl⟩:=ba.mp this;exact⟨q.2,hq⟩
 ·rw[a.ks]
  exact List.nodup_range.filter _
def wayQ (q:Nat×List Stp):Dt:=oU q.2
def iS (k:Nat)(q:Nat×List Stp):Bool:=decide (k∈q.2.map Stp.i)
def Tb.lamT {T:aq}(h:L2.LamT T lp lq H)(e:L2.Tb T H H'):kK H H':=Tb.tupK (LamT.tbl h) e
inductive spRingsO (T:aq)(lp:Pos)(lq:Str)(vs:List V)(H:Hp)(Q:VK)(_:XK):Prop
 | mk (v:V)(b m:Int)(sp:List Sn)(_:vs=[v])(_:IsD H v (jv b m sp))(_:jb b m sp)(_:L2.LamT T lp lq H)(_:∀(L:aq) (rl:List V) (l:List Nat) (rg:List (Nat×List Stp)) (H':Hp),L2.Tb T H H'→L2.LamT T lp lq H'→H L=none→H' L=some (.lst rl)→eM H' rl (rg.map wayQ)→FR m sp l rg→Q (.ref L) H')
inductive spOverR (vs:List V)(H:Hp)(Q:VK)(_:XK):Prop
 | mk (u:aq)(k:Nat)(rl:List V)(rg:List (Nat×List Stp))(_:vs=[.ref u,.int (k:Nat)])(_:H u=some (.lst rl))(_:eM H rl (rg.map wayQ))(_:rg.length≤40)(_:(∀q∈rg,q.2.length≤1000))(_:∀(L:aq) (rl':List V) (H':Hp),bD H H'→H L=none→H' L=some (.lst rl')→eM H' rl' ((rg.filter (iS k)).map wayQ)→Q (.ref L) H')
structure CsD (H:Hp)(c:aq)(bs:List (Int×Int))(rs:List (Nat×List Stp)):Prop where
 ex:∃vb u rl,H c=some (.tup [vb,.ref u])∧IsD H vb (bndP bs)∧H u=some (.lst rl)∧eM H rl (rs.map wayQ)
def CsD.same {c:aq}{bs:List (Int×Int)}(a:CsD H c bs rs)(e:bD H H'):CsD H' c bs rs:=by
 obtain⟨vb,u,rl,h1,h2,h3,h4⟩:=a.ex;exact⟨vb,u,rl,e _ _ h1,h2.same e,e _ _ h3,h4.same e⟩
inductive spMid (vs:List V)(H:Hp)(Q:VK)(_:XK):Prop
 | mk (c:aq)(k:Nat)(bs:List (Int×Int))(rs:List (Nat×List Stp))(_:vs=[.ref c,.int (k:Nat)])(_:CsD H c bs rs)(_:k<bs.length)(_:Q (.int (((bs.getD k (0,0)).1+(bs.getD k (0,0)).2) / 2)) H)
inductive spDeadL (vs:List V)(H:Hp)(Q:VK)(_:XK):Prop
 | mk (v:V)(c:aq)(b m:Int)(sp:List Sn)(bs:List (Int×Int))(rs:List (Nat×List Stp))(_:vs=[v,.ref c])(_:IsD H v (jv b m sp))(_:0<b)(_:b<10 ^ 61)(_:CsD H c bs rs)(_:rs.length≤40)(_:(∀q∈rs,qV bs.length q.2))(_:∀r H',bD H H'→((r= .non∧∀q∈rs,jA b bs q.2=false)∨∃q∈rs,IsD H' r (leafP (.ring q.2))∧jA b bs q.2=true)→Q r H')
inductive Spr (sp:List Sn):List Stp→Prop where
 | nil:Spr sp []
 | snoc {S:List Stp} {s:Stp} (h:Spr sp S) (n:fb sp s≠kY sp s) (o:∀t∈S,fb sp s≠fb sp t∧fb sp s≠kY sp t):Spr sp (S++[s])
structure SI (m:Nat)(sp:List Sn)(tk:List Nat)(ex:Int→Prop)(R A:List Int)(S:List Stp):Prop where
 rng:∀r∈R,0≤r∧r<(m:Int)
 nd:R.Nodup
 ahd:∀a∈A,a∈R
 inn:∀s∈S,s.i∈tk∧(s.d=1∨s.d= -1)∧kY sp s∈R∧fb sp s∈R
 spr:Spr sp S
 len:S.length≤R.length
 clo:∀z∈R,z ∉ A→¬ex z→∀s∈dE sp tk z,s.i∈S.map Stp.i
 con:∀π:Int→Int,(∀s∈S,π (kY sp s)=π (fb sp s))→∀a c,(a∈A∨ex a)→(c∈A∨ex c)→π a=π c
def exN:Int→Prop:=λ_=>False
section
variable {A:List Int}
def SI.start:SI m sp tk exN [] [] [] :=
 ⟨λ_ h=>(by cases h),jI,λ_ h=>(by cases h),λ_ h=>(by cases h),.nil,aB _,λ_ h=>(by cases h),λ_ _ a c h=>(by rcases h with h | h;cases h;cases h)⟩
def SI.root {x:Int}(h:SI m sp tk exN R [] S)(hx:x ∉ R)(x0:0≤x)(x1:x<(m:Int)):SI m sp tk exN (R++[x]) [x] S:=by
 apply⟨λr hr=>?_,il.mpr ⟨h.nd,∅,λa ha c hc e=>?_⟩,λa ha=>aE _ ha,λs hs=>?_,h.spr,by rw[av];exact Nat.le_succ_of_le h.len,λz hz hn ex=>?_,λπ _ a c ha hc=>?_⟩
 ·rcases aI.mp hr with z | z
  ·exact h.rng r z
  ·rw[aw.mp z];exact⟨x0,x1⟩
 ·rw[aw.mp hc] at e
  exact hx (e ▸ ha)
 ·obtain⟨a,b,c,d⟩:=h.inn s hs
  exact⟨a,b,aJ _ c,aJ _ d⟩
 ·rcases aI.mp hz with y | y
  ·exact h.clo z y ∅ ex
  ·exact rS y hn
 ·rcases ha with ha | ha
  ·rcases hc with hc | hc
   ·rw[aw.mp ha,aw.mp hc]
   ·exact hc.elim
  ·exact ha.elim
def SI.pop {x:Int}(h:SI m sp tk exN R (A++[x]) S):SI m sp tk (· =x) R A S∧x∈R:=by
 apply⟨⟨h.rng,h.nd,λa ha=>h.ahd a (aJ _ ha),h.inn,h.spr,h.len,λz hz hn ex=>?_,λπ hπ a c ha hc=>?_⟩,h.ahd x ∅⟩
 ·apply h.clo z hz (λy=>?_) id
  rcases aI.mp y with y | y
  ·exact hn y
  ·exact ex (aw.mp y)
 ·have up:∀a:Int,(a∈A∨a=x)→a∈A++[x]∨exN a:=λa ha=> .inl (ha.elim (λz=>aJ _ z) λz=>by rw[z];simp)
  exact h.con π hπ a c (up a ha) (up c hc)
def ow {x:Int}{s:Stp}(h:s∈dE sp tk x):(s.i∈tk∧(s.d=1∨s.d= -1))∧kY sp s=x :=
 ⟨mem_stF (bX.mp h).1,rW (bX.mp h).2⟩
def pO {x:Int}(h:i∈tk)(hd:d=1∨d= -1)(e:kY sp ⟨i,d⟩=x):(⟨i,d⟩:Stp)∈dE sp tk x:=by
 apply bX.mpr ⟨?_,rT e⟩;unfold stF
 rcases hd with rfl | rfl
 ·exact aJ _ (ba.mpr ⟨i,h,rfl⟩)
 ·exact aE _ (ba.mpr ⟨i,h,rfl⟩)
def SI.add {x:Int}{s:Stp}(E:kQ m sp)(ht:∀i∈tk,i<sp.length)(h:SI m sp tk (· =x) R A S)(hx:x∈R)(hs:s∈dE sp tk x)(hn:fb sp s ∉ R):SI m sp tk (· =x) (R++[fb sp s]) (A++[fb sp s]) (S++[s]):=by
 obtain⟨⟨h1,h2⟩,h3⟩:=ow hs;apply⟨λr hr=>?_,il.mpr ⟨h.nd,∅,λa ha c hc e=>?_⟩,λa ha=>?_,λt hT=>?_,.snoc h.spr (λz=>hn (by rw[z,h3];exact hx)) (λt hT=>⟨λz=>hn (by rw[z];exact(h.inn t hT).2.2.2),λz=>hn (by rw[z];exact(h.inn t hT).2.2.1)⟩),by rw[av,av];exact Nat.succ_le_succ h.len,λz hz hz' ex t hT=>?_,λπ hπ=>?_⟩
 ·rcases aI.mp hr with z | z
  ·exact h.rng r z
  ·rw[aw.mp z];exact jC E (ht _ h1)
 ·rw[aw.mp hc] at e
  exact hn (e ▸ ha)
 ·rcases aI.mp ha with z | z
  ·exact aJ _ (h.ahd a z)
  ·exact aE _ z
 ·rcases aI.mp hT with z | z
  ·obtain⟨a,b,c,d⟩:=h.inn t z
   exact⟨a,b,aJ _ c,aJ _ d⟩
  ·rw[aw.mp z]
   exact⟨h1,h2,aJ _ (h3 ▸ hx),∅⟩
 ·rw[aD]
  apply aJ _ ?_
  rcases aI.mp hz with y | y
  ·exact h.clo z y (λy'=>hz' (aJ _ y')) ex t hT
  ·exact rS (aE _ y) hz'
 ·have old:∀t∈S,π (kY sp t)=π (fb sp t):=λt hT=>hπ t (aJ _ hT)
  have new:π (fb sp s)=π x:=by rw[←hπ s ∅,h3]
  have one:∀a:Int,(a∈A++[fb sp s]∨a=x)→π a=π x:=λa ha=>by
   rcases ha with ha | ha
   ·rcases aI.mp ha with z | z
    ·exact h.con π old a x (.inl z) (.inr rfl)
    ·rw[aw.mp z,new]
   ·rw[ha]
  exact λa c ha hc=>(one a ha).trans (one c hc).symm
def SI.has {x:Int}{s:Stp}(P:Pots sp tk)(ne:∀i∈tk,(sAt sp i).s≠(sAt sp i).g)(h:SI m sp tk (· =x) R A S)(hs:s∈dE sp tk x)(hn:fb sp s∈R):s.i∈S.map Stp.i:=by
 obtain⟨⟨h1,h2⟩,h3⟩:=ow hs;have lt:=P.nodup.2 _ h1;obtain⟨f1,f2,f3,f4⟩:=qJ lt;have hne:=ne _ h1;obtain⟨i,d⟩:=s;have h2:d=1∨d= -1:=h2;show i∈_;have h1:i∈tk:=h1;have f1:kY sp ⟨i,1⟩=(sAt sp i).s:=f1;have f2:fb sp ⟨i,1⟩=(sAt sp i).g:=f2;have f3:kY sp ⟨i,-1⟩=(sAt sp i).g:=f3;have f4:fb sp ⟨i,-1⟩=(sAt sp i).s:=f4;have hne:(sAt sp i).s≠(sAt sp i).g:=hne
 by_cases c:fb sp ⟨i,d⟩∈A
 ·apply eZ λno=>?_
  obtain⟨π,hπ⟩:=P.pot λk=>if k=i then 1 else 0
  have e:=h.con π (fun t hT=>by
   obtain⟨t1,t2,_⟩:=h.inn t hT;have e:=hπ _ t1;rw[rQ (λz=>no (ba.mpr ⟨t,hT,z⟩))] at e;obtain⟨g1,g2,g3,g4⟩:=qJ (P.nodup.2 _ t1);obtain⟨j,dj⟩:=t;have t2:dj=1∨dj= -1:=t2
   dsimp only at e g1 g2 g3 g4
   rcases t2 with rfl | rfl
   ·rw[g1,g2];lia
   ·rw [g3,g4];lia) _ x (.inl c) (.inr rfl)
  have y:=hπ i h1;rw[rR rfl] at y;rw[←h3] at e
  rcases h2 with rfl | rfl
  ·rw[f1,f2] at e
   dsimp only at e y
   lia
  ·rw[f3,f4] at e
   dsimp only at e y
   lia
 ·rcases h2 with rfl | rfl
  ·rw[f2] at hn c
   exact h.clo _ hn c (λz=>hne (by rw[←f1,h3];exact z.symm)) ⟨i,-1⟩ (pO h1 (.inr rfl) f3)
  ·rw[f4] at hn c
   exact h.clo _ hn c (λz=>hne (by rw[←f3,h3];exact z)) ⟨i,1⟩ (pO h1 (.inl rfl) f1)
def SI.done {x:Int}(h:SI m sp tk (· =x) R A S)(a:∀s∈dE sp tk x,s.i∈S.map Stp.i):SI m sp tk exN R A S:=by
 apply⟨h.rng,h.nd,h.ahd,h.inn,h.spr,h.len,λz hz hn _=>?_,λπ hπ a c ha hc=>h.con π hπ a c (.inl (ha.elim id cR)) (.inl (hc.elim id cR))⟩
 by_cases e:z=x
 ·rw[e];exact a
 ·exact h.clo z hz hn e
theorem SI.few (h:SI m sp tk exN R A S):R.length≤m:=by
 have:=lO (k:=(aG m).map λi:Nat=>(i:Int)) h.nd λx hx=>by
  obtain⟨a,b⟩:=h.rng x hx;exact ba.mpr ⟨x.toNat,bS.mpr ⋯,⋯⟩
 rwa [aa,bb] at this
theorem SI.fewX {x:Int}(h:SI m sp tk (· =x) R A S):R.length≤m:=by
 have:=lO (k:=(aG m).map λi:Nat=>(i:Int)) h.nd λx hx=>by
  obtain⟨a,b⟩:=h.rng x hx;exact ba.mpr ⟨x.toNat,bS.mpr ⋯,⋯⟩
 rwa [aa,bb] at this
end
structure SprOk (m:Nat)(sp:List Sn)(tk:List Nat)(S:List Stp):Prop where
 spr:Spr sp S
 inn:∀s∈S,s.i∈tk∧(s.d=1∨s.d= -1)
 all:∀i∈tk,i∈S.map Stp.i
 len:S.length≤m
theorem SI.ok (E:kQ m sp)(ht:∀i∈tk,i<sp.length)(h:SI m sp tk exN R [] S)(a:∀x:Nat,x<m→(x:Int)∈R):SprOk m sp tk S:=by
 apply⟨h.spr,λs hs=>⟨(h.inn s hs).1,(h.inn s hs).2.1⟩,λi hi=>?_,aQ h.len h.few⟩;obtain⟨s0,s1,_,_⟩:=E _ (fc (ht i hi));obtain⟨f1,_⟩:=qJ (ht i hi);have:=a (sAt sp i).s.toNat ⋯;rw[show(((sAt sp i).s.toNat:Nat):Int)=(sAt sp i).s by lia] at this;exact h.clo _ this ∅ id ⟨i,1⟩ (pO hi (.inl rfl) f1)
def setT (sp:List Sn)(y:Nat→Int)(ts:List Int)(s:Stp):List Int:=ts.set (fb sp s).toNat (tm ts (kY sp s)+s.d * y s.i)
def ku (sp:List Sn)(y:Nat→Int)(m:Nat)(S:List Stp):List Int:=S.foldl (setT sp y) (bx m 0)
theorem mM {sp:List Sn}{y:Nat→Int}{m:Nat}:∀(S:List Stp) (ts:List Int),(S.foldl (setT sp y) ts).length=ts.length
 | [],_=>rfl
 | s::S,ts=>by
  rw[bQ,mM (m:=m) S];exact eI
theorem mS {x v:Int}(x0:0≤x)(x1:x<ts.length)(z0:0≤z):tm (ts.set x.toNat v) z=if z=x then v else tm ts z:=by
 unfold tm;rw[ae,ae]
 by_cases e:z=x
 ·rw[rR e,e,dM ⋯];rfl
 ·rw[rQ e,dH ⋯]
def nI {s:Stp}(h:s.i<sp.length):too (sAt sp s.i) s.d=fb sp s∧frm (sAt sp s.i) s.d=kY sp s:=by
 have e:sAt sp s.i=sp[s.i]:=by unfold sAt;rw[ae,gE h];rfl
 rw[e];exact⟨(lM h).symm,(nu h).symm⟩
theorem timesS_ok {y:Nat→Int}(E:kQ m sp)(h:Spr sp S):(∀s∈S,s.i<sp.length)→∀s∈S,tm (ku sp y m S) (fb sp s)=tm (ku sp y m S) (kY sp s)+s.d * y s.i:=by
 induction h with
 | nil=>exact λ_ s hs=>by cases hs
 | snoc h n o ih =>
  rename_i S s;intro hl t ht;have hl':∀t∈S,t.i<sp.length:=λt h'=>hl t (aJ _ h')
  have frm_rng:∀t:Stp,t.i<sp.length→0≤kY sp t:=λt h'=>by
   have e:=(nI h').2;obtain⟨a,b,c,d⟩:=E _ (fc h');rw[←e];unfold frm;split <;> lia
  have e:ku sp y m (S++[s])=setT sp y (ku sp y m S) s:=by unfold ku;rw[cG];rfl
  have hs:s.i<sp.length:=hl s ∅;obtain⟨x0,x1⟩:=jC E hs;have len:(ku sp y m S).length=m:=by unfold ku;rw[mM (m:=m),eC]
  rw[e];unfold setT
  rcases aI.mp ht with z | z
  ·rw[mS x0 ⋯ (jC E (hl' t z)).1,mS x0 ⋯ (frm_rng t (hl' t z)),rQ (λq=>(o t z).1 q.symm),rQ (λq=>(o t z).2 q.symm)]
   exact ih hl' t z
  ·rw[aw.mp z,mS x0 ⋯ x0,mS x0 ⋯ (frm_rng s hs),rR rfl,rQ (λq=>n q.symm)]
def SprOk.pot (E:kQ m sp)(ht:∀i∈tk,i<sp.length)(h:SprOk m sp tk S)(y:Nat→Int):∀i∈tk,tm (ku sp y m S) (sAt sp i).g - tm (ku sp y m S) (sAt sp i).s=y i:=λi hi=>by
 obtain⟨s,hs,rfl⟩:=ba.mp (h.all i hi);have e:=timesS_ok (y:=y) E h.spr (λt hT=>ht _ (h.inn t hT).1) s hs;obtain⟨f1,f2,f3,f4⟩:=qJ (ht _ hi);have hd:=(h.inn s hs).2;obtain⟨i,d⟩:=s
 dsimp only at e f1 f2 f3 f4 hd ⊢
 rcases hd with rfl | rfl
 ·rw[f1,f2] at e;lia
 ·rw[f3,f4] at e;lia
def lowB (bs:List (Int×Int))(k:Nat):Int:=(bs.getD k (0,0)).1
def tabOf (b:Int)(sp:List Sn)(bs:List (Int×Int))(m:Nat)(S:List Stp):List Int:=(ku sp (lowB bs) m S).map (· % b)
abbrev Cse:=List (Int×Int)×List (Nat×List Stp)
def wdB (bs:List (Int×Int))(k:Nat):Nat:=((bs.getD k (0,0)).2 - (bs.getD k (0,0)).1+1).toNat
def prdN:List Nat→Nat
 | []=>1
 | x::l=>x * prdN l
def fG (bs:List (Int×Int))(l:List Nat):Nat:=prdN (l.map (wdB bs))
theorem nR {f g:Nat→Nat}:∀(l:List Nat),(∀j∈l,f j=g j)→prdN (l.map f)=prdN (l.map g)
 | [],_=>rfl
 | j::l,h=>by
  show f j * _=g j * _;rw[h j ∅,nR l λi hi=>h i (aA _ hi)]
theorem rF {f g h:Nat→Nat}{k:Nat}(e:f k=g k+h k):∀(l:List Nat),l.Nodup→k∈l→(∀j∈l,j≠k→f j=g j∧f j=h j)→prdN (l.map f)=prdN (l.map g)+prdN (l.map h)
 | [],_,hk,_=>rS hk ∅
 | j::l,nd,hk,hh=>by
  rw[bw] at nd;show f j * _=g j * _+h j * _
  by_cases c:j=k
  ·subst c
   have ne:∀i∈l,i≠j:=λi hi z=>nd.1 (z ▸ hi)
   rw[←nR (f:=f) (g:=g) l λi hi=>(hh i (aA _ hi) (ne i hi)).1,←nR (f:=f) (g:=h) l λi hi=>(hh i (aA _ hi) (ne i hi)).2,e,Nat.add_mul]
  ·obtain⟨a1,a2⟩:=hh j ∅ c
   rw[rF e l nd.2 ((aH.mp hk).resolve_left λz=>c z.symm) λi hi=>hh i (aA _ hi),Nat.mul_add,←a1,←a2]
theorem prdN_pos {f:Nat→Nat}:∀(l:List Nat),(∀j∈l,0<f j)→0<prdN (l.map f)
 | [],_=>Nat.one_pos
 | j::l,h=>Nat.mul_pos (h j ∅) (prdN_pos l λi hi=>h i (aA _ hi))
theorem jg {bs:List (Int×Int)}(O:OB sp l bs)(hl:∀k∈l,k<sp.length):0<fG bs l:=prdN_pos l λj hj=>by
 have:=O.lo j (hl j hj);unfold wdB;lia
theorem nh {bs:List (Int×Int)}{k:Nat}{a:Int}(O:OB sp l bs)(nd:l.Nodup)(hl:∀k∈l,k<sp.length)(hk:k∈l)(h1:(bs.getD k (0,0)).1≤a)(h2:a<(bs.getD k (0,0)).2):fG bs l=fG (kZ bs k a) l+fG (d7 bs k a) l:=by
 have hb:=O.len;have hkl:=hl k hk;apply rF ?_ l nd hk λj hj hn=>?_
 ·unfold wdB kZ d7
  rw[iV ⋯,iV ⋯,rR rfl,rR rfl];show _=(a - _+1).toNat+(_ - (a+1)+1).toNat;lia
 ·have hjl:=hl j hj
  unfold wdB kZ d7;rw[iV ⋯,iV ⋯,rQ (cK hn),rQ (cK hn)];exact⟨rfl,rfl⟩
theorem lV {sp:List Sn}:∀(l:List Nat),(∀k∈l,k<sp.length)→(∀x∈sp,x.l≤x.o)→((fG (sp.map λx=>(x.l,x.o)) l:Nat):Int)=kd sp l
 | [],_,_=>rfl
 | k::l,h,p=>by
  have ih:=lV l (λj hj=>h j (aA _ hj)) p;rw[oA,←ih];show((wdB _ k * fG _ l:Nat):Int)=_;have hk:=h k ∅;have e:(sp.map λx=>(x.l,x.o)).getD k (0,0)=((sAt sp k).l,(sAt sp k).o):=by rw[ae,az,ju hk];rfl
  have q:=p _ (fc hk);have e2:((wdB (sp.map λx=>(x.l,x.o)) k:Nat):Int)=(wkey sp k).1+1:=by
   unfold wdB;rw[e];show(((sAt sp k).o - (sAt sp k).l+1).toNat:Int)=(sAt sp k).o - (sAt sp k).l+1;lia
  rw[←e2];exact Int.natCast_mul _ _
structure jU (b:Int)(sp:List Sn)(l:List Nat)(rg:List (Nat×List Stp))(c:Cse):Prop where
 ob:OB sp l c.1
 sub:∀q∈c.2,q∈rg
 few:c.2.length≤40
 alive:∀q∈rg,q ∉ c.2→jA b c.1 q.2=false
theorem low_set {bs:List (Int×Int)}{k:Nat}{x:Int×Int}:∀(ws:List Stp),k ∉ ws.map Stp.i→gw (bs.set k x) ws=gw bs ws∧iR (bs.set k x) ws=iR bs ws
 | [],_=>⟨rfl,rfl⟩
 | s::ws,h=>by
  obtain⟨i1,i2⟩:=low_set (x:=x) ws λz=>h (aA _ z)
  have hs:k≠s.i:=λz=>h (by rw[z];simp)
  have e:(bs.set k x)[s.i]? =bs[s.i]? := dH hs
  constructor
  ·show lowS _ s+gw _ ws=lowS _ s+gw _ ws
   rw[i1];congr 1;unfold lowS;rw[e]
  ·show mK _ s+iR _ ws=mK _ s+iR _ ws
   rw[i2];congr 1;unfold mK;rw[e]
def dead_set {bs:List (Int×Int)}{k:Nat}{x:Int×Int}{q:Nat×List Stp}(h:iS k q=false):jA b (bs.set k x) q.2=jA b bs q.2:=by
 obtain⟨a1,a2⟩:=low_set (bs:=bs) (x:=x) q.2 (of_decide_eq_false h);unfold jA;rw[a1,a2]
def jU.cut {rg:List (Nat×List Stp)}{c:Cse}(C:jU b sp l rg c)(lrg:rg.length≤40)(hl:∀k∈l,k<sp.length)(al:∀q∈c.2,jA b c.1 q.2=false){k:Nat}{a:Int}(hk:k∈l)(h1:(c.1.getD k (0,0)).1≤a)(h2:a<(c.1.getD k (0,0)).2) :
  jU b sp l rg (d7 c.1 k a,rg.filter (iS k))∧jU b sp l rg (kZ c.1 k a,rg.filter (iS k)):=by
 have sub:∀q∈rg.filter (iS k),q∈rg:=λq hq=>(bX.mp hq).1
 have few:(rg.filter (iS k)).length≤40:=aQ (cw _ _) lrg;have all:∀q∈rg,jA b c.1 q.2=false:=λq hq=>by
  by_cases z:q∈c.2
  ·exact al q z
  ·exact C.alive q hq z
 have out:∀q∈rg,q ∉ rg.filter (iS k)→iS k q=false:=λq hq hn=>jM.mpr λz=>hn (bX.mpr ⟨hq,z⟩)
 exact⟨⟨C.ob.other hk (hl k hk) h1 h2,sub,few,λq hq hn=>(dead_set (out q hq hn)).trans (all q hq)⟩,⟨C.ob.one hk (hl k hk) h1 h2,sub,few,λq hq hn=>(dead_set (out q hq hn)).trans (all q hq)⟩⟩
def dead_none {bs:List (Int×Int)}(hb:0<b)(hl:bs.length=sp.length)(h:InB (ke b ts sp) bs)(hr:Rg sp ws):jA b bs ws=false:=by
 obtain⟨Z,_,z1,z2⟩:=ring_in hb hl h hr;unfold jA;exact rV ⋯
theorem key_pot {m:Int}{rg:List (Nat×List Stp)}{bs:List (Int×Int)}(N:jb b m sp)(f:FF m sp tk rg)(O:OB sp tk bs)(x:Fx b tk rg bs){π:Int→Int}(hπ:∀i∈tk,π (sAt sp i).g - π (sAt sp i).s=(bs.getD i (0,0)).1)
  (eW:∀k,k<sp.length→iJ b ts (sAt sp k)=(π (sAt sp k).g - π (sAt sp k).s - (sAt sp k).l) % b):∀k,k<sp.length→(bs.getD k (0,0)).1≤ke b ts sp k∧ke b ts sp k≤(bs.getD k (0,0)).2:=λk hk=>by
 have hb:0<b:=by have:=N.b1;lia
 obtain⟨ht1,ht2⟩:=f.acy.nodup;have s:=N.all _ (fc hk);have lo:=O.lo k hk;have lay:ke b ts sp k=(sAt sp k).l+iJ b ts (sAt sp k):=by unfold ke;rw[ju hk]
 rw[lay];have fin:∀Y,iJ b ts (sAt sp k)=Y - (sAt sp k).l→(bs.getD k (0,0)).1≤Y→Y≤(bs.getD k (0,0)).2→(bs.getD k (0,0)).1≤(sAt sp k).l+iJ b ts (sAt sp k)∧(sAt sp k).l+iJ b ts (sAt sp k)≤(bs.getD k (0,0)).2:=λY e y1 y2=>by lia
 by_cases c:k∈tk
 ·have e:=hπ k c
  have fx:=x.fix k c;apply fin (bs.getD k (0,0)).1 ?_ (d8 _) ⋯;rw[eW k hk,show π (sAt sp k).g - π (sAt sp k).s - (sAt sp k).l=(bs.getD k (0,0)).1 - b * 0 - (sAt sp k).l by rw[i4];lia];exact rest_in lo.1 (by have:=s.ob;lia)
 ·obtain⟨r,hr⟩:=f.all k hk c
  have K:=f.rk _ hr;obtain⟨p,e,P,e1,e2⟩:=pM K O x.fix;have al:=x.alive _ hr;have al:¬(upB b (gw bs r) > iR bs r / b):=by unfold jA at al;simpa using al
  obtain ⟨_,z1,z2⟩:=beat_one hb (lo:=gw bs r) (hi:=iR bs r) ⋯ (by
   have e1:gw bs r=_:=e1;have e2:iR bs r=_:=e2;have:=s.ob;rw [e1,e2];show (sAt sp k).o+_ - ((sAt sp k).l+_)<b;lia)
  have ea:=alg_pot ht2 hπ p _ _ (λs hs=>⟨(P.inn s hs).1,(P.inn s hs).2.2⟩) P.alo;have e1:gw bs r=(sAt sp k).l+alg (λk=>(bs.getD k (0,0)).1) p:=e1;have e2:iR bs r=(sAt sp k).o+alg (λk=>(bs.getD k (0,0)).1) p:=e2;have ea:alg (λk=>(bs.getD k (0,0)).1) p=π (sAt sp k).s - π (sAt sp k).g:=ea;have eo:=O.out k hk c;rw[eo] at fin ⊢;apply fin (b * upB b (gw bs r) - alg (λk=>(bs.getD k (0,0)).1) p) ?_ (by show(sAt sp k).l≤_;lia) (by show _≤(sAt sp k).o;lia);rw[eW k hk];have hs:=s.ob;have:=rest_in (b:=b) (Y:=b * upB b (gw bs r) - alg (λk=>(bs.getD k (0,0)).1) p) (l:=(sAt sp k).l) (Z:=upB b (gw bs r)) ⋯ ⋯;rw[←this];congr 1;lia
def fits_lay {m:Int}(h:∀k,k<sp.length→ke b ts sp k≤(sAt sp k).o):kB b ts sp=true:=by
 unfold kB;rw[iA,ir];intro s hs;obtain⟨k,hk,rfl⟩:=bK hs;have eA:sAt sp k=sp[k]:=by unfold sAt;rw[ae,gE hk];rfl
 have:=h k hk;have lay:ke b ts sp k=(sAt sp k).l+iJ b ts (sAt sp k):=by unfold ke;rw[ju hk]
 rw[lay,eA] at this;unfold brk;rw[rV ⋯];exact bc
structure Kp (H H':Hp):Prop where
 tup:kK H H'
 lst:∀q xs,H q=some (.lst xs)→H' q=some (.lst xs)
 frz:∀q o xs,H q=some (.frz o (.lst xs))→H' q=some (.frz o (.lst xs))
def bD.kp (e:bD H H'):Kp H H':=⟨λ_ _ h=>e _ _ h,λ_ _ h=>e _ _ h,λ_ _ _ h=>e _ _ h⟩
def Kp.seq (e:Kp H H')(h:SqL K H a xs):SqL K H' a xs:=by
 rcases h with (h | ⟨o,h⟩) | h
 ·exact .inl (.inl (e.lst _ _ h))
 ·exact .inl (.inr ⟨o,e.frz _ _ _ h⟩)
 ·exact .inr h
def Kp.trans (a:Kp H H1)(b:Kp H1 H2):Kp H H2:=⟨λ_ _ h=>b.tup _ _ (a.tup _ _ h),λ_ _ h=>b.lst _ _ (a.lst _ _ h),λ_ _ _ h=>b.frz _ _ _ (a.frz _ _ _ h)⟩
def Tb.kp {T:aq}(h:L2.LamT T lp lq H)(e:L2.Tb T H H'):Kp H H':=by
 obtain⟨ps,hT⟩:=LamT.tbl h;exact⟨λq _ h=>e q _ (fM h hT nofun) h,λq _ h=>e q _ (fM h hT nofun) h,λq _ _ h=>e q _ (fM h hT nofun) h⟩
def Kp.upd {x:aq}{fs:List (Str×V)}(h:H x=some (.ins C dx fs)):Kp H (upd H x o) :=
 ⟨λq _ hq=>by rw[bt (fM hq h nofun)];exact hq,λq _ hq=>by rw[bt (fM hq h nofun)];exact hq,λq _ _ hq=>by rw[bt (fM hq h nofun)];exact hq⟩
def LamT.ntb {T U:aq}{lp':Pos}{lq':Str}(h:L2.LamT T lp lq H)(hU:L2.LamT U lp' lq' H)(ne:T≠U)(e:L2.Tb U H H'):L2.LamT T lp lq H':=by
 obtain⟨ps,eU⟩:=LamT.tbl hU;exact L2.LamG.stay h (λps e'=>e _ _ ne e') λa o u e'=>e _ _ (fM e' eU nofun) e'
def mO {T x:aq}{fs:List (Str×V)}(h:L2.LamT T lp lq H)(hx:H x=some (.ins C dx fs)):L2.LamT T lp lq (L2.upd H x o):=LamT.upd h (λp u z=>by rw[hx] at z;cases z) (λps z=>by rw[hx] at z;cases z)
def wayQ_kp {rl:List V}(e:Kp H H')(h:eM H rl (rs.map wayQ)):eM H' rl (rs.map wayQ):=eM.keepP e.tup h (nj rs λq _=>p7 _ _)
def CsD.kp {c:aq}{bs:List (Int×Int)}(a:CsD H c bs rs)(e:Kp H H'):CsD H' c bs rs:=by
 obtain⟨vb,u,rl,h1,h2,h3,h4⟩:=a.ex;exact⟨vb,u,rl,e.tup _ _ h1,IsD.keepP e.tup h2 (p7 _ _),e.lst _ _ h3,wayQ_kp e h4⟩
structure TchD (H:Hp)(tl:aq)(n:Nat)(rg:List (Nat×List Stp)):Prop where
 ex:∃tv,H tl=some (.lst tv)∧tv.length=n∧∀k,k<n→∃u rl,tv[k]? =some (.ref u)∧H u=some (.lst rl)∧eM H rl ((rg.filter (iS k)).map wayQ)
def TchD.kp {tl:aq}{rg:List (Nat×List Stp)}(a:TchD H tl n rg)(e:Kp H H'):TchD H' tl n rg:=by
 obtain⟨tv,h1,h2,h3⟩:=a.ex;apply⟨tv,e.lst _ _ h1,h2,λk hk=>?_⟩;obtain⟨u,rl,a1,a2,a3⟩:=h3 k hk;exact⟨u,rl,a1,e.lst _ _ a2,wayQ_kp e a3⟩
structure CutD (H:Hp)(C x:aq)(sp:List Sn)(l:List Nat)(rg:List (Nat×List Stp)):Prop where
 ex:∃(dx c0 tl ol:aq) (ord:List Nat),H x=some (.ins C dx [("first_case",.ref c0),("touched",.ref tl),("order",.ref ol)])∧CsD H c0 (sp.map λz=>(z.l,z.o)) rg∧TchD H tl sp.length rg∧H ol=some (.lst (ord.map λ(i:Nat)=>V.int i))∧ord.Perm l
def CutD.same {x:aq}{rg:List (Nat×List Stp)}(a:CutD H C x sp l rg)(e:bD H H'):CutD H' C x sp l rg:=by
 obtain⟨dx,c0,tl,ol,ord,h1,h2,h3,h4,h5⟩:=a.ex;exact⟨dx,c0,tl,ol,ord,e _ _ h1,h2.same e,h3.kp (bD.kp e),e _ _ h4,h5⟩
structure CsE (Hb H:Hp)(c:aq)(bs:List (Int×Int))(rs:List (Nat×List Stp)):Prop where
 ex:∃vb u rl,H c=some (.tup [vb,.ref u])∧IsD H vb (bndP bs)∧Hb u=some (.lst rl)∧eM Hb rl (rs.map wayQ)
def CsE.dn {Hb:Hp}{c:aq}{bs:List (Int×Int)}(a:CsE Hb H c bs rs)(e:bD Hb H):CsD H c bs rs:=by
 obtain⟨vb,u,rl,h1,h2,h3,h4⟩:=a.ex;exact⟨vb,u,rl,h1,h2,e _ _ h3,h4.same e⟩
def CsE.keep {Hb:Hp}{c:aq}{bs:List (Int×Int)}(a:CsE Hb H c bs rs)(e:kK H H'):CsE Hb H' c bs rs:=by
 obtain⟨vb,u,rl,h1,h2,h3,h4⟩:=a.ex;exact⟨vb,u,rl,e _ _ h1,IsD.keepP e h2 (p7 _ _),h3,h4⟩
inductive spInitC (T0:aq)(p0:Pos)(q0:Str)(T1:aq)(p1:Pos)(q1:Str)(C:aq)(vs:List V)(H:Hp)(Q:VK)(_:XK):Prop
 | mk (x dx:aq)(v:V)(b m:Int)(sp:List Sn)(_:vs=[.ref x,v])(_:H x=some (.ins C dx []))(_:IsD H v (jv b m sp))(_:jb b m sp)(_:L2.LamT T0 p0 q0 H)(_:L2.LamT T1 p1 q1 H)(_:∀(l:List Nat) (rg:List (Nat×List Stp)) (H':Hp),(∀a o,a≠T0→a≠T1→a≠x→H a=some o→H' a=some o)→Kp H H'→L2.LamT T0 p0 q0 H'→L2.LamT T1 p1 q1 H'→FR m sp l rg→CutD H' C x sp l rg→Q .non H')
inductive spSpanC (C:aq)(vs:List V)(H:Hp)(Q:VK)(_:XK):Prop
 | mk (x c:aq)(sp:List Sn)(l:List Nat)(rg rs:List (Nat×List Stp))(bs:List (Int×Int))(_:vs=[.ref x,.ref c])(_:CutD H C x sp l rg)(_:CsD H c bs rs)(_:(∀k∈l,k<bs.length))(_:l.length≤40)(_:((∀k∈l,¬((bs.getD k (0,0)).1<(bs.getD k (0,0)).2))→Q .non H))(_:∀k∈l,(bs.getD k (0,0)).1<(bs.getD k (0,0)).2→Q (.int (k:Nat)) H)
inductive spSidesC (C:aq)(vs:List V)(H:Hp)(Q:VK)(_:XK):Prop
 | mk (Hb:Hp)(x c:aq)(k:Nat)(a:Int)(sp:List Sn)(l:List Nat)(rg rs:List (Nat×List Stp))(bs:List (Int×Int))(_:vs=[.ref x,.ref c,.int (k:Nat),.int a])(_:bD Hb H)(_:CutD Hb C x sp l rg)(_:CsD H c bs rs)(_:k<bs.length)(_:bs.length=sp.length)(_:bs.length≤40)(_:∀(L q1 q2:aq) (H':Hp),bD H H'→H L=none→H' L=some (.lst [.ref q1,.ref q2])→CsE Hb H' q1 (d7 bs k a) (rg.filter (iS k))→CsE Hb H' q2 (kZ bs k a) (rg.filter (iS k))→Q (.ref L) H')
def ord_perm (h:π.Perm (aG l.length)):(π.map λi=>l.getD i 0).Perm l:=by
 have e:(aG l.length).map (λi=>l.getD i 0)=l:=by
  apply List.ext_getElem (by rw[aa,bb]) λi h1 h2=>?_
  rw[j6,k5,ae,gE h2];rfl
 have:=h.map (λi=>l.getD i 0)
 rwa [e] at this
def tm_mod {x:Int}:tm (ts.map (· % b)) x=tm ts x % b:=by
 unfold tm;rw[ae,ae,az];cases ts[x.toNat]? with
 | none=>exact(Int.zero_emod b).symm
 | some y=>rfl
def kN (b m:Int)(sp:List Sn)(t:List Int):Prop:=t.length=m.toNat∧(∀x∈t,0≤x∧x<b)∧kB b t sp=true
theorem tab_ok {m:Int}{rg:List (Nat×List Stp)}{bs:List (Int×Int)}(N:jb b m sp)(f:FF m sp l rg)(O:OB sp l bs)(x:Fx b l rg bs)(h:SprOk m.toNat sp l S) :
  kN b m sp (tabOf b sp bs m.toNat S)∧∀k,k<sp.length→(bs.getD k (0,0)).1≤ke b (tabOf b sp bs m.toNat S) sp k∧ke b (tabOf b sp bs m.toNat S) sp k≤(bs.getD k (0,0)).2:=by
 have hb:0<b:=by have:=N.b1;lia
 have ht2:=f.acy.nodup.2;have key:=key_pot N f O x (ts:=tabOf b sp bs m.toNat S) (π:=tm (ku sp (lowB bs) m.toNat S)) (λi hi=>h.pot N.ends ht2 (lowB bs) i hi) λk hk=>by
  unfold iJ tabOf;rw[tm_mod,tm_mod,rest_two]
 apply⟨⟨?_,λy hy=>?_,fits_lay (m:=m) λk hk=>?_⟩,key⟩
 ·unfold tabOf ku
  rw[aa,mM (m:=0),eC]
 ·obtain⟨z,_,rfl⟩:=ba.mp hy
  exact⟨dh _ ⋯,df _ hb⟩
 ·have:=key k hk
  have:=(O.lo k hk).2.2;lia
def psC (l:List Nat):List Cse→Nat
 | []=>0
 | c::cs=>fG c.1 l+psC l cs
theorem pZ (l:List Nat):∀(cs ds:List Cse),psC l (cs++ds)=psC l cs+psC l ds
 | [],ds=>(Nat.zero_add _).symm
 | c::cs,ds=>by
  show _+psC l (cs++ds)=_+psC l cs+psC l ds;rw[pZ l cs ds];lia
structure SrcI (b m:Int)(sp:List Sn)(l:List Nat)(rg:List (Nat×List Stp))(cs:List Cse)(Ts:List (List Int)):Prop where
 ok:∀c∈cs,jU b sp l rg c
 tabs:∀t∈Ts,kN b m sp t
 hold:∀T,kB b T sp=true→(∃t∈Ts,∀k∈l,ke b t sp k=ke b T sp k)∨∃c∈cs,InB (ke b T sp) c.1
 cnt:Ts.length+psC l cs≤fG (sp.map λx=>(x.l,x.o)) l
def szC (l:List Nat):List Cse→Nat
 | []=>0
 | c::cs=>(2 * fG c.1 l - 1)+szC l cs
theorem mX (l:List Nat):∀(cs ds:List Cse),szC l (cs++ds)=szC l cs+szC l ds
 | [],ds=>(Nat.zero_add _).symm
 | c::cs,ds=>by
  show _+szC l (cs++ds)=_+szC l cs+szC l ds;rw[mX l cs ds];lia
section
variable {m:Int}{rg:List (Nat×List Stp)}{cs:List Cse}{c:Cse}
theorem szC_len (hl:∀k∈l,k<sp.length):∀(cs:List Cse),(∀c∈cs,jU b sp l rg c)→cs.length≤szC l cs
 | [],_=>aB _
 | c::cs,h=>by
  have ih:=szC_len hl cs λd hd=>h d (aA _ hd)
  have:=jg (h c ∅).ob hl;show cs.length+1≤2 * fG c.1 l - 1+szC l cs;lia
def SrcI.start (N:jb b m sp)(hl:rg.length≤40):SrcI b m sp l rg [(sp.map λx=>(x.l,x.o),rg)] []:=by
 have hb:0<b:=by have:=N.b1;lia
 apply⟨λc hc=>?_,λt h=>rS h ∅,λT hT=> .inr ⟨_,aw.mpr rfl,lay_in hb hT⟩,by show 0+(fG (sp.map λx=>(x.l,x.o)) l+0)≤_;lia⟩;rw[aw.mp hc];exact⟨OB.first N l,λq hq=>hq,hl,λq hq hn=>rS hq hn⟩
def SrcI.dead (N:jb b m sp)(f:FF m sp l rg)(I:SrcI b m sp l rg (cs++[c]) Ts){q:Nat×List Stp}(hq:q∈c.2)(hd:jA b c.1 q.2=true):SrcI b m sp l rg cs Ts:=by
 have hb:0<b:=by have:=N.b1;lia
 have C:=I.ok c ∅;apply⟨λd hd=>I.ok d (aJ _ hd),I.tabs,λT hT=>?_,by have:=I.cnt;rw[pZ] at this;lia⟩
 rcases I.hold T hT with h | ⟨d,h1,h2⟩
 ·exact .inl h
 ·rcases aI.mp h1 with z | z
  ·exact .inr ⟨d,z,h2⟩
  ·rw[aw.mp z] at h2
   have:=f.few;have m2:=N.m2;rw[dead_none hb C.ob.len h2 ((f.rk q (C.sub q hq)).rg N ⋯)] at hd;cases hd
def jU.all (C:jU b sp l rg c)(al:∀q∈c.2,jA b c.1 q.2=false):∀q∈rg,jA b c.1 q.2=false:=λq hq=>by
 by_cases z:q∈c.2
 ·exact al q z
 ·exact C.alive q hq z
theorem SrcI.leaf (N:jb b m sp)(f:FF m sp l rg)(h:SprOk m.toNat sp l S)(I:SrcI b m sp l rg (cs++[c]) Ts)(al:∀q∈c.2,jA b c.1 q.2=false)(fx:∀k∈l,¬((c.1.getD k (0,0)).1<(c.1.getD k (0,0)).2)):SrcI b m sp l rg cs (Ts++[tabOf b sp c.1 m.toNat S]):=by
 have C:=I.ok c ∅;have ht2:=f.acy.nodup.2;have fix:∀k∈l,(c.1.getD k (0,0)).1=(c.1.getD k (0,0)).2:=λk hk=>by
  have:=(C.ob.lo k (ht2 k hk)).2.1;have:=fx k hk;lia
 obtain⟨t1,t2⟩:=tab_ok N f C.ob ⟨fix,C.all al⟩ h;have pc:=jg C.ob ht2;apply⟨λd hd=>I.ok d (aJ _ hd),λt ht=>?_,λT hT=>?_,by have:=I.cnt;rw[pZ] at this;have e:psC l [c]=fG c.1 l+0:=rfl;rw[av];show Ts.length+1+_≤_;lia⟩
 ·rcases aI.mp ht with z | z
  ·exact I.tabs t z
  ·rw[aw.mp z];exact t1
 ·rcases I.hold T hT with ⟨t,h1,h2⟩ | ⟨d,h1,h2⟩
  ·exact .inl ⟨t,aJ _ h1,h2⟩
  ·rcases aI.mp h1 with z | z
   ·exact .inr ⟨d,z,h2⟩
   ·rw[aw.mp z] at h2
    apply .inl ⟨_,aE _ (aw.mpr rfl),λk hk=>?_⟩;have a1:=t2 k (ht2 k hk);have a2:=h2 k (by rw[C.ob.len];exact ht2 k hk);have a3:=fix k hk;lia
theorem SrcI.cut (N:jb b m sp)(f:FF m sp l rg)(lrg:rg.length≤40)(I:SrcI b m sp l rg (cs++[c]) Ts)(al:∀q∈c.2,jA b c.1 q.2=false){k:Nat}{a:Int}(hk:k∈l)(h1:(c.1.getD k (0,0)).1≤a)(h2:a<(c.1.getD k (0,0)).2) :
  SrcI b m sp l rg (cs++[(d7 c.1 k a,rg.filter (iS k)),(kZ c.1 k a,rg.filter (iS k))]) Ts∧szC l (cs++[(d7 c.1 k a,rg.filter (iS k)),(kZ c.1 k a,rg.filter (iS k))])<szC l (cs++[c]):=by
 have C:=I.ok c ∅;have ht2:=f.acy.nodup.2;obtain⟨o1,o2⟩:=C.cut lrg ht2 al hk h1 h2;apply⟨⟨λd hd=>?_,I.tabs,λT hT=>?_,?_⟩,?_⟩
 ·rcases aI.mp hd with z | z
  ·exact I.ok d (aJ _ z)
  ·rcases aH.mp z with rfl | z
   ·exact o1
   ·rw[aw.mp z];exact o2
 ·rcases I.hold T hT with h | ⟨d,d1,d2⟩
  ·exact .inl h
  ·rcases aI.mp d1 with z | z
   ·exact .inr ⟨d,aJ _ z,d2⟩
   ·rw[aw.mp z] at d2
    by_cases e:ke b T sp k≤a
    ·exact .inr ⟨(kZ c.1 k a,rg.filter (iS k)),∅,inB_one d2 e⟩
    ·exact .inr ⟨(d7 c.1 k a,rg.filter (iS k)),∅,inB_other d2 ⋯⟩
 ·have h0:=I.cnt
  rw[pZ] at h0 ⊢;have e:=nh C.ob f.acy.nodup.1 ht2 hk h1 h2;have e1:psC l [c]=fG c.1 l+0:=rfl;have e2:psC l [(d7 c.1 k a,rg.filter (iS k)),(kZ c.1 k a,rg.filter (iS k))]=fG (d7 c.1 k a) l+(fG (kZ c.1 k a) l+0):=rfl;lia
 ·rw[mX,mX]
  show _+((2 * fG (d7 c.1 k a) l - 1)+((2 * fG (kZ c.1 k a) l - 1)+0))<_+((2 * fG c.1 l - 1)+0);have p1:=jg o1.ob ht2;have p2:=jg o2.ob ht2;have e:=nh C.ob f.acy.nodup.1 ht2 hk h1 h2;have p1:0<fG (d7 c.1 k a) l:=p1;have p2:0<fG (kZ c.1 k a) l:=p2;lia
theorem SrcI.less (f:FF m sp l rg)(I:SrcI b m sp l rg (cs++[c]) Ts):szC l cs<szC l (cs++[c]):=by
 have:=jg (I.ok c ∅).ob f.acy.nodup.2;rw[mX];show _<_+((2 * fG c.1 l - 1)+0);lia
end
def CsL (Hb Hc:Hp):List V→List Cse→Prop:=jS λv c=>∃q,v= .ref q∧CsE Hb Hc q c.1 c.2
def CsL.keep {Hb Hd:Hp}(e:kK Hc Hd){cs:List Cse}(h:CsL Hb Hc zs cs):CsL Hb Hd zs cs:=L2.Paired.mapP h λ_ _ ⟨q,a,b⟩=>⟨q,a,b.keep e⟩
theorem Paired.app {α β:Type}{R:α→β→Prop}:∀{xs:List α} {ys:List β} {us:List α} {vs:List β},jS R xs ys→jS R us vs→jS R (xs++us) (ys++vs)
 | _,_,_,_,.nil,h=>h
 | _,_,_,_,.cons r t,h=> .cons r (Paired.app t h)
theorem Paired.len {α β:Type}{R:α→β→Prop}:∀{xs:List α} {ys:List β},jS R xs ys→xs.length=ys.length
 | _,_,.nil=>rfl
 | _,_,.cons _ t=>rX (· + 1) (Paired.len t)
theorem Paired.snoc_of {α β:Type}{R:α→β→Prop}:∀{ys:List β} {zs:List α} {y:β},jS R zs (ys++[y])→∃xs x,zs=xs++[x]∧jS R xs ys∧R x y
 | [],_,_,.cons r .nil=>⟨[],_,rfl,.nil,r⟩
 | _::_,_,_,.cons r t=>by
  obtain⟨xs,x,rfl,a,b⟩:=Paired.snoc_of t;exact⟨_::xs,x,rfl,.cons r a,b⟩
inductive spTabF (T0:aq)(p0:Pos)(q0:Str)(T1:aq)(p1:Pos)(q1:Str)(vs:List V)(H:Hp)(Q:VK)(_:XK):Prop
 | mk (v:V)(b m:Int)(sp:List Sn)(most:Nat)(_:vs=[v,.int (most:Nat)])(_:IsD H v (jv b m sp))(_:jb b m sp)(_:most≤4096)(_:(∀l,jo m.toNat sp l→kd sp l≤4096))(_:L2.LamT T0 p0 q0 H)(_:L2.LamT T1 p1 q1 H)(_:∀(L:aq) (tv:List V) (l:List Nat) (rg:List (Nat×List Stp)) (Ts:List (List Int)) (H':Hp),(∀a o,a≠T0→a≠T1→H a=some o→H' a=some o)→Kp H H'→L2.LamT T0 p0 q0 H'→L2.LamT T1 p1 q1 H'→H' L=some (.lst tv)→eM H' tv (fF id Ts)→FR m sp l rg→(∀t∈Ts,kN b m sp t)→Ts.length≤most→(Ts.length<most∨most=4096→∀T,kB b T sp=true→∃t∈Ts,∀k∈l,ke b t sp k=ke b T sp k)→Q (.ref L) H')
inductive Mrk where
 | leaf (d:Dt)
 | cut (k:Nat) (a:Int)
def mrkD:Mrk→Dt
 | .leaf d=>d
 | .cut k a=> .tup [.str "cut",.int (k:Nat),.int a]
def pre:Tq→List Mrk
 | .leaf d=>[.leaf d]
 | .cut k a x y=> .cut k a::(pre x++pre y)
def stpT:Option (List Tq)→Mrk→Option (List Tq)
 | some s,.leaf d=>some (.leaf d::s)
 | some (x::y::s),.cut k a=>some (.cut k a x y::s)
 | _,_=>none
theorem stp_none:∀(l:List Mrk),l.foldl stpT none=none
 | []=>rfl
 | .leaf _::l=>stp_none l
 | .cut _ _::l=>stp_none l
theorem stp_pre:∀(t:Tq) (s:List Tq),(pre t).reverse.foldl stpT (some s)=some (t::s)
 | .leaf d,s=>rfl
 | .cut k a x y,s=>by
  show(Mrk.cut k a::(pre x++pre y)).reverse.foldl stpT (some s)=_;rw[eY,List.reverse_append,cG,cG,stp_pre y,stp_pre x];rfl
def stp_at {l:List Mrk}{r:List Tq}(h:l.foldl stpT (some [])=some r){m:Mrk}{s:List Tq}(hm:l[i]? =some m)(hs:(l.take i).foldl stpT (some [])=some s):∃s',stpT (some s) m=some s'∧(l.take (i+1)).foldl stpT (some [])=some s':=by
 have hi:=(ar.mp hm).1;have e:(l.take (i+1)).foldl stpT (some [])=stpT (some s) m:=by
  rw[bj,hm,cG,hs];rfl
 cases q:stpT (some s) m with
 | some s'=>exact⟨s',rfl,by rw[e,q]⟩
 | none =>
  exfalso;rw[←List.take_append_drop (i+1) l,cG,e,q,stp_none] at h;cases h
def LeafW (d:Dt):Prop:=pl d=true∧∃w x,d= .tup [.str w,x]∧w ≠ "cut"
def pl_cut {k:Nat}{a:Int}{x y:Tq}(hx:pl (jY x)=true)(hy:pl (jY y)=true):pl (jY (.cut k a x y))=true:=by
 show pl (.tup [.str "cut",.int (k:Nat),.int a,jY x,jY y])=true;simp[pl,pls,hx,hy]
theorem eM.snocD {H:Hp}:∀{ds:List Dt} {zs:List V} {d:Dt},eM H zs (ds++[d])→∃zs' z,zs=zs'++[z]∧eM H zs' ds∧IsD H z d
 | [],_,_,.cons h .nil=>⟨[],_,rfl,.nil,h⟩
 | _::_,_,_,.cons h t=>by
  obtain⟨zs',z,rfl,a,b⟩:=eM.snocD t;exact⟨_::zs',z,rfl,.cons h a,b⟩
def GoodT (R:List (Int×Int)→Dt→Prop):Tq→List (Int×Int)→Nat→Prop
 | .leaf d,bs,_=>R bs d
 | .cut _ _ _ _,_,0=>False
 | .cut k a x y,bs,n+1=>k<bs.length∧(bs.getD k (0,0)).1≤a∧a<(bs.getD k (0,0)).2∧GoodT R x (kZ bs k a) n∧GoodT R y (d7 bs k a) n
def qP (R:List (Int×Int)→Dt→Prop)(l:List Nat)(c:Cse)(t:Tq):Prop:=∀n,2 ^ n * fG c.1 l≤3 ^ n→GoodT R t c.1 n
theorem oB {f g:Nat→Nat}{k:Nat}:∀(l:List Nat),l.Nodup→k∈l→(∀j∈l,j≠k→f j=g j)→prdN (l.map g) * f k=prdN (l.map f) * g k
 | [],_,hk,_=>rS hk ∅
 | j::l,nd,hk,hh=>by
  rw[bw] at nd;show g j * _ * f k=f j * _ * g k
  by_cases c:j=k
  ·subst c
   have ne:∀i∈l,i≠j:=λi hi z=>nd.1 (z ▸ hi)
   rw[←nR (f:=f) (g:=g) l λi hi=>hh i (aA _ hi) (ne i hi),jT (g j),jT (f j),gN,gN,jT (g j)]
  ·rw[hh j ∅ c,gN,gN,oB l nd.2 ((aH.mp hk).resolve_left λz=>c z.symm) λi hi=>hh i (aA _ hi)]
def scale_le {F G f g:Nat}(e:G * f=F * g)(h:3 * g≤2 * f)(hf:0<f):3 * G≤2 * F:=by
 have h1:3 * G * f≤2 * F * f:=by
  rw[gN,e,jT F g,←gN,gN 2 F f,jT F f,←gN];exact Nat.mul_le_mul_right F h
 exact Nat.le_of_mul_le_mul_right h1 hf
theorem prodC_mid {bs:List (Int×Int)}{k:Nat}{a:Int}(O:OB sp l bs)(nd:l.Nodup)(hl:∀k∈l,k<sp.length)(hk:k∈l)(h:(bs.getD k (0,0)).1<(bs.getD k (0,0)).2)(ha:a=((bs.getD k (0,0)).1+(bs.getD k (0,0)).2) / 2) :
  3 * fG (kZ bs k a) l≤2 * fG bs l∧3 * fG (d7 bs k a) l≤2 * fG bs l:=by
 have hb:=O.len;have hkl:=hl k hk;have wk1:wdB (kZ bs k a) k=(a - (bs.getD k (0,0)).1+1).toNat:=by unfold wdB kZ;rw[iV ⋯,rR rfl]
 have wk2:wdB (d7 bs k a) k=((bs.getD k (0,0)).2 - (a+1)+1).toNat:=by unfold wdB d7;rw[iV ⋯,rR rfl]
 have w0:wdB bs k=((bs.getD k (0,0)).2 - (bs.getD k (0,0)).1+1).toNat:=rfl
 constructor
 ·apply scale_le (oB (f:=wdB bs) (g:=wdB (kZ bs k a)) (k:=k) l nd hk λj hj hn=>?_) (by rw[wk1,w0];lia) (by rw[w0];lia)
  have hjl:=hl j hj;unfold wdB kZ;rw[iV ⋯,rQ (cK hn)]
 ·apply scale_le (oB (f:=wdB bs) (g:=wdB (d7 bs k a)) (k:=k) l nd hk λj hj hn=>?_) (by rw[wk2,w0];lia) (by rw[w0];lia)
  have hjl:=hl j hj;unfold wdB d7;rw[iV ⋯,rQ (cK hn)]
section
variable {R:List (Int×Int)→Dt→Prop}{c c0:Cse}{k:Nat}{a:Int}{x y:Tq}{ms:List Mrk}{cr:List Cse}{d:Dt}{rs':List (Nat×List Stp)}
def qP.leaf (h:R c.1 d):qP R l c (.leaf d):=λn _=>by
 cases n <;> exact h
def qP.cut (hk:k<c.1.length)(h1:(c.1.getD k (0,0)).1≤a)(h2:a<(c.1.getD k (0,0)).2)(p2:2≤fG c.1 l)(m1:3 * fG (kZ c.1 k a) l≤2 * fG c.1 l)(m2:3 * fG (d7 c.1 k a) l≤2 * fG c.1 l)
  (gx:qP R l (kZ c.1 k a,rs) x) (gy:qP R l (d7 c.1 k a,rs') y):qP R l c (.cut k a x y):=λn hn=>by
 cases n with
 | zero=>simp at hn;lia
 | succ n =>
  have key:∀p,3 * p≤2 * fG c.1 l→2 ^ n * p≤3 ^ n:=λp hp=>by
   have h3:2 ^ n * (3 * p)≤2 ^ n * (2 * fG c.1 l):=Nat.mul_le_mul_left _ hp;rw[Nat.pow_succ,Nat.pow_succ,gN] at hn;rw[Nat.mul_left_comm] at h3;lia
  exact⟨hk,h1,h2,gx n (key _ m1),gy n (key _ m2)⟩
def Wn (R:List (Int×Int)→Dt→Prop)(l:List Nat)(c0:Cse)(ms:List Mrk)(cr:List Cse):Prop:=∀F:List Tq,jS (qP R l) cr F→∃t,ms++F.flatMap pre=pre t∧qP R l c0 t
def Wn.start:Wn R l c0 [] [c0]:=λF h=>by
 cases h with
 | cons g r=>cases r;exact⟨_,∅,g⟩
def Wn.leaf (h:Wn R l c0 ms (c::cr))(r:R c.1 d):Wn R l c0 (ms++[.leaf d]) cr:=λF hF=>by
 obtain⟨t,e,g⟩:=h (.leaf d::F) (.cons (qP.leaf r) hF);exact⟨t,by rw[←e];simp[pre],g⟩
def Wn.cut (h:Wn R l c0 ms (c::cr))(hk:k<c.1.length)(h1:(c.1.getD k (0,0)).1≤a)(h2:a<(c.1.getD k (0,0)).2)(p2:2≤fG c.1 l)(m1:3 * fG (kZ c.1 k a) l≤2 * fG c.1 l)(m2:3 * fG (d7 c.1 k a) l≤2 * fG c.1 l):Wn R l c0 (ms++[.cut k a]) ((kZ c.1 k a,rs)::(d7 c.1 k a,rs')::cr):=λF hF=>by
 cases hF with
 | cons gx r =>
  cases r with
  | cons gy r =>
   rename_i x y F;obtain⟨t,e,g⟩:=h (.cut k a x y::F) (.cons (qP.cut hk h1 h2 p2 m1 m2 gx gy) r);exact⟨t,by rw[←e];simp[pre],g⟩
def Wn.fin (h:Wn R l c0 ms []):∃t,ms=pre t∧qP R l c0 t:=by
 obtain⟨t,e,g⟩:=h [] .nil;exact⟨t,by rw[←e];simp,g⟩
end
inductive spTreeF (vs:List V)(H:Hp)(Q:VK)(_:XK):Prop
 | mk (L:aq)(ys:List V)(ms:List Mrk)(t:Tq)(_:vs=[.ref L])(_:H L=some (.lst ys))(_:eM H ys (ms.map mrkD))(_:ms=pre t)(_:(∀d,Mrk.leaf d∈ms→LeafW d))(_:ms.length≤10000)(_:∀u H',bD H H'→IsD H' u (jY t)→Q u H')
end HN
namespace L2
open PySem PySem.W PySem.Spec PyProof.Rows
def law_callTs {mb:Str→Option af}{k:Nat}{fa:aq}{Ts:List aq}{sp:Sp}{s₁:ay}
  (KX:K.In s₁.heap) (hns:s₁.heap.Ns bL mg) (hb:s₁.heap.Ns builtinsNs mb) (hbb:∀x:Str,x ≠ "__name__" →mb x=kh x) (hlim:s₁.heap.NoLimit) (hg:s₁.gens= #[])
  (hbm:BM mg s₁.heap) (hT:∀T∈Ts,s₁.heap.get? T=some (tabObj #[])) (C:∀T∈Ts,∃c,codeHdIn K c T=true) (nt:noTabs K=true)
  (ha:s₁.heap.get? a=some { cls:= .type "list",data:= .seq vs.toArray }) (hi:IntsAre vs ns) (hl:ns.length≤bf) (hr:gP k callerA)
  (F:∀base:bO,K.In base→base.Ns bL mg→BM mg base→cJ P w K mg base CX k fa fd [x] sp) (hbind:∀(s:ay) (u:af),BindsTo s fd ⟨[u],[]⟩ [(x,u)])
  (hsp:∀H:Hp,(∀T∈Ts,H T=some (.tbl #[]))→SqL K H a (ns.map V.int)→sp [.ref a] H (λv _=>v= .bl true) λ_ _ _=>False)
  (hCX:∀H e s',CX [] H s₁ (λ_ _ _=>False) e s'→False) :
  jj (br P w) callerA (.call (.ref fa) ⟨[.ref a],[]⟩) (λr s'=>r= .ok (.ret (.bool true))∧OldK s₁.heap s'.heap∧s'.os=s₁.os∧AllBare s'.gens) s₁:=by
 have rv:=nF hi;have lenV:=hi.length;have hTK:∀T∈Ts,K.lookup T=none:=λT mT=>by
  cases q:K.lookup T with
  | none=>rfl
  | some o =>
   have e:=KX T o q;rw[hT T mT] at e;cases e;have z:=gf.mp nt (T,tabObj #[]) (mem_of_lookupK q);cases z
 have aT:a ∉ Ts:=λz=>by rw[hT a z] at ha;cases ha
 have isT:∀T∈Ts,isCodeTable s₁.heap T:=λT mT=>by obtain⟨c,C⟩:=C T mT;exact((codeHd_of_K KX C).tab (hT T mT)).isCodeTable
 have core:∀H:Hp,SqL K H a (ns.map V.int)→HOk P w H s₁.heap→(∀T∈Ts,H T=some (.tbl #[]))→(∀b,H b≠none→b ∉ Ts→b=a∧∃o xs,H b=some (.frz o (.lst xs)))→(H a≠none→K.lookup a=none) →
   jj (br P w) callerA (.call (.ref fa) ⟨[.ref a],[]⟩) (λr s'=>r= .ok (.ret (.bool true))∧OldK s₁.heap s'.heap∧s'.os=s₁.os∧AllBare s'.gens) s₁:=by
  intro H hS hok hHT hA hK;have base_of:∀{b:aq} {o:Obj},s₁.heap.get? b=some o→H b=none→(hidT s₁.heap H).get? b=some o:=λe n=>hidT_get e n
  have no2:∀{b:aq} {o:Obj},s₁.heap.get? b=some o→o≠tabObj #[]→o≠{ cls:= .type "list",data:= .seq vs.toArray }→H b=none:=λ{b o} e d1 d2=>by
   cases q:H b with
   | none=>rfl
   | some u =>
    by_cases hbT:b∈Ts
    ·rw[hT b hbT] at e;cases e;exact rS rfl d1
    ·have e':b=a:=(hA b (by rw[q];simp) hbT).1
     subst e';rw[ha] at e;cases e;exact rS rfl d2
  have nsK:∀{b:aq} {m:Str→Option af},s₁.heap.Ns b m→(hidT s₁.heap H).Ns b m:=λ{b m} ⟨o,es,ep,e,d,r⟩=>⟨o,es,ep,base_of e (no2 e (λz=>by subst z;cases d) (λz=>by subst z;cases d)),d,r⟩
  have hKb:K.In (hidT s₁.heap H):=fun b o e=>base_of (KX b o e) (by
   cases q:H b with
   | none=>rfl
   | some u =>
    by_cases hbT:b∈Ts
    ·rw[hTK b hbT] at e;cases e
    ·have e':b=a:=(hA b (by rw[q];simp) hbT).1
     subst e';rw [hK (by rw [q];simp)] at e;cases e)
  have hM:Mod K mg (hidT s₁.heap H):=⟨hKb,nsK hns,⟨mb,nsK hb,hbb⟩,let ⟨mc,h1,h2⟩:=hlim;⟨mc,nsK h1,h2⟩⟩;have hBM:BM mg (hidT s₁.heap H):=by
   obtain⟨bm,ob,b1,b2,b3,b4,b5,b6,b7⟩:=hbm;exact⟨bm,ob,b1,b2,b3,base_of b4 (no2 b4 (λz=>by subst z;cases b5) (λz=>by subst z;cases b7)),b5,b6,b7⟩
  have e0:Env0 P w K mg (hidT s₁.heap H) callerA [] s₁ H:=⟨rfl,hM,λb o e=>of_hidT e,Nat.le_of_eq (hidT_size _ _),trivial,λb hb=>rS (show b∈([]:List aq) from hb) ∅,hok,.of_eq hg⟩;apply codeAny_mono ((F _ hKb (nsK hns) hBM).run callerA [] s₁ H ⟨[.ref a],[]⟩ [.ref a] [.ref a] _ _ hr e0 (hbind s₁ (.ref a)) (.cons rfl .nil) (hsp H hHT hS)) λr s' h=>?_
  cases r with
  | error e=>exact(hCX H e s' h).elim
  | ok fl =>
   cases fl with
   | next=>exact cR h
   | brk=>exact cR h
   | cont=>exact cR h
   | ret u =>
    obtain⟨v,H',os,bare,un,hok',r',q⟩:=h;have q':v= .bl true:=q;subst q';obtain rfl:u=af.bool true:=r';have tT:∀T∈Ts,∃more,s'.heap.get? T=some (tabObj (#[]++more)):=λT mT=>by
     obtain⟨more,eT⟩:=un.tbls T _ (hHT T mT);exact⟨more,hok' T _ eT⟩
    have stay:∀b o,s₁.heap.get? b=some o→b ∉ Ts→s'.heap.get? b=some o:=λb o e hbT=>by
     cases q:H b with
     | none=>exact un.keep b o e q (by intro z;exact rS (show b∈([]:List aq) from z) ∅) ∅
     | some u =>
      obtain⟨_,ob,xs,z⟩:=hA b (by rw[q];simp) hbT;have z2:=un.frzs b ob _ z;obtain⟨e1,_⟩:=hok b _ z;obtain⟨e2,_⟩:=hok' b _ z2;rw[e] at e1;cases e1;exact e2
    apply⟨rfl,⟨λb o e=>?_,λb o e=>?_⟩,os,bare⟩
    ·by_cases hbT:b∈Ts
     ·rw[hT b hbT] at e;cases e
      obtain⟨more,tb⟩:=tT b hbT;exact .inr (.inl ⟨isT b hbT,rfl,#[],more,rfl,tb⟩)
     ·exact .inl (stay b o e hbT)
    ·by_cases hbT:b∈Ts
     ·obtain⟨more,tb⟩:=tT b hbT;exact⟨_,tb⟩
     ·exact⟨o,stay b o e hbT⟩
 cases hk:K.lookup a with
 | some o =>
  have e:=KX a o hk;rw[ha] at e;cases e;apply core (λb=>if b∈Ts then some (.tbl #[]) else none) (.inr ⟨_,vs.toArray,_,hk,rfl,rfl,rfl,by rw[aK,lenV];exact hl,by simpa using rv⟩) (λb u z=>?_) (λT mT=>rR mT) (λb z hb=>rS (rQ hb) z) λz=>rS (rQ aT) z
  by_cases hb:b∈Ts
  ·have z':=(rR hb).symm.trans z
   cases z';exact hT b hb
  ·have z':=(rQ hb).symm.trans z
   cases z'
 | none =>
  apply core (λb=>if b∈Ts then some (.tbl #[]) else if b=a then some (.frz { cls:= .type "list",data:= .seq vs.toArray } (.lst (ns.map V.int))) else none) (.inl (.inr ⟨{ cls:= .type "list",data:= .seq vs.toArray },(rQ aT).trans (rR rfl)⟩)) (λb u z=>?_) (λT mT=>rR mT) (λb z hb=>?_) λ_=>hk
  ·by_cases hb:b∈Ts
   ·have z':=(rR hb).symm.trans z
    cases z';exact hT b hb
   ·have z:=(rQ hb).symm.trans z
    by_cases hb:b=a
    ·have z':=(rR hb).symm.trans z
     cases z';subst hb;exact⟨ha,by rw[aa];exact hl,vs,_,rv,ha⟩
    ·have z':=(rQ hb).symm.trans z
     cases z'
  ·by_cases hba:b=a
   ·exact⟨hba,_,_,(rQ hb).trans (rR hba)⟩
   ·exact rS ((rQ hb).trans (rQ hba)) z
def walk_ofTs {l:PySem.W.OpenLaw}{k:Nat}{q:aX}{d:DefRec}{K:Params→au}{CX:bz→CXT}{sp:bz→Sp}{Ts:List aq}
  (hn:l.most=some n) (hn2:n≤bf) (hdf:d.params.defaults=[]) (hr:gP k callerA)
  (hY:∀(w:bz) (h:bO),YP w h→(K w.params).In h∧∀T∈Ts,h.get? T=some (tabObj #[])) (C:∀w:bz,∀T∈Ts,∃c,codeHdIn (K w.params) c T=true) (nt:∀w:bz,noTabs (K w.params)=true)
  (F:∀ (w:bz) (mg:Str→Option af) (fa:aq) (h:bO),(K w.params).In h→h.Ns bL mg→mg d.name=some (.ref fa) →
   ∃fd:bg,(∀(s:ay) (u:af),BindsTo s fd ⟨[u],[]⟩ [(x,u)]) ∧
    ∀ base:bO,(K w.params).In base→base.Ns bL mg→BM mg base→cJ l.prog w (K w.params) mg base (CX w) k fa fd [x] (sp w))
  (hsp:∀(w:bz) (H:Hp) (a:aq) (ns:List Int),ns.length≤n→(∀T∈Ts,H T=some (.tbl #[]))→SqL (K w.params) H a (ns.map V.int)→sp w [.ref a] H (λv _=>v= .bl true) λ_ _ _=>False)
  (hCX:∀(w:bz) (H:Hp) (s:ay) (e:af) (s':ay),CX w [] H s (λ_ _ _=>False) e s'→False) :
  PySem.W.WalkO q loose XP YP l.row.toRowW d [] (λf vs=>PySem.call f vs):=by
 apply Att.attach_call hn hdf λw s₀ s₁ mg mb fa o pm cd doc a vs ns G Y ho hd hcd hmg hobj hints hlen hg=>?_
 obtain⟨KX,hT⟩:=hY w _ Y;obtain⟨fd,hb,hF⟩:=F w mg fa _ KX G.T.g hmg;have hbm:BM mg s₁.heap:=by
  obtain⟨bm,ob,b1,b2,b3,b4,b5,b6⟩:=G.T.bmain;apply⟨bm,ob,b1,b2,λq=>?_,b3,b4,b5,b6⟩;obtain⟨o,es,ep,e,hd,_⟩:=G.T.g;rw[q,e] at b3;cases b3;rw[hd] at b6;cases b6
 exact law_callTs KX G.T.g G.T.b G.T.builtins G.T.nolimit hg hbm hT (C w) (nt w) hobj hints (aQ hlen hn2) hr hF hb (λH hO hS=>hsp w H a ns hlen hO hS) λH e s'=>hCX w H s₁ e s'
def sorted_keyT {r q:aq}{ws:List af}(hl0:IsTup s.heap r ws.toArray)(h64:ws.length<64)
  (h:∀ (g h1:bO) (D kS:aq) (e1:Nat),(∀ b o,s.heap.get? b=some o→g.get? b=some o)→(∀ b o,g.get? b=some o→h1.get? b=some o)→g.objs.size≤D→D<kS→h1.get? D=some (bJ "list" #[] e1)→h1.get? kS=some (bJ "list" #[] 0) →
   KeyDo prog w A.in1.in1 (.ref q) ws kS D e1 (fun t'=>Q (.ref D) t') { s with heap:=h1 }) :
  aW (br prog w) A (call (.builtin "sorted") [.ref r] [(cj "key",.ref q)]) Q E s:=by
 obtain⟨ob,ho,hc,n,hd⟩:=hl0;apply call_function_entry_kw kind_sorted plain_sorted entry_sorted (ksk_s1 _ _) ?_;unfold cO.«sorted»;apply ao (m:=checkCount "sorted" 1 1 _) (aP ?_);apply ao (wpAny_collect_seq r (.inr rfl) ho hc hd (λh' hk=>?_) (by rw[aK,fu];lia));rw[show ws.toArray.toList=ws by simp];apply ao (wpAny_newList ?_ (by rw[fu];lia));have hoL:(h'.push (bJ "list" ws.toArray 0)).get? h'.objs.size=some (bJ "list" ws.toArray 0):=aU _ rfl;show aW _ _ _ _ _ { s with heap:=h'.push (bJ "list" ws.toArray 0) };apply ao (dU (wpAny_call_entry_kw slot_list_sort ⟨_,hoL,rfl⟩ entry_list_sort ?body (ksk_l1 _ _)))
 case body =>
  show aW (br prog w) A.in1.in1 (cO.«list.sort» ⟨[.ref h'.objs.size],[(cj "key",.ref q)]⟩) _ _ _;rw[ksk_t1];apply key_tree (s:={ s with heap:=h'.push (bJ "list" ws.toArray 0) }) hoL ⋯ λe1 g1 g2=>?_
  have K:=h h' (kW (h'.push (bJ "list" ws.toArray 0)) h'.objs.size ws) h'.objs.size ((h'.push (bJ "list" ws.toArray 0)).objs.size+1) e1 hk ?_ (aB _) (by rw[size_push'];exact iG (ki _)) g1 g2
  ·obtain⟨J,j0,jc,je⟩:=K
   apply⟨J,j0,jc,λks t' x1 x2=>?_⟩;obtain⟨y1,κ,lt,y2,y3,y4,y5⟩:=je ks t' x1 x2;exact⟨y1,κ,lt,y2,y3,y4,λp p1 p2=>⟨_,rfl,aP ⟨_,rfl,y5 p p1 p2⟩⟩⟩
  ·exact λb o e=>mid_keep (bG (aN e)) (ax _ e)
theorem its_at:∀{ns:List Int} {its:List af} {i:Nat} {x:af},gz (ns.map V.int) its→its[i]? =some x→∃t,x= .int (ns.getD i 0) t
 | [],_,_,_,.nil,e=>by simp at e
 | n::ns,_,0,_,.cons r _,e=>by
  cases e;exact r
 | n::ns,_,i+1,_,.cons _ rs,e=>its_at (ns:=ns) (i:=i) rs e
def SortTQ (P:aq)(lp:Pos)(lq:Str)(js:List Nat)(te:TE)(σ:St)(Q:VK)(v:V)(H1:Hp):Prop:=∃(r:aq) (ns:List Int) (key:Nat→Int×Int),v= .ref r∧H1 r=some (.tup (ns.map V.int))∧ns.length<64∧LamT P lp lq H1∧((aG ns.length).map key).Nodup ∧
 (∀i:Nat,i<ns.length→∀H2,Tb P H1 H2→te (some (.int (ns.getD i 0))::c9 σ js) H2 λu H3=>bD H2 H3∧∃a,u= .ref a∧H3 a=some (.tup [.int (key i).1,.int (key i).2])) ∧
 ∀(D:aq) (H4:Hp) (π:List Nat),Tb P H1 H4→LamT P lp lq H4→H4 D=none→π.Perm (aG ns.length)→π.Pairwise (λi j=>ltP (key i) (key j)=true)→Q (.ref D) (upd H4 D (.lst (π.map λ(i:Nat)=>V.int (ns.getD i 0))))
def tSortT (P:aq)(lp:Pos)(lq:Str)(tr:TE)(js:List Nat)(te:TE):TE:=λσ H Q=>tr σ H λv H1=>SortTQ P lp lq js te σ Q v H1
def SortT1 (P:aq)(lp:Pos)(lq:Str)(js:List Nat)(te:TE)(σ:St)(Q:VK):List V→Hp→Prop
 | [v],H1=>SortTQ P lp lq js te σ Q v H1
 | _,_=>False
theorem pe_sortT {tr:TE}{p kp:Pos}{c P:aq}(hc:X.calm=true)(hrm:X.A.depth<ka)(hg:Gl X "sorted")(hm:X.mg "sorted" =none)(hi:PE X re tr)
  (hd:defaultsOf params X.env=([],[])) (qU:X.env.code= .ref c) (C:codeHdIn X.K c P=true) (B:BM X.mg X.base)
  (hbind:∀q cl pm cdv ct (u:af),bindArgs (kla_fn "<lambda>" q params body scope cl pm cdv ct) ⟨[u],[]⟩=fV [(x,u)])
  (hk:scope.kind= .function) (hco:scope.isCoroutine=false) (hgen:scope.isGenerator=false) (iL:∀y∈scope.names,y.2≠ .cell) (hx:scope.names.lookup x=some .local) (hfx:x ∉ fr)
  (hfr:∀y∈scope.names,y.2= .free→X.env.scope.names.lookup y.1=some .cell) (hjs:js.map (λj=>X.N[j]?)=fr.map some) (hfv:∀y∈fr,scope.names.lookup y=some .free)
  (hb:∀cl L f cd s' H',PE (cxLam X (X.env.qual ++ "<lambda>") scope cl L f cd (x::fr) s' H') body te)
  (he:fB pos (bB [re] X.env)=(false,eP re X.env)::fB pos (bB [] X.env):=by rfl)
  (hs:bB [re] X.env=(false,eP re X.env)::bB [] X.env:=by rfl) (hpl:(fB pos (bB [re] X.env)).any (·.1)=false:=by rfl) :
  PE X (.Call (.Name "sorted" p) [re] [⟨some "key",.Lambda params body scope lp,kp⟩] pos) (tSortT P lp (X.env.qual ++ "<lambda>") tr js te):=by
 intro pins s σ H Q I h;apply eQ (mU I hg hm (u:= .builtin "sorted") ⇑0 ?_);apply callWith_kw (kws:=[⟨some "key",.Lambda params body scope lp,kp⟩]) (thn ((ai hi aF hs) pos pins s σ H (SortT1 P lp (X.env.qual ++ "<lambda>") js te σ Q) I h) λus s1 ⟨vs,H1,I1,r1,q0⟩=>?_) he hpl;apply kws_cons ?_;obtain⟨v,rfl⟩:∃v,vs=[v]:=by
  cases vs with
  | nil=>exact q0.elim
  | cons v r=>cases r with
   | nil=>exact⟨v,rfl⟩
   | cons _ _=>exact q0.elim
 have q1:SortTQ P lp (X.env.qual ++ "<lambda>") js te σ Q v H1:=q0;obtain⟨r,ns,key,rfl,hr,h64,T,hnd,hkey,hQ⟩:=q1;obtain rfl:us=[.ref r]:=by
  cases r1 with
  | cons ru rs =>
   cases rs;exact rX (λz=>[z]) ru
 apply n6 (body:=body) I1 hd qU C B hfr T λf cl H2 s2 I2 tb T2 F2 c1 c2=>?_
 apply kws_nil ?_;show aW _ _ (call (.builtin "sorted") [.ref r] [(cj "key",.ref f)]) _ _ _;have rP:r≠P:=λz=>by
  obtain⟨ps,e⟩:=LamG.tbl T;rw[←z,hr] at e;cases e
 obtain⟨its,rv,ht,_⟩:=I2.tuple (SqT.of (K:=X.K) (tb r _ rP hr));have lits:its.length=ns.length:=by rw[←rv.length,aa]
 apply sorted_keyT ht ⋯ λg h1 D kS e1 hg hkeep hD hDk gD gK=>?_
 have I2:Inv X pins σ H2 { s2 with heap:=g }:=I2.kept (t':=s2.toks) hg;have I3:Inv X pins σ H2 { s2 with heap:=h1 }:=I2.kept (t':=s2.toks) hkeep;have old:∀b o,g.get? b=some o→b≠D∧b≠kS:=λb o e=>⟨bG (aS (aN e) hD),bG (Nat.lt_trans (aS (aN e) hD) hDk)⟩
 have hDs:=aN gD;have hKs:=aN gK;have frD:H2 D=none:=I2.hok.fresh hD;have frK:H2 kS=none:=I2.hok.fresh (iZ (cf hD hDk));have cc:∀y d,X.env.cells.lookup y=some d→d≠D∧d≠kS:=λy d e=>by obtain⟨v,o,ho,_⟩:=I2.cell y d e;exact old d o ho
 have pp:∀z∈X.pn++pins,z.1≠D∧z.1≠kS:=λz hz=>old _ _ (I2.pin z hz).1
 have nl:g.objs.size≤kS:=iZ (cf hD hDk);have I4:Inv X ((kS,bJ "list" #[] 0)::(D,bJ "list" #[] e1)::pins) σ H2 { s2 with heap:=h1 }:=I3.pins_of λz hz=>by
  rcases aH.mp hz with rfl | hz
  ·exact⟨gK,frK,cZ (aS I2.lt nl),I2.nofs nl,λv z=>by cases z⟩
  ·rcases aH.mp hz with rfl | hz
   ·exact⟨gD,frD,cZ (aS I2.lt hD),I2.nofs hD,λv z=>by cases z⟩
   ·exact I3.pin z (aE _ hz)
 apply keyDo_of (num:=λi=>ns.getD i 0) (key:=key) I4 lits h64 (λi x e=>its_at rv e) (aQ I2.sz nl) (aQ I2.sz hD) (λy d e=>(cc y d e).2) (λy d e=>(cc y d e).1) (λz hz=>(pp z hz).2) (λz hz=>(pp z hz).1) (cZ hDk) hnd ?_ ?_
 ·intro t H' pins' i tk hi' I' S'
  apply cx (lam_call (v:= .int (ns.getD i 0)) I' hc hrm (F2.same S') ⟨_,rfl⟩ (λpm cdv ct=>hbind _ _ _ _ _ _) hk hco hgen iL hx hfx c1 c2 hfr hjs hfv (λL cd s' H'=>hb cl L f cd s' H') (hkey i hi' H' (tb.trans S'.tb))) (λk t' ⟨v,H'',I'',rv,S'',a,ev,ea⟩=>?_) λ_ _ z=>z
  subst ev;obtain rfl:k= .ref a:=rv;exact⟨a,H'',I'',S'',rfl,ea⟩
 ·intro t H' π S' hD' I' pm pw
  exact⟨.ref D,_,I',rfl,hQ D H' π (tb.trans S'.tb) (T2.same S') hD' pm pw⟩
def ptF (H:Hp)(fz:aq→Option Obj):Hp:=λb=>match fz b with | some o=>some (.frz o (.own 0)) | none=>H b
def ctF (H:Hp)(fz:aq→Option Obj):Hp:=λb=>match fz b with | some _=>none | none=>H b
def Fz (fz:aq→Option Obj)(H:Hp):Prop:=∀b o,fz b=some o→H b=some (.frz o (.own 0))
section
variable {b:aq}{o:Obj}{fs:List aq}
def rB (e:fz b=some o):ptF H fz b=some (.frz o (.own 0)):=by unfold ptF;rw[e]
def ie (e:fz b=none):ptF H fz b=H b:=by unfold ptF;rw[e]
def rJ (e:fz b=some o):ctF H fz b=none:=by unfold ctF;rw[e]
def iM (e:fz b=none):ctF H fz b=H b:=by unfold ctF;rw[e]
def Fz.out (F:Fz fz H){u:HO}(e:H b=some u)(n:∀o,u≠ .frz o (.own 0)):fz b=none:=by
 cases q:fz b with
 | none=>rfl
 | some o=>rw[F b o q] at e;cases e;exact rS rfl (n o)
def Fz.cut (F:Fz fz H){u:HO}(e:H b=some u)(n:∀o,u≠ .frz o (.own 0)):ctF H fz b=some u:=by rw[iM (F.out e n)];exact e
def HOk.cut (hok:HOk P w H h)(F:Fz fz H):HOk P w (ctF H fz) h:=λa o e=>by
 cases q:fz a with
 | some o'=>rw[rJ q] at e;cases e
 | none =>
  rw[iM q] at e;exact(hok a o e).stay (λ_ _ _ e=>e) (λb e'=>F.cut e' (λ_ z=>by cases z)) λb xs e'=>F.cut e' (λ_ z=>by cases z)
def HOk.ptF (hok:HOk P w H h)(N:∀b o,fz b=some o→H b=none)(G:∀b o,fz b=some o→h.get? b=some o):HOk P w (ptF H fz) h:=λa o e=>by
 cases q:fz a with
 | some o' =>
  rw[rB q] at e;cases e;exact⟨G a o' q,_,G a o' q⟩
 | none =>
  rw[ie q] at e;have out:∀b u,H b=some u→fz b=none:=λb u e'=>by
   cases q':fz b with
   | none=>rfl
   | some o'=>rw[N b o' q'] at e';cases e'
  exact(hok a o e).stay (λ_ _ _ e=>e) (λb e'=>by rw[ie (out b _ e')];exact e') λb xs e'=>by rw[ie (out b _ e')];exact e'
def Un.thaw (u:Un fs [] (ptF H fz) H' h h')(N:∀b o,fz b=some o→H b=none)(hok:HOk P w H' h')(G:∀b o,fz b=some o→h.get? b=some o):Un fs [] H (ctF H' fz) h h':=by
 have F:Fz fz H':=λb o e=>u.frzs b o _ (rB e)
 have out:∀b u,H b=some u→fz b=none:=λb u e'=>by
  cases q':fz b with
  | none=>rfl
  | some o'=>rw[N b o' q'] at e';cases e'
 have same:∀b o ob,fz b=some o→h.get? b=some ob→h'.get? b=some ob:=λb o ob q e=>by
  have e1:=G b o q;rw[e] at e1;cases e1;exact(hok b _ (F b _ q)).1
 apply⟨λb o e n hf hx=>?_,λb o e n hf hx=>?_,λb o e n hx=>?_,u.there,λb xs e=>?_,λb o x e=>?_,λb ps e=>?_⟩
 ·cases q:fz b with
  | some o'=>exact same b o' o q e
  | none=>exact u.keep b o e (by rw[ie q];exact n) hf hx
 ·cases q:fz b with
  | some o'=>exact⟨o.slots,same b o' o q e⟩
  | none=>exact u.slot b o e (by rw[ie q];exact n) hf hx
 ·cases q:fz b with
  | some o'=>exact rJ q
  | none=>rw[iM q];exact u.free b o e (by rw[ie q];exact n) hx
 ·have q:=out b _ e
  rw[iM q];exact u.tups b xs (by rw[ie q];exact e)
 ·have q:=out b _ e
  rw[iM q];exact u.frzs b o x (by rw[ie q];exact e)
 ·have q:=out b _ e
  rw[iM q];exact u.tbls b ps (by rw[ie q];exact e)
def Un.froze (u:Un fs [] (ctF H fz) H' h h')(F:Fz fz H):Un fs [] H (ptF H' fz) h h':=by
 have out:∀b,H b=none→fz b=none:=λb n=>by
  cases q:fz b with
  | none=>rfl
  | some o=>rw[F b o q] at n;cases n
 apply⟨λb o e n hf hx=>u.keep b o e (by rw[iM (out b n)];exact n) hf hx,λb o e n hf hx=>u.slot b o e (by rw[iM (out b n)];exact n) hf hx,λb o e n hx=>?_,u.there,λb xs e=>?_,λb o x e=>?_,λb ps e=>?_⟩
 ·rw[ie (out b n)];exact u.free b o e (by rw[iM (out b n)];exact n) hx
 ·have q:=F.out e (λ_ z=>by cases z)
  rw[ie q];exact u.tups b xs (by rw[iM q];exact e)
 ·cases q:fz b with
  | some o'=>rw[F b o' q] at e;cases e;exact rB q
  | none=>rw[ie q];exact u.frzs b o x (by rw[iM q];exact e)
 ·have q:=F.out e (λ_ z=>by cases z)
  rw[ie q];exact u.tbls b ps (by rw[iM q];exact e)
end
structure Clo (cl:List (Str×aq))(fz:aq→Option Obj)(fr:List Str)(ws:List V):Prop where
 all:∀x c,cl.lookup x=some c→∃o,fz c=some o
 cell:∀c o,fz c=some o→∃v,o.data= .cell v
 inj:∀a b c,cl.lookup a=some c→cl.lookup b=some c→a=b
 val:∀(i:Nat) y v,fr[i]? =some y→ws[i]? =some v→∃c o u,cl.lookup y=some c∧fz c=some o∧o.data= .cell (some u)∧gL v u
 len:ws.length=fr.length
structure LmOk (P:aX)(w:bz)(K:au)(mg:Str→Option af)(base:bO)(k:Nat)(f:aq)(Hf:Hp→Prop)(sp:Sp):Prop where
 isFn:∀H h,Hf H→HOk P w H h→FnAt f h
 run:∀(A:bT) (outer:List Env) (s:ay) (H:Hp) (u:af) (v:V) (Q:VK),gP k A→Env0 P w K mg base A outer s H→Hf H→gL v u→sp [v] H Q E0→jj (br P w) A (.call (.ref f) ⟨[u],[]⟩) (CR CX0 outer P w H s Q E0) s
def cxLm (P:aX)(w:bz)(K:au)(mg:Str→Option af)(base:bO)(q:Str)(scope:fN)(cl:List (Str×aq))(L f:aq)(cd:af)(N:List Str)(A:bT)(outer:List Env)(s:ay)(H:Hp):Cx :=
 { prog:=P,w:=w,K:=K,mg:=mg,base:=base,A:=A.deeper (envX q scope L f cd cl),N:=N,s₀:=s,H₀:=H,env:=envX q scope L f cd cl,outer:=outer,stack:=envX q scope L f cd cl::outer,ex:=[],calm:=true,fn:=λ_=>false,pn:=[],xe:=λ_ _=>False }
def lam_run {k:Nat}{ws:List V}{sp:Sp}
  (hbind:∀u pm cdv ct,bindArgs (kla_fn "<lambda>" q params body scope cl pm cdv ct) ⟨[u],[]⟩=fV [(x,u)])
  (hk:scope.kind= .function) (hco:scope.isCoroutine=false) (hgen:scope.isGenerator=false) (iL:∀y∈scope.names,y.2≠ .cell) (hx:scope.names.lookup x=some .local) (hfx:x ∉ fr)
  (C:Clo cl fz fr ws) (hcl:∀y∈scope.names,y.2= .free→∃c,cl.lookup y.1=some c) (hfv:∀y∈fr,scope.names.lookup y=some .free)
  (hb:∀L cd A outer s' H',gP k (A.deeper (envX q scope L f cd cl))→PE (cxLm P w K mg base q scope cl L f cd (x::fr) A outer s' H') body te)
  (ht:∀v H Q,LamF q params body scope cl f H→Fz fz H→sp [v] H Q E0→te (some v::ws.map some) (ctF H fz) (λy H'=>(∀b o,fz b=some o→H' b=none)→Q y (ptF H' fz))) :
  LmOk P w K mg base (k+1) f (λH=>LamF q params body scope cl f H∧Fz fz H) sp:=by
 apply⟨λH h ⟨⟨pm,cd,ct,e,_⟩,_⟩ hok=>⟨_,_,_,_,(hok f _ e).1⟩,λA outer s H u v Q hr e0 ⟨F,Z⟩ ru hsp=>?_⟩;have ht:=ht v H Q F Z hsp;obtain⟨pm,cd,ct,e,oc,vs,t,ec,hdc,hvc⟩:=F;have ho:s.heap.get? f=some (kla_obj "<lambda>" q params body scope cl pm cd ct):=(e0.hok f _ e).1;have hoc:s.heap.get? cd=some oc:=(e0.hok cd _ ec).1;apply kla_callFunE (by have:=hr.dp;lia) ho rfl hco hgen rfl ⟨cd,oc,vs,t,rfl,hoc,hdc,hvc⟩ ?_;rw[hbind];apply aP (wpAny_newFunctionEnv iL (λy hy=>?_) (λh₁ hns hsb=>⟨?nl,?_⟩) hk)
 ·rw[aw.mp hy];exact hx
 case nl=>exact(e0.mod.nolimit.keeps (λb o e=>(e0.bs b o e).1)).fresh _ hsb
 show jj _ _ (.expr body (envX q scope s.heap.objs.size f (.ref cd) cl)) _ _;have old:∀b o,s.heap.get? b=some o→h₁.get? b=some o:=λb o e=>hsb.extBut b o (bG (aN e)) (ax _ e)
 apply kla_codeExpr ?_;have hokc:=HOk.cut e0.hok Z;have cutN:∀b,H b=none→ctF H fz b=none:=λb n=>by
  cases z:fz b with
  | some o=>exact rJ z
  | none=>rw[iM z];exact n
 have ok':(cxLm P w K mg base q scope cl s.heap.objs.size f (.ref cd) (x::fr) A outer s (ctF H fz)).Ok:=by
  apply⟨e0.mod,hk,rfl,rfl,aB _,C.inj,λy hy=>?_,λ_ _ z=>rS z (by intro q;cases q),λ_=>hr.hd,bT.frames_deeper e0.frames,.inr ⟨rfl,rfl⟩,λb hb=>rS (show b∈([]:List aq) from hb) ∅,λb o e=>⟨(e0.bs b o e).1,cutN b (e0.bs b o e).2⟩,e0.bsz,λb o e hb=>rS (show b∈([]:List aq) from hb) ∅,λb hb=>rS (show b∈([]:List aq) from hb) ∅,e0.funs,λb hb=>cutN b (e0.frf b hb)⟩;have hy:scope.names.lookup y=some .cell∨scope.names.lookup y=some .free:=hy
  rcases hy with hy | hy
  ·exact rS rfl (iL _ (cB hy))
  ·exact hcl _ (cB hy) rfl
 have cellAt:∀c o,fz c=some o→h₁.get? c=some o:=λc o z=>old _ _ (e0.hok c _ (Z c o z)).1
 have I1:Inv (cxLm P w K mg base q scope cl s.heap.objs.size f (.ref cd) (x::fr) A outer s (ctF H fz)) [] (some v::ws.map some) (ctF H fz) { s with heap:=h₁,toks:=s.toks+1 }:=by
  apply⟨ok',rfl,e0.bare,Un.kept old,⟨_,hns,λi y v' e1 e2 e3=>?_⟩,λy c e=>?_,hokc.fresh (aB _),λy c e=>?_,λp hp=>rS (show p∈([]:List (aq×Obj)) from hp) ∅,hokc.kept old,?_⟩
  ·cases i with
   | zero =>
    have e1:some x=some y:=e1;have e2:some (some v)=some (some v'):=e2;cases e1;cases e2;exact⟨u,ru,.inl ⟨hx,by show eN x [(x,u)]=_;rw[dk,beq_self_eq_true]⟩⟩
   | succ i =>
    have e1:fr[i]? =some y:=e1;have e2:(ws.map some)[i]? =some (some v'):=e2;rw[az] at e2;obtain⟨v2,e2,e4⟩:=aM.mp e2;cases e4;obtain⟨c,o,u',z1,z2,z3,z4⟩:=C.val i y v' e1 e2;exact⟨u',z4,.inr ⟨.inr (hfv y (aL e1)),c,z1,o,cellAt c o z2,z3⟩⟩
  ·obtain⟨o,z⟩:=C.all y c e
   obtain⟨v',hv'⟩:=C.cell c o z;exact⟨v',o,cellAt c o z,hv'⟩
  ·obtain⟨o,z⟩:=C.all y c e
   exact rJ z
  ·show(some v::ws.map some).length=(x::fr).length
   rw[aV,aV,aa,C.len]
 apply cx (hb _ _ A outer s (ctF H fz) (hr.deeper _) [] _ _ (ctF H fz) _ I1 ht) (λy s' hs=>?_) λ_ _ z=>z.elim
 obtain⟨v',H',J,rv,qv⟩:=hs;have JB:Un (frs outer) [] (ctF H fz) H' s.heap s'.heap:=J.base;have heapAt:∀b o,fz b=some o→s'.heap.get? b=some o:=λb o z=>JB.keep b o (e0.hok b _ (Z b o z)).1 (rJ z) (λhb=>by have:=e0.frf b hb;rw[Z b o z] at this;cases this) ∅
 have freeAt:∀b o,fz b=some o→H' b=none:=λb o z=>JB.free b o (e0.hok b _ (Z b o z)).1 (rJ z) ∅
 exact⟨v',ptF H' fz,J.os,J.bare,Un.froze JB Z,HOk.ptF J.hok freeAt heapAt,rv,qv freeAt⟩
def tLam (i:Nat)(f:aq)(Hf:Hp→Prop)(sp:Sp)(t:TE):TE:=λσ H Q=>σ[i]? =some (some (.ref f))∧Hf H∧t σ H λv H1=>Hf H1∧sp [v] H1 Q E0
def pe_callV {k:Nat}{p:Pos}{t:TE}{sp:Sp}(L:LmOk X.prog X.w X.K X.mg X.base k f Hf sp)(hr:gP k X.A)(ha:PE X e t)(hN:X.N[i]? =some x:=by rfl)(hv:Vis X.env.scope x:=by first | exact Or.inl rfl | exact Or.inr (.inl rfl) | exact Or.inr (.inr rfl))
  (hd:(x == ("__debug__" :Str))=false:=by decide) (hcd:(x == ("__classdict__" :Str))=false:=by decide) (he:bB [e] X.env=[(false,eP e X.env)]:=by rfl):PE X (.Call (.Name x p) [e] [] pos) (tLam i f Hf sp t):=by
 intro pins s σ H Q I ⟨h1,h2,h3⟩;apply eQ (thn (pe_var hN hv hd hcd pins s σ H (λv H1=>v= .ref f∧H1=H) I ⟨_,h1,rfl,rfl⟩) λu s1 ⟨v,H1,I1,r1,e1,e2⟩=>?_);subst e1;subst e2;cases r1;apply callWith_F (L.isFn _ _ h2 I1.hok) (thn ((ai ha aF he) pos pins s1 σ H1 (λvs H2=>match vs with | [v]=>Hf H2∧sp [v] H2 Q E0 | _=>False) I1 h3) λus s2 ⟨vs,H2,I2,r2,q2⟩=>?_) he rfl
 ·obtain _ | ⟨v,_ | ⟨v',vs⟩⟩:=vs
  ·exact q2.elim
  rotate_left
  ·exact q2.elim
  obtain⟨h4,h5⟩:=q2;obtain⟨u,rfl,ru⟩:=r2.one;apply⟨L.isFn _ _ h4 I2.hok,wpAny_call (codeAny_mono (L.run X.A X.stack s2 H2 u v Q hr I2.env0 h4 ru h5) λr s' hq=>?_)⟩;cases r with
  | error e=>exact cR hq
  | ok fl =>
   cases fl with
   | ret u=>exact I2.after hq
   | next=>exact cR hq
   | brk=>exact cR hq
   | cont=>exact cR hq
def LamE (env:Env)(scope:fN)(cl:List (Str×aq)):Prop:=(∀x c,cl.lookup x=some c→env.cells.lookup x=some c)∧∀y∈scope.names,y.2= .free→cl.lookup y.1=env.cells.lookup y.1
def tLamb (env:Env)(T:aq)(lp:Pos)(params:gQ)(body:Expr)(scope:fN):TE:=λ_ H Q=>LamT T lp (env.qual ++ "<lambda>") H∧∀g cl H',Tb T H H'→LamT T lp (env.qual ++ "<lambda>") H'→LamF (env.qual ++ "<lambda>") params body scope cl g H'→LamE env scope cl→Q (.ref g) H'
def tCallZ (env:Env)(scope:fN)(fr:List Str)(js:List Nat)(sp:Sp)(t:TA):TE:=λσ H Q=>t σ H λvs H1=>∃cl ws,LamE env scope cl∧c9 σ js=ws.map some∧∀fz,Clo cl fz fr ws→(∀b o,fz b=some o→H1 b=none)→sp vs (ptF H1 fz) (λy H'=>Fz fz H'→Q y (ctF H' fz)) E0
open Classical in
def oH (cl:List (Str×aq))(h:bO):aq→Option Obj:=λb=>if ∃x,cl.lookup x=some b then h.get? b else none
section
variable {pins:List (aq×Obj)}{σ:List (Option V)}
def pe_lam {c T:aq}(hd:defaultsOf params X.env=([],[]))(qU:X.env.code= .ref c)(C:codeHdIn X.K c T=true)(B:BM X.mg X.base)
  (hfr:∀y∈scope.names,y.2= .free→X.env.scope.names.lookup y.1=some .cell):PE X (.Lambda params body scope pos) (tLamb X.env T pos params body scope):=λ_ _ _ _ _ I ⟨L,h⟩ =>
 n6 I hd qU C B hfr L λf cl H' _ I' t1 T1 F c1 c2=>⟨.ref f,H',I',rfl,h f cl H' t1 T1 F ⟨c1,c2⟩⟩
def oh {b:aq}{o:Obj}(e:oH cl h b=some o):(∃x,cl.lookup x=some b)∧h.get? b=some o:=by
 unfold oH at e;split at e
 ·rename_i z;exact⟨z,e⟩
 ·cases e
def frzOf_of {b:aq}{o:Obj}(z:cl.lookup x=some b)(e:h.get? b=some o):oH cl h b=some o:=by
 unfold oH;rw[rR ⟨x,z⟩];exact e
def Inv.clo {ws:List V}(I:Inv X pins σ H s)(E:LamE X.env scope cl)(hws:c9 σ js=ws.map some)(hjs:js.map (λj=>X.N[j]?)=fr.map some)(hfv:∀y∈fr,scope.names.lookup y=some .free)
  (hfr:∀y∈scope.names,y.2= .free→X.env.scope.names.lookup y.1=some .cell):Clo cl (oH cl s.heap) fr ws:=by
 have lens:ws.length=fr.length:=by
  have e:=rX List.length hws;have e2:=rX List.length hjs;unfold c9 at e;rw[aa,aa] at e e2;lia
 apply⟨λx c e=>?_,λc o e=>?_,λa b c e1 e2=>I.ok.inj a b c (E.1 a c e1) (E.1 b c e2),λi y v e1 e2=>?_,lens⟩
 ·obtain⟨v,o,ho,_⟩:=I.cell x c (E.1 x c e)
  exact⟨o,frzOf_of e ho⟩
 ·obtain⟨⟨x,hx⟩,ho⟩:=oh e
  obtain⟨v,o',ho',hd⟩:=I.cell x c (E.1 x c hx);rw[ho] at ho';cases ho';exact⟨v,hd⟩
 ·have e3:(c9 σ js)[i]? =some (some v):=by rw[hws,az,e2];rfl
  unfold c9 at e3;rw[az] at e3;obtain⟨j,ej,e3⟩:=aM.mp e3;have hN:X.N[j]? =some y:=by
   have q:=rX (λl=>l[i]?) hjs;simp only[az,ej,e1,gu] at q;exact bE q
  have hσ:σ[j]? =some (some v):=by
   cases z:σ[j]? with
   | none=>rw[z] at e3;cases e3
   | some w=>rw[z] at e3;exact rX some e3
  have hm:=cB (hfv y (aL e1));have hce:X.env.scope.names.lookup y=some .cell:=hfr _ hm rfl;obtain⟨m,_,hl⟩:=I.loc;obtain⟨u',ru',look⟩:=hl j y v hN hσ (.inr (.inl hce))
  rcases look with ⟨k,_⟩ | ⟨_,c,ec,o,ho,hd⟩
  ·have k:X.env.scope.names.lookup y=some .local:=k
   rw[hce] at k;cases k
  ·have ecl:cl.lookup y=some c:=(E.2 _ hm rfl).trans ec
   exact⟨c,o,u',ecl,frzOf_of ecl ho,hd,ru'⟩
def pe_callZ {p:Pos}{k:Nat}{sp:Sp}(F:cJ X.prog X.w X.K X.mg X.base CX0 k f fd ps sp)(hr:gP k X.A)(hfn:∀x,X.fn x=true)(hg:Gl X x)(hm:X.mg x=some (.ref f))(hk:dY X.K (.ref f)=true)(hb:oM X.K fd ps [])
  (hjs:js.map (λj=>X.N[j]?)=fr.map some) (hfv:∀y∈fr,scope.names.lookup y=some .free) (hfr:∀y∈scope.names,y.2= .free→X.env.scope.names.lookup y.1=some .cell)
  (ha:PA X (e::es) t) (hdb:(x == ("__debug__" :Str))=false:=by decide) (he:bB (e::es) X.env=(false,eP e X.env)::bB es X.env:=by rfl) (hpl:(fB pos (bB es X.env)).any (·.1)=false:=by rfl) :
  PE X (.Call (.Name x p) (e::es) [] pos) (tCallZ X.env scope fr js sp t):=by
 intro pins s σ H Q I h;apply eQ (ld_glob I hg hm ?_ hdb);apply kO (h₀:=X.base) I.ok.mod.kin hk (thn (ha pos pins s σ H _ I h) λus s1 ⟨vs,H1,I1,r,q⟩=>⟨I1.kIn,?_⟩) he hpl;obtain⟨cl,ws,LE,hws,q⟩:=q;have C:=I1.clo LE hws hjs hfv hfr;have N:∀b o,oH cl s1.heap b=some o→H1 b=none:=λb o e=>by
  obtain⟨⟨x,hx⟩,_⟩:=oh e;exact I1.freeC x b (LE.1 x b hx)
 have G:∀b o,oH cl s1.heap b=some o→s1.heap.get? b=some o:=λb o e=>(oh e).2
 have up:∀b o,oH cl s1.heap b=some o→X.s₀.heap.objs.size≤b:=λb o e=>by
  obtain⟨⟨x,hx⟩,_⟩:=oh e;exact I1.ok.cab x b (hfn x) (LE.1 x b hx)
 have q:=q _ C N;have hl:us.length=ps.length:=by rw[←r.length];exact F.len _ _ _ _ q
 have e0:Env0 X.prog X.w X.K X.mg X.base X.A X.stack s1 (ptF H1 (oH cl s1.heap)):=by
  have e:=I1.env0;apply⟨e.frames,e.mod,λb o eb=>⟨(e.bs b o eb).1,?_⟩,e.bsz,e.funs,λb hb=>?_,HOk.ptF e.hok N G,e.bare⟩
  ·cases z:oH cl s1.heap b with
   | none=>rw[ie z];exact(e.bs b o eb).2
   | some o' =>
    have h1:=up b o' z;have h2:=aN eb;have h3:=I1.ok.bsz;exact rS (aS h2 (aQ h3 h1)) (gc _)
  ·cases z:oH cl s1.heap b with
   | none=>rw[ie z];exact e.frf b hb
   | some o' =>
    exfalso
    rcases aH.mp (I1.stkSub b hb) with el | hb'
    ·obtain⟨v,hv⟩:=C.cell b o' z
     obtain⟨m,⟨o2,es2,ep2,ho2,hd2,_⟩,_⟩:=I1.loc;have e1:=G b o' z;rw[el,ho2] at e1;cases e1;rw[hd2] at hv;cases hv
    ·obtain⟨_,o2,ho2,_⟩:=I1.ok.funs.mem hb'
     have h1:=up b o' z;have h2:=aN ho2;exact rS (aS h2 h1) (gc _)
 apply wpAny_call (codeAny_mono (F.run X.A X.stack s1 _ ⟨us,[]⟩ us vs _ E0 hr e0 (by have:=hb s1 us I1.kIn (by rw[c5];exact hl);rw[c5] at this;exact this) r q) λr' s' hq=>?_);cases r' with
 | error e=>exact cR hq
 | ok fl =>
  cases fl with
  | ret u =>
   obtain⟨v,H',os,bare,un,hok,rv,qv⟩:=hq;have Z:Fz (oH cl s1.heap) H':=λb o e=>un.frzs b o _ (rB e)
   exact I1.after ⟨v,ctF H' (oH cl s1.heap),os,bare,Un.thaw un N hok G,HOk.cut hok Z,rv,qv Z⟩
  | next=>exact cR hq
  | brk=>exact cR hq
  | cont=>exact cR hq
end
end L2
namespace HN
open PySem L2 PyProof.Rows
def TiedBy (sp:List Sn)(L k:Int):Prop:=∃x∈sp,x.o - x.l≤L∧((x.s=k∧0≤x.g∧x.g<k)∨(x.g=k∧0≤x.s∧x.s<k))
def Narrow (m:Int)(sp:List Sn)(L:Int):Prop:=(∀x∈sp,x.o - x.l≤L)∨∀k,1≤k→k<m→TiedBy sp L k
theorem taken_at {sp:List Sn}{i:Nat}:∀(π:List Nat) (c:List Int×List Nat),i∈(π.foldl (gq sp) c).2→i∈c.2∨∃π1 π2,π=π1++i::π2∧tm (π1.foldl (gq sp) c).1 (sAt sp i).s≠tm (π1.foldl (gq sp) c).1 (sAt sp i).g
 | [],c,h=> .inl h
 | j::π,c,h=>by
  rw[bQ] at h
  rcases taken_at π _ h with h | ⟨π1,π2,rfl,hne⟩
  ·obtain⟨gs,tk⟩:=c
   rcases jy sp gs tk j with ⟨_,e⟩ | ⟨n,e⟩ <;> rw[e] at h
   ·exact .inl h
   ·rcases aI.mp h with h | h
    ·exact .inl h
    ·rw[aw.mp h]
     exact .inr ⟨[],π,rfl,n⟩
  ·exact .inr ⟨j::π1,π2,rfl,hne⟩
theorem all_met {m:Nat}{sp:List Sn}{L:Int}{gs:List Int}(E:kQ m sp)(meets:∀x∈sp,x.o - x.l≤L→tm gs x.s=tm gs x.g)(ti:∀k:Int,1≤k→k<m→TiedBy sp L k):∀(n:Nat) (k:Int),0≤k→k<m→k.toNat≤n→tm gs k=tm gs 0
 | n,k,k0,k1,kn=>by
  by_cases z:k=0
  ·rw[z]
  ·obtain⟨x,hx,hw,h⟩:=ti k ⋯ k1
   have e:=meets x hx hw
   rcases h with ⟨h1,h2,h3⟩ | ⟨h1,h2,h3⟩
   ·cases n with
    | zero=>lia
    | succ n =>
     rw[h1] at e;rw[e];exact all_met E meets ti n x.g h2 ⋯ ⋯
   ·cases n with
    | zero=>lia
    | succ n =>
     rw[h1] at e;rw[←e];exact all_met E meets ti n x.s h2 ⋯ ⋯
def Cnn (L:Int)(sp:List Sn):Prop:=∀gs:List Int,(∀x∈sp,x.o - x.l≤L→tm gs x.s=tm gs x.g)→∀x∈sp,tm gs x.s=tm gs x.g
theorem Narrow.cn (E:kQ m sp)(N:Narrow (m:Int) sp L):Cnn L sp:=λgs h x hx=>by
 rcases N with N | N
 ·exact h x hx (N x hx)
 ·obtain⟨a0,a1,b0,b1⟩:=E x hx
  rw[all_met E h N _ _ a0 a1 (aB _),all_met E h N _ _ b0 b1 (aB _)]
def GrdL (m:Nat)(sp:List Sn)(l:List Nat):Prop:=∃π,Ordd sp π∧l.Perm (kX sp m π).2
def GrdL.few (E:kQ m sp)(h:0<m)(a:GrdL m sp l):l.length<m:=by
 obtain⟨π,O,pm⟩:=a;rw[pm.length_eq];exact(Gd.fold E π _ _ (λi hi=>O.lt hi) (Gd.start m sp)).few h
theorem frst_cn (E:kQ m sp)(N:Cnn L sp)(F:GrdL m sp l):∀i∈l,i<sp.length∧(wkey sp i).1≤L:=by
 obtain⟨π,O,pm⟩:=F;intro i hi;have hi:=pm.mem_iff.mp hi
 rcases taken_at π (j4 m,[]) hi with h | ⟨π1,π2,e,h⟩
 ·cases h
 have hil:i<sp.length:=O.lt (by rw[e];simp);apply⟨hil,?_⟩
 by_cases w:(wkey sp i).1≤L
 ·exact w
 exfalso;have w:L<(sAt sp i).o - (sAt sp i).l:=by
  have:¬((sAt sp i).o - (sAt sp i).l≤L):=w;lia
 have p1:∀j∈π1,j<sp.length:=λj hj=>O.lt (by rw[e];simp[hj])
 apply h (N _ (λx hx hw=>?_) _ (fc hil));obtain⟨j,hj,ej⟩:=bK hx;have ej:sAt sp j=x:=by
  unfold sAt;rw[ae,gE hj];exact ej
 have hjπ:j∈π:=O.1.mem_iff.mpr (bS.mpr hj);have hj1:j∈π1:=by
  rw[e] at hjπ
  rcases aI.mp hjπ with z | z
  ·exact z
  ·exfalso
   rcases aH.mp z with z | z
   ·rw[z] at ej;rw[ej] at w;lia
   ·have pw:=O.2
    rw[e] at pw;have:=(jq.mp (List.pairwise_append.mp pw).2.1).1 j z;rw[ltP_iff] at this;unfold wkey at this;rw[ej] at this;lia
 have:=lH E π1 (j4 m) [] (kg m) p1 j hj1;rw[ej] at this;exact this
theorem prodW_lim {sp:List Sn}{L:Int}:∀(l:List Nat),(∀i∈l,0≤(wkey sp i).1∧(wkey sp i).1≤L)→1≤kd sp l∧kd sp l≤(L+1) ^ l.length
 | [],_=>⟨(d8 1:(1:Int)≤1),by show(1:Int)≤(L+1) ^ 0;rw[Int.pow_zero];exact d8 1⟩
 | i::l,h=>by
  obtain⟨a,b⟩:=h i ∅;obtain⟨c,d⟩:=prodW_lim l λj hj=>h j (aA _ hj)
  rw[oA,aV,Int.pow_succ,Int.mul_comm ((L+1) ^ l.length)];apply⟨?_,Int.mul_le_mul ⋯ d ⋯ ⋯⟩;have:1 * 1≤((wkey sp i).1+1) * kd sp l:=Int.mul_le_mul ⋯ c ↥0 ⋯;lia
theorem few_cn {m M:Int}(N:jb b m sp)(c:Cnn L sp)(p:∀k:Nat,k<m.toNat→(L+1) ^ k≤M)(F:GrdL m.toNat sp l):1≤kd sp l∧kd sp l≤M:=by
 have m1:=N.m1;have E:=N.ends;have few:=F.few E ⋯;have:=prodW_lim (sp:=sp) (L:=L) l λi hi=>by
  obtain⟨a,c⟩:=frst_cn E c F i hi;apply⟨?_,c⟩;have:=(N.all _ (fc a)).lo;show 0≤(sAt sp i).o - (sAt sp i).l;lia
 exact⟨this.1,Int.le_trans this.2 (p _ few)⟩
theorem jb.cn {m:Int}(N:jb b m sp)(na:Narrow m sp L):Cnn L sp:=by
 have m1:=N.m1;apply Narrow.cn N.ends ?_;rw[dv ⋯];exact na
end HN
namespace L2
open PySem PySem.W PySem.Spec PyProof.Rows
def CGrt (i j:Int):Prop:=i.natAbs<10 ^ 1000∧j.natAbs<10 ^ 1000
theorem bits_grt {x:Int}(h:x.natAbs<10 ^ 1000):cO.Int.intBits x≤2 ^ 20:=by
 unfold cO.Int.intBits;split
 ·exact bu _
 ·rename_i hx
  have h0 : x.natAbs ≠ 0 := fun z => hx (by have e : x = 0 := by lia
                                            rw [e];rfl)
  have h2:=(Nat.log2_lt h0).mpr (Nat.lt_trans h (by trivial:10 ^ 1000<2 ^ 10000));have h3:(10000:Nat)+1≤2 ^ 20:=by decide
  lia
theorem ip_mulG:PIp X .Mult (λx y H Q=>∃i j,x= .int i∧y= .int j∧CGrt i j∧Q (.int (i * j)) H):=by
 intro pins s σ H x y v u Q I r1 r2 h;obtain⟨i,j,e1,e2,hc,q⟩:=h;subst e1;subst e2;obtain⟨t,rfl⟩:=r1;obtain⟨t',rfl⟩:=r2;exact imul_int ⟨.int _,H,I.tok _,⟨_,rfl⟩,q⟩ (IntMulOk.of_bits (bits_grt hc.1) (bits_grt hc.2))
end L2
namespace L2
open PySem PySem.Spec PyProof.Rows
def Itvl (K:au)(a:aq)(n:Nat):It :=
 ⟨λi H=>∃xs x,SqL K H a xs∧xs.length=n∧xs.reverse[i]? =some x,λi H x H'=>H'=H∧∀xs,SqL K H a xs→xs.reverse[i]? =some x,λi _=>i=n⟩
theorem turn_revL (a it:aq)(n:Nat):Turn P w K tg (Itvl K a n) [it] it (λi h=>h.IsRevIter it a ((n:Int) - 1 - (i:Nat))) where
 mem:=by simp
 obj:=λi h st b hb=>by
  have e:b=it:=by simpa using hb
  subst e;obtain⟨o,e,c,d⟩:=st;exact⟨o,e,λv z=>by rw[d] at z;cases z⟩
 keep:=λi h h' st k=>st.at λo e=>k it ∅ o e
 item:=by
  intro X hP hw hK hc i pins s σ H E I hf st hg;subst hP hw hK;obtain⟨xs,x,hq,hn,hx⟩:=hg;obtain⟨its,rv,p,hz⟩:=I.list hq;have hi:i<xs.length:=by
   have:=(ar.mp hx).1;rw[dW] at this;exact this
  have hx2:=hx;rw[List.getElem?_reverse hi] at hx2;obtain⟨u,hu,ru⟩:=rv.get hx2;obtain⟨f0,f1,f2,f3,f4,f5⟩:=hf it ∅;have e:(n:Int) - 1 - (i:Nat)=((xs.length - 1 - i:Nat):Int):=by lia
  rw[e] at st;apply wpAny_pyNext_rev_item st p.isList (x:=u) (by simpa using hu) λh' st' sb=>?_
  have I1:Inv X pins σ H { s with heap:=h' }:=I.turned (t':=s.toks) (λb o hb e=>(sb.2 b hb).trans e) f0 f1 f3 f4 f5;obtain⟨o,e2,c,d⟩:=id st';have e3:((xs.length - 1 - i:Nat):Int) - 1=(n:Int) - 1 - ((i+1:Nat):Int):=by lia
  rw[e3] at st';exact⟨u,rfl,go_of (s:={ s with heap:=h' }) e2 c d ↥0 ⟨x,H,I1,ru,⟨rfl,λys hy=>by rw[I.list_inj hy hq];exact hx⟩,st',λb hb=>(hf b hb).1⟩⟩
 done:=by
  intro X hP hw hK hc i pins s σ H E I hf st hg;subst hP hw hK;obtain⟨f0,f1,f2,f3,f4,f5⟩:=hf it ∅;have hg:i=n:=hg;have e:(n:Int) - 1 - (i:Nat)= -1:=by lia
  rw[e] at st;exact wpAny_pyNext_rev_end (I.ok.hd hc) st λh' eb=>⟨rfl,I.turned (t':=s.toks) (λb o hb e=>eb b o hb e) f0 f1 f3 f4 f5⟩
 self:=λ_ _ _ _ _ st h=>wpAny_pyIter_revIter st h
def iRevL (K:au)(ta:TA):TI:=λσ H R=>ta σ H λvs H1=>∃a xs,vs=[.ref a]∧SqL K H1 a xs∧R (Itvl K a xs.length) H1
theorem pi_revL {ta:TA}{p:Pos}(hg:Gl X "reversed")(hm:X.mg "reversed" =none)(ha:PA X [ea] ta)(hs:bB [ea] X.env=[(false,eP ea X.env)]:=by rfl) :
  PI X tg (.Call (.Name "reversed" p) [ea] [] pos) (iRevL X.K ta):=by
 intro pins s σ H R I h;apply Call_ (mU I hg hm boot_reversed (fH (thn (ha pos pins s σ H _ I h) λus s1 z=>?_) hs rfl));obtain⟨vs,H1,I1,r1,q1⟩:=z;obtain⟨a,xs,e,hA,q⟩:=q1;subst e;obtain⟨u1,rfl,r2⟩:=oo r1;cases(show u1=af.ref a from r2);obtain⟨its,rv,pt',hz⟩:=I1.list hA;have hl:=rv.length;apply call_reversed_list pt'.isList ?_;have z1:(s1.heap.push (revObj a ((its.toArray.size:Int) - 1))).IsRevIter s1.heap.objs.size a ((xs.length:Int) - 1 - ((0:Nat):Int)):=by
  apply⟨_,aU _ rfl,rfl,?_⟩;rw[aK,←hl,show(xs.length:Int) - 1 - ((0:Nat):Int)=(xs.length:Int) - 1 by lia];rfl
 apply wpAny_pyIter_revIter (s:={ s1 with heap:=s1.heap.push (revObj a ((its.toArray.size:Int) - 1)) }) z1 ⟨s1.heap.objs.size,[s1.heap.objs.size],_,Itvl X.K a xs.length,H1,rfl,I1.kept (t':=s1.toks) λc o e=>ax _ e,turn_revL a _ _,z1,λb hb=>?_,q⟩;have e:b=s1.heap.objs.size:=by simpa using hb
 subst e;exact I1.fpOk (aB _) (I1.hok.fresh (aB _))
theorem for_revL {tb:TS}{D:kQ}(Pv:Nat→St→Hp→Prop)(h0:Pv 0 σ H)(hl:∀i σ H,i≤xs.length→Pv i σ H→SqL K H a xs)
  (hs:∀i x σ H,xs.reverse[i]? =some x→Pv i σ H→g x σ H λσ2 H2=>tb { D with nx:=Pv (i+1),ct:=Pv (i+1),bk:=D.nx } σ2 H2) (hd:∀σ H,Pv xs.length σ H→D.nx σ H) :
  ∃W:Nat→Nat→St→Hp→Prop,(∃m,W 0 m σ H)∧∀i m σ H,W i m σ H →
   ((Itvl K a xs.length).stop i H∧D.nx σ H)∨((Itvl K a xs.length).go i H∧∃N:St→Hp→Prop,(∀σ' H',N σ' H'→∃m',m'<m∧W (i+1) m' σ' H')∧∀x H',(Itvl K a xs.length).yld i H x H'→g x σ H' λσ2 H2=>tb { D with nx:=N,ct:=N,bk:=D.nx } σ2 H2):=by
 apply⟨λi m σ H=>m=xs.length - i∧i≤xs.length∧Pv i σ H,⟨xs.length,∅,bu _,h0⟩,?_⟩;rintro i m σ H ⟨rfl,hi,p⟩;have q:=hl i σ H hi p
 by_cases e:i=xs.length
 ·subst e
  exact .inl ⟨rfl,hd σ H p⟩
 ·have hlt:i<xs.length:=fE hi e
  apply .inr ⟨⟨xs,_,q,rfl,gE (by rw[dW];exact hlt)⟩,Pv (i+1),λσ' H' p'=>⟨xs.length - (i+1),⋯,rfl,⋯,p'⟩,λx H' hy=>?_⟩;obtain⟨rfl,hx⟩:=hy;exact hs i x σ _ (hx xs q) p
end L2
namespace HN
open PySem L2 PyProof.Rows
abbrev sFrom:cF:=top 12
abbrev sTo:cF:=top 13
def scFrom:bY ["net","step","span"] pzc (defScope sFrom):=by trivial
def qh (F:Fun K "leads_from" "leads_from" sFrom f fd):‹0› 1 f fd pzc ra:=by
 apply F.ok scFrom (by contradiction) (fun cdv A outer s0 H vs Q E hr h=>?_);obtain ⟨v,q,b,m,sp,s,x,rfl,hv,hq,hx,k⟩:=h;obtain ⟨t,p,ys,rfl,ht,hp,hl,hy⟩:=fe hv;obtain ⟨qx,hqx,hqx2⟩:=hy s.i x hx;apply ⟨_,PSl.h (aZ ⟨(psZ 2 scFrom.nd (dO dF (ixZ (pv 0)) (ixZ (pv 1)) (fun _ _=>rfl)))⟩
  (cP ⟨(bZ (pB (cy jO (ixZ (pv 1)) bP (cL _)) (ixZ (pv 2)) (ixZ (pv 2))))⟩)),?_⟩
 apply⟨_,rfl,t,_,_,_,rfl,rfl,SqT.of ht,aO (j:=2) rfl,_,rfl,q,_,_,_,rfl,rfl,SqT.of hq,aO (j:=0) rfl,p,_,_,_,rfl,rfl,SqT.of hp,aO (j:=s.i) hqx,?_⟩;apply⟨_,rfl,q,_,_,_,rfl,rfl,SqT.of hq,aO (j:=1) rfl,rfl,_,rfl,?_⟩;apply ite2 (λh1=>?_) (λh1=>?_)
 ·have h1:s.d=1:=by have:=rW h1;injection this
  apply⟨_,rfl,qx,_,_,_,rfl,rfl,SqT.of hqx2,aO (j:=0) rfl,?_⟩;have e:frm x s.d=x.s:=rR h1;rw[←e];exact k
 ·have h1:s.d≠1:=λz=>h1 (rT (by rw[z]))
  apply⟨_,rfl,qx,_,_,_,rfl,rfl,SqT.of hqx2,aO (j:=1) rfl,?_⟩;have e:frm x s.d=x.g:=rQ h1;rw[←e];exact k
def scTo:bY ["net","step","span"] pzc (defScope sTo):=by trivial
def ok_to (F:Fun K "leads_to" "leads_to" sTo f fd):‹0› 1 f fd pzc spTo:=by
 apply F.ok scTo (by contradiction) (fun cdv A outer s0 H vs Q E hr h=>?_);obtain ⟨v,q,b,m,sp,s,x,rfl,hv,hq,hx,k⟩:=h;obtain ⟨t,p,ys,rfl,ht,hp,hl,hy⟩:=fe hv;obtain ⟨qx,hqx,hqx2⟩:=hy s.i x hx;apply ⟨_,PSl.h (aZ ⟨(psZ 2 scTo.nd (dO dF (ixZ (pv 0)) (ixZ (pv 1)) (fun _ _=>rfl)))⟩
  (cP ⟨(bZ (pB (cy jO (ixZ (pv 1)) bP (cL _)) (ixZ (pv 2)) (ixZ (pv 2))))⟩)),?_⟩
 apply⟨_,rfl,t,_,_,_,rfl,rfl,SqT.of ht,aO (j:=2) rfl,_,rfl,q,_,_,_,rfl,rfl,SqT.of hq,aO (j:=0) rfl,p,_,_,_,rfl,rfl,SqT.of hp,aO (j:=s.i) hqx,?_⟩;apply⟨_,rfl,q,_,_,_,rfl,rfl,SqT.of hq,aO (j:=1) rfl,rfl,_,rfl,?_⟩;apply ite2 (λh1=>?_) (λh1=>?_)
 ·have h1:s.d=1:=by have:=rW h1;injection this
  apply⟨_,rfl,qx,_,_,_,rfl,rfl,SqT.of hqx2,aO (j:=1) rfl,?_⟩;have e:too x s.d=x.g:=rR h1;rw[←e];exact k
 ·have h1:s.d≠1:=λz=>h1 (rT (by rw[z]))
  apply⟨_,rfl,qx,_,_,_,rfl,rfl,SqT.of hqx2,aO (j:=0) rfl,?_⟩;have e:too x s.d=x.s:=rQ h1;rw[←e];exact k
theorem qO {sp:List Sn}:∀{ws:List Stp} {x y:Int},oY sp x ws y→(∀(h:0<ws.length),kY sp ws[0]=x)∧(∀(h:0<ws.length),fb sp (ws[ws.length - 1]'(Nat.sub_lt h Nat.one_pos))=y)∧∀i (h:i+1<ws.length),fb sp ws[i]=kY sp ws[i+1]
 | [],_,_,_=>⟨λh=>rS h ∅,λh=>rS h ∅,λi h=>rS h ∅⟩
 | [s],x,y,⟨a,b⟩=>⟨λ_=>a,λ_=>b,λi h=>rS h ∅⟩
 | s::s'::ws,x,y,⟨a,b⟩=>by
  obtain⟨f,l,n⟩:=qO (ws:=s'::ws) b;apply⟨λ_=>a,λ_=>?_,λi h=>?_⟩
  ·have:=l ∅
   simpa using this
  ·cases i with
   | zero=>exact(f ∅).symm
   | succ i=>exact n i (by simpa using h)
def RDead (b:Int)(sp:List Sn)(bs:List (Int×Int))(d:Dt):Prop:=∃p:List Stp,d=leafP (.ring p)∧Rg sp p∧jA b bs p=true
def rH (p:List Stp):LeafW (leafP (.ring p)):=⟨by show(true && (pl (oU p) && true))=true;rw[show pl (oU p)=true from p7 _ _];rfl,"ring",oU p,rfl,↥0⟩
def ps_outL:PS X st (λ_ _ _=>False):=λ_ _ _ _ _ _ h=>h.elim
end HN
namespace L2
open PySem PySem.Spec PyProof.Rows
theorem oJ {c1 c2:Sq}{Q:VK}(Pv:Nat→List V→Hp→Prop)(h0:Pv 0 [] H)(hl:∀i zs H,i≤ys.length→Pv i zs H→HSq H c1 xs∧HSq H c2 ys∧zs.length≤i)(hxy:ys.length≤xs.length)
  (hs:∀i x y zs p H,xs[i]? =some x→ys[i]? =some y→Pv i zs H→H p=none→tt (some x::some y::c9 σ js) (upd H p (.tup [x,y])) λb H4=>if b=true then te (some x::some y::c9 σ js) H4 λy H5=>Pv (i+1) (zs++[y]) H5 else Pv (i+1) zs H4)
  (hz:ys.length≤bf) (hd:∀zs H,Pv ys.length zs H→∀D,H D=none→Q (.ref D) (upd H D (.lst zs))):qQ 2 (gPair K) js tt te σ Q (Itq [c1,c2]) H:=by
 apply⟨λi m zs H=>i≤ys.length∧m=ys.length - i∧Pv i zs H,⟨_,bu _,rfl,h0⟩,λi m zs H2 ⟨hi,hm,hp⟩=>?_⟩;obtain⟨qa,qb,hy⟩:=hl i zs H2 hi hp
 by_cases e:i=ys.length
 ·subst e
  apply .inl ⟨?_,hd zs H2 hp⟩
  by_cases q:ys.length<xs.length
  ·apply⟨1,c2,ys,rfl,qb,aB _,λn c hc hn=>?_⟩
   have:n=0:=by lia
   subst this;cases hc;exact⟨xs,_,qa,gE q⟩
  ·exact⟨0,c1,xs,rfl,qa,⋯,λn c _ hn=>rS hn ⋯⟩
 ·have hlt2:i<ys.length:=fE hi e
  have hlt:i<xs.length:=by lia
  apply .inr ⟨⟨[xs[i],ys[i]],rfl,λn c hc=>?_⟩,⋯,Pv (i+1),λys' H' hp'=>⟨ys.length - (i+1),⋯,⋯,rfl,hp'⟩,λv H3 hy3 v0 hv0=>?_⟩
  ·match n,hc with
   | 0,hc=>cases hc;exact⟨xs,xs[i],qa,gE hlt,rfl⟩
   | 1,hc=>cases hc;exact⟨ys,ys[i],qb,gE hlt2,rfl⟩
   | n+2,hc=>simp at hc
  ·obtain⟨p,vs,hn,rfl,rfl,lv,hx⟩:=hy3
   match vs,lv,hx,v0,hv0 with
   | [x,y],_,hx,[v1,v2],_=>exact⟨p,_,rfl,SqT.of aR,rfl,_,_,rfl,_,_,rfl,rfl,⟨[some x,some y],rfl,rfl⟩,hs i x y zs p H2 (hx 0 c1 x xs rfl qa rfl) (hx 1 c2 y ys rfl qb rfl) hp hn⟩
end L2
namespace HN
open PySem L2 PyProof.Rows
abbrev sWhole:cF:=top 4
abbrev sWithin:cF:=top 5
abbrev sStep:cF:=top 11
abbrev sWay:cF:=top 14
abbrev sRing:cF:=top 15
abbrev sHeaded:cF:=top 35
abbrev sCut:cF:=top 36
abbrev sLeafT:cF:=top 38
def cut_one:cutV xs (some 1) none=xs.drop 1:=by
 unfold cutV;cases xs with
 | nil=>rfl
 | cons x xs =>
  have e1:HT.sIx (x::xs).length 0 (some 1)=1:=by
   have:=HT.sIx_nat (x::xs).length 0 1;rw[show((1:Nat):Int)=1 from rfl] at this;rw[this,aV];lia
  rw[e1];show((x::xs).drop 1).take ((x::xs).length - 1)=_;rw[jH ∅]
inductive spWhT (vs:List V)(H:Hp)(Q:VK)(_:XK):Prop
 | mk (i:Int)(_:vs=[.int i])(_:Q (.bl true) H)
inductive spWiT (vs:List V)(H:Hp)(Q:VK)(_:XK):Prop
 | mk (i lo hi:Int)(_:vs=[.int i,.int lo,.int hi])(_:lo≤i)(_:i≤hi)(_:Q (.bl true) H)
inductive spStT (vs:List V)(H:Hp)(Q:VK)(_:XK):Prop
 | mk (v:V)(q:aq)(b m:Int)(sp:List Sn)(s:Stp)(_:vs=[v,.ref q])(_:IsD H v (jv b m sp))(_:H q=some (.tup (s.row.map V.int)))(_:s.i<sp.length)(_:(s.d=1∨s.d= -1))(_:Q (.bl true) H)
inductive spRgT (vs:List V)(H:Hp)(Q:VK)(_:XK):Prop
 | mk (v u:V)(b m:Int)(sp:List Sn)(ws:List Stp)(_:vs=[v,u])(_:IsD H v (jv b m sp))(_:IsD H u (oU ws))(_:Rg sp ws)(_:∀H',bD H H'→Q (.bl true) H')
inductive spHdT (vs:List V)(H:Hp)(Q:VK)(_:XK):Prop
 | mk (u:V)(z y:Str)(n:Int)(ds:List Dt)(_:vs=[u,.str z,.int n])(_:IsD H u (.tup (.str y::ds)))(_:Q (.bl (decide ((ds.length:Int)+1=n) && decide (y=z))) H)
def CtT (bs:List (Int×Int)):Tq→Prop
 | .leaf d=>∃ws,d=leafP (.ring ws)
 | .cut k a _ _=>k<bs.length∧(bs.getD k (0,0)).1≤a∧a<(bs.getD k (0,0)).2
def isCt:Tq→Bool
 | .leaf _=>false
 | .cut _ _ _ _=>true
inductive spCtT (vs:List V)(H:Hp)(Q:VK)(_:XK):Prop
 | mk (vb u:V)(bs:List (Int×Int))(t:Tq)(_:vs=[vb,u])(_:IsD H vb (bndP bs))(_:IsD H u (jY t))(_:CtT bs t)(_:Q (.bl (isCt t)) H)
inductive spLfT (vs:List V)(H:Hp)(Q:VK)(_:XK):Prop
 | mk (v u:V)(b m:Int)(sp:List Sn)(ws:List Stp)(_:vs=[v,u])(_:IsD H v (jv b m sp))(_:IsD H u (leafP (.ring ws)))(_:Rg sp ws)(_:∀H',bD H H'→Q (.bl true) H')
def ps_outT:PS X st (λ_ _ _=>False):=λ_ _ _ _ _ _ h=>h.elim
def scWhole:bY ["thing"] ["thing"] (defScope sWhole):=by trivial
def ok_whT (F:Fun K "is_whole" "is_whole" sWhole f fd)(T:Nm mg):‹0› 1 f fd ["thing"] spWhT:=by
 specialize F.ok scWhole;obtain⟨i,rfl,k⟩:=h;apply⟨_,cE (bZ (mm (pe_isInt T (pv 0)) (qc (pe_not (pe_isBool T (pv 0)))))),?_⟩;exact⟨_,rfl,_,_,rfl,(IsD.int i).tyn,_,rfl,mr rfl ⟨_,rfl,_,_,rfl,(IsD.int i).tyn,_,rfl,k⟩⟩
def scWithin:bY pzn pzn (defScope sWithin):=by trivial
def ok_wiT (F:Fun K "is_within" "is_within" sWithin f fd)(T:Nm mg)(G1:Fn K mg "is_whole" sWhole ["thing"] f1 fd1):‹0› 2 f fd pzn spWiT:=by
 have F1:‹0› 1 f1 fd1 ["thing"] spWhT:=ok_whT G1.F T;specialize F.ok scWithin;obtain⟨i,lo,hi,rfl,h1,h2,k⟩:=h;apply⟨_,cE (bZ (mm (pc1 G1 F1 hr (ai (pv 0) aF)) (qc (pe_chain op_le op_le (pv 1) (pv 0) (pv 2))))),?_⟩;apply⟨_,rfl,i,rfl,_,rfl,mr rfl ?_⟩;apply⟨_,rfl,_,rfl,_,_,rfl,rfl,_,rfl,mr (rT h1) ⟨_,rfl,_,_,rfl,rfl,?_⟩⟩;rw[←rT h2] at k;exact k
def scStep:bY pzb pzb (defScope sStep):=by trivial
theorem ok_stT (F:Fun K "is_step" "is_step" sStep f fd)(T:Nm mg)(G1:Fn K mg "is_within" sWithin pzn f1 fd1)(G2:Fn K mg "is_whole" sWhole ["thing"] f2 fd2):‹0› 3 f fd pzb spStT:=by
 have F1:‹0› 2 f1 fd1 pzn spWiT:=ok_wiT G1.F T G2;apply F.ok scStep (by contradiction) (fun cdv A outer s' H vs Q E hr h=>?_);obtain ⟨v,q,b,m,sp,s,rfl,hv,hq,hi,hd,k⟩:=h;obtain ⟨t,pn,ys,rfl,ht,hpn,hl,hy⟩:=fe hv;apply ⟨_,PSl.h (aZ ⟨(gg (PW.pt (oW (jN (iB (nS T (pv 1)))) (nN (cy qS (cp bR rfl T.len bC (ai (pv 1) aF)) bP (cL _))))) (cE (bZ lW)) cY)⟩
  (aZ ⟨(gg (jN (iB (pc1 G1 F1 hr (ai (ixZ (pv 1)) (ai bP (ai (dB kz (cp bR rfl T.len bC (ai (ixZ (pv 0)) aF)) bP) aF)))))) (cE (bZ lW)) cY)⟩
  (cP ⟨(bZ (mm (pc1 G1 F1 hr (ai (ixZ (pv 1)) (ai (pe_un qY bP) (ai bP aF)))) (qc (jz qS (ixZ (pv 1)) bP (cL _)))))⟩))),?_⟩
 apply⟨_,rfl,.ref q,"tuple",rfl,(by unfold tyn;dsimp only;rw[hq]),_,rfl,j3 rfl ?_⟩;apply⟨_,rfl,q,_,rfl,.inr (SqT.of hq),rfl,_,rfl,j3 (by rfl) ?_⟩;apply⟨_,rfl,q,_,_,_,rfl,rfl,SqT.of hq,aO (j:=0) rfl,_,rfl,t,_,_,_,rfl,rfl,SqT.of ht,aO (j:=2) rfl,pn,_,rfl,.inr (SqT.of hpn),_,_,rfl,rfl,_,_,_,rfl,⋯,⋯,_,rfl,j3 rfl ?_⟩;apply⟨_,rfl,q,_,_,_,rfl,rfl,SqT.of hq,aO (j:=1) rfl,_,rfl,_,_,_,rfl,⋯,⋯,_,rfl,mr rfl ?_⟩;apply⟨_,rfl,q,_,_,_,rfl,rfl,SqT.of hq,aO (j:=1) rfl,rfl,?_⟩;have e:decide (V.int s.d=V.int 0)=false:=rV λz=>by injection z;lia
 show Q (.bl (!decide (V.int s.d=V.int 0))) H;rw[e];exact k
def scWay:bY pzb pzb (defScope sWay):=by trivial
theorem ok_wyT (F:Fun K "is_way" "is_way" sWay f fd)(T:Nm mg)(T2:Nt mg)(G1:Fn K mg "is_step" sStep pzb f1 fd1)(F1:‹0› 3 f1 fd1 pzb spStT)(G2:Fn K mg "leads_from" sFrom pzc f2 fd2)(G3:Fn K mg "leads_to" sTo pzc f3 fd3):‹0› 4 f fd pzb spRgT:=by
 have F2:‹0› 1 f2 fd2 pzc ra:=qh G2.F;have F3:‹0› 1 f3 fd3 pzc spTo:=ok_to G3.F;specialize F.ok scWay;obtain ⟨v,u,b,m,sp,ws,rfl,hv,hu,rg,k⟩:=h;have hr1:gP 1 _:=hr.mono ↥0;apply ⟨_,PSl.h (aZ ⟨(gg (PW.pt (oW (jN (iB (nS T (pv 1)))) (nN (cy jO (cp bR rfl T.len bC (ai (pv 1) aF)) bP (cL _))))) (cE (bZ lW)) cY)⟩
  (aZ ⟨(gg (jN (iB (cp (call_all rfl) rfl T.all boot_all (ai (gi (fr:=pza) (js:=[0]) rfl (lr (pv 1)) ⇑0 rfl ⇑0 rfl (by exists sWay) ⇑0 rfl ⇑0 (fun _ _ _ _ _=>⟨(pc1 G1 F1 hr (ai (pv 1) (ai (pv 0) aF))),gC⟩)) aF)))) (cE (bZ lW)) cY)⟩
  (cP ⟨(bZ (cp (call_all rfl) rfl T.all boot_all (ai (pE (xs:=["one","other"]) (fr:=pza) (js:=[0]) rfl (pi_zip2 rfl T2.zip (ai (pv 1) (ai (pA sl_tupN (pv 1) (po_some bP) po_none) aF))) ⇑0 rfl ⇑0 (by exists sWay) rfl ⇑0 (fun _ _ _ _ _=>pg_two rfl ⇑0 rfl rfl) (fun _ _ _ _ _=>⟨(jz jO (pc1 G3 F3 hr1 (ai (pv 2) (ai (pv 0) aF))) (pc1 G2 F2 hr1 (ai (pv 2) (ai (pv 1) aF))) (cL _)),gC⟩)) aF)))⟩))),?_⟩
 obtain⟨p,xs,rfl,hp,lx,rx⟩:=gT hu;have two:=rg.two;have few:=rg.few;obtain⟨x0,al⟩:=rg.rnd;obtain⟨_,_,nxt⟩:=qO al;apply⟨_,rfl,_,_,rfl,hu.tyn,_,rfl,j3 rfl ?_⟩;apply⟨_,rfl,p,_,rfl,.inr (SqT.of hp),rfl,_,rfl,j3 (rV λz=>by injection z;lia) ?_⟩;apply⟨_,rfl,p,rfl,⟨_,SqT.of hp⟩,?_⟩;apply jF (K:=K) (a:=p) (xs:=xs) (λi zs H2=>H2=H∧zs=(bx i true).map V.bl) ⟨rfl,rfl⟩ (λi zs H2 hi ⟨e1,e2⟩=>?_) (by rw[lx];exact de ⋯) (λi x zs H2 hx ⟨e1,e2⟩=>?_) (λzs H2 ⟨e1,e2⟩ D hD=>?_)
 ·subst e1
  exact⟨SqT.of hp,by rw[e2,aa,eC];exact aB _⟩
 ·subst e1
  have hi:i<ws.length:=by rw[←lx];exact(ar.mp hx).1
  obtain⟨q1,f1,g1⟩:=iX rx (gE hi);rw[hx] at f1;cases f1;apply fO ?_;obtain⟨s1,s2⟩:=rg.inn ws[i] (aY hi);apply⟨_,rfl,_,rfl,v,q1,b,m,sp,ws[i],rfl,hv,g1,s1,s2,rfl,?_⟩;rw[e2,List.replicate_succ',aD];rfl
 subst e1;have S3:=bD.put (o:= .lst zs) (bD.refl H2) hD;have h3:(upd H2 D (.lst zs)) D=some (.lst zs):=aR;generalize upd H2 D (.lst zs)=H3 at S3 h3 ⊢;subst e2;apply⟨D,bx xs.length true,rfl,SqL.of h3,_,rfl,j3 ?_ ?_⟩
 ·rw[gf.mpr λx hx=>(by rw[(List.mem_replicate.mp hx).2];rfl)];rfl
 apply⟨_,rfl,_,rfl,_,rfl,p,_,rfl,S3 _ _ hp,λp4 H4 S4 h4=>?_⟩;rw[cut_one] at h4;have S24:=S3.trans S4;apply⟨⟨false,p⟩,⟨false,p4⟩,_,_,rfl,S24 _ _ hp,h4,?_⟩;apply oJ (K:=K) (c1:=⟨false,p⟩) (c2:=⟨false,p4⟩) (xs:=xs) (ys:=xs.drop 1) (λi zs H5=>bD H4 H5∧∃n,n≤i∧zs=(bx n true).map V.bl) ⟨bD.refl _,0,aB _,rfl⟩ (λi zs H5 hi ⟨e1,n,hn,e2⟩=>?_) (by rw[dm];lia) (λi x y zs p5 H5 hx hy ⟨e1,n,hn,e2⟩ hp5=>?_) (by rw[dm,lx];exact de ⋯) (λzs H5 ⟨e1,n,hn,e2⟩ D5 hD5=>?_)
 ·apply⟨e1 _ _ (S24 _ _ hp),e1 _ _ h4,?_⟩
  rw[e2,aa,eC];exact hn
 ·have hi:i<ws.length:=by rw[←lx];exact(ar.mp hx).1
  rw[List.getElem?_drop,Nat.add_comm] at hy;have hi1:i+1<ws.length:=by rw[←lx];exact(ar.mp hy).1
  obtain⟨q1,f1,g1⟩:=iX rx (gE hi);obtain⟨q2,f2,g2⟩:=iX rx (gE hi1);rw[hx] at f1;rw[hy] at f2;cases f1;cases f2;have S5:=e1.put (o:= .tup [.ref q1,.ref q2]) hp5;have S25:=S24.trans S5;obtain⟨i1,_⟩:=rg.inn ws[i] (aY hi);obtain⟨i2,_⟩:=rg.inn ws[i+1] (aY hi1);apply fO ?_;apply⟨_,rfl,_,rfl,v,q1,b,m,sp,ws[i],sp[ws[i].i],rfl,hv.same S25,S25 _ _ g1,gE i1,?_⟩;apply⟨_,rfl,_,rfl,v,q2,b,m,sp,ws[i+1],sp[ws[i+1].i],rfl,hv.same S25,S25 _ _ g2,gE i2,rfl,S5,n+1,⋯,?_⟩;have u1:fb sp ws[i]=too sp[ws[i].i] ws[i].d:=by unfold fb;rw[gE i1]
  have u2:kY sp ws[i+1]=frm sp[ws[i+1].i] ws[i+1].d:=by unfold kY;rw[gE i2]
  have e:=nxt i hi1;rw[u1,u2] at e;rw[e2,e,rT rfl,List.replicate_succ',aD];rfl
 ·apply⟨D5,bx n true,rfl,SqL.of (by rw[aR,e2]),?_⟩
  rw[gf.mpr λx hx=>(by rw[(List.mem_replicate.mp hx).2];rfl)];exact k _ (S24.trans (e1.put hD5))
def scRing:bY pzb pzb (defScope sRing):=by trivial
theorem ok_rgT (F:Fun K "is_ring" "is_ring" sRing f fd)(T:Nm mg)(T3:N3 mg)(G1:Fn K mg "is_way" sWay pzb f1 fd1)(F1:‹0› 4 f1 fd1 pzb spRgT)(G2:Fn K mg "leads_from" sFrom pzc f2 fd2)(G3:Fn K mg "leads_to" sTo pzc f3 fd3):‹0› 5 f fd pzb spRgT:=by
 have F2:‹0› 1 f2 fd2 pzc ra:=qh G2.F;have F3:‹0› 1 f3 fd3 pzc spTo:=ok_to G3.F;specialize F.ok scRing;obtain ⟨v,u,b,m,sp,ws,rfl,hv,hu,rg,k⟩:=h;have hr1:gP 1 _:=hr.mono ↥0;apply ⟨_,PSl.h (aZ ⟨(gg (PW.pt (oW (jN (iB (pc1 G1 F1 hr (ai (pv 0) (ai (pv 1) aF))))) (nN (cy op_lt (cp bR rfl T.len bC (ai (pv 1) aF)) bP (cL _))))) (cE (bZ lW)) cY)⟩
  (aZ ⟨(gg (cy qS (cp call_lenS rfl T.len bC (ai (dI (call_setL rfl) rfl T3.tset boot_set (ai (gi (fr:=[]) (js:=[]) rfl (lr (pv 1)) ⇑0 rfl ⇑0 rfl (by exists sRing) ⇑0 rfl ⇑0 (fun _ _ _ _ _=>⟨(dO (r:=pq K) dF (pv 0) bP (fun _ _=>rfl)),gC⟩)) aF)) aF)) (cp bR rfl T.len bC (ai (pv 1) aF)) (cL _)) (cE (bZ lW)) cY)⟩
  (cP ⟨(bZ (jz jO (pc1 G2 F2 hr1 (ai (pv 0) (ai (ixZ (pv 1)) aF))) (pc1 G3 F3 hr1 (ai (pv 0) (ai (dO dF (pv 1) (pe_un qY bP) (fun _ _=>rfl)) aF))) (cL _)))⟩))),?_⟩
 obtain⟨p,xs,rfl,hp,lx,rx⟩:=gT hu;have two:=rg.two;have few:=rg.few;obtain⟨x0,al⟩:=rg.rnd;obtain⟨fst,lst,_⟩:=qO al;apply⟨_,rfl,_,rfl,v,.ref p,b,m,sp,ws,rfl,hv,hu,rg,λH1 S1=>⟨_,rfl,j3 rfl ?_⟩⟩;apply⟨_,rfl,p,_,rfl,.inr (SqT.of (S1 _ _ hp)),_,_,rfl,rfl,_,rfl,j3 (rV ⋯) ?_⟩;apply⟨_,rfl,p,rfl,⟨_,SqT.of (S1 _ _ hp)⟩,?_⟩;apply jF (K:=K) (a:=p) (xs:=xs) (λi zs H2=>H2=H1∧zs=(oX (ws.take i)).map V.int) ⟨rfl,rfl⟩ (λi zs H2 hi ⟨e1,e2⟩=>?_) (by rw[lx];exact de ⋯) (λi x zs H2 hx ⟨e1,e2⟩=>?_) (λzs H2 ⟨e1,e2⟩ D hD=>?_)
 ·subst e1
  apply⟨SqT.of (S1 _ _ hp),?_⟩;rw[e2,aa];unfold oX;rw[aa,bM];lia
 ·subst e1
  have hi:i<ws.length:=by rw[←lx];exact(ar.mp hx).1
  obtain⟨q1,f1,g1⟩:=iX rx (gE hi);rw[hx] at f1;cases f1;apply fO ?_;apply⟨_,rfl,q1,_,_,_,rfl,rfl,SqT.of (S1 _ _ g1),aO (j:=0) rfl,rfl,?_⟩;rw[e2,numsS_take hi,aD];rfl
 subst e1;have e3:zs=(oX ws).map V.int:=by rw[e2,lx,bo]
 subst e3;apply⟨D,oX ws,rfl,SqL.of aR,by unfold oX;rw[aa];lia,λp4 H4 S4 h4=>?_⟩;have SH4:=S1.trans ((bD.put (bD.refl H2) hD).trans S4);have hn:(oX ws).Nodup:=by
  unfold oX;have:ws.map (λs=>(s.i:Int))=(ws.map Stp.i).map λn:Nat=>(n:Int):=by rw[cW];rfl
  rw[this,b9,fP];exact(b9.mp rg.one).imp λhh e=>hh ⋯
 have h3:(metL (oX ws)).length=xs.length:=by rw[met_nodup hn,lx];unfold oX;rw[aa]
 apply⟨p4,_,_,rfl,h4,_,rfl,p,_,rfl,.inr (SqT.of (SH4 _ _ hp)),rfl,_,rfl,j3 (by rw[h3,rT rfl];rfl) ?_⟩;obtain⟨i1,_⟩:=rg.inn ws[0] (aY ⋯);obtain⟨i2,_⟩:=rg.inn ws[ws.length - 1] (aY ⋯);obtain⟨q1,f1,g1⟩:=iX rx (gE (show 0<ws.length by lia));obtain⟨q2,f2,g2⟩:=iX rx (gE (show ws.length - 1<ws.length by lia));apply⟨_,rfl,_,rfl,p,_,_,_,rfl,rfl,SqT.of (SH4 _ _ hp),aO (j:=0) f1,v,q1,b,m,sp,ws[0],sp[ws[0].i],rfl,hv.same SH4,SH4 _ _ g1,gE i1,?_⟩;apply⟨_,rfl,_,rfl,_,rfl,p,_,_,_,rfl,rfl,SqT.of (SH4 _ _ hp),atI_last (by rw[lx];exact f2),v,q2,b,m,sp,ws[ws.length - 1],sp[ws[ws.length - 1].i],rfl,hv.same SH4,SH4 _ _ g2,gE i2,rfl,?_⟩;have u1:fb sp ws[ws.length - 1]=too sp[ws[ws.length - 1].i] ws[ws.length - 1].d:=by unfold fb;rw[gE i2]
 have u2:kY sp ws[0]=frm sp[ws[0].i] ws[0].d:=by unfold kY;rw[gE i1]
 have e:frm sp[ws[0].i] ws[0].d=too sp[ws[ws.length - 1].i] ws[ws.length - 1].d:=by rw[←u1,←u2,fst ⋯,lst ⋯]
 rw[e,rT rfl];exact k H4 SH4
def scHeaded:bY pzo pzo (defScope sHeaded):=by trivial
def ok_hdT (F:Fun K "is_headed" "is_headed" sHeaded f fd)(T:Nm mg)(TS:mg "str" =none):‹0› 1 f fd pzo spHdT:=by
 specialize F.ok scHeaded;obtain⟨u,z,y,n,ds,rfl,hd,k⟩:=h;apply⟨_,PSl.h (cP ⟨(bZ (mm (nS T (pv 0)) (mm (jz jO (cp bR rfl T.len bC (ai (pv 0) aF)) (pv 2) (cL _)) (mm (pe_isStrT T TS (ixZ (pv 0))) (qc (jz jO (ixZ (pv 0)) (pv 1) (cL _)))))))⟩),?_⟩;apply⟨_,rfl,_,_,rfl,hd.tyn,_,rfl,mr rfl ?_⟩;obtain⟨p,xs,rfl,hp,rx⟩:=hd.tup_of;have lx:=rx.length;cases rx with
 | cons r0 rr =>
  rename_i x0 xr;cases r0;apply⟨_,rfl,p,_,rfl,.inr (SqT.of hp),_,rfl,rfl,_,rfl,?_⟩;have e1:decide (V.int ((V.str y::xr).length:Int)=V.int n)=decide ((ds.length:Int)+1=n):=decide_eq_decide.mpr ⟨λq=>by injection q with q;rw[lx,aV] at q;lia,λq=>by rw[←q,lx,aV];rfl⟩;rw[e1]
  by_cases h1:(ds.length:Int)+1=n
  ·apply mr (rT h1) ?_
   apply⟨_,rfl,p,_,_,_,rfl,rfl,SqT.of hp,aO (j:=0) rfl,.str y,"str",rfl,(IsD.str y).tyn,_,rfl,mr rfl ?_⟩;apply⟨_,rfl,p,_,_,_,rfl,rfl,SqT.of hp,aO (j:=0) rfl,_,rfl,rfl,?_⟩;have e3:decide (V.str y=V.str z)=decide (y=z):=decide_eq_decide.mpr ⟨λq=>by injection q,λq=>by rw[q]⟩;rw[e3];rw[rT h1,Bool.true_and] at k;exact k
  ·apply j3 (rV h1) ?_
   rw[rV h1,Bool.false_and] at k;exact k
def scCut:bY ["bounds","thing","bound"] pzE (defScope sCut):=by trivial
def ok_ctT (F:Fun K "is_cut" "is_cut" sCut f fd)(T:Nm mg)(TS:mg "str" =none)(G1:Fn K mg "is_headed" sHeaded pzo f1 fd1)(G2:Fn K mg "is_within" sWithin pzn f2 fd2)(G3:Fn K mg "is_whole" sWhole ["thing"] f3 fd3):‹0› 3 f fd pzE spCtT:=by
 have F1:‹0› 1 f1 fd1 pzo spHdT:=ok_hdT G1.F T TS;have F2:‹0› 2 f2 fd2 pzn spWiT:=ok_wiT G2.F T G3;specialize F.ok scCut;obtain ⟨vb,u,bs,t,rfl,hb,hd,ct,k⟩:=h;obtain ⟨pb,yb,rfl,hpb,hlb,rb⟩:=gT hb;have hr1:gP 1 _:=hr.mono ↥0;apply ⟨_,PSl.h (aZ ⟨(gg (PW.pt (oW (jN (iB (pc1 G1 F1 hr1 (ai (pv 1) (ai jh (ai bP aF)))))) (nN (jN (iB (pc1 G2 F2 hr (ai (ixZ (pv 1)) (ai bP (ai (dB kz (cp bR rfl T.len bC (ai (pv 0) aF)) bP) aF))))))))) (cE (bZ lW)) cY)⟩
  (aZ ⟨(psZ 2 scCut.nd (dO dF (pv 0) (ixZ (pv 1)) (fun _ _=>rfl)))⟩
  (cP ⟨(bZ (pc1 G2 F2 hr (ai (ixZ (pv 1)) (ai (ixZ (pv 2)) (ai (dB kz (ixZ (pv 2)) bP) aF)))))⟩))),?_⟩
 cases t with
 | leaf d =>
  obtain⟨ws,rfl⟩:=ct;exact⟨_,rfl,u,"cut","ring",5,[oU ws],rfl,hd,_,rfl,mr rfl k⟩
 | cut n a x y =>
  obtain⟨hn,h1,h2⟩:=ct;have hd':IsD H u (.tup [.str "cut",.int (n:Nat),.int a,jY x,jY y]):=hd;apply⟨_,rfl,u,"cut","cut",5,_,rfl,hd',_,rfl,j3 rfl ?_⟩;obtain⟨p,xs,rfl,hp,rx⟩:=hd'.tup_of;cases rx with
  | cons r0 rr=>cases rr with
   | cons r1 rr=>cases rr with
    | cons r2 rr =>
     cases r1;cases r2;have e0:bs.getD n (0,0)=bs[n]:=by rw[ae,gE hn];rfl
     rw[e0] at h1 h2;obtain⟨qn,hqn,hqn2⟩:=iX rb (gE hn);apply⟨_,rfl,p,_,_,_,rfl,rfl,SqT.of hp,aO (j:=1) rfl,_,rfl,pb,_,rfl,.inr (SqT.of hpb),_,_,rfl,rfl,_,_,_,rfl,⋯,⋯,_,rfl,j3 rfl ?_⟩;apply⟨_,rfl,_,rfl,p,_,_,_,rfl,rfl,SqT.of hp,aO (j:=1) rfl,pb,_,_,_,rfl,rfl,SqT.of hpb,aO (j:=n) hqn,?_⟩;exact⟨_,rfl,p,_,_,_,rfl,rfl,SqT.of hp,aO (j:=2) rfl,_,rfl,qn,_,_,_,rfl,rfl,SqT.of hqn2,aO (j:=0) rfl,_,rfl,qn,_,_,_,rfl,rfl,SqT.of hqn2,aO (j:=1) rfl,_,_,rfl,rfl,_,_,_,rfl,h1,⋯,k⟩
def scLeafT:bY ["net","thing","rows"] pzb (defScope sLeafT):=by trivial
def ok_lfT (F:Fun K "is_leaf" "is_leaf" sLeafT f fd)(T:Nm mg)(TS:mg "str" =none)(G1:Fn K mg "is_headed" sHeaded pzo f1 fd1)(G2:Fn K mg "is_ring" sRing pzb f2 fd2)(F2:‹0› 5 f2 fd2 pzb spRgT):‹0› 7 f fd pzb spLfT:=by
 have F1:‹0› 1 f1 fd1 pzo spHdT:=ok_hdT G1.F T TS;specialize F.ok scLeafT;obtain ⟨v,u,b,m,sp,ws,rfl,hv,hd,rg,k⟩:=h;have hr1:gP 1 _:=hr.mono ↥0;have hr5:gP 5 _:=hr.mono ↥0;apply ⟨_,PSl.h (aZ ⟨(gg (iB (pc1 G1 F1 hr1 (ai (pv 1) (ai jh (ai bP aF))))) (cE (bZ (pc1 G2 F2 hr5 (ai (pv 0) (ai (ixZ (pv 1)) aF))))) cY)⟩
  (aZ ⟨ps_outT⟩ (aZ ⟨ps_outT⟩ (aZ ⟨ps_outT⟩ (cP ⟨ps_outT⟩))))),?_⟩
 have hd':IsD H u (.tup [.str "ring",oU ws]):=hd;apply⟨_,rfl,u,"ring","ring",2,[oU ws],rfl,hd',_,rfl,mr rfl ?_⟩;obtain⟨p,xs,rfl,hp,rx⟩:=hd'.tup_of;cases rx with
 | cons r0 rr=>cases rr with
  | cons r1 rr =>
   cases rr;exact⟨_,rfl,_,rfl,p,_,_,_,rfl,rfl,SqT.of hp,aO (j:=1) rfl,v,_,b,m,sp,ws,rfl,hv,r1,rg,k⟩
abbrev sWithB:cF:=top 39
def cutU {i:Int}(hi:i=(n:Int)):cutV xs none (some i)=xs.take n:=by
 unfold cutV;subst hi;have e:=HT.sIx_nat xs.length xs.length n;rw[e];show(xs.drop 0).take (min n xs.length - 0)=xs.take n;rw[List.drop_zero,Nat.sub_zero]
 by_cases h:n≤xs.length
 ·rw[Nat.min_eq_left h]
 ·rw[Nat.min_eq_right ⋯,bo,jH ⋯]
def cutF {i:Int}(hi:i=(n:Int)):cutV xs (some i) none=xs.drop n:=by
 unfold cutV;subst hi;have e:=HT.sIx_nat xs.length 0 n;rw[e];show(xs.drop (min n xs.length)).take (xs.length - min n xs.length)=xs.drop n
 by_cases h:n≤xs.length
 ·rw[Nat.min_eq_left h,jH (by rw[dm];lia)]
 ·rw[Nat.min_eq_right ⋯,List.drop_length,List.drop_of_length_le ⋯,List.take_nil]
def scWithB:bY pzp pzp (defScope sWithB):=by trivial
theorem ok_withB (F:Fun K "with_bound" "with_bound" sWithB f fd):‹0› 1 f fd pzp spWithB:=by
 specialize F.ok scWithB;obtain⟨vb,n,lo,hi,bs,rfl,hb,hn,few,k⟩:=h;obtain⟨pb,yb,rfl,hpb,hlb,rb⟩:=gT hb;apply⟨_,PSl.h (cP ⟨(bZ (dB mG (dB mG (pA sl_tupN (pv 0) po_none (po_some (pv 1))) (dG (ai (dG (ai (pv 2) (ai (pv 3) aF))) aF))) (pA sl_tupN (pv 0) (po_some (dB i6 (pv 1) bP)) po_none)))⟩),?_⟩;have lyb:yb.length≤40:=by lia
 apply⟨_,rfl,_,rfl,_,rfl,pb,_,rfl,hpb,λqB HB SB hB=>⟨_,rfl,_,rfl,o6,λq1 H1 S1 h1=>⟨szZ1,λqC HC SC hC=>?_⟩⟩⟩;rw[cutU (n:=n) rfl] at hB;apply⟨qB,qC,_,_,rfl,rfl,SC _ _ (S1 _ _ hB),hC,?_,λqD HD SD hD=>?_⟩
 ·rw[bM];exact aQ (by show min n yb.length+1≤1000;lia) ↥0
 apply⟨_,rfl,_,rfl,_,_,rfl,rfl,_,rfl,pb,_,rfl,SD _ _ (SC _ _ (S1 _ _ (SB _ _ hpb))),λqE HE SE hE=>?_⟩;rw[cutF (n:=n+1) ⋯] at hE;apply⟨qD,qE,_,_,rfl,rfl,SE _ _ hD,hE,?_,λqF HF SF hF=>?_⟩
 ·rw[av,bM,dm];exact aQ (by show min n yb.length+1+(yb.length - (n+1))≤1000;lia) ↥0
 have S1F:bD H1 HF:=SC.trans (SD.trans (SE.trans SF));have SF':bD H HF:=SB.trans (S1.trans S1F);apply k (.ref qF) HF SF' (.tup hF ?_);have e:bs.set n (lo,hi)=bs.take n++[(lo,hi)]++bs.drop (n+1):=by
  rw[List.set_eq_take_append_cons_drop,rR hn,jK];rfl
 rw[e,aD,aD,List.map_take,List.map_drop];exact((eM.takeN n (rb.same SF')).append (.cons (.tup (S1F _ _ h1) (eM.ints [lo,hi])) .nil)).append (eM.dropN (n+1) (rb.same SF'))
abbrev sSides:cF:=top 40
abbrev pV:cF:=top 41
def PlAt (H Hc:Hp)(y:V)(p:List (Int×Int)×Tq):Prop:=∃(q:aq) (vb vd:V),y= .ref q∧Hc q=some (.tup [vb,vd])∧IsD Hc vb (bndP p.1)∧IsD H vd (jY p.2)
def PlAt.keep {Hd:Hp}{y:V}{p:List (Int×Int)×Tq}(h:PlAt H Hc y p)(e:kK Hc Hd):PlAt H Hd y p:=by
 obtain⟨q,vb,vd,a,b,c,d⟩:=h;obtain⟨pb,yb,rfl,hpb,_,rb⟩:=gT c;exact⟨q,_,vd,a,e _ _ b,.tup (e _ _ hpb) (eO e rb),d⟩
inductive l5 (H Hc:Hp):List V→List (List (Int×Int)×Tq)→Prop where
 | nil:l5 H Hc [] []
 | cons {y:V} {p:List (Int×Int)×Tq} {ys:List V} {ps:List (List (Int×Int)×Tq)} (h:PlAt H Hc y p) (r:l5 H Hc ys ps):l5 H Hc (y::ys) (p::ps)
theorem l5.keep {H Hc Hd:Hp}(e:kK Hc Hd):∀{ys:List V} {ps:List (List (Int×Int)×Tq)},l5 H Hc ys ps→l5 H Hd ys ps
 | _,_,.nil=> .nil
 | _,_,.cons h r=> .cons (h.keep e) (l5.keep e r)
theorem l5.length:∀{ys:List V} {ps:List (List (Int×Int)×Tq)},l5 H Hc ys ps→ys.length=ps.length
 | _,_,.nil=>rfl
 | _,_,.cons _ r=>by rw[aV,aV,r.length]
theorem l5.data {H Hc:Hp}(e:bD H Hc):∀{ys:List V} {ds:List (List (Int×Int)×Dt)},l5 H Hc ys (ds.map λp=>(p.1,Tq.leaf p.2))→eM Hc ys (ds.map plcD)
 | _,[],h=>by cases h;exact .nil
 | _,d::ds,h=>by
  rw[bI] at h ⊢;cases h with
  | cons h r =>
   obtain⟨q,vb,vd,rfl,h2,h3,h4⟩:=h;exact .cons (.tup h2 (.cons h3 (.cons (h4.same e) .nil))) (l5.data e r)
theorem l5.append {H Hc:Hp}:∀{ys zs:List V} {ps qs:List (List (Int×Int)×Tq)},l5 H Hc ys ps→l5 H Hc zs qs→l5 H Hc (ys++zs) (ps++qs)
 | _,_,_,_,.nil,s=>s
 | _,_,_,_,.cons h r,s=> .cons h (l5.append r s)
def lvsAll (ps:List (List (Int×Int)×Tq)):List (List (Int×Int)×Dt):=(ps.map λp=>lvs p.2 p.1).flatten
def l7 (ps:List (List (Int×Int)×Tq)):Nat:=(ps.map λp=>siz p.2).sum
def RgL (sp:List Sn):Tq→List (Int×Int)→Prop
 | .leaf d,_=>∃ws,d=leafP (.ring ws)∧Rg sp ws
 | .cut k a x y,bs=>k<bs.length∧(bs.getD k (0,0)).1≤a∧a<(bs.getD k (0,0)).2∧RgL sp x (kZ bs k a)∧RgL sp y (d7 bs k a)
structure LvJ (H Hc:Hp)(Ls Ah:aq)(sp:List Sn)(st:List (List (Int×Int)×Tq))(fo:List (List (Int×Int)×Dt)):Prop where
 same:bD H Hc
 ls:∃ys,Hc Ls=some (.lst ys)∧l5 H Hc ys (fo.map λp=>(p.1,Tq.leaf p.2))
 ah:∃zs,Hc Ah=some (.lst zs.reverse)∧l5 H Hc zs st
 ok:∀p∈st,RgL sp p.2 p.1∧p.1.length=sp.length
def nc:bY ["bounds","cut","span","at","low","high","one","other"] pzF (defScope sSides):=by trivial
theorem ok_sides (F:Fun K "sides_of" "sides_of" sSides f fd)(G1:Fn K mg "with_bound" sWithB pzp f1 fd1):‹0› 2 f fd pzF spSides:=by
 have F1:‹0› 1 f1 fd1 pzp spWithB:=ok_withB G1.F;specialize F.ok nc;obtain⟨vb,p,bs,n,a,x3,x4,rfl,hb,hp,hn,few,k⟩:=h;obtain⟨pb,yb,rfl,hpb,hlb,rb⟩:=gT hb;obtain⟨qn,hqn,hqn2⟩:=iX rb (gE hn);have e0:bs.getD n (0,0)=bs[n]:=by rw[ae,gE hn];rfl
 have e1:kZ bs n a=bs.set n (bs[n].1,a):=by unfold kZ;rw[e0]
 have e2:d7 bs n a=bs.set n (a+1,bs[n].2):=by unfold d7;rw[e0]
 apply ⟨_,PSl.h (aZ ⟨(psZ 2 nc.nd (ixZ (pv 1)))⟩
  (aZ ⟨(psZ 3 nc.nd (ixZ (pv 1)))⟩
  (aZ ⟨(psZ 4 nc.nd (ixZ (dO dF (pv 0) (pv 2) (fun _ _=>rfl))))⟩
  (aZ ⟨(psZ 5 nc.nd (ixZ (dO dF (pv 0) (pv 2) (fun _ _=>rfl))))⟩
  (aZ ⟨(psZ 6 nc.nd (dG (ai (pc1 G1 F1 hr (ai (pv 0) (ai (pv 2) (ai (pv 4) (ai (pv 3) aF))))) (ai (ixZ (pv 1)) aF))))⟩
  (aZ ⟨(psZ 7 nc.nd (dG (ai (pc1 G1 F1 hr (ai (pv 0) (ai (pv 2) (ai (dB i6 (pv 3) bP) (ai (pv 5) aF))))) (ai (ixZ (pv 1)) aF))))⟩
  (cP ⟨(bZ (dG (ai (pv 6) (ai (pv 7) aF))))⟩))))))),?_⟩
 apply⟨_,rfl,p,_,_,_,rfl,rfl,SqT.of hp,aO (j:=1) rfl,?_⟩;apply⟨_,rfl,p,_,_,_,rfl,rfl,SqT.of hp,aO (j:=2) rfl,?_⟩;apply⟨_,rfl,_,rfl,pb,_,_,_,rfl,rfl,SqT.of hpb,aO (j:=n) hqn,qn,_,_,_,rfl,rfl,SqT.of hqn2,aO (j:=0) rfl,?_⟩;apply⟨_,rfl,_,rfl,pb,_,_,_,rfl,rfl,SqT.of hpb,aO (j:=n) hqn,qn,_,_,_,rfl,rfl,SqT.of hqn2,aO (j:=1) rfl,?_⟩;apply⟨_,rfl,_,rfl,_,rfl,_,rfl,.ref pb,n,bs[n].1,a,bs,rfl,hb,hn,few,λu1 H1 S1 hu1=>?_⟩;apply⟨_,rfl,p,_,_,_,rfl,rfl,SqT.of (S1 _ _ hp),aO (j:=3) rfl,o6,λq2 H2 S2 h2=>?_⟩;have S02:=S1.trans S2;apply⟨_,rfl,_,rfl,_,rfl,_,_,rfl,rfl,_,rfl,.ref pb,n,a+1,bs[n].2,bs,rfl,hb.same S02,hn,few,λu3 H3 S3 hu3=>?_⟩;apply⟨_,rfl,p,_,_,_,rfl,rfl,SqT.of (S3 _ _ (S02 _ _ hp)),aO (j:=4) rfl,o6,λq4 H4 S4 h4=>?_⟩;apply⟨_,rfl,_,rfl,o6,λq5 H5 S5 h5=>?_⟩;have S15:bD H2 H5:=S3.trans (S4.trans S5);apply k q5 q2 q4 u1 u3 H5 (S02.trans S15) h5 (S15 _ _ h2) ?_ (S5 _ _ h4) ?_
 ·rw[e1];exact(hu1.same S2).same S15
 ·rw[e2];exact(hu3.same S4).same S5
abbrev sFirst:cF:=top 16
def scFirst:bY pza pza (defScope sFirst):=by trivial
def ok_first (F:Fun K "first_bounds" "first_bounds" sFirst f fd)(T:Nm mg):‹0› 1 f fd pza spFirst:=by
 specialize F.ok scFirst;obtain⟨v,b,m,sp,rfl,hv,few,k⟩:=h;obtain⟨t,p,ys,rfl,ht,hp,hl,hy⟩:=fe hv;apply⟨_,PSl.h (cP ⟨(bZ (dI gH rfl T.ttup fW (ai (gi (fr:=[]) (js:=[]) rfl (lr (ixZ (pv 0))) ⇑0 rfl ⇑0 rfl (by exists sFirst) ⇑0 rfl ⇑0 (λ_ _ _ _ _=>⟨(dG (ai (dO (r:=pq K) dF (pv 0) bP (λ_ _=>rfl)) (ai (dO (r:=pq K) dF (pv 0) bP (λ_ _=>rfl)) aF))),gC⟩)) aF)))⟩),?_⟩;apply⟨_,rfl,t,_,_,_,rfl,rfl,SqT.of ht,aO (j:=2) rfl,p,rfl,⟨_,SqT.of hp⟩,?_⟩;apply jF (K:=K) (a:=p) (xs:=ys) (λi zs H2=>bD H H2∧eM H2 zs (((sp.take i).map λx=>(x.l,x.o)).map λx=> .tup ((bndR x).map Dt.int))) ⟨bD.refl H,.nil⟩ (λi zs H2 hi ⟨e1,e2⟩=>?_) (by rw[hl];exact de few) (λi x zs H2 hx ⟨e1,e2⟩=>?_) (λzs H2 ⟨e1,e2⟩ D hD=>?_)
 ·apply⟨SqT.of (e1 _ _ hp),?_⟩
  rw[e2.length,aa,aa,bM];lia
 ·have hi:i<sp.length:=by rw[←hl];exact(ar.mp hx).1
  obtain⟨q,hq,hq2⟩:=hy i sp[i] (gE hi);rw[hx] at hq;cases hq;have hq3:=e1 _ _ hq2;apply fO ?_;apply⟨_,rfl,q,_,_,_,rfl,rfl,SqT.of hq3,aO (j:=2) rfl,_,rfl,q,_,_,_,rfl,rfl,SqT.of hq3,aO (j:=3) rfl,o6,λq4 H4 S4 h4=>⟨e1.trans S4,?_⟩⟩;rw[bj,gE hi,aD,aD];exact(e2.same S4).append (.cons (.tup h4 (eM.ints [sp[i].l,sp[i].o])) .nil)
 ·apply⟨D,_,rfl,SqL.of aR,λp3 H3 S3 h3=>?_⟩
  have S23:=(bD.put (o:= .lst zs) (bD.refl H2) hD).trans S3;apply k (.ref p3) H3 (e1.trans S23) (.tup h3 ?_);rw[hl,bo] at e2;exact e2.same S23
inductive pQ (vs:List V)(H:Hp)(Q:VK)(_:XK):Prop
 | mk (v u:V)(b m:Int)(sp:List Sn)(t:Tq)(_:vs=[v,u])(_:IsD H v (jv b m sp))(_:IsD H u (jY t))(_:sp.length≤40)(_:RgL sp t (sp.map λx=>(x.l,x.o)))(_:siz t≤9000)(_:∀L ys H',bD H H'→H' L=some (.lst ys)→eM H' ys ((lvs t (sp.map λx=>(x.l,x.o))).map plcD)→Q (.ref L) H')
def LvJ.grow {Hd:Hp}{Ah:aq}{st:List (List (Int×Int)×Tq)}(j:LvJ H Hc Ls Ah sp st fo)(e:bD Hc Hd):LvJ H Hd Ls Ah sp st fo:=by
 obtain⟨ys,h1,h2⟩:=j.ls;obtain⟨zs,h3,h4⟩:=j.ah;exact⟨j.same.trans e,⟨ys,e _ _ h1,h2.keep (bD.tupK e)⟩,⟨zs,e _ _ h3,h4.keep (bD.tupK e)⟩,j.ok⟩
def same_up (e:bD H Hc)(h:H a=none):bD H (upd Hc a o):=λb u q=>by
 rw[bt (λz=>by rw[z,h] at q;cases q)];exact e b u q
def siz_pos (t:Tq):1≤siz t:=by
 cases t with
 | leaf d=>exact aB _
 | cut k a x y=>show 1≤siz x+siz y+1;lia
theorem sizAll_le:∀(st:List (List (Int×Int)×Tq)),st.length≤l7 st
 | []=>aB _
 | p::st=>by
  show st.length+1≤siz p.2+l7 st;have:=siz_pos p.2;have:=sizAll_le st;lia
def rowsPk {f:α→List Int}{xs:List α}(e:kK H H')(h:IsD H v (rowsP f xs)):IsD H' v (rowsP f xs):=by
 obtain⟨p,ys,rfl,hp,_,r⟩:=gT h;exact .tup (e _ _ hp) (eO e r)
def lg:bY ["net","thing","leaves","ahead","place","sides"] pzb (defScope pV):=by trivial
def ok_leavesIn (F:Fun K "leaves_in" "leaves_in" pV f fd)(T:Nm mg)(CL:∃t,mg "MOST_LEAVES_WALKED" =some (.int 20000 t))
  (G1:Fn K mg "first_bounds" sFirst pza f1 fd1) (F1:‹0› 1 f1 fd1 pza spFirst)
  (G2:Fn K mg "is_cut" sCut pzE f2 fd2) (F2:‹0› 3 f2 fd2 pzE spCtT)
  (G3:Fn K mg "sides_of" sSides pzF f3 fd3) (F3:‹0› 2 f3 fd3 pzF spSides)
  (G4:Fn K mg "is_leaf" sLeafT pzb f4 fd4) (F4:‹0› 7 f4 fd4 pzb spLfT):‹0› 8 f fd pzb pQ:=by
 specialize F.ok lg;obtain ⟨v,u,b,m,sp,t,rfl,hv,hu,few,ok,hsz,k⟩:=h;have hr1:gP 1 _:=hr.mono ↥0;have hr2:gP 2 _:=hr.mono ↥0;have hr3:gP 3 _:=hr.mono ↥0;apply ⟨_,PSl.h (aZ ⟨(psZ 2 lg.nd (ji aF))⟩
  (aZ ⟨(psZ 3 lg.nd (ji (ai (dG (ai (pc1 G1 F1 hr1 (ai (pv 0) aF)) (ai (pv 1) aF))) aF)))⟩
  (aZ ⟨(nQ bH (cy qT (cp bR rfl T.len bC (ai (pv 3) aF)) bP (cL _)) (PSl.h (aZ ⟨(psZ 4 lg.nd (qe bh fh fg qk (pv 3)))⟩
  (cP ⟨(gg (iB (pc1 G2 F2 hr3 (ai (ixZ (pv 4)) (ai (ixZ (pv 4)) aF)))) (PSl.h (aZ ⟨(psZ 5 lg.nd (pc1 G3 F3 hr2 (ai (ixZ (pv 4)) (ai (ixZ (pv 4)) aF))))⟩
  (aZ ⟨(iK (mE bh bV bU gm (pv 3) (ai (ixZ (pv 5)) aF)))⟩
  (cP ⟨(iK (mE bh bV bU gm (pv 3) (ai (ixZ (pv 5)) aF)))⟩)))) (cE (gg (PW.pt (pw_and (iB (pc1 G4 F4 hr (ai (pv 0) (ai (ixZ (pv 4)) aF)))) (pw_and1 (cy op_lt (cp bR rfl T.len bC (ai (pv 2) aF)) (qd CL) (cL _))))) (cE (iK (mE bh bV bU gm (pv 2) (ai (pv 4) aF)))) (cE (bZ oQ)))))⟩))))⟩
  (cP ⟨(bZ (pv 2))⟩)))),?_⟩
 apply⟨bu _,λLs hLs=>?_⟩;have S1:bD H (upd H Ls (.lst [])):=bD.put (bD.refl H) hLs;have h1:(upd H Ls (.lst [])) Ls=some (.lst []):=aR;generalize upd H Ls (.lst [])=H1 at S1 h1 ⊢;apply⟨_,rfl,v,b,m,sp,rfl,hv.same S1,⋯,λub H2 S2 hub=>⟨_,rfl,o6,λq3 H3 S3 h3=>⟨szZ1,λAh hAh=>?_⟩⟩⟩;have S13:=S1.trans (S2.trans S3);have nLA:Ls≠Ah:=λz=>by rw[←z,S3 _ _ (S2 _ _ h1)] at hAh;cases hAh
 have hAhH:H Ah=none:=by
  cases z:H Ah with
  | none=>rfl
  | some o=>rw[S13 _ _ z] at hAh;cases hAh
 have S4:bD H3 (upd H3 Ah (.lst [.ref q3])):=bD.put (bD.refl H3) hAh;have h4:(upd H3 Ah (.lst [.ref q3])) Ah=some (.lst [.ref q3]):=aR;generalize upd H3 Ah (.lst [.ref q3])=H4 at S4 h4 ⊢;obtain⟨bs0,hbs0⟩:∃bs0,bs0=sp.map λx=>(x.l,x.o):=⟨_,rfl⟩
 rw[←hbs0] at ok k hub;have lb0:bs0.length=sp.length:=by rw[hbs0,aa]
 have J4:LvJ H H4 Ls Ah sp [(bs0,t)] []:=⟨S13.trans S4,⟨[],S4 _ _ (S3 _ _ (S2 _ _ h1)),.nil⟩,⟨[.ref q3],h4,.cons ⟨q3,ub,u,rfl,S4 _ _ h3,(hub.same S3).same S4,hu⟩ .nil⟩,λp hp=>by rw[aw.mp hp];exact⟨ok,lb0⟩⟩;apply⟨λn σ Hc=>∃(st:List (List (Int×Int)×Tq)) (fo:List (List (Int×Int)×Dt)) (v4 v5:Option V),n=l7 st∧σ=[some v,some u,some (.ref Ls),some (.ref Ah),v4,v5]∧LvJ H Hc Ls Ah sp st fo∧fo++lvsAll st=lvs t bs0∧fo.length+l7 st≤9000,⟨_,_,_,none,none,rfl,rfl,J4,by show[]++(lvs t bs0++[])=_;simp,by show 0+(siz t+0)≤9000;lia⟩,?_⟩;clear J4 h4 S4 h3 hub S13 S3 S2 h1 S1 hAh;rintro n σ Hc ⟨st,fo,v4,v5,rfl,rfl,J,hl,hmx⟩;obtain⟨zs,hz,pz⟩:=J.ah;apply⟨_,rfl,Ah,_,rfl,.inl (SqL.of hz),_,_,rfl,rfl,_,rfl,?_⟩;cases pz with
 | nil =>
  apply j3 (by rfl) ?_;obtain⟨ys,hy,py⟩:=J.ls;have e:fo=lvs t bs0:=by rw[←hl];show fo=fo++[];simp
  exact⟨_,rfl,k Ls ys Hc J.same hy (by rw[←e];exact py.data J.same)⟩
 | cons h r =>
  rename_i y p zs st;apply mr (rT (by rw[dW,aV];show((zs.length+1:Nat):Int) > 0;lia)) ?_;apply⟨_,λσ' H' z=>z,?_⟩;rw[eY] at hz;apply⟨_,rfl,.inl ⟨rfl,_,SqL.of hz⟩,Ah,_,y,rfl,rfl,hz,by rw[av,bp ∅];simp,?_⟩;rw[fI];obtain⟨q,vb,vd,rfl,hq,hvb,hvd⟩:=h;have K5:kK Hc (upd Hc Ah (.lst zs.reverse)):=fm hz;have q5:=K5 _ _ hq;have vb5:IsD (upd Hc Ah (.lst zs.reverse)) vb (bndP p.1):=by
   obtain⟨pb,yb,rfl,hpb,_,rb⟩:=gT hvb;exact .tup (K5 _ _ hpb) (eO K5 rb)
  have J5:LvJ H (upd Hc Ah (.lst zs.reverse)) Ls Ah sp st fo:=by
   obtain⟨ys,hy,py⟩:=J.ls;exact⟨same_up J.same hAhH,⟨ys,by rw[bt nLA];exact hy,py.keep K5⟩,⟨zs,aR,r.keep K5⟩,λp hp=>J.ok p (aA _ hp)⟩
  obtain⟨okp,lenp⟩:=J.ok p ∅;generalize upd Hc Ah (.lst zs.reverse)=H5 at K5 q5 vb5 J5 ⊢;have vd5:=hvd.same J5.same;obtain⟨bs,tq⟩:=p;have lenp:bs.length=sp.length:=lenp;apply⟨_,rfl,q,_,_,_,rfl,rfl,SqT.of q5,aO (j:=0) rfl,_,rfl,q,_,_,_,rfl,rfl,SqT.of q5,aO (j:=1) rfl,vb,vd,bs,tq,rfl,vb5,vd5,(by cases tq with | leaf d=>exact⟨okp.choose,okp.choose_spec.1⟩ | cut kk a x y=>exact⟨okp.1,okp.2.1,okp.2.2.1⟩),_,rfl,?_⟩;cases tq with
  | cut kk a x y =>
   apply mr rfl ?_;obtain⟨o1,o2,o3,o4,o5⟩:=okp;obtain⟨c,cs,rfl,hc,rc⟩:=hvd.tup_of;cases rc with
   | cons g0 gr=>cases gr with
    | cons g1 gr=>cases gr with
     | cons g2 gr=>cases gr with
      | cons g3 gr=>cases gr with
       | cons g4 gr =>
        cases gr;cases g0;cases g1;cases g2;rename_i x3 x4;apply⟨_,rfl,q,_,_,_,rfl,rfl,SqT.of q5,aO (j:=0) rfl,_,rfl,q,_,_,_,rfl,rfl,SqT.of q5,aO (j:=1) rfl,vb,c,bs,kk,a,x3,x4,rfl,vb5,J5.same _ _ hc,o1,⋯,λp6 q6 r6 u1 u3 H6 S6 h6 hq6 hu1 hr6 hu3=>?_⟩;have J6:=J5.grow S6;obtain⟨zs6,hz6,pz6⟩:=J6.ah;have lz:=pz6.length;have mx:st.length≤l7 st:=sizAll_le st;have hmx:fo.length+((siz x+siz y+1)+l7 st)≤9000:=hmx;apply⟨_,rfl,.inl ⟨rfl,_,SqL.of hz6⟩,_,rfl,p6,_,_,_,rfl,rfl,SqT.of h6,aO (j:=1) rfl,Ah,_,_,rfl,rfl,hz6,(aS (by rw[dW,lz];lia:zs6.reverse.length<9500) (by decide:9500≤bf)),?_⟩;have K7:kK H6 (upd H6 Ah (.lst (zs6.reverse++[.ref r6]))):=fm hz6;have hz7:(upd H6 Ah (.lst (zs6.reverse++[.ref r6]))) Ah=some (.lst (zs6.reverse++[.ref r6])):=aR;have E7:∀b o,b≠Ah→H6 b=some o→(upd H6 Ah (.lst (zs6.reverse++[.ref r6]))) b=some o:=λb o hb e=>by rw[bt hb];exact e
        have S7:bD H (upd H6 Ah (.lst (zs6.reverse++[.ref r6]))):=same_up J6.same hAhH;generalize upd H6 Ah (.lst (zs6.reverse++[.ref r6]))=H7 at K7 hz7 E7 S7 ⊢;apply⟨_,rfl,.inl ⟨rfl,_,SqL.of hz7⟩,_,rfl,p6,_,_,_,rfl,rfl,SqT.of (K7 _ _ h6),aO (j:=0) rfl,Ah,_,_,rfl,rfl,hz7,(aS (by rw[av,dW,lz];show st.length+1<9500;lia:(zs6.reverse++[V.ref r6]).length<9500) (by decide:9500≤bf)),?_⟩;have K8:kK H7 (upd H7 Ah (.lst (zs6.reverse++[.ref r6]++[.ref q6]))):=fm hz7;have K68:=K7.trans K8;obtain⟨ys6,hy6,py6⟩:=J6.ls;apply⟨siz x+(siz y+l7 st),by show _<siz x+siz y+1+l7 st;lia,(kZ bs kk a,x)::(d7 bs kk a,y)::st,fo,_,_,rfl,rfl,⟨same_up S7 hAhH,⟨ys6,by rw[bt nLA];exact E7 _ _ nLA hy6,py6.keep K68⟩,⟨.ref q6:: .ref r6::zs6,by rw[aR,eY,eY],.cons ⟨q6,u1,x3,rfl,K68 _ _ hq6,rowsPk K68 hu1,g3⟩ (.cons ⟨r6,u3,x4,rfl,K68 _ _ hr6,rowsPk K68 hu3,g4⟩ (pz6.keep K68))⟩,λp hp=>?_⟩,?_,by show fo.length+(siz x+(siz y+l7 st))≤9000;lia⟩
        ·rcases aH.mp hp with rfl | hp
         ·exact⟨o4,by rw[one_len];exact lenp⟩
         ·rcases aH.mp hp with rfl | hp
          ·exact⟨o5,by rw[nV];exact lenp⟩
          ·exact J6.ok p hp
        ·rw[←hl]
         show fo++(lvs x _++(lvs y _++lvsAll st))=fo++((lvs x _++lvs y _)++lvsAll st);rw[jK (lvs x _)]
  | leaf d =>
   apply j3 rfl ?_;obtain⟨ws,ed,rg⟩:=okp;apply⟨_,rfl,_,rfl,q,_,_,_,rfl,rfl,SqT.of q5,aO (j:=1) rfl,v,vd,b,m,sp,ws,rfl,hv.same J5.same,(by rw[←ed];exact vd5),rg,λH6 S6=>⟨_,rfl,mr rfl ?_⟩⟩;have J6:=J5.grow S6;obtain⟨ys6,hy6,py6⟩:=J6.ls;have ly:=py6.length;rw[aa] at ly;apply⟨_,rfl,Ls,_,rfl,.inl (SqL.of hy6),_,_,rfl,rfl,_,rfl,mr (rT (by show(ys6.length:Int)<20000;lia)) ?_⟩;apply⟨_,rfl,.inl ⟨rfl,_,SqL.of hy6⟩,_,rfl,Ls,_,_,rfl,rfl,hy6,(aS (by lia:ys6.length<9500) (by decide:9500≤bf)),?_⟩;have K7:kK H6 (upd H6 Ls (.lst (ys6++[.ref q]))):=fm hy6;obtain⟨zs6,hz6,pz6⟩:=J6.ah;have hmx:fo.length+(1+l7 st)≤9000:=hmx;apply⟨l7 st,by show _<1+l7 st;lia,st,fo++[(bs,d)],_,_,rfl,rfl,⟨same_up J6.same hLs,⟨_,aR,?_⟩,⟨zs6,by rw[bt nLA.symm];exact hz6,pz6.keep K7⟩,J6.ok⟩,?_,by rw[av];show fo.length+1+_≤9000;lia⟩
   ·rw[aD]
    apply(py6.keep K7).append (.cons ⟨q,vb,vd,rfl,K7 _ _ (S6 _ _ q5),?_,hvd⟩ .nil);obtain⟨pb,yb,rfl,hpb,_,rb⟩:=gT (vb5.same S6);exact .tup (K7 _ _ hpb) (eO K7 rb)
   ·rw[←hl,jK];rfl
abbrev sSum:cF:=top 17
abbrev sBeats:cF:=top 18
def scSum:bY ["bounds","way","low","high","step","bound"] pzG (defScope sSum):=by trivial
def ok_sum (F:Fun K "sum_of" "sum_of" sSum f fd):‹0› 1 f fd pzG spSum:=by
 specialize F.ok scSum;obtain ⟨vb,vw,bs,ws,rfl,hb,hw,hin,k⟩:=h;obtain ⟨pb,yb,rfl,hpb,hlb,rb⟩:=gT hb;obtain ⟨pw,yw,rfl,hpw,hlw,rw'⟩:=gT hw;apply ⟨_,PSl.h (aZ ⟨(psZ 2 scSum.nd bP)⟩
  (aZ ⟨(psZ 3 scSum.nd bP)⟩
  (aZ ⟨(ig bH rfl (lr (pv 1)) (pgZ 4 scSum.nd) (PSl.h (aZ ⟨(psZ 5 scSum.nd (dO dF (pv 0) (ixZ (pv 4)) (fun _ _=>rfl)))⟩
  (cP ⟨(gg (cy jO (ixZ (pv 4)) bP (cL _)) (PSl.h (aZ ⟨(ps_aug (i:=2) scSum.nd rfl (.inl rfl) (ixZ (pv 5)) ip_add)⟩
  (cP ⟨(ps_aug (i:=3) scSum.nd rfl (.inl rfl) (ixZ (pv 5)) ip_add)⟩))) (PSl.h (aZ ⟨(ps_aug (i:=2) scSum.nd rfl (.inl rfl) (ixZ (pv 5)) ip_sub)⟩
  (cP ⟨(ps_aug (i:=3) scSum.nd rfl (.inl rfl) (ixZ (pv 5)) ip_sub)⟩))))⟩))))⟩
  (cP ⟨(bZ (dG (ai (pv 2) (ai (pv 3) aF))))⟩)))),?_⟩
 apply⟨_,rfl,pw,rfl,⟨_,SqT.of hpw⟩,?_⟩;apply for_tup (K:=K) (xs:=yw) (λi σ H2=>H2=H∧∃v4 v5,σ=[some (.ref pb),some (.ref pw),some (.int (gw bs (ws.take i))),some (.int (iR bs (ws.take i))),v4,v5]) ⟨rfl,none,none,rfl⟩ (λi σ H2 _ ⟨e1,_⟩=>by rw[e1];exact SqT.of hpw) ?_ ?_
 ·rintro i y σ H2 hy ⟨rfl,v4,v5,rfl⟩
  have hi:i<ws.length:=by rw[←hlw];exact(ar.mp hy).1
  obtain⟨q,hq,hq2⟩:=iX rw' (gE hi);rw[hy] at hq;cases hq;obtain⟨i1,d1⟩:=hin ws[i] (aY hi);have hm1:gw bs (ws.take (i+1))=gw bs (ws.take i)+lowS bs ws[i]:=by
   unfold gw;rw[bj,gE hi,aD,List.sum_append];simp
  have hm2:iR bs (ws.take (i+1))=iR bs (ws.take i)+mK bs ws[i]:=by
   unfold iR;rw[bj,gE hi,aD,List.sum_append];simp
  obtain⟨qb,hqb,hqb2⟩:=iX rb (gE i1);apply⟨_,rfl,_,rfl,q,_,_,_,rfl,rfl,SqT.of hq2,aO (j:=0) rfl,pb,_,_,_,rfl,rfl,SqT.of hpb,aO (j:=ws[i].i) hqb,?_⟩;apply⟨_,rfl,q,_,_,_,rfl,rfl,SqT.of hq2,aO (j:=1) rfl,rfl,_,rfl,?_⟩;apply ite2 (λh1=>?_) (λh1=>?_)
  ·have h1:ws[i].d=1:=by have:=rW h1;injection this
   apply⟨_,rfl,_,rfl,qb,_,_,_,rfl,rfl,SqT.of hqb2,aO (j:=0) rfl,_,_,rfl,rfl,?_⟩;apply⟨_,rfl,_,rfl,qb,_,_,_,rfl,rfl,SqT.of hqb2,aO (j:=1) rfl,_,_,rfl,rfl,rfl,some (.ref q),some (.ref qb),?_⟩;have l1:lowS bs ws[i]=bs[ws[i].i].1:=by unfold lowS;rw[gE i1];exact rR h1
   have l2:mK bs ws[i]=bs[ws[i].i].2:=by unfold mK;rw[gE i1];exact rR h1
   rw[hm1,hm2,l1,l2];rfl
  ·have h1:ws[i].d≠1:=λz=>h1 (rT (by rw[z]))
   apply⟨_,rfl,_,rfl,qb,_,_,_,rfl,rfl,SqT.of hqb2,aO (j:=1) rfl,_,_,rfl,rfl,?_⟩;apply⟨_,rfl,_,rfl,qb,_,_,_,rfl,rfl,SqT.of hqb2,aO (j:=0) rfl,_,_,rfl,rfl,rfl,some (.ref q),some (.ref qb),?_⟩;have l1:lowS bs ws[i]= -bs[ws[i].i].2:=by unfold lowS;rw[gE i1];exact rQ h1
   have l2:mK bs ws[i]= -bs[ws[i].i].1:=by unfold mK;rw[gE i1];exact rQ h1
   rw[hm1,hm2,l1,l2,←Int.sub_eq_add_neg,←Int.sub_eq_add_neg];rfl
 ·rintro σ H2 ⟨rfl,v4,v5,rfl⟩
  rw[hlw,bo];exact⟨_,rfl,_,rfl,o6,λp3 H3 S3 h3=>k p3 H3 S3 h3⟩
def scBeats:bY ["net","bounds","ring","beat","ends"] pze (defScope sBeats):=by trivial
def ok_beats (F:Fun K "beats_of" "beats_of" sBeats f fd)(G1:Fn K mg "sum_of" sSum pzG f1 fd1):‹0› 2 f fd pze spBeats:=by
 have F1:‹0› 1 f1 fd1 pzG spSum:=ok_sum G1.F;specialize F.ok scBeats;obtain ⟨vn,vb,vw,b,m,sp,bs,ws,rfl,hv,hb0,hb1,hb,hw,hin,k⟩:=h;obtain ⟨t,pn,ys,rfl,ht,_⟩:=fe hv;apply ⟨_,PSl.h (aZ ⟨(psZ 3 scBeats.nd (ixZ (pv 0)))⟩
  (aZ ⟨(psZ 4 scBeats.nd (pc1 G1 F1 hr (ai (pv 1) (ai (pv 2) aF))))⟩
  (cP ⟨(bZ (dG (ai (pe_un qY (dB op_fdivB (pe_un qY (ixZ (pv 4))) (pv 3))) (ai (dB op_fdivB (ixZ (pv 4)) (pv 3)) aF))))⟩))),?_⟩
 apply⟨_,rfl,t,_,_,_,rfl,rfl,SqT.of ht,aO (j:=0) rfl,?_⟩;apply⟨_,rfl,_,rfl,vb,vw,bs,ws,rfl,hb,hw,hin,λp1 H1 S1 h1=>?_⟩;apply⟨_,rfl,p1,_,_,_,rfl,rfl,SqT.of h1,aO (j:=0) rfl,_,rfl,_,rfl,_,_,rfl,rfl,log_ok hb0 hb1,_,rfl,?_⟩;apply⟨_,rfl,p1,_,_,_,rfl,rfl,SqT.of h1,aO (j:=1) rfl,_,rfl,_,_,rfl,rfl,log_ok hb0 hb1,o6,λp2 H2 S2 h2=>k p2 H2 (S1.trans S2) h2⟩
abbrev sDead:cF:=top 19
def scDead:bY ["net","bounds","ring","beats"] pze (defScope sDead):=by trivial
def ok_dead (F:Fun K "is_dead" "is_dead" sDead f fd)(G1:Fn K mg "beats_of" sBeats pze f1 fd1)(F1:‹0› 2 f1 fd1 pze spBeats):‹0› 3 f fd pze spDead:=by
 specialize F.ok scDead;obtain ⟨vn,vb,vw,b,m,sp,bs,ws,rfl,hv,hb0,hb1,hb,hw,hin,k⟩:=h;apply ⟨_,PSl.h (aZ ⟨(psZ 3 scDead.nd (pc1 G1 F1 hr (ai (pv 0) (ai (pv 1) (ai (pv 2) aF)))))⟩
  (cP ⟨(bZ (jz qT (ixZ (pv 3)) (ixZ (pv 3)) (cL _)))⟩)),?_⟩
 apply⟨_,rfl,_,rfl,_,rfl,vn,vb,vw,b,m,sp,bs,ws,rfl,hv,hb0,hb1,hb,hw,hin,λp1 H1 S1 h1=>?_⟩;exact⟨_,rfl,p1,_,_,_,rfl,rfl,SqT.of h1,aO (j:=0) rfl,_,rfl,p1,_,_,_,rfl,rfl,SqT.of h1,aO (j:=1) rfl,_,_,rfl,rfl,k H1 S1⟩
abbrev sIsRight:cF:=top 42
abbrev sShown:cF:=top 45
theorem qH {b:Int}{sp:List Sn}:∀(t:Tq) (bs:List (Int×Int)) (n:Nat),GoodT (RDead b sp) t bs n→bs.length=sp.length→RgL sp t bs∧∀p∈lvs t bs,p.1.length=sp.length∧RDead b sp p.1 p.2
 | .leaf d,bs,n,h,hl=>by
  have h:RDead b sp bs d:=by cases n <;> exact h
  exact⟨⟨h.choose,h.choose_spec.1,h.choose_spec.2.1⟩,λp hp=>by rw[aw.mp hp];exact⟨hl,h⟩⟩
 | .cut k a x y,bs,0,h,_=>h.elim
 | .cut k a x y,bs,n+1,h,hl=>by
  obtain⟨h1,h2,h3,h4,h5⟩:=h;obtain⟨a1,a2⟩:=qH x _ n h4 (by rw[one_len];exact hl);obtain⟨c1,c2⟩:=qH y _ n h5 (by rw[nV];exact hl);apply⟨⟨h1,h2,h3,a1,c1⟩,λp hp=>?_⟩
  rcases aI.mp (show p∈lvs x _++lvs y _ from hp) with z | z
  ·exact a2 p z
  ·exact c2 p z
inductive q9 (vs:List V)(H:Hp)(Q:VK)(_:XK):Prop
 | mk (vn vb vl:V)(b m:Int)(sp:List Sn)(bs:List (Int×Int))(ws:List Stp)(_:vs=[vn,vb,vl])(_:IsD H vn (jv b m sp))(_:0<b)(_:b<10 ^ 61)(_:IsD H vb (bndP bs))(_:IsD H vl (leafP (.ring ws)))(_:qV bs.length ws)(_:∀H',bD H H'→Q (.bl (jA b bs ws)) H')
inductive spShownD (vs:List V)(H:Hp)(Q:VK)(_:XK):Prop
 | mk (v u:V)(b m:Int)(sp:List Sn)(t:Tq)(_:vs=[v,u])(_:IsD H v (jv b m sp))(_:jb b m sp)(_:IsD H u (jY t))(_:GoodT (RDead b sp) t (sp.map λz=>(z.l,z.o)) 21)(_:siz t≤8191)(_:∀r H',bD H H'→IsD H' r (.tup [.str "none"])→Q r H')
def pe_outL:PE X e (λ_ _ _=>False):=λ_ _ _ _ _ _ h=>h.elim
def scIsRight:bY pzx pzx (defScope sIsRight):=by trivial
def ok_isRightD (F:Fun K "is_right" "is_right" sIsRight f fd)(G1:Fn K mg "is_dead" sDead pze f1 fd1)(F1:‹0› 3 f1 fd1 pze spDead):‹0› 4 f fd pzx q9:=by
 specialize F.ok scIsRight;obtain ⟨vn,vb,vl,b,m,sp,bs,ws,rfl,hv,hb0,hb1,hb,hl,hin,k⟩:=h;apply ⟨_,PSl.h (aZ ⟨(gg (cy jO (ixZ (pv 2)) jh (cL _)) (cE (bZ (pc1 G1 F1 hr (ai (pv 0) (ai (pv 1) (ai (ixZ (pv 2)) aF)))))) cY)⟩
  (cP ⟨ps_outL⟩)),?_⟩
 obtain⟨p,xs,rfl,hp,rx⟩:=IsD.tup_of (show IsD H vl (.tup [.str "ring",oU ws]) from hl);cases rx with
 | cons h1 r1 =>
  cases r1 with
  | cons h2 r2 =>
   cases r2;cases h1;apply⟨_,rfl,p,_,_,_,rfl,rfl,SqT.of hp,aO (j:=0) rfl,rfl,_,rfl,mr ↥0 ?_⟩;exact⟨_,rfl,_,rfl,_,rfl,p,_,_,_,rfl,rfl,SqT.of hp,aO (j:=1) rfl,vn,vb,_,b,m,sp,bs,ws,rfl,hv,hb0,hb1,hb,h2,hin,λH' S'=>k H' S'⟩
def scShown:bY ["net","thing","leaves","worths"] pzb (defScope sShown):=by trivial
theorem ok_shownD (F:Fun K "shown_by" "shown_by" sShown f fd)(T:Nm mg)
  (G1:Fn K mg "leaves_in" pV pzb f1 fd1) (F1:‹0› 8 f1 fd1 pzb pQ)
  (G2:Fn K mg "is_right" sIsRight pzx f2 fd2) (F2:‹0› 4 f2 fd2 pzx q9):‹0› 9 f fd pzb spShownD:=by
 specialize F.ok scShown;obtain⟨v,u,b,m,sp,t,rfl,hv,N,hu,good,hsz,k⟩:=h;have hr8:gP 8 _:=hr;have hr4:gP 4 _:=hr.mono ↥0;have b0:0<b:=by have:=N.b1;lia
 have b61:b<10 ^ 61:=by have:=N.b2;lia
 have few:=N.few;obtain ⟨hcut,lok⟩:=qH t _ 21 good (by rw [aa]);apply ⟨_,PSl.h (aZ ⟨(psZ 2 scShown.nd (pc1 G1 F1 hr8 (ai (pv 0) (ai (pv 1) aF))))⟩
  (aZ ⟨(gg (PW.pt (oW (cy op_isN (pv 2) oQ (cL _)) (nN (jN (iB (cp (call_all rfl) rfl T.all boot_all (ai (pE (xs:=["bounds","leaf"]) (fr:=pza) (js:=[0]) rfl (gh (pv 2)) ⇑0 rfl ⇑0 (by exists sShown) rfl ⇑0 (fun _ _ _ _ _=>pg_two rfl ⇑0 rfl rfl) (fun _ _ _ _ _=>⟨(pc1 G2 F2 hr4 (ai (pv 2) (ai (pv 0) (ai (pv 1) aF)))),gC⟩)) aF))))))) (cE (bZ oQ)) cY)⟩
  (aZ ⟨(ps_setCT (iy:=3) (xs:=["bounds","leaf"]) (fr:=pza) (js:=[0]) scShown.nd rfl (.inl rfl) rfl (gh (pv 2)) ⇑0 rfl ⇑0 (by exists sShown) rfl ⇑0 (fun _ _ _ _ _=>pg_two rfl ⇑0 rfl rfl) (fun _ _ _ _ _=>⟨pe_outL,(jZ (cy jO (dO (r:=pq K) dF (pv 1) bP (fun _ _=>rfl)) jh (cL _)))⟩))⟩
  (aZ ⟨(gg (cy jO (cp bR rfl T.len bC (ai (pv 3) aF)) bP (cL _)) (cE (bZ (dG (ai jh aF)))) cY)⟩
  (cP ⟨ps_outL⟩))))),?_⟩
 apply⟨_,rfl,_,rfl,v,u,b,m,sp,t,rfl,hv,hu,few,hcut,⋯,λL ys H1 S1 hL hys=>?_⟩;generalize eps:lvs t (sp.map λx=>(x.l,x.o))=ps at hys lok;have ly:ys.length=ps.length:=by rw[hys.length,aa]
 have lps:ps.length≤9000:=by
  have:=lvs_siz t (sp.map λx=>(x.l,x.o));rw[eps] at this;lia
 have sml:ys.length≤bf:=aQ (by lia:_≤9000) ↥0;have plc:∀{i:Nat} {y:V},ys[i]? =some y→∃(q:aq) (vb vl:V) (bs:List (Int×Int)) (ws:List Stp),y= .ref q∧H1 q=some (.tup [vb,vl])∧IsD H1 vb (bndP bs)∧IsD H1 vl (leafP (.ring ws))∧bs.length=sp.length∧Rg sp ws∧jA b bs ws=true:=λ{i y} hy=>by
  have hi:i<ps.length:=by rw[←ly];exact(ar.mp hy).1
  obtain⟨d,hd,dy⟩:=hys.get hy;rw[az,gE hi] at hd;cases hd;obtain⟨l1,ws,e,rg,dd⟩:=lok _ (aY hi);obtain⟨q,xs,rfl,hq,r⟩:=IsD.tup_of (show IsD H1 y (.tup [bndP ps[i].1,ps[i].2]) from dy);cases r with
  | cons g0 gr=>cases gr with
   | cons g1 gr =>
    cases gr;rw[e] at g1;exact⟨q,_,_,ps[i].1,ws,rfl,hq,g0,g1,l1,rg,dd⟩
 apply⟨_,rfl,rfl,_,rfl,j3 (rV λz=>by cases z) ?_⟩;apply⟨_,rfl,L,rfl,⟨_,SqL.of hL⟩,?_⟩;apply compT_lst (K:=K) (a:=L) (xs:=ys) (λi zs H2=>bD H1 H2∧zs=(bx i true).map V.bl) ⟨bD.refl H1,rfl⟩ (λi zs H2 hi z=>?_) sml (λi y zs H2 hy z=>?_) (λzs H2 z D hD=>?_)
 ·obtain⟨e1,e2⟩:=z
  apply⟨SqL.of (e1 _ _ hL),?_⟩;rw[e2,aa,eC];exact aB _
 ·obtain⟨e1,e2⟩:=z
  obtain⟨q,vb,vl,bs,ws,rfl,hq,hb,hl,l1,rg,dd⟩:=plc hy;apply⟨q,vb,vl,rfl,e1 _ _ hq,fO ?_⟩;apply⟨_,rfl,_,rfl,_,rfl,v,vb,vl,b,m,sp,bs,ws,rfl,(hv.same S1).same e1,b0,b61,hb.same e1,hl.same e1,by rw[l1];exact rg.inn,λH3 S3=>⟨e1.trans S3,?_⟩⟩;rw[e2,dd,List.replicate_succ',aD];rfl
 obtain⟨e1,e2⟩:=z;subst e2;have S2:bD H1 (upd H2 D (.lst ((bx ys.length true).map V.bl))):=bD.put e1 hD;have hD2:(upd H2 D (.lst ((bx ys.length true).map V.bl))) D=some (.lst ((bx ys.length true).map V.bl)):=aR;generalize upd H2 D (.lst ((bx ys.length true).map V.bl))=H3 at S2 hD2 ⊢;apply⟨D,bx ys.length true,rfl,SqL.of hD2,_,rfl,j3 ?_ ?_⟩
 ·rw[gf.mpr λx hx=>(by rw[(List.mem_replicate.mp hx).2];rfl)];rfl
 apply⟨_,rfl,L,rfl,⟨_,SqL.of (S2 _ _ hL)⟩,?_⟩;apply compT_lst (K:=K) (a:=L) (xs:=ys) (λi zs H4=>H4=H3∧zs=[]) ⟨rfl,rfl⟩ (λi zs H4 hi z=>?_) sml (λi y zs H4 hy z=>?_) (λzs H4 z D2 hF2=>?_)
 ·obtain⟨e1,e2⟩:=z
  subst e1 e2;exact⟨SqL.of (S2 _ _ hL),bu _⟩
 ·obtain⟨e1,e2⟩:=z
  subst e1;obtain⟨q,vb,vl,bs,ws,rfl,hq,hb,hl,l1,rg,dd⟩:=plc hy;obtain⟨ql,xs,rfl,hql,rx⟩:=IsD.tup_of (show IsD H1 vl (.tup [.str "ring",oU ws]) from hl);cases rx with
  | cons g0 gr =>
   cases gr with
   | cons g1 gr =>
    cases gr;cases g0;apply⟨q,vb,.ref ql,rfl,S2 _ _ hq,?_⟩;apply⟨_,rfl,ql,_,_,_,rfl,rfl,SqT.of (S2 _ _ hql),aO (j:=0) rfl,rfl,_,rfl,?_⟩;exact j3 (rV (by show ¬V.str "ring" =V.str "price";decide)) ⟨rfl,e2⟩
 obtain⟨e1,e2⟩:=z;subst e1 e2;have S4:bD H4 (upd H4 D2 (.lst [])):=(bD.refl H4).put hF2;have h4:(upd H4 D2 (.lst [])) D2=some (.lst []):=aR;generalize upd H4 D2 (.lst [])=H5 at S4 h4 ⊢;apply⟨_,rfl,D2,_,rfl,.inl (SqL.of h4),rfl,_,rfl,mr (by rfl) ?_⟩;apply⟨szZ1,λq6 H6 S6 h6=>k (.ref q6) H6 (S1.trans (S2.trans (S4.trans S6))) ?_⟩;exact .tup h6 (.cons (.str _) .nil)
abbrev sKeptL:cF:=top 73
abbrev sAllK:cF:=top 74
inductive spKeptL (vs:List V)(H:Hp)(Q:VK)(_:XK):Prop
 | mk (v:V)(q u:aq)(b m:Int)(sp:List Sn)(ts:List Int)(x:Sn)(_:vs=[v,.ref q,.ref u])(_:IsD H v (jv b m sp))(_:H q=some (.tup (x.row.map V.int)))(_:H u=some (.tup (ts.map V.int)))(_:0<b)(_:0≤x.s)(_:x.s<ts.length)(_:0≤x.g)(_:x.g<ts.length)(_:Q (.bl (!(brk b ts x))) H)
inductive spAllK (vs:List V)(H:Hp)(Q:VK)(_:XK):Prop
 | mk (v:V)(u:aq)(b m:Int)(sp:List Sn)(ts:List Int)(_:vs=[v,.ref u])(_:IsD H v (jv b m sp))(_:H u=some (.tup (ts.map V.int)))(_:Rdy b ts sp)(_:∀H',bD H H'→Q (.bl (kB b ts sp)) H')
def scKeptL:bY ["_law_net_here","_law_span","_law_table_here","_law_wait"] pzH (defScope sKeptL):=by trivial
def ok_keptL (F:Fun K "_law_kept" "_law_kept" sKeptL f fd):‹0› 1 f fd pzH spKeptL:=by
 specialize F.ok scKeptL;obtain ⟨v,q,u,b,m,sp,ts,x,rfl,hv,hq,hu,hb,s0,s1,g0,g1,k⟩:=h;obtain ⟨t,pn,ys,rfl,ht,_⟩:=fe hv;apply ⟨_,PSl.h (aZ ⟨(psZ 3 scKeptL.nd (dB mF (dB kz (dB kz (dO dF (pv 2) (ixZ (pv 1)) (fun _ _=>rfl)) (dO dF (pv 2) (ixZ (pv 1)) (fun _ _=>rfl))) (ixZ (pv 1))) (ixZ (pv 0))))⟩
  (cP ⟨(bZ (jz op_le (pv 3) (dB kz (ixZ (pv 1)) (ixZ (pv 1))) (cL _)))⟩)),?_⟩
 apply⟨_,rfl,_,rfl,q,_,_,_,rfl,rfl,SqT.of hq,aO (j:=1) rfl,u,_,_,_,rfl,rfl,SqT.of hu,kr g0 g1,_,rfl,_,rfl,q,_,_,_,rfl,rfl,SqT.of hq,aO (j:=0) rfl,u,_,_,_,rfl,rfl,SqT.of hu,kr s0 s1,_,_,rfl,rfl,_,rfl,q,_,_,_,rfl,rfl,SqT.of hq,aO (j:=2) rfl,_,_,rfl,rfl,_,rfl,t,_,_,_,rfl,rfl,SqT.of ht,aO (j:=0) rfl,_,_,rfl,rfl,hb,?_⟩;apply⟨_,rfl,_,rfl,q,_,_,_,rfl,rfl,SqT.of hq,aO (j:=3) rfl,_,rfl,q,_,_,_,rfl,rfl,SqT.of hq,aO (j:=2) rfl,_,_,rfl,rfl,_,_,rfl,rfl,?_⟩;have e:decide ((tm ts x.g - tm ts x.s - x.l) % b≤x.o - x.l)= !(brk b ts x):=by
  unfold brk iJ;rw[←decide_not];exact decide_eq_decide.mpr ⟨λh=>by lia,λh=>by lia⟩
 rw[←e] at k;exact k
def scAllK:bY pzi pzi (defScope sAllK):=by trivial
def ok_allK (F:Fun K "_law_all_kept" "_law_all_kept" sAllK f fd)(G1:Fn K mg "_law_kept" sKeptL pzH f1 fd1):‹0› 2 f fd pzi spAllK:=by
 have F1:‹0› 1 f1 fd1 pzH spKeptL:=ok_keptL G1.F;specialize F.ok scAllK;obtain⟨v,u,b,m,sp,ts,rfl,hv,hu,R,k⟩:=h;obtain⟨t,pn,ys,rfl,ht,hpn,hl,hy⟩:=fe hv;apply⟨_,PSl.h (cP ⟨(bZ (jz (op_eqL0 hr.units0) (gi (fr:=pzi) (js:=[0,1]) rfl (lr (ixZ (pv 0))) ⇑0 rfl ⇑0 rfl (by exists sAllK) ⇑0 rfl ⇑0 (λ_ _ _ _ _=>⟨(pv 0),(jZ (jN (iB (pc1 G1 F1 hr (ai (pv 1) (ai (pv 0) (ai (pv 2) aF)))))))⟩)) (oF aF) (cL _)))⟩),?_⟩;apply⟨_,rfl,t,_,_,_,rfl,rfl,SqT.of ht,aO (j:=2) rfl,pn,rfl,⟨_,SqT.of hpn⟩,?_⟩;apply jF (K:=K) (a:=pn) (xs:=ys) (λi zs H2=>H2=H∧zs.isEmpty= !((sp.take i).any (brk b ts))∧zs.length≤i) ⟨rfl,rfl,aB _⟩ (λi zs H2 hi ⟨e1,e2,e3⟩=>?_) (by rw[hl];exact de R.few) (λi x zs H2 hx ⟨e1,e2,e3⟩=>?_) (λzs H2 ⟨e1,e2,e3⟩ D hD=>?_)
 ·subst e1;exact⟨SqT.of hpn,e3⟩
 ·subst e1
  have hi:i<sp.length:=by rw[←hl];exact(ar.mp hx).1
  obtain⟨q,hq,hq2⟩:=hy i sp[i] (gE hi);rw[hx] at hq;cases hq;obtain⟨s0,s1,g0,g1⟩:=R.ends sp[i] (aY hi);have ht1:(sp.take (i+1)).any (brk b ts)=((sp.take i).any (brk b ts) || brk b ts sp[i]):=by
   rw[bj,gE hi,List.any_append];simp
  apply⟨_,rfl,_,rfl,_,rfl,.ref t,q,u,b,m,sp,ts,sp[i],rfl,hv,hq2,hu,R.b1,s0,s1,g0,g1,_,rfl,?_⟩;cases hb:brk b ts sp[i] with
  | true=>exact⟨_,rfl,rfl,by rw[ht1,hb];simp,by rw[av];show zs.length+1≤i+1;lia⟩
  | false=>exact⟨rfl,by rw[ht1,hb,e2];simp,⋯⟩
 ·subst e1
  have S1:bD H2 (upd H2 D (.lst zs)):=bD.put (bD.refl H2) hD;have hD1:(upd H2 D (.lst zs)) D=some (.lst zs):=aR;generalize upd H2 D (.lst zs)=H3 at S1 hD1 ⊢;apply⟨bu _,λq4 H4 S4 h4=>⟨D,q4,_,rfl,rfl,SqL.of (S4 _ _ hD1),SqL.of h4,?_⟩⟩;have k1:=k H4 (S1.trans S4);have e:zs.isEmpty=kB b ts sp:=by rw[e2,hl,bo];rfl
  rw[←e] at k1;exact k1
abbrev sWidth:cF:=top 8
def scWidth:bY ["net","span","least","most"] pzf (defScope sWidth):=by trivial
def ok_width (F:Fun K "width_of" "width_of" sWidth f fd):‹0› 1 f fd pzf spWidth:=by
 specialize F.ok scWidth;obtain ⟨v,b,m,sp,i,x,rfl,hv,hx,k⟩:=h;obtain ⟨t,p,ys,rfl,ht,hp,hl,hy⟩:=fe hv;obtain ⟨q,hq,hq2⟩:=hy i x hx;apply ⟨_,PSl.h (aZ ⟨(psZ 2 scWidth.nd (ixZ (dO dF (ixZ (pv 0)) (pv 1) (fun _ _=>rfl))))⟩
  (aZ ⟨(psZ 3 scWidth.nd (ixZ (dO dF (ixZ (pv 0)) (pv 1) (fun _ _=>rfl))))⟩
  (cP ⟨(bZ (dB kz (pv 3) (pv 2)))⟩))),?_⟩
 apply⟨_,rfl,t,_,_,_,rfl,rfl,SqT.of ht,aO (j:=2) rfl,_,rfl,p,_,_,_,rfl,rfl,SqT.of hp,aO (j:=i) hq,q,_,_,_,rfl,rfl,SqT.of hq2,aO (j:=2) rfl,?_⟩;apply⟨_,rfl,t,_,_,_,rfl,rfl,SqT.of ht,aO (j:=2) rfl,_,rfl,p,_,_,_,rfl,rfl,SqT.of hp,aO (j:=i) hq,q,_,_,_,rfl,rfl,SqT.of hq2,aO (j:=3) rfl,?_⟩;exact⟨_,rfl,_,rfl,_,_,rfl,rfl,k⟩
abbrev sSpW:cF:=top 22
abbrev mz:cF:=top 23
def lamPos:List cF→Pos
 | [.Return (some (.Call _ _ [⟨_,.Lambda _ _ _ lp,_⟩] _)) _]=>lp
 | _=>⟨0,0,0,0⟩
abbrev lpW:Pos:=lamPos (gW sSpW)
abbrev lqW:Str:=(("spans_by_width" :Str) ++ ".<locals>.") ++ "<lambda>"
def okC {c:aq}{k:Nat}{sp:Sp}(F:Fun K x qual st f fd)(hc:fd.code= .ref c)(S:bY N ps (defScope st))(len:∀vs H Q E,sp vs H Q E→vs.length=ps.length)
  (hbody:∀ (A:bT) (outer:List Env) (s:ay) (H:Hp) (vs:List V) (Q:VK) (E:XK),gP k (A.deeper (envOfC qual (defScope st) s.heap.objs.size f (.ref c)))→sp vs H Q E →
   ∃ t,PSs (cxOf CX0 P w K mg base N qual (defScope st) f (.ref c) A outer s H E).nox (gW st) t∧t { nx:=fun _ H'=>Q .non H',rt:=Q } (L2.start N vs) H):‹0› (k+1) f fd ps sp:=by
 obtain⟨oc,od,kV,doc,pm,an,cdv,ct,osl,rfl,lk,hcd⟩:=F.ex;have hc:cdv= .ref c:=hc;subst hc;apply fn_of lk hcd S len λA outer s H vs Q E hr hsp=>?_
 obtain⟨t,h,q⟩:=hbody A outer s H vs Q E hr hsp;exact⟨t,h.nox,q⟩
def scSpW:bY pza pza (defScope sSpW):=by trivial
def ok_spW {c:aq}(F:Fun K "spans_by_width" "spans_by_width" sSpW f fd)(hcd:fd.code= .ref c)(C:dg K c Tb0=true)(B:BM mg base)(T:Nm mg)(T2:Nt mg)(ms:mg "sorted" =none)(G1:Fn K mg "width_of" sWidth pzf f1 fd1) :
  ‹0› 5 f fd pza (spSpW Tb0 lpW lqW):=by
 have F1:‹0› 1 f1 fd1 pzf spWidth:=ok_width G1.F;apply okC F hcd scSpW (by contradiction) (fun A outer s H vs Q E hr h=>?_);obtain ⟨v,b,m,sp,rfl,hv,few,hT,k⟩:=h;obtain ⟨t,p,ys,rfl,ht,hp,hl,hy⟩:=fe hv;apply ⟨_,PSl.h (cP ⟨(bZ (pe_sortL (js:=[0]) (fr:=pza) (x := "span") (c:=c) (P:=Tb0) rfl hr.depth rfl ms (dI qM rfl T2.range boot_range (ai (cp bR rfl T.len bC (ai (ixZ (pv 0)) aF)) aF)) rfl rfl C B (fun _ _ _ _ _ _=>rfl) rfl rfl rfl ⇑0 rfl ↥0 (by exists sSpW) rfl ⇑0
  (fun cl L f' cd s' H'=>pe_tup (ai (pc1 G1 F1 (((hr.in1).in1).deeper _ |>.mono ↥0) (ai (pv 1) (ai (pv 0) aF))) (ai (pv 0) aF)))))⟩),?_⟩
 apply⟨_,rfl,t,_,_,_,rfl,rfl,SqT.of ht,aO (j:=2) rfl,p,_,rfl,.inr (SqT.of hp),_,rfl,λr H1 S1 hr1=>?_⟩;have hv1:IsD H1 (.ref t) (jv b m sp):=hv.same S1;have hT1:=LamT.same S1 hT;apply⟨r,ys.length,wkey sp,rfl,hr1,⋯,hT1,wkey_nodup sp _,λi hi H2 tb=>?_,λD H4 π tb lt hD pm pw=>?_⟩
 ·have hv2:=cg (Tb.tupK (LamT.tbl hT1) tb) hv1
  apply⟨_,rfl,_,rfl,.ref t,b,m,sp,i,sAt sp i,rfl,hv2,ju ⋯,_,rfl,o6,λq hq=>⟨λa o e=>by rw[bt (bF e hq)];exact e,q,rfl,aR⟩⟩
 ·exact k D H4 π ((bD.tb S1).trans tb) lt hD ⟨by rw[←hl];exact pm,pw⟩
def lU:bY ["net","groups","taken","span","one","other"] pza (defScope mz):=by trivial
theorem ok_forest (F:Fun K "forest_of" "forest_of" mz f fd)(T:Nm mg)(T2:Nt mg)(ms:mg "sorted" =none)(G1:Fn K mg "spans_by_width" sSpW pza f1 fd1)(F1:‹0› 5 f1 fd1 pza (spSpW Tb0 lp lq)) :
  ‹0› 6 f fd pza (lP Tb0 lp lq):=by
 specialize F.ok lU;obtain ⟨v,b,m,sp,rfl,hv,N,hT,k⟩:=h;obtain ⟨t,p,ys,rfl,ht,hp,hl,hy⟩:=fe hv;obtain ⟨mn,rfl⟩:=c6 (show 0≤m by have:=N.m1;lia);have m2:=N.m2;have few:=N.few;have E:=N.ends;rw [cA] at E k;apply ⟨_,PSl.h (aZ ⟨(psZ 1 lU.nd (dI (rL rfl) rfl T2.tlist boot_list (ai (dI qM rfl T2.range boot_range (ai (ixZ (pv 0)) aF)) aF)))⟩
  (aZ ⟨(psZ 2 lU.nd (ji aF))⟩
  (aZ ⟨(ig bH rfl (gh (pc1 G1 F1 hr (ai (pv 0) aF))) (pgZ 3 lU.nd) (PSl.h (aZ ⟨(psZ 4 lU.nd (dO gG (pv 1) (ixZ (dO dF (ixZ (pv 0)) (pv 3) (fun _ _=>rfl))) (fun _ _=>rfl)))⟩
  (aZ ⟨(psZ 5 lU.nd (dO gG (pv 1) (ixZ (dO dF (ixZ (pv 0)) (pv 3) (fun _ _=>rfl))) (fun _ _=>rfl)))⟩
  (cP ⟨(gg (cy qS (pv 4) (pv 5) (cL _)) (PSl.h (aZ ⟨(iK (mE bh bV bU gm (pv 2) (ai (pv 3) aF)))⟩
  (cP ⟨(pY (iy:=1) (fr:=["one","other"]) (js:=[4,5]) lU.nd rfl (.inl rfl) rfl (gh (pv 1)) ⇑0 rfl ⇑0 rfl (by exists mz) ⇑0 rfl ⇑0 (fun _ _ _ _ _=>⟨(pB (cy jO (pv 0) (pv 2) (cL _)) (pv 1) (pv 0)),gC⟩))⟩))) cY)⟩)))))⟩
  (cP ⟨(bZ (dI gH rfl T.ttup fW (ai (cp call_sortedI rfl ms boot_sorted (ai (pv 2) aF)) aF)))⟩)))),?_⟩
 apply⟨_,rfl,t,_,_,_,rfl,rfl,SqT.of ht,aO (j:=1) rfl,(mn:Int),rfl,λa1 H1 S1 h1=>⟨a1,mn,rfl,h1,⋯,λLg hLg=>?_⟩⟩;have S2:bD H (upd H1 Lg (.lst ((aG mn).map λk=>V.int (k:Nat)))):=S1.trans (bD.put (bD.refl H1) hLg);have hLg2:(upd H1 Lg (.lst ((aG mn).map λk=>V.int (k:Nat)))) Lg=some (.lst ((j4 mn).map V.int)):=by rw[aR];unfold j4;rw[cW];rfl
 generalize upd H1 Lg (.lst ((aG mn).map λk=>V.int (k:Nat)))=H2 at S2 hLg2 ⊢;apply⟨bu _,λLt hLt=>?_⟩;have S3:bD H (upd H2 Lt (.lst [])):=S2.trans (bD.put (bD.refl H2) hLt);have hgt:Lg≠Lt:=λz=>by rw[z,hLt] at hLg2;cases hLg2
 have hLt3:(upd H2 Lt (.lst [])) Lt=some (.lst []):=aR;have hLg3:(upd H2 Lt (.lst [])) Lg=some (.lst ((j4 mn).map V.int)):=by rw[bt hgt];exact hLg2
 generalize upd H2 Lt (.lst [])=H3 at S3 hLt3 hLg3 ⊢;have hT3:=LamT.same S3 hT;obtain⟨ps3,hTb3⟩:=LamT.tbl hT3;apply⟨_,rfl,.ref t,b,mn,sp,rfl,hv.same S3,few,hT3,λD H4 π tb4 hT4 hD O=>?_⟩;obtain⟨ps4,hTb4⟩:=LamT.tbl hT4;have nLg:Lg≠Tb0:=fM hLg3 hTb3 nofun;have nLt:Lt≠Tb0:=fM hLt3 hTb3 nofun;have hLg4:=tb4 _ _ nLg hLg3;have hLt4:=tb4 _ _ nLt hLt3;have nDg:D≠Lg:=λz=>by rw[z,hLg4] at hD;cases hD
 have nDt:D≠Lt:=λz=>by rw[z,hLt4] at hD;cases hD
 have S5:bD H4 (upd H4 D (.lst (π.map λ(i:Nat)=>V.int i))):=bD.put (bD.refl H4) hD;have tb5:L2.Tb Tb0 H (upd H4 D (.lst (π.map λ(i:Nat)=>V.int i))):=((bD.tb S3).trans tb4).trans (bD.tb S5);have hT5:=LamT.same S5 hT4;have hD5:(upd H4 D (.lst (π.map λ(i:Nat)=>V.int i))) D=some (.lst (π.map λ(i:Nat)=>V.int i)):=aR;have hLg5:=S5 _ _ hLg4;have hLt5:=S5 _ _ hLt4;generalize upd H4 D (.lst (π.map λ(i:Nat)=>V.int i))=H5 at tb5 hT5 hD5 hLg5 hLt5 ⊢;have hLtN:∀o,H Lt=some o→False:=λo e=>by rw[S2 _ _ e] at hLt;cases hLt
 clear hLg4 hLt4 S5 hD hTb4 hT4 tb4 hLg3 hLt3 hT3 hTb3 hLg2 hLt S2 h1 S1 hLg S3;apply⟨D,rfl,⟨_,SqL.of hD5⟩,?_⟩;have tkE:∀{H':Hp},L2.Tb Tb0 H H'→kK H H':=λe=>Tb.tupK (LamT.tbl hT) e
 apply jE (K:=K) (a:=D) (xs:=π.map λ(i:Nat)=>V.int i) (λi σ HA=>L2.Tb Tb0 H HA∧L2.LamT Tb0 lp lq HA∧HA D=some (.lst (π.map λ(i:Nat)=>V.int i))∧∃(La:aq) (v3 v4 v5:Option V),σ=[some (.ref t),some (.ref La),some (.ref Lt),v3,v4,v5]∧La≠Lt∧HA La=some (.lst (((π.take i).foldl (gq sp) (j4 mn,[])).1.map V.int))∧HA Lt=some (.lst (((π.take i).foldl (gq sp) (j4 mn,[])).2.map λ(i:Nat)=>V.int i)))
  ⟨tb5,hT5,hD5,Lg,none,none,none,rfl,hgt,hLg5,hLt5⟩ (λi σ HA _ ⟨_,_,h,_⟩=>SqL.of h) ?_ ?_
 ·rintro i x σ HA hx ⟨tbA,hTA,hDA,La,v3,v4,v5,rfl,nLa,hLa,hLtA⟩
  rw[az] at hx;obtain⟨j,hj,rfl⟩:=aM.mp hx;have hjn:j<sp.length:=O.lt (aL hj);have hvA:=cg (tkE tbA) hv;obtain⟨t',p',ys',e0,htA,hpA,hlA,hyA⟩:=fe hvA;cases e0;obtain⟨q,hq,hq2⟩:=hyA j _ (ju hjn);obtain⟨s0,s1,g0,g1⟩:=E _ (fc hjn);have fold:(π.take (i+1)).foldl (gq sp) (j4 mn,[])=gq sp ((π.take i).foldl (gq sp) (j4 mn,[])) j:=by
   rw[bj,hj];show(π.take i++[j]).foldl _ _=_;rw[cG];rfl
  rw[fold];obtain⟨gl,gb⟩:((π.take i).foldl (gq sp) (j4 mn,[])).1.length=mn∧((π.take i).foldl (gq sp) (j4 mn,[])).2.length≤sp.length:=by
   apply⟨(qI E (π.take i) _ _ [] (λi hi=>O.lt (List.mem_of_mem_take hi)) (Rl.start mn)).1.len,?_⟩;have:=(ky sp (π.take i) (j4 mn,[])).2;rw[bM] at this;have h2:=O.len;show _≤_;have h3:((j4 mn,([]:List Nat)).2).length=0:=rfl;lia
  generalize (π.take i).foldl (gq sp) (j4 mn,[])=c at hLa hLtA gl gb ⊢;obtain⟨gs,tk⟩:=c;have hLa:HA La=some (.lst (gs.map V.int)):=hLa;have hLtA:HA Lt=some (.lst (tk.map λ(i:Nat)=>V.int i)):=hLtA;have gl:gs.length=mn:=gl;have gb:tk.length≤sp.length:=gb;have es:=kr (ts:=gs) s0 ⋯;have eg:=kr (ts:=gs) g0 ⋯;apply⟨_,rfl,_,rfl,t,_,_,_,rfl,rfl,SqT.of htA,aO (j:=2) rfl,_,rfl,p',_,_,_,rfl,rfl,SqT.of hpA,aO (j:=j) hq,q,_,_,_,rfl,rfl,SqT.of hq2,aO (j:=0) rfl,La,_,_,_,rfl,rfl,SqL.of hLa,es,?_⟩;apply⟨_,rfl,_,rfl,t,_,_,_,rfl,rfl,SqT.of htA,aO (j:=2) rfl,_,rfl,p',_,_,_,rfl,rfl,SqT.of hpA,aO (j:=j) hq,q,_,_,_,rfl,rfl,SqT.of hq2,aO (j:=1) rfl,La,_,_,_,rfl,rfl,SqL.of hLa,eg,?_⟩;apply⟨_,rfl,_,rfl,rfl,_,rfl,?_⟩
  by_cases e:tm gs (sAt sp j).s=tm gs (sAt sp j).g
  ·have st:gq sp (gs,tk) j=(gs,tk):=by unfold gq;exact rR e
   rw[st,e,rT rfl];exact iteF ⟨tbA,hTA,hDA,La,_,_,_,rfl,nLa,hLa,hLtA⟩
  ·have st:gq sp (gs,tk) j=(ja gs (tm gs (sAt sp j).s) (tm gs (sAt sp j).g),tk++[j]):=by unfold gq;exact rQ e
   rw[st,rV (λz=>e (V.int.inj z))];apply iteT ?_;obtain⟨x,hx⟩:∃x,x=tm gs (sAt sp j).s:=⟨_,rfl⟩;obtain⟨y,hy⟩:∃y,y=tm gs (sAt sp j).g:=⟨_,rfl⟩;rw[←hx,←hy] at e ⊢;apply⟨_,rfl,.inl ⟨rfl,_,SqL.of hLtA⟩,_,rfl,Lt,_,_,rfl,rfl,hLtA,nM (by rw[aa];lia),?_⟩;have hLt6:(upd HA Lt (.lst ((tk.map λ(i:Nat)=>V.int i)++[V.int j]))) Lt=some (.lst ((tk++[j]).map λ(i:Nat)=>V.int i)):=by rw[aR,aD];rfl
   have keep:∀a o,a≠Lt→HA a=some o→(upd HA Lt (.lst ((tk.map λ(i:Nat)=>V.int i)++[V.int j]))) a=some o:=λa o h e=>by rw[bt h];exact e
   have nTL:Tb0≠Lt:=λz=>nLt z.symm
   have tb6:L2.Tb Tb0 H (upd HA Lt (.lst ((tk.map λ(i:Nat)=>V.int i)++[V.int j]))):=λa o hn e=>keep a o (λz=>by subst z;exact hLtN _ e) (tbA a o hn e)
   have hT6:L2.LamT Tb0 lp lq (upd HA Lt (.lst ((tk.map λ(i:Nat)=>V.int i)++[V.int j]))):=LamT.upd hTA (λp u z=>by rw[hLtA] at z;cases z) λps z=>by rw[hLtA] at z;cases z
   have hD6:=keep _ _ nDt hDA;have hLa6:=keep _ _ nLa hLa;generalize upd HA Lt (.lst ((tk.map λ(i:Nat)=>V.int i)++[V.int j]))=HB at hLt6 keep tb6 hT6 hD6 hLa6 ⊢;apply⟨_,rfl,La,rfl,⟨_,SqL.of hLa6⟩,?_⟩;apply iT (K:=K) (a:=La) (xs:=gs.map V.int) (λi zs HC=>HC=HB∧zs=(ja (gs.take i) x y).map V.int) ⟨rfl,rfl⟩ (λi zs HC hi ⟨e1,e2⟩=>?_) (by rw[aa];exact de ⋯) (λi v zs HC hv ⟨e1,e2⟩=>?_) (λzs HC ⟨e1,e2⟩ L hL=>?_)
   ·subst e1
    apply⟨SqL.of hLa6,?_⟩;rw[aa] at hi;rw[e2,aa];unfold ja;rw[aa,bM];lia
   ·subst e1
    rw[az] at hv;obtain⟨g,hg,rfl⟩:=aM.mp hv;apply fO ?_;have nx:zs++[V.int (if g=y then x else g)]=(ja (gs.take (i+1)) x y).map V.int:=by
     rw[e2];unfold ja;rw[bj,hg,aD,aD];rfl
    apply⟨_,rfl,_,rfl,rfl,_,rfl,?_⟩
    by_cases eg:g=y
    ·rw[eg,rT rfl]
     apply iteT ⟨_,rfl,rfl,?_⟩;rw[←nx,rR eg]
    ·rw[rV (λz=>eg (V.int.inj z))]
     apply iteF ⟨_,rfl,rfl,?_⟩;rw[←nx,rQ eg]
   ·subst e1
    have eL:zs=(ja gs x y).map V.int:=by rw[e2,aa,bo]
    subst eL;have S7:bD HC (upd HC L (.lst ((ja gs x y).map V.int))):=bD.put (bD.refl HC) hL;have nLL:L≠Lt:=λz=>by rw[z,hLt6] at hL;cases hL
    exact⟨tb6.trans (bD.tb S7),LamT.same S7 hT6,S7 _ _ hD6,L,_,_,_,rfl,nLL,aR,S7 _ _ hLt6⟩
 ·rintro σ HA ⟨tbA,hTA,hDA,La,v3,v4,v5,rfl,nLa,hLa,hLtA⟩
  rw[aa,bo] at hLtA;have tl:(π.foldl (gq sp) (j4 mn,[])).2.length≤40:=by
   have:=(ky sp π (j4 mn,[])).2;have h2:=O.len;have h3:((j4 mn,([]:List Nat)).2).length=0:=rfl;lia
  have hLtI:HA Lt=some (.lst (((kX sp mn π).2.map λ(i:Nat)=>(i:Int)).map V.int)):=by rw[hLtA,cW];rfl
  apply⟨_,rfl,Lt,_,rfl,SqL.of hLtI,by rw[aa];exact cf tl ↥0,λL ns hL pm pw=>?_⟩;have S7:bD HA (upd HA L (.lst (ns.map V.int))):=bD.put (bD.refl HA) hL;apply⟨L,_,rfl,.inl (Rd.of aR),λu H8 S8 hu=>?_⟩;exact k u H8 ns ((tbA.trans (bD.tb S7)).trans (bD.tb S8)) (LamT.same S8 (LamT.same S7 hTA)) hu ⟨π,O,pm,pw⟩
abbrev pT:cF:=top 24
abbrev sWayB:cF:=top 25
abbrev sRingBy:cF:=top 26
inductive spSteps (vs:List V)(H:Hp)(Q:VK)(_:XK):Prop
 | mk (v u b m sp tk x:_)(_:vs=[v,.ref u,.int x])(_:IsD H v (jv b m sp))(_:H u=some (.tup (tk.map λ(i:Nat)=>V.int i)))(_:(∀i∈tk,i<sp.length))(_:tk.length≤40)(_:∀L H' zs,bD H H'→H L=none→H' L=some (.lst zs)→eM H' zs (fF Stp.row (dE sp tk x))→Q (.ref L) H')
inductive spWayBt (vs:List V)(H:Hp)(Q:VK)(_:XK):Prop
 | mk (v u b m sp tk be en:_)(_:vs=[v,.ref u,.int be,.int en])(_:IsD H v (jv b m sp))(_:jb b m sp)(_:H u=some (.tup (tk.map λ(i:Nat)=>V.int i)))(_:(∀i∈tk,i<sp.length))(_:tk.length≤40)(_:0≤be)(_:be<m)(_:rO sp tk be en)(_:∀q H' p,bD H H'→IsD H' q (oU p)→WayR sp tk be en p→Q q H')
inductive spRingBy (T:aq)(lp:Pos)(lq:Str)(vs:List V)(H:Hp)(Q:VK)(_:XK):Prop
 | mk (v b m sp k:_)(_:vs=[v,.int (k:Nat)])(_:IsD H v (jv b m sp))(_:jb b m sp)(_:L2.LamT T lp lq H)(_:k<sp.length)(_:∀q H' (l π:List Nat) p,L2.Tb T H H'→L2.LamT T lp lq H'→IsD H' q (oU (⟨k,1⟩::p))→oK m.toNat sp (l.map λ(i:Nat)=>(i:Int))→Ordd sp π→l.Perm (kX sp m.toNat π).2→WayR sp l (sAt sp k).g (sAt sp k).s p→Q q H')
def DW (H:Hp):List (Key×V)→List (Int×List Stp)→Prop:=jS λ(p:Key×V) (q:Int×List Stp)=>p.1= .inl q.1∧IsD H p.2 (oU q.2)
theorem DW.none {H:Hp}{x:Int}:∀{kvs:List (Key×V)} {l:List (Int×List Stp)},DW H kvs l→lkW l x=none→l6 kvs (.inl x)=none
 | _,_,.nil,_=>rfl
 | _,_,.cons (b:=q) r t,h=>by
  rw[lZ] at h
  by_cases e:q.1=x
  ·rw[rR e] at h;cases h
  ·rw[rQ e] at h
   rw[gR (λz=>e (Sum.inl.inj (r.1.symm.trans z)))];exact DW.none t h
theorem DW.some {H:Hp}{x:Int}{ws:List Stp}:∀{kvs:List (Key×V)} {l:List (Int×List Stp)},DW H kvs l→lkW l x=some ws→∃v,l6 kvs (.inl x)=some v∧IsD H v (oU ws)
 | _,_,.nil,h=>by cases h
 | _,_,.cons (b:=q) r t,h=>by
  rw[lZ] at h
  by_cases e:q.1=x
  ·rw[rR e] at h
   cases h;exact⟨_,ik (by rw[r.1,e]),r.2⟩
  ·rw[rQ e] at h
   rw[gR (λz=>e (Sum.inl.inj (r.1.symm.trans z)))];exact DW.some t h
def qX (e:kK H H')(h:IsD H v (oU ws)):IsD H' v (oU ws):=by
 obtain⟨p,ys,rfl,hp,_,r⟩:=gT h;exact .tup (e _ _ hp) (eO e r)
def DW.keep (e:kK H H'){kvs:List (Key×V)}{l:List (Int×List Stp)}(h:DW H kvs l):DW H' kvs l:=L2.Paired.mapP h λ_ _ z=>⟨z.1,qX e z.2⟩
theorem DW.len {H:Hp}:∀{kvs:List (Key×V)} {l:List (Int×List Stp)},DW H kvs l→kvs.length=l.length
 | _,_,.nil=>rfl
 | _,_,.cons _ t=>rX (· + 1) (DW.len t)
theorem DW.snoc {H:Hp}{p:Key×V}{q:Int×List Stp}(h:p.1= .inl q.1∧IsD H p.2 (oU q.2)):∀{kvs:List (Key×V)} {l:List (Int×List Stp)},DW H kvs l→DW H (kvs++[p]) (l++[q])
 | _,_,.nil=> .cons h .nil
 | _,_,.cons r t=> .cons r (DW.snoc h t)
structure JW (H Hc:Hp)(Da La:aq)(c:List (Int×List Stp)×List Int):Prop where
 same:bD H Hc
 da:∃kvs,Hc Da=some (.dK kvs)∧DW Hc kvs c.1
 la:Hc La=some (.lst (c.2.map V.int))
def JW.on {Hc':Hp}{La:aq}(j:JW H Hc Da La c)(e:bD Hc Hc'):JW H Hc' Da La c:=by
 obtain⟨kvs,h1,h2⟩:=j.da;exact⟨j.same.trans e,⟨kvs,e _ _ h1,h2.keep (bD.tupK e)⟩,e _ _ j.la⟩
def JW.upL {La:aq}{td:List Int}(j:JW H Hc Da La c)(hL:H La=none)(n:Da≠La):JW H (upd Hc La (.lst (td.map V.int))) Da La (c.1,td):=by
 obtain⟨kvs,h1,h2⟩:=j.da;exact⟨λa o e=>by rw[bt (bF e hL)];exact j.same a o e,⟨kvs,by rw[bt n];exact h1,h2.keep (fm j.la)⟩,aR⟩
def mapI_at {x:V}(h:(l.map λ(i:Nat)=>V.int i)[i]? =some x):∃j,l[i]? =some j∧x=V.int (j:Nat):=by
 rw[az] at h;obtain⟨j,hj,rfl⟩:=aM.mp h;exact⟨j,hj,rfl⟩
def lL {s:Stp}(h:s.i<sp.length):too (sAt sp s.i) s.d=fb sp s∧frm (sAt sp s.i) s.d=kY sp s:=by
 have e:sAt sp s.i=sp[s.i]:=by unfold sAt;rw[ae,gE h];rfl
 rw[e];exact⟨(lM h).symm,(nu h).symm⟩
def last_mem {l:List Int}(h:l.getLast? =some z):z∈l:=by
 obtain⟨ys,rfl⟩:=List.getLast?_eq_some_iff.mp h;simp
def scSteps:bY ["net","spans","happening","steps"] pzq (defScope pT):=by trivial
def ok_steps (F:Fun K "steps_from" "steps_from" pT f fd)(G1:Fn K mg "leads_from" sFrom pzc f1 fd1):‹0› 2 f fd pzq spSteps:=by
 have F1:‹0› 1 f1 fd1 pzc ra:=qh G1.F;specialize F.ok scSteps;obtain ⟨v,u,b,m,sp,tk,x,rfl,hv,hu,hlt,few,k⟩:=h;have hr1:=hr;apply ⟨_,PSl.h (aZ ⟨(psZ 3 scSteps.nd (dB op_catL (gi (fr:=[]) (js:=[]) rfl (lr (pv 1)) ⇑0 rfl ⇑0 rfl (by exists pT) ⇑0 rfl ⇑0 (fun _ _ _ _ _=>⟨(dG (ai (pv 0) (ai bP aF))),gC⟩)) (gi (fr:=[]) (js:=[]) rfl (lr (pv 1)) ⇑0 rfl ⇑0 rfl (by exists pT) ⇑0 rfl ⇑0 (fun _ _ _ _ _=>⟨(dG (ai (pv 0) (ai (pe_un qY bP) aF))),gC⟩))))⟩
  (cP ⟨(bZ (gi (fr:=["happening","net"]) (js:=[2,0]) rfl (gh (pv 3)) ⇑0 rfl ⇑0 rfl (by exists pT) ⇑0 rfl ⇑0 (fun _ _ _ _ _=>⟨(pv 0),(jZ (cy jO (pc1 G1 F1 hr1 (ai (pv 2) (ai (pv 0) aF))) (pv 1) (cL _)))⟩)))⟩)),?_⟩
 have half:∀(d:Int) (td:TE) (H0:Hp) (Rt:V→Hp→Prop),(∀σ H1 (R:VK),R (.int d) H1→td σ H1 R)→bD H H0→(∀L H' zs,bD H0 H'→H' L=some (.lst zs)→eM H' zs (fF Stp.row (tk.map λi=>⟨i,d⟩))→Rt (.ref L) H') →
   CompW [] tNoIf (tTupA (oV (tVar 0) (oV td tNil))) [some v,some (.ref u),some (.int x),none] Rt (Itt K u) H0:=λd td H0 Rt htd S0 fin=>by
  apply jF (K:=K) (a:=u) (xs:=tk.map λ(i:Nat)=>V.int i) (λi zs HC=>bD H0 HC∧zs.length=i∧eM HC zs (fF Stp.row ((tk.take i).map λi=>⟨i,d⟩))) ⟨bD.refl H0,rfl,.nil⟩ (λi zs HC hi ⟨e1,e2,_⟩=>⟨SqT.of (e1 _ _ (S0 _ _ hu)),Nat.le_of_eq e2⟩) (by rw[aa];exact de ⋯) (λi y zs HC hy ⟨e1,e2,e3⟩=>?_) (λzs HC ⟨e1,e2,e3⟩ D hD=>?_)
  ·obtain⟨j,hj,rfl⟩:=mapI_at hy
   apply fO ⟨_,rfl,htd _ _ _ ⟨o6,λq H2 S2 h2=>⟨e1.trans S2,by rw[av,e2];rfl,?_⟩⟩⟩;rw[bj,hj];show eM H2 (zs++[.ref q]) (fF Stp.row ((tk.take i++[j]).map λi=>⟨i,d⟩));unfold fF at e3 ⊢;rw[aD,aD];exact(e3.same S2).append (.cons (.tup h2 (eM.ints (Stp.row ⟨j,d⟩))) .nil)
  ·have S2:=bD.put (bD.refl HC) hD (o:= .lst zs)
   rw[aa,bo] at e3;exact fin D _ zs (e1.trans S2) aR (e3.same S2)
 apply⟨_,rfl,u,rfl,⟨_,SqT.of hu⟩,half 1 _ H _ (λ_ _ _ h=>h) (bD.refl H) λL1 H1 z1 S1 h1 d1=>?_⟩;apply⟨_,rfl,u,rfl,⟨_,SqT.of (S1 _ _ hu)⟩,half (-1) _ H1 _ (λ_ _ _ h=>⟨1,rfl,h⟩) S1 λL2' H2 z2 S2 h2 d2=>?_⟩;have l1:z1.length=tk.length:=by rw[d1.length];unfold fF;rw[aa,aa]
 have l2:z2.length=tk.length:=by rw[d2.length];unfold fF;rw[aa,aa]
 apply⟨L1,L2',_,_,rfl,rfl,S2 _ _ h1,h2,by rw[l1,l2];exact de ⋯,λL3 H3 S3 h3=>?_⟩;have d3:eM H3 (z1++z2) (fF Stp.row (stF tk)):=by
  unfold stF fF;rw[aD];exact((d1.same S2).same S3).append (d2.same S3)
 have S03:=S1.trans (S2.trans S3);have hv3:=hv.same S03;apply⟨_,rfl,L3,rfl,⟨_,SqL.of h3⟩,?_⟩;have ls:(z1++z2).length=(stF tk).length:=by rw[d3.length];unfold fF;rw[aa]
 apply iT (K:=K) (a:=L3) (xs:=z1++z2) (λi zs HC=>HC=H3∧zs.length≤i∧eM H3 zs (fF Stp.row (((stF tk).take i).filter λs=>decide (kY sp s=x)))) ⟨rfl,bu _,.nil⟩ (λi zs HC hi ⟨e1,e2,_⟩=>⟨by rw[e1];exact SqL.of h3,e2⟩) (by rw[av,l1,l2];exact de ⋯) (λi y zs HC hy ⟨e1,e2,e3⟩=>?_) (λzs HC ⟨e1,e2,e3⟩ D hD=>?_)
 ·subst e1
  have hi:i<(stF tk).length:=by have:=(ar.mp hy).1;lia
  have hsi:=gE hi;obtain⟨y',hy',dy⟩:=d3.at (i:=i) (d:= .tup ((Stp.row (stF tk)[i]).map Dt.int)) (by unfold fF;rw[az,hsi];rfl);rw[hy] at hy';cases hy';obtain⟨q,qs,rfl,hq,rq⟩:=dy.tup_of;have eq:=rq.ints_of;subst eq;have hin:=hlt _ (mem_stF (aY hi)).1;apply⟨_,rfl,_,rfl,v,q,b,m,sp,(stF tk)[i],sAt sp (stF tk)[i].i,rfl,hv3,hq,ju hin,_,rfl,rfl,_,rfl,?_⟩;rw[(lL hin).2];have nx:((stF tk).take (i+1)).filter (λs=>decide (kY sp s=x))=((stF tk).take i).filter (λs=>decide (kY sp s=x))++(if kY sp (stF tk)[i]=x then [(stF tk)[i]] else []):=by
   rw[bj,hsi,eK];show _++[(stF tk)[i]].filter _=_;rw[fA,kL]
   by_cases e:kY sp (stF tk)[i]=x
   ·rw[rR e,rR (rT e)]
   ·rw[rQ e,rQ (by rw[rV e];decide)]
  rw[nx]
  by_cases e:kY sp (stF tk)[i]=x
  ·rw[rR e,e,rT rfl]
   apply iteT ⟨_,rfl,rfl,by rw[av];exact Nat.succ_le_succ e2,?_⟩;unfold fF at e3 ⊢;rw[aD];exact e3.append (.cons dy .nil)
  ·rw[rQ e,rV (λz=>e (V.int.inj z)),c5]
   exact iteF ⟨rfl,Nat.le_succ_of_le e2,e3⟩
 ·subst e1
  have S4:=bD.put (bD.refl HC) hD (o:= .lst zs);rw[ls,bo] at e3;exact k D _ zs (S03.trans S4) (bD.free S03 hD) aR (e3.same S4)
def rf:bY ["net","spans","begin","end","ways","ahead","here","step","there"] pzI (defScope sWayB):=by trivial
theorem ok_wayBt (F:Fun K "way_between" "way_between" sWayB f fd)(G1:Fn K mg "steps_from" pT pzq f1 fd1)(F1:‹0› 2 f1 fd1 pzq spSteps)(G2:Fn K mg "leads_to" sTo pzc f2 fd2):‹0› 3 f fd pzI spWayBt:=by
 have F2:‹0› 1 f2 fd2 pzc spTo:=ok_to G2.F;specialize F.ok rf;obtain⟨v,u,b,m,sp,tk,be,en,rfl,hv,N,hu,hlt,few,be0,be1,held,k⟩:=h;have u1:=cf (Nat.add_le_add_left (by decide:1≤64) _) hr.units;have hr1:gP 1 _:=hr.mono ↥0;have E:=N.ends;have m16:m.toNat≤16:=by have:=N.m2;lia
 have b1:be<(m.toNat:Int):=by lia
 apply ⟨_,PSl.h (aZ ⟨(psZ 4 rf.nd (pe_disp (pps_cons (pv 2) (dG aF) pps_nil) rfl rfl ↥0 ↥0))⟩
  (aZ ⟨(psZ 5 rf.nd (ji (ai (pv 2) aF)))⟩
  (aZ ⟨(nQ bH (pt_cmp (nU u1 (pv 3) (pv 4)) rfl) (PSl.h (aZ ⟨(psZ 6 rf.nd (qe bh fh fg qk (pv 5)))⟩
  (cP ⟨(ig bH rfl (gh (pc1 G1 F1 hr (ai (pv 0) (ai (pv 1) (ai (pv 6) aF))))) (pgZ 7 rf.nd) (PSl.h (aZ ⟨(psZ 8 rf.nd (pc1 G2 F2 hr1 (ai (pv 0) (ai (pv 7) aF))))⟩
  (cP ⟨(gg (pt_cmp (nU u1 (pv 8) (pv 4)) rfl) (PSl.h (aZ ⟨(ps_dput u1 (pv 4) (pv 8) (dB mG (pe_dget u1 (pv 4) (pv 6) (fun _ _=>rfl)) (dG (ai (pv 7) aF))) rfl)⟩
  (cP ⟨(iK (mE bh bV bU gm (pv 5) (ai (pv 8) aF)))⟩))) cY)⟩))))⟩))))⟩
  (cP ⟨(bZ (pe_dget u1 (pv 4) (pv 3) (fun _ _=>rfl)))⟩)))),?_⟩
 intro Da hDa;apply⟨_,rfl,bu _,λq1 H1 S1 h1=>⟨S1 _ _ aR,[(.inl be,.ref q1)],rfl,(by show 1≤15;decide),?_⟩⟩;have S0:bD H (upd H Da (.dK [])):=bD.put (bD.refl H) hDa;have hDa1:H1 Da=some (.dK []):=S1 _ _ aR;have hDa2:(upd H1 Da (.dK (nX [] [(.inl be,.ref q1)]))) Da=some (.dK [(.inl be,.ref q1)]):=aR;have S2:bD H (upd H1 Da (.dK (nX [] [(.inl be,.ref q1)]))):=λb o e=>by
  rw[bt (λz=>by rw[z,hDa] at e;cases e)];exact S1 _ _ (S0 _ _ e)
 have hq1:(upd H1 Da (.dK (nX [] [(.inl be,.ref q1)]))) q1=some (.tup []):=by
  rw[bt (fM h1 hDa1 nofun)];exact h1
 generalize upd H1 Da (.dK (nX [] [(.inl be,.ref q1)]))=H2 at hDa2 S2 hq1 ⊢;clear hDa1 S0 S1 h1;apply⟨_,rfl,szZ1,λLa hLa=>?_⟩;have nDL:Da≠La:=λz=>by rw[z,hLa] at hDa2;cases hDa2
 have S3:bD H2 (upd H2 La (.lst [.int be])):=bD.put (bD.refl H2) hLa;have hLaH:H La=none:=by
  cases z:H La with
  | none=>rfl
  | some o=>rw[S2 _ _ z] at hLa;cases hLa
 have J3:JW H (upd H2 La (.lst [.int be])) Da La (itW sp tk be 0):=⟨S2.trans S3,⟨_,S3 _ _ hDa2,.cons ⟨rfl,.tup (S3 _ _ hq1) .nil⟩ .nil⟩,aR⟩;generalize upd H2 La (.lst [.int be])=H3 at J3 ⊢;clear S3 hLa hDa2 hq1 S2;have c0:(itW sp tk be 0).1.length+oi (itW sp tk be 0).1≤17:=by
  have:oi [(be,([]:List Stp))]≤16:=by
   unfold oi;have:=j5 (p:=λx:Nat=>(lkW [(be,([]:List Stp))] ((x:Nat):Int)).isNone) (l:=aG 16);rw[bb] at this;exact this
  show 1+oi [(be,([]:List Stp))]≤17;lia
 have c1:2 * oi (itW sp tk be 0).1+(itW sp tk be 0).2.length≤40:=by
  have e1:(itW sp tk be 0).1.length=1:=rfl;have e2:(itW sp tk be 0).2.length=1:=rfl;lia
 apply ⟨fun n σ HA=>∃ (i:Nat) (v6 v7 v8:Option V),n=2 * oi (itW sp tk be i).1+(itW sp tk be i).2.length∧n≤40∧σ=[some v,some (.ref u),some (.int be),some (.int en),some (.ref Da),some (.ref La),v6,v7,v8]∧JW H HA Da La (itW sp tk be i)∧WI m.toNat sp tk be (itW sp tk be i)∧Clo sp tk (fun _=>False) (itW sp tk be i)∧(itW sp tk be i).1.length+oi (itW sp tk be i).1≤17∧∀ j,j<i→lkW (itW sp tk be j).1 en=none,
  ⟨_,0,none,none,none,rfl,c1,rfl,J3,(start_ok be0 b1).1,(start_ok be0 b1).2,c0,fun j hj=>rS hj (Nat.not_lt_zero _)⟩,?_⟩
 rintro n σ HA ⟨i,v6,v7,v8,rfl,n40,rfl,JA,WA,CA,lA,bA⟩;obtain⟨kvs,hDaA,dwA⟩:=JA.da;apply⟨_,rfl,_,rfl,Da,_,rfl,DGet.k (k:= .inl en) hDaA,_,rfl,?_⟩;cases hen:lkW (itW sp tk be i).1 en with
 | some p =>
  obtain⟨vp,hvp,dp⟩:=dwA.some hen;rw[hvp];apply iteF ⟨_,rfl,_,rfl,Da,vp,rfl,?_,k vp HA p JA.same dp ⟨i,hen,bA⟩⟩;have:=DGet.k (k:= .inl en) hDaA;rw[hvp] at this;exact this
 | none =>
  rw[dwA.none hen];apply iteT ⟨_,λσ' H' z=>z,?_⟩;have hne:=left_of hlt held WA CA hen;obtain⟨t1,t2,t3,t4⟩:=turn_ok E m16 hlt WA CA hne;have hlast:(itW sp tk be i).2.getLast? =some (mH (itW sp tk be i).2):=by
   unfold mH;rw[List.getLast?_eq_some_getLast hne];rfl
  have hget:((itW sp tk be i).2.map V.int)[((itW sp tk be i).2.map V.int).length - 1]? =some (V.int (mH (itW sp tk be i).2)):=by
   rw[aa,az,←List.getLast?_eq_getElem?,hlast];rfl
  apply ⟨_,rfl,.inl ⟨rfl,_,SqL.of JA.la⟩,La,_,_,rfl,rfl,JA.la,hget,?_⟩;have JB:=JA.upL (td:=(itW sp tk be i).2.dropLast) hLaH nDL;rw [List.map_dropLast] at JB;generalize upd HA La (.lst ((itW sp tk be i).2.map V.int).dropLast)=HB at JB ⊢;have hx:lkW (itW sp tk be i).1 (mH (itW sp tk be i).2)≠none:=WA.ahd _ (last_mem hlast);have W0:WI m.toNat sp tk be ((itW sp tk be i).1,(itW sp tk be i).2.dropLast):=⟨WA.pth,WA.rng,fun y hy=>WA.ahd y ((List.dropLast_sublist _).subset hy),WA.beg⟩;have C0:Clo sp tk (· =mH (itW sp tk be i).2) ((itW sp tk be i).1,(itW sp tk be i).2.dropLast):=fun y hy hn ex t ht'=>CA y hy (fun z=>by
   rw[List.getLast?_eq_some_iff] at hlast;obtain⟨ys,hys⟩:=hlast;rw[hys,fI] at hn;rw[hys] at z
   rcases aI.mp z with z | z
   ·exact hn z
   ·exact ex (aw.mp z)) (fun z=>z) t ht'
  have eT:itW sp tk be (i+1)=(dE sp tk (mH (itW sp tk be i).2)).foldl (iQ sp (mH (itW sp tk be i).2)) ((itW sp tk be i).1,(itW sp tk be i).2.dropLast):=rfl;have bN:∀j,j<i+1→lkW (itW sp tk be j).1 en=none:=λj hj=>by
   rcases jn.mp hj with h | h
   ·exact bA j h
   ·rw[h];exact hen
  rw[show qR sp tk (itW sp tk be i)=itW sp tk be (i+1) from rfl] at t1 t2 t3 t4;generalize mH (itW sp tk be i).2=x at hx C0 eT ⊢;generalize hc:((itW sp tk be i).1,(itW sp tk be i).2.dropLast)=c at JB W0 C0 eT;have hx:lkW c.1 x≠none:=by rw[←hc];exact hx
  have lc:c.1.length+oi c.1≤17:=by rw[←hc];exact lA
  have lc2:2 * oi c.1+c.2.length≤40:=by
   rw[←hc];show 2 * oi (itW sp tk be i).1+(itW sp tk be i).2.dropLast.length≤40;rw[List.length_dropLast];lia
  apply⟨_,rfl,_,rfl,_,rfl,v,u,b,m,sp,tk,x,rfl,hv.same JB.same,JB.same _ _ hu,hlt,few,λL HC zs SC fL hL dz=>⟨L,rfl,⟨_,SqL.of hL⟩,?_⟩⟩;have nLL:L≠La:=λz=>by rw[z,JB.la] at fL;cases fL
  have JC:=JB.on SC;clear JB hc;have vis:∀j:Nat,WI m.toNat sp tk be (((dE sp tk x).take j).foldl (iQ sp x) c)∧lkW (((dE sp tk x).take j).foldl (iQ sp x) c).1 x≠none∧(((dE sp tk x).take j).foldl (iQ sp x) c).1.length≤17∧(((dE sp tk x).take j).foldl (iQ sp x) c).2.length≤40:=λj=>by
   obtain⟨b1,_,_,b4,b5,b6⟩:=pJ E m16 hlt (L:=(dE sp tk x).take j) W0 hx (λt h=>List.mem_of_mem_take h) C0;exact⟨b1,by rw[b4 x hx];exact hx,⋯,⋯⟩
  have lz:zs.length=(dE sp tk x).length:=by rw[dz.length];unfold fF;rw[aa]
  apply jE (K:=K) (a:=L) (xs:=zs) (λj σ HD=>JW H HD Da La (((dE sp tk x).take j).foldl (iQ sp x) c)∧HD L=some (.lst zs)∧eM HD zs (fF Stp.row (dE sp tk x))∧∃w7 w8,σ=[some v,some (.ref u),some (.int be),some (.int en),some (.ref Da),some (.ref La),some (.int x),w7,w8]) ⟨JC,hL,dz,_,_,rfl⟩ (λj σ HD _ ⟨_,h,_⟩=>SqL.of h) ?_ ?_
  ·rintro j y σ HD hy ⟨JD,hLD,dD,w7,w8,rfl⟩
   have hj:j<(dE sp tk x).length:=by have:=(ar.mp hy).1;lia
   have hsj:=gE hj;obtain⟨y',hy',dy⟩:=dD.at (i:=j) (d:= .tup ((Stp.row (dE sp tk x)[j]).map Dt.int)) (by unfold fF;rw[az,hsj];rfl);rw[hy] at hy';cases hy';obtain⟨q,qs,rfl,hq,rq⟩:=dy.tup_of;have eq:=rq.ints_of;subst eq;have hmem:(dE sp tk x)[j]∈dE sp tk x:=aY hj;have hin:=hlt _ (mem_stF (bX.mp hmem).1).1;have fold:((dE sp tk x).take (j+1)).foldl (iQ sp x) c=iQ sp x (((dE sp tk x).take j).foldl (iQ sp x) c) (dE sp tk x)[j]:=by
    rw[bj,hsj];show((dE sp tk x).take j++[(dE sp tk x)[j]]).foldl _ _=_;rw[cG];rfl
   rw[fold];obtain⟨Wj,xj,kj,aj⟩:=vis j;generalize ((dE sp tk x).take j).foldl (iQ sp x) c=d at JD Wj xj kj aj;generalize (dE sp tk x)[j]=st at hq hin dy;apply⟨_,rfl,_,rfl,v,q,b,m,sp,st,sAt sp st.i,rfl,hv.same JD.same,hq,ju hin,?_⟩;rw[(lL hin).1];obtain⟨kv2,hDaD,dwD⟩:=JD.da;apply⟨_,rfl,_,rfl,Da,_,rfl,DGet.k (k:= .inl (fb sp st)) hDaD,_,rfl,?_⟩;cases hto:lkW d.1 (fb sp st) with
   | some p0 =>
    obtain⟨vp,hvp,_⟩:=dwD.some hto;rw[hvp];have ev:iQ sp x d st=d:=by unfold iQ;exact rQ (by rw[hto];exact λz=>nomatch z)
    rw[ev];exact iteF ⟨JD,hLD,dD,_,_,rfl⟩
   | none =>
    rw[dwD.none hto];apply iteT ?_;obtain⟨ws,hws⟩:∃ws,lkW d.1 x=some ws:=Option.ne_none_iff_exists'.mp xj;have ev:iQ sp x d st=(d.1++[(fb sp st,ws++[st])],d.2++[fb sp st]):=by
     unfold iQ;rw[rR hto,hws];rfl
    rw[ev];obtain⟨vw,hvw,dw⟩:=dwD.some hws;obtain⟨pw,yw,rfl,hpw,hlw,rw'⟩:=gT dw;have hget':DGet HD Da (V.int x) (some (.ref pw)):=by
     have:=DGet.k (k:= .inl x) hDaD;rw[hvw] at this;exact this
    have lw:=((Wj.pth x ws hws).1.len E be0 b1);apply⟨_,rfl,_,rfl,Da,.ref pw,rfl,hget',_,rfl,szZ1,λq4 H16 S16 h16=>⟨pw,q4,_,_,rfl,rfl,S16 _ _ hpw,h16,?_,λq5 H17 S17 h17=>?_⟩⟩
    ·rw[hlw];exact aQ (by show ws.length+1≤1000;lia) ↥0
    have ST:=S16.trans S17;have hDa7:=ST _ _ hDaD;have dw7:=dwD.keep (bD.tupK ST);have hLa7:=ST _ _ JD.la;have hL7:=ST _ _ hLD;have dD7:=dD.same ST;have S7:=JD.same.trans ST;have lk:kv2.length≤17:=by rw[dwD.len];exact kj
    apply⟨_,rfl,_,rfl,Da,_,rfl,DPut.k (k:= .inl (fb sp st)) hDa7 (cf (by lia:kv2.length≤999) ↥0),?_⟩;have hway:IsD H17 (.ref q5) (oU (ws++[st])):=by
     apply .tup h17 ?_;rw[aD];exact(rw'.same ST).append (.cons (dy.same ST) .nil)
    rw[putK_new _ (dwD.none hto)];have K8:kK H17 (upd H17 Da (.dK (kv2++[(.inl (fb sp st),.ref q5)]))):=λq xs h=>by rw[bt (fM h hDa7 nofun)];exact h
    have hDa8:(upd H17 Da (.dK (kv2++[(.inl (fb sp st),.ref q5)]))) Da=some (.dK (kv2++[(.inl (fb sp st),.ref q5)])):=aR;have dw8:DW (upd H17 Da (.dK (kv2++[(.inl (fb sp st),.ref q5)]))) (kv2++[(.inl (fb sp st),.ref q5)]) (d.1++[(fb sp st,ws++[st])]):=DW.snoc ⟨rfl,qX K8 hway⟩ (dw7.keep K8);have hLa8:(upd H17 Da (.dK (kv2++[(.inl (fb sp st),.ref q5)]))) La=some (.lst (d.2.map V.int)):=by rw[bt nDL.symm];exact hLa7
    have nLD:L≠Da:=fM hLD hDaD nofun;have hL8:(upd H17 Da (.dK (kv2++[(.inl (fb sp st),.ref q5)]))) L=some (.lst zs):=by rw[bt nLD];exact hL7
    have S8:bD H (upd H17 Da (.dK (kv2++[(.inl (fb sp st),.ref q5)]))):=λa o e=>by rw[bt (bF e hDa)];exact S7 a o e
    have dD8:eM (upd H17 Da (.dK (kv2++[(.inl (fb sp st),.ref q5)]))) zs (fF Stp.row (dE sp tk x)):=eO K8 dD7;generalize upd H17 Da (.dK (kv2++[(.inl (fb sp st),.ref q5)]))=H8 at hDa8 dw8 hLa8 hL8 S8 dD8 ⊢;apply⟨_,rfl,.inl ⟨rfl,_,SqL.of hLa8⟩,_,rfl,La,_,_,rfl,rfl,hLa8,nM (by rw[aa];lia),?_⟩;have J8:JW H H8 Da La (d.1++[(fb sp st,ws++[st])],d.2):=⟨S8,⟨_,hDa8,dw8⟩,hLa8⟩;have J9:=J8.upL (td:=d.2++[fb sp st]) hLaH nDL;rw[aD] at J9;apply⟨J9,?_,eO (fm hLa8) dD8,_,_,rfl⟩;rw[bt nLL];exact hL8
  ·rintro σ HD ⟨JD,hLD,dD,w7,w8,rfl⟩
   rw[lz,bo,←eT] at JD;exact⟨_,t3,i+1,_,_,_,rfl,⋯,rfl,JD,t1,t2,⋯,bN⟩
def oK.natsF (a:oK m sp ns):∃(l π:List Nat),ns=l.map (λ(i:Nat)=>(i:Int))∧Ordd sp π∧l.Perm (kX sp m π).2:=by
 obtain⟨π,o,p,_⟩:=a;have nn:∀x∈ns,0≤x:=λx hx=>by
  obtain⟨i,_,rfl⟩:=ba.mp (p.mem_iff.mp hx);lia
 apply⟨ns.map Int.toNat,π,?_,o,?_⟩
 ·rw[cW]
  conv=>lhs;rw[←List.map_id ns]
  exact gX λx hx=>(dv (nn x hx)).symm
 ·have q:=p.map Int.toNat
  rw[cW] at q;have e:((kX sp m π).2.map (Int.toNat ∘ λ(i:Nat)=>(i:Int)))=(kX sp m π).2:=by
   conv=>rhs;rw[←List.map_id (kX sp m π).2]
   exact gX λx _=>rfl
  rw[e] at q;exact q
def gone_ltF (O:Ordd sp π)(pm:l.Perm (kX sp m π).2):∀i∈l,i<sp.length:=λi hi=>by
 rcases(ky sp π (j4 m,[])).1 i (pm.mem_iff.mp hi) with z | z
 ·cases z
 ·exact O.lt z
def scRingBy:bY ["net","span","start","goal"] pzf (defScope sRingBy):=by trivial
theorem ok_ringBy (F:Fun K "ring_by" "ring_by" sRingBy f fd)(G1:Fn K mg "way_between" sWayB pzI f1 fd1)(F1:‹0› 3 f1 fd1 pzI spWayBt)
  (G2:Fn K mg "forest_of" mz pza f2 fd2) (F2:‹0› 6 f2 fd2 pza (lP Tb0 lp lq)):‹0› 7 f fd pzf (spRingBy Tb0 lp lq):=by
 specialize F.ok scRingBy;obtain ⟨v,b,m,sp,k,rfl,hv,N,hT,hk,fin⟩:=h;obtain ⟨t,p,ys,rfl,ht,hp,hl,hy⟩:=fe hv;obtain ⟨q,hq,hq2⟩:=hy k _ (ju hk);have hr1:gP 3 _:=hr.mono ↥0;have E:=N.ends;have few:=N.few;obtain ⟨a0,a1,b0,b1⟩:=E _ (fc hk);apply ⟨_,PSl.h (aZ ⟨(psZ 2 scRingBy.nd (ixZ (dO dF (ixZ (pv 0)) (pv 1) (fun _ _=>rfl))))⟩
  (aZ ⟨(psZ 3 scRingBy.nd (ixZ (dO dF (ixZ (pv 0)) (pv 1) (fun _ _=>rfl))))⟩
  (cP ⟨(bZ (dB mG (dG (ai (dG (ai (pv 1) (ai bP aF))) aF)) (pc1 G1 F1 hr1 (ai (pv 0) (ai (pc1 G2 F2 hr (ai (pv 0) aF)) (ai (pv 3) (ai (pv 2) aF)))))))⟩))),?_⟩
 apply⟨_,rfl,t,_,_,_,rfl,rfl,SqT.of ht,aO (j:=2) rfl,_,rfl,p,_,_,_,rfl,rfl,SqT.of hp,aO (j:=k) hq,q,_,_,_,rfl,rfl,SqT.of hq2,aO (j:=0) rfl,?_⟩;apply⟨_,rfl,t,_,_,_,rfl,rfl,SqT.of ht,aO (j:=2) rfl,_,rfl,p,_,_,_,rfl,rfl,SqT.of hp,aO (j:=k) hq,q,_,_,_,rfl,rfl,SqT.of hq2,aO (j:=1) rfl,?_⟩;apply⟨_,rfl,o6,λq1 H1 S1 h1=>⟨szZ1,λq2 H2 S2 h2=>⟨_,rfl,_,rfl,.ref t,b,m,sp,rfl,hv.same (S1.trans S2),N,LamT.same (S1.trans S2) hT,λu H3 ns tb3 hT3 hu F0=>?_⟩⟩⟩;have hT2:=LamT.same (S1.trans S2) hT;have K3:=Tb.tupK (LamT.tbl hT2) tb3;obtain⟨l,π,rfl,O,pm⟩:=F0.natsF;have hlt:=gone_ltF O pm;have lfew:l.length≤40:=by have:=F0.len;rw[aa] at this;lia
 rw[cW] at hu;apply⟨_,rfl,_,rfl,.ref t,u,b,m,sp,l,(sAt sp k).g,(sAt sp k).s,rfl,cg K3 (hv.same (S1.trans S2)),N,hu,hlt,lfew,b0,by have:=N.m1;lia,held_span E O pm hk,λw4 H4 pth S4 d4 wr=>?_⟩;obtain⟨pw,yw,rfl,hpw,hlw,rw'⟩:=gT d4;have hP:=WayR.pth E (by have:=N.m2;lia) hlt b0 b1 (held_span E O pm hk) wr;have ln:=hP.len E b0 b1;have h24:=S4 _ _ (K3 _ _ h2);have h14:=S4 _ _ (K3 _ _ (S2 _ _ h1));apply⟨q2,pw,_,_,rfl,rfl,h24,hpw,?_,λq5 H5 S5 h5=>?_⟩
 ·rw[hlw];have:=N.m2;exact aQ (by show 1+pth.length≤1000;lia) ↥0
 apply fin _ H5 l π pth ((bD.tb (S1.trans S2)).trans (tb3.trans (bD.tb (S4.trans S5)))) (LamT.same (S4.trans S5) hT3) ?_ F0 O pm wr;exact .tup h5 (.cons (.tup (S5 _ _ h14) (eM.ints (Stp.row ⟨k,1⟩))) (rw'.same S5))
abbrev sRingsO:cF:=top 28
theorem inV_intsF (x:Int):∀p:List Int,inV (.int x) (p.map V.int)=decide (x∈p)
 | []=>by simp[inV]
 | y::p=>by
  have ih:=inV_intsF x p;unfold inV at ih ⊢;rw[bI,jd,ih]
  by_cases e:y=x
  ·subst e;simp[eqV]
  ·have:eqV (.int y) (.int x)=false:=by simp[eqV,e]
   rw[this];simp[aH,cK e]
def inV_nat (x:Nat)(l:List Nat):inV (.int (x:Int)) (l.map λ(i:Nat)=>V.int i)=decide (x∈l):=by
 have e:(l.map λ(i:Nat)=>V.int i)=(l.map λ(i:Nat)=>(i:Int)).map V.int:=by rw[cW];rfl
 rw[e,inV_intsF];apply decide_eq_decide.mpr ⟨λh=>?_,λh=>ba.mpr ⟨x,h,rfl⟩⟩;obtain⟨j,hj,e⟩:=ba.mp h;have:j=x:=by lia
 rw[←this];exact hj
def scRingsO:bY ["net","taken"] pza (defScope sRingsO):=by trivial
theorem ok_ringsO (F:Fun K "rings_of" "rings_of" sRingsO f fd)(T:Nm mg)(T2:Nt mg)(G1:Fn K mg "forest_of" mz pza f1 fd1)(F1:‹0› 6 f1 fd1 pza (lP Tb0 lp lq))(G2:Fn K mg "ring_by" sRingBy pzf f2 fd2)(F2:‹0› 7 f2 fd2 pzf (spRingBy Tb0 lp lq)):‹0› 8 f fd pza (spRingsO Tb0 lp lq):=by
 specialize F.ok scRingsO;obtain ⟨v,b,m,sp,rfl,hv,N,hT,k⟩:=h;have hr6:gP 6 _:=hr.mono ↥0;have E:=N.ends;have few:=N.few;have m1:=N.m1;apply ⟨_,PSl.h (aZ ⟨(psZ 1 scRingsO.nd (pc1 G1 F1 hr6 (ai (pv 0) aF)))⟩
  (cP ⟨(bZ (gi (fr:=["net","taken"]) (js:=[0,1]) rfl (gk rfl T2.range (ai (cp bR rfl T.len bC (ai (ixZ (pv 0)) aF)) aF)) ⇑0 rfl ⇑0 rfl (by exists sRingsO) ⇑0 rfl ⇑0 (fun _ _ _ _ _=>⟨(pc1 G2 F2 hr (ai (pv 1) (ai (pv 0) aF))),(jZ (cy (r:=rIn K true) oR (pv 0) (pv 2) rfl))⟩)))⟩)),?_⟩
 apply⟨_,rfl,v,b,m,sp,rfl,hv,N,hT,λu H1 ns tb1 hT1 hu F0=>?_⟩;obtain⟨l,π,rfl,O,pm⟩:=F0.natsF;have fr:jo m.toNat sp l:=⟨F0,π,O,pm⟩;rw[cW] at hu;have hu:H1 u=some (.tup (l.map λ(i:Nat)=>V.int i)):=hu;have hv1:=cg (Tb.lamT hT tb1) hv;obtain⟨t,p,ys,rfl,ht,hp,hl,hy⟩:=fe hv1;apply⟨_,rfl,t,_,_,_,rfl,rfl,SqT.of ht,aO (j:=2) rfl,p,_,rfl,.inr (SqT.of hp),_,rfl,⋯,⋯,?_⟩;apply ko (n:=((ys.length:Int)).toNat) (λi zs HC=>L2.Tb Tb0 H1 HC∧L2.LamT Tb0 lp lq HC∧∃rg:List (Nat×List Stp),zs.length≤i∧eM HC zs (rg.map wayQ)∧(∀q∈rg,RK sp l q)∧rg.map (·.1)=(aG i).filter λk=> !(decide (k∈l))) ⟨Tb.refl H1,hT1,[],aB _,.nil,λ_ h=>rS h ∅,rfl⟩ (λi zs HC hi ⟨_,_,_,e2,_⟩=>e2) (de ⋯) (λi zs HC hi ⟨tb,hTC,rg,lz,dz,hrk,hks⟩=>?_) (λzs HC ⟨tb,hTC,rg,lz,dz,hrk,hks⟩ D hD=>?_)
 ·rw[fZ]
  have hin:i<sp.length:=by lia
  have KC:=Tb.lamT hT1 tb;have ef:(aG (i+1)).filter (λk=> !(decide (k∈l)))=(aG i).filter (λk=> !(decide (k∈l)))++(if i∈l then [] else [i]):=by
   rw[fj,eK];congr 1;rw[fA,kL]
   by_cases c:i∈l
   ·rw[rR c,rT c];rfl
   ·rw[rQ c,rV c];rfl
  apply⟨_,rfl,_,rfl,u,_,rfl,.inr (SqT.of (KC _ _ hu)),rfl,(by rw[List.all_map];exact gf.mpr λ_ _=>rfl),_,rfl,?_⟩;rw[inV_nat];show if (!(decide (i∈l)))=true then _ else _;rw[ef];apply ite2 (λhc=>?_) (λhc=>?_)
  rotate_left
  ·have c:i∈l:=by simpa using hc
   rw[rR c,c5];exact⟨tb,hTC,rg,⋯,dz,hrk,hks⟩
  have c:i ∉ l:=by simpa using hc
  rw[rQ c];apply⟨_,rfl,_,rfl,.ref t,b,m,sp,i,rfl,cg KC hv1,N,hTC,hin,λq HD l' π' pw tbD hTD dq F0' O' pm' wr=>?_⟩;have el:l'=l:=jo.one (m:=m.toNat) (sp:=sp) ⟨F0',π',O',pm'⟩ fr;subst el;obtain⟨s0,s1,g0,g1⟩:=E _ (fc hin);have hlt:=(fr.pots E).nodup.2;have Pw:=WayR.pth E (by have:=N.m2;lia) hlt g0 g1 (fr.held E hin).symm wr;have KD:=Tb.lamT hTC tbD;apply⟨tb.trans tbD,hTD,rg++[(i,⟨i,1⟩::pw)],by rw[av];show zs.length+1≤i+1;lia,?_,λq' hq'=>?_,by rw[aD,hks];rfl⟩
  ·rw[aD]
   exact(eM.keepP KD dz (nj rg λq _=>p7 _ _)).append (.cons dq .nil)
  ·rcases aI.mp hq' with z | z
   ·exact hrk q' z
   ·rw[aw.mp z];exact⟨hin,c,pw,rfl,Pw⟩
 ·have SD:bD HC (upd HC D (.lst zs)):=bD.put (bD.refl HC) hD
  have hDH:H D=none:=by
   cases z:H D with
   | none=>rfl
   | some o =>
    by_cases e:D=Tb0
    ·subst e
     obtain⟨ps,hps⟩:=LamT.tbl hTC;rw[hps] at hD;cases hD
    ·have:=tb D o e (tb1 D o e z)
     rw[hD] at this;cases this
  apply k D zs l rg _ (tb1.trans (tb.trans (bD.tb SD))) (LamT.same SD hTC) hDH aR (dz.same SD) ⟨fr,hrk,?_⟩;rw[hks];unfold pX;rw[cA,hl]
abbrev sSpread:cF:=top 29
inductive spSpread (T:aq)(lp:Pos)(lq:Str)(vs:List V)(H:Hp)(Q:VK)(_:XK):Prop
 | mk (v:V)(b m:Int)(sp:List Sn)(_:vs=[v])(_:IsD H v (jv b m sp))(_:jb b m sp)(_:L2.LamT T lp lq H)(_:∀(L:aq) (zs:List V) (l:List Nat) (S:List Stp) (H':Hp),L2.Tb T H H'→L2.LamT T lp lq H'→H L=none→H' L=some (.lst zs)→eM H' zs (fF Stp.row S)→jo m.toNat sp l→SprOk m.toNat sp l S→Q (.ref L) H')
structure JS (H Hc:Hp)(Da Ls:aq)(R:List Int)(S:List Stp)(n:Nat):Prop where
 same:bD H Hc
 da:∃kvs,Hc Da=some (.dK kvs)∧(∀x,l6 kvs (.inl x)=none↔x ∉ R)∧kvs.length≤R.length+n
 ls:∃zs,Hc Ls=some (.lst zs)∧eM Hc zs (fF Stp.row S)
def JS.on {Hc':Hp}(j:JS H Hc Da Ls R S n)(e:bD Hc Hc'):JS H Hc' Da Ls R S n:=by
 obtain⟨kvs,h1,h2⟩:=j.da;obtain⟨zs,h3,h4⟩:=j.ls;exact⟨j.same.trans e,⟨kvs,e _ _ h1,h2⟩,⟨zs,e _ _ h3,h4.same e⟩⟩
def JS.upL {La:aq}(j:JS H Hc Da Ls R S n)(hL:H La=none)(hc:Hc La=some (.lst xs))(ne:Ls≠La):JS H (upd Hc La (.lst ys)) Da Ls R S n:=by
 obtain⟨kvs,h1,h2⟩:=j.da;obtain⟨zs,h3,h4⟩:=j.ls;exact⟨λa o e=>by rw[bt (bF e hL)];exact j.same a o e,⟨kvs,by rw[bt (fM h1 hc nofun)];exact h1,h2⟩,⟨zs,by rw[bt ne];exact h3,eO (fm hc) h4⟩⟩
def JS.upS {q:aq}{s:Stp}(j:JS H Hc Da Ls R S n)(hL:H Ls=none)(hc:Hc Ls=some (.lst zs))(hz:eM Hc zs (fF Stp.row S))(hq:IsD Hc (.ref q) (.tup ((Stp.row s).map Dt.int))):JS H (upd Hc Ls (.lst (zs++[.ref q]))) Da Ls R (S++[s]) n:=by
 obtain⟨kvs,h1,h2⟩:=j.da;have hd:eM Hc (zs++[.ref q]) (fF Stp.row (S++[s])):=by
  unfold fF at hz ⊢;rw[aD];exact hz.append (.cons hq .nil)
 exact⟨λa o e=>by rw[bt (bF e hL)];exact j.same a o e,⟨kvs,by rw[bt (fM h1 hc nofun)];exact h1,h2⟩,⟨_,aR,eO (fm hc) hd⟩⟩
def JS.upD {kvs:List (Key×V)}{x:Int}{y:V}{R':List Int}{n':Nat}(j:JS H Hc Da Ls R S n)(hD:H Da=none)(hc:Hc Da=some (.dK kvs))(hk:∀x,l6 kvs (.inl x)=none↔x ∉ R)(hR:∀z,z∈R'↔z∈R∨z=x)(hl:kvs.length+1≤R'.length+n'):JS H (upd Hc Da (.dK (nP kvs (.inl x) y))) Da Ls R' S n':=by
 obtain⟨zs,h3,h4⟩:=j.ls;have K:kK Hc (upd Hc Da (.dK (nP kvs (.inl x) y))):=λq xs h=>by rw[bt (fM h hc nofun)];exact h
 apply⟨λa o e=>by rw[bt (bF e hD)];exact j.same a o e,⟨_,aR,λz=>?_,?_⟩,⟨zs,by rw[bt (fM h3 hc nofun)];exact h3,eO K h4⟩⟩
 ·rw[valV_put,hR]
  by_cases e:z=x
  ·rw[rR (by rw[e])]
   exact⟨λh=>(by cases h),λh=>rS (Or.inr e) h⟩
  ·rw[rQ (λh=>e (Sum.inl.inj h)),hk]
   exact⟨λh h'=>h'.elim h e,λh h'=>h (.inl h')⟩
 ·exact aQ (kA _ _ _) hl
def j9:bY ["net","taken","reached","steps","first","ahead","here","step","there"] pza (defScope sSpread):=by trivial
theorem ok_spread (F:Fun K "spread_of" "spread_of" sSpread f fd)(T:Nm mg)(T2:Nt mg)(G1:Fn K mg "forest_of" mz pza f1 fd1)(F1:‹0› 6 f1 fd1 pza (lP Tb0 lp lq))(G2:Fn K mg "steps_from" pT pzq f2 fd2)(F2:‹0› 2 f2 fd2 pzq spSteps)(G3:Fn K mg "leads_to" sTo pzc f3 fd3):‹0› 7 f fd pza (spSpread Tb0 lp lq):=by
 have F3:‹0› 1 f3 fd3 pzc spTo:=ok_to G3.F;apply F.ok j9 (by contradiction) (fun cdv A outer s H0 vs Q E hr h=>?_);obtain ⟨v,b,m,sp,rfl,hv,N,hT,k⟩:=h;have hr2:gP 2 _:=hr.mono ↥0;have hr1:gP 1 _:=hr.mono ↥0;have u1:=cf (Nat.add_le_add_left (by decide:1≤64) _) hr.units;have E:=N.ends;have m1:=N.m1;have m2:=N.m2;apply ⟨_,PSl.h (aZ ⟨(psZ 1 j9.nd (pc1 G1 F1 hr (ai (pv 0) aF)))⟩
  (aZ ⟨(psZ 2 j9.nd pe_dnewK)⟩
  (aZ ⟨(psZ 3 j9.nd (ji aF))⟩
  (aZ ⟨(ig bH rfl (gk rfl T2.range (ai (ixZ (pv 0)) aF)) (pgZ 4 j9.nd) (PSl.h (aZ ⟨(psZ 5 j9.nd (PE.cutV (pB (pt_cmp (nU u1 (pv 4) (pv 2)) rfl) (ji (ai (pv 4) aF)) (ji aF))))⟩
  (aZ ⟨(ps_dput u1 (pv 2) (pv 4) lW rfl)⟩
  (cP ⟨(nQ bH (cy qT (cp bR rfl T.len bC (ai (pv 5) aF)) bP (cL _)) (PSl.h (aZ ⟨(psZ 6 j9.nd (qe bh fh fg qk (pv 5)))⟩
  (cP ⟨(ig bH rfl (gh (pc1 G2 F2 hr2 (ai (pv 0) (ai (pv 1) (ai (pv 6) aF))))) (pgZ 7 j9.nd) (PSl.h (aZ ⟨(psZ 8 j9.nd (pc1 G3 F3 hr1 (ai (pv 0) (ai (pv 7) aF))))⟩
  (cP ⟨(gg (pt_cmp (nU u1 (pv 8) (pv 2)) rfl) (PSl.h (aZ ⟨(ps_dput u1 (pv 2) (pv 8) lW rfl)⟩
  (aZ ⟨(iK (mE bh bV bU gm (pv 5) (ai (pv 8) aF)))⟩
  (cP ⟨(iK (mE bh bV bU gm (pv 3) (ai (pv 7) aF)))⟩)))) cY)⟩))))⟩))))⟩)))))⟩
  (cP ⟨(bZ (pv 3))⟩))))),?_⟩
 apply⟨_,rfl,v,b,m,sp,rfl,hv,N,hT,λu H ns tb1 hT1 hu F0=>?_⟩;obtain⟨l,π,rfl,O,pm⟩:=F0.natsF;have fr:jo m.toNat sp l:=⟨F0,π,O,pm⟩;rw[cW] at hu;have hu:H u=some (.tup (l.map λ(i:Nat)=>V.int i)):=hu;have hv1:=cg (Tb.lamT hT tb1) hv;obtain⟨t,p,ys,rfl,ht,hp,hl,hy⟩:=fe hv1;clear hy hp hl hv;have PT:=fr.pots E;have hlt:=PT.nodup.2;have few:l.length≤40:=by have:=fr.few E ⋯;lia
 have ne:∀i∈l,(sAt sp i).s≠(sAt sp i).g:=λi hi=>(N.all _ (fc (hlt i hi))).ne
 intro Da hDa;have hDa1:(upd H Da (.dK [])) Da=some (.dK []):=aR;have S1:bD H (upd H Da (.dK [])):=bD.put (bD.refl H) hDa;generalize upd H Da (.dK [])=H1 at hDa1 S1 ⊢;apply⟨bu _,λLs hLs=>?_⟩;have hLsH:H Ls=none:=bD.free S1 hLs;have S2:bD H1 (upd H1 Ls (.lst [])):=bD.put (bD.refl H1) hLs;have J2:JS H (upd H1 Ls (.lst [])) Da Ls [] [] 0:=⟨S1.trans S2,⟨[],S2 _ _ hDa1,λx=>⟨λ_ h=>(by cases h),λ_=>rfl⟩,aB _⟩,⟨[],aR,.nil⟩⟩;generalize upd H1 Ls (.lst [])=H2 at J2 ⊢;clear S2 hLs S1 hDa1;apply⟨_,rfl,t,_,_,_,rfl,rfl,SqT.of (J2.same _ _ ht),aO (j:=1) rfl,m,rfl,⋯,⋯,?_⟩;apply jP (n:=m.toNat) (λi σ HC=>∃(R:List Int) (S:List Stp) (w4 w5 w6 w7 w8:Option V),σ=[some (.ref t),some (.ref u),some (.ref Da),some (.ref Ls),w4,w5,w6,w7,w8]∧JS H HC Da Ls R S i∧SI m.toNat sp l exN R [] S∧∀x:Nat,x<i→(x:Int)∈R) ⟨[],[],none,none,none,none,none,rfl,J2,SI.start,λx hx=>rS hx (Nat.not_lt_zero _)⟩ ?_ ?_
 ·rintro i σ HC hi ⟨R,S,w4,w5,w6,w7,w8,rfl,JC,I0,hall⟩
  rw[fZ];have hRm:=I0.few;obtain⟨kvs,hDaC,hkv,hkl⟩:=JC.da;apply⟨λv H'=>∃La A,v= .ref La∧H La=none∧La≠Ls∧JS H H' Da Ls R S i∧H' La=some (.lst (A.map V.int))∧((i:Int) ∉ R∧A=[(i:Int)]∨(i:Int)∈R∧A=[]),?_,?_⟩
  rotate_left
  ·apply⟨_,rfl,_,rfl,Da,_,rfl,DGet.k (k:= .inl (i:Int)) hDaC,_,rfl,?_⟩
   have mk:∀ (La:aq) (xs:List V),HC La=none→JS H (upd HC La (.lst xs)) Da Ls R S i∧H La=none∧La≠Ls:=fun La xs hLa=>⟨JC.on (bD.put (bD.refl HC) hLa),bD.free JC.same hLa,fun z=>by
    obtain ⟨zs,hz,_⟩:=JC.ls;rw [z,hz] at hLa;cases hLa⟩
   cases c:l6 kvs (.inl (i:Int)) with
   | none =>
    apply iteT ⟨_,rfl,szZ1,λLa hLa=>?_⟩;obtain⟨a1,a2,a3⟩:=mk La [.int (i:Int)] hLa;exact⟨La,[(i:Int)],rfl,a2,a3,a1,aR,.inl ⟨(hkv _).mp c,rfl⟩⟩
   | some o =>
    apply iteF ⟨bu _,λLa hLa=>?_⟩;obtain⟨a1,a2,a3⟩:=mk La [] hLa;exact⟨La,[],rfl,a2,a3,a1,aR,.inr ⟨eZ λz=>(by rw[(hkv _).mpr z] at c;cases c),rfl⟩⟩
  rintro _ HD ⟨La,A,rfl,hLaH,nLL,JD,hLa,hA⟩;obtain⟨kvD,hDaD,hkD,hlD⟩:=JD.da;apply⟨_,rfl,_,rfl,Da,_,rfl,DPut.k (k:= .inl (i:Int)) hDaD (cf (by lia:kvD.length≤999) ↥0),?_⟩;obtain⟨R',hR',IR,inR,hall'⟩:∃R',(∀z,z∈R'↔z∈R∨z=(i:Int))∧SI m.toNat sp l exN R' A S∧R.length≤R'.length∧(∀x:Nat,x<i+1→(x:Int)∈R'):=by
   rcases hA with ⟨a1,rfl⟩ | ⟨a1,rfl⟩
   ·apply⟨R++[(i:Int)],λz=>by rw[aI,aw],I0.root a1 ⋯ ⋯,by rw[av];lia,λx hx=>?_⟩
    rcases jn.mp hx with z | z
    ·exact aJ _ (hall x z)
    ·rw[z];simp
   ·apply⟨R,λz=>⟨.inl,λh=>h.elim id λe=>e ▸ a1⟩,I0,aB _,λx hx=>?_⟩
    rcases jn.mp hx with z | z
    ·exact hall x z
    ·rw[z];exact a1
  have JE:=JD.upD (y:= .bl true) (R':=R') (n':=i+1) (x:=(i:Int)) hDa hDaD hkD hR' ⋯;have hLaE:(upd HD Da (.dK (nP kvD (.inl (i:Int)) (.bl true)))) La=some (.lst (A.map V.int)):=by rw[bt (fM hLa hDaD nofun)];exact hLa
  generalize upd HD Da (.dK (nP kvD (.inl (i:Int)) (.bl true)))=HE at JE hLaE ⊢;have lA:A.length≤1:=by rcases hA with ⟨_,rfl⟩ | ⟨_,rfl⟩ <;> simp
  clear hA hLa JD hDaD hkD hlD inR I0 hall hkv hDaC JC;apply⟨λn σ HA=>∃(R A:List Int) (S:List Stp) (w6 w7 w8:Option V),n=2 * (16 - R.length)+A.length∧n≤40∧σ=[some (.ref t),some (.ref u),some (.ref Da),some (.ref Ls),some (.int (i:Int)),some (.ref La),w6,w7,w8]∧JS H HA Da Ls R S (i+1)∧HA La=some (.lst (A.map V.int))∧SI m.toNat sp l exN R A S∧∀x:Nat,x<i+1→(x:Int)∈R,⟨_,R',A,S,_,_,_,rfl,⋯,rfl,JE,hLaE,IR,hall'⟩,?_⟩;clear JE hLaE IR hall' hR' hkl;rintro n σ HA ⟨R,A,S,w6,w7,w8,rfl,n40,rfl,JA,hLa,IA,hall⟩;apply⟨_,rfl,La,_,rfl,.inl (SqL.of hLa),_,_,rfl,rfl,_,rfl,?_⟩
  rcases List.eq_nil_or_concat A with rfl | ⟨A',x,rfl⟩
  ·apply j3 (by rfl) ?_
   exact⟨R,S,_,_,_,_,_,rfl,JA,IA,hall⟩
  rw[List.concat_eq_append] at hLa n40 IA ⊢;apply mr (rT (by rw[aa,av];show((A'.length+1:Nat):Int) > 0;lia)) ?_;apply⟨_,λσ' H' z=>z,?_⟩;rw[aD] at hLa;apply⟨_,rfl,.inl ⟨rfl,_,SqL.of hLa⟩,La,_,.int x,rfl,rfl,hLa,by rw[av,bp ∅];simp,?_⟩;rw[show(A'.map V.int++[x].map V.int).dropLast=A'.map V.int from fI];have JB:=JA.upL (ys:=A'.map V.int) hLaH hLa nLL.symm;have hLaB:(upd HA La (.lst (A'.map V.int))) La=some (.lst (A'.map V.int)):=aR;generalize upd HA La (.lst (A'.map V.int))=HB at JB hLaB ⊢;obtain⟨IB,xR⟩:=IA.pop;have lB:2 * (16 - R.length)+A'.length+1≤40:=by rw[av] at n40;exact n40
  have eB:2 * (16 - R.length)+(A'++[x]).length=2 * (16 - R.length)+A'.length+1:=by rw[av];rfl
  rw[eB];clear JA hLa IA n40 eB;apply⟨_,rfl,_,rfl,_,rfl,.ref t,u,b,m,sp,l,x,rfl,hv1.same JB.same,JB.same _ _ hu,hlt,few,λL HC zs SC fL hL dz=>⟨L,rfl,⟨_,SqL.of hL⟩,?_⟩⟩;have nL1:L≠La:=λz=>by rw[z,hLaB] at fL;cases fL
  have nL2:L≠Ls:=λz=>by
   obtain⟨z1,hz1,_⟩:=JB.ls;rw[z,hz1] at fL;cases fL
  have JC:=JB.on SC;have hLaC:=SC _ _ hLaB;clear JB hLaB;have lz:zs.length=(dE sp l x).length:=by rw[dz.length];unfold fF;rw[aa]
  apply jE (K:=K) (a:=L) (xs:=zs) (λj σ HD=>∃(R2 A2:List Int) (S2:List Stp) (w7 w8:Option V),JS H HD Da Ls R2 S2 (i+1)∧HD La=some (.lst (A2.map V.int))∧SI m.toNat sp l (· =x) R2 A2 S2∧x∈R2∧(∀x:Nat,x<i+1→(x:Int)∈R2)∧2 * (16 - R2.length)+A2.length≤2 * (16 - R.length)+A'.length∧(∀s∈(dE sp l x).take j,s.i∈S2.map Stp.i)∧HD L=some (.lst zs)∧eM HD zs (fF Stp.row (dE sp l x))∧σ=[some (.ref t),some (.ref u),some (.ref Da),some (.ref Ls),some (.int (i:Int)),some (.ref La),some (.int x),w7,w8]) ⟨R,A',S,_,_,JC,hLaC,IB,xR,hall,aB _,λs hs=>rS hs ∅,hL,dz,rfl⟩ (λj σ HD _ q=>by obtain⟨_,_,_,_,_,_,_,_,_,_,_,_,h,_⟩:=q;exact SqL.of h) ?_ ?_
  ·clear JC hLaC IB xR hall hL dz SC
   rintro j y σ HD hy ⟨R2,A2,S2,w7,w8,JD,hLaD,ID,xD,hallD,mD,hsD,hLD,dD,rfl⟩;have hj:j<(dE sp l x).length:=by have:=(ar.mp hy).1;lia
   have hsj:=gE hj;obtain⟨y',hy',dy⟩:=dD.at (i:=j) (d:= .tup ((Stp.row (dE sp l x)[j]).map Dt.int)) (by unfold fF;rw[az,hsj];rfl);rw[hy] at hy';cases hy';obtain⟨q,qs,rfl,hq,rq⟩:=dy.tup_of;have eq:=rq.ints_of;subst eq;have hmem:(dE sp l x)[j]∈dE sp l x:=aY hj;have hin:=hlt _ (ow hmem).1.1;have more:∀S3:List Stp,(∀s∈S2,s∈S3)→(dE sp l x)[j].i∈S3.map Stp.i→∀s∈(dE sp l x).take (j+1),s.i∈S3.map Stp.i:=λS3 sub hj3 s hs=>by
    rw[bj,hsj] at hs
    rcases aI.mp hs with z | z
    ·obtain⟨t',ht',e⟩:=ba.mp (hsD s z)
     exact ba.mpr ⟨t',sub _ ht',e⟩
    ·rw[aw.mp (show s∈[(dE sp l x)[j]] from z)];exact hj3
   generalize (dE sp l x)[j]=st at hq hin dy hmem more;apply⟨_,rfl,_,rfl,.ref t,q,b,m,sp,st,sAt sp st.i,rfl,hv1.same JD.same,hq,ju hin,?_⟩;rw[(lL hin).1];obtain⟨kv2,hDaD,hk2,hl2⟩:=JD.da;have hR2:=ID.fewX;apply⟨_,rfl,_,rfl,Da,_,rfl,DGet.k (k:= .inl (fb sp st)) hDaD,_,rfl,?_⟩;cases hto:l6 kv2 (.inl (fb sp st)) with
   | some o =>
    have inR:fb sp st∈R2:=eZ λz=>by rw[(hk2 _).mpr z] at hto;cases hto
    exact iteF ⟨R2,A2,S2,_,_,JD,hLaD,ID,xD,hallD,mD,more S2 (λ_ h=>h) (ID.has PT ne hmem inR),hLD,dD,rfl⟩
   | none =>
    have out:fb sp st ∉ R2:=(hk2 _).mp hto;have I3:=ID.add E hlt xD hmem out;have hR3:=I3.fewX;rw[av] at hR3;have hR3:R2.length+1≤m.toNat:=hR3;apply iteT ⟨_,rfl,_,rfl,Da,_,rfl,DPut.k (k:= .inl (fb sp st)) hDaD (cf (by lia:kv2.length≤999) ↥0),?_⟩;have J3:=JD.upD (y:= .bl true) (R':=R2++[fb sp st]) (n':=i+1) (x:=fb sp st) hDa hDaD hk2 (λz=>by rw[aI,aw]) (by rw[av];show _≤R2.length+1+(i+1);lia);have K3:kK HD (upd HD Da (.dK (nP kv2 (.inl (fb sp st)) (.bl true)))):=λq xs h=>by rw[bt (fM h hDaD nofun)];exact h
    have hLa3:(upd HD Da (.dK (nP kv2 (.inl (fb sp st)) (.bl true)))) La=some (.lst (A2.map V.int)):=by rw[bt (fM hLaD hDaD nofun)];exact hLaD
    have hL3:(upd HD Da (.dK (nP kv2 (.inl (fb sp st)) (.bl true)))) L=some (.lst zs):=by rw[bt (fM hLD hDaD nofun)];exact hLD
    generalize upd HD Da (.dK (nP kv2 (.inl (fb sp st)) (.bl true)))=H3 at J3 K3 hLa3 hL3 ⊢;have d3:=eO K3 dD;have q3:=K3 _ _ hq;apply⟨_,rfl,.inl ⟨rfl,_,SqL.of hLa3⟩,_,rfl,La,_,_,rfl,rfl,hLa3,nM (by rw[aa];lia),?_⟩;have J4:=J3.upL (ys:=A2.map V.int++[V.int (fb sp st)]) hLaH hLa3 nLL.symm;have K4:kK H3 (upd H3 La (.lst (A2.map V.int++[V.int (fb sp st)]))):=fm hLa3;have hLa4:(upd H3 La (.lst (A2.map V.int++[V.int (fb sp st)]))) La=some (.lst (A2.map V.int++[V.int (fb sp st)])):=aR;have hL4:(upd H3 La (.lst (A2.map V.int++[V.int (fb sp st)]))) L=some (.lst zs):=by rw[bt nL1];exact hL3
    generalize upd H3 La (.lst (A2.map V.int++[V.int (fb sp st)]))=H4 at J4 K4 hLa4 hL4 ⊢;have d4:=eO K4 d3;have q4:=K4 _ _ q3;obtain⟨z4,hz4,dz4⟩:=J4.ls;have lz4:z4.length=S2.length:=by rw[dz4.length];unfold fF;rw[aa]
    have lS:=ID.len;apply⟨_,rfl,.inl ⟨rfl,_,SqL.of hz4⟩,_,rfl,Ls,_,_,rfl,rfl,hz4,nM ⋯,?_⟩;have J5:=J4.upS (s:=st) hLsH hz4 dz4 (.tup q4 (eM.ints (Stp.row st)));apply⟨R2++[fb sp st],A2++[fb sp st],S2++[st],_,_,J5,?_,I3,aJ _ xD,λx hx=>aJ _ (hallD x hx),?_,more _ (λ_ h=>aJ _ h) (by rw[aD];exact aE _ ∅),?_,eO (fm hz4) d4,rfl⟩
    ·rw[bt nLL,hLa4,aD];rfl
    ·rw[av,av]
     show 2 * (16 - (R2.length+1))+(A2.length+1)≤_;lia
    ·rw[bt nL2];exact hL4
  ·rintro σ HD ⟨R2,A2,S2,w7,w8,JD,hLaD,ID,xD,hallD,mD,hsD,hLD,dD,rfl⟩
   rw[lz,bo] at hsD;exact⟨_,⋯,R2,A2,S2,_,_,_,rfl,⋯,rfl,JD,hLaD,ID.done hsD,hallD⟩
 ·rintro σ HC ⟨R,S,w4,w5,w6,w7,w8,rfl,JC,I0,hall⟩
  obtain⟨zs,hz,dz⟩:=JC.ls;have hLs0:H0 Ls=none:=by
   cases z:H0 Ls with
   | none=>rfl
   | some o =>
    by_cases e:Ls=Tb0
    ·subst e
     obtain⟨ps,hps⟩:=LamT.tbl hT1;rw[hps] at hLsH;cases hLsH
    ·rw[tb1 Ls o e z] at hLsH;cases hLsH
  exact⟨_,rfl,k Ls zs l S HC (tb1.trans (bD.tb JC.same)) (LamT.same JC.same hT1) hLs0 hz dz fr (I0.ok E hlt hall)⟩
abbrev sRest:cF:=top 31
abbrev sTabBy:cF:=top 52
inductive spTabBy (vs:List V)(H:Hp)(Q:VK)(_:XK):Prop
 | mk (v vb:V)(L:aq)(b m:Int)(sp:List Sn)(bs:List (Int×Int))(zs:List V)(S:List Stp)(_:vs=[v,.ref L,vb])(_:IsD H v (jv b m sp))(_:0<b)(_:0<m)(_:m≤16)(_:kQ m.toNat sp)(_:H L=some (.lst zs))(_:eM H zs (fF Stp.row S))(_:S.length≤16)(_:(∀s∈S,s.i<sp.length∧(s.d=1∨s.d= -1)))(_:IsD H vb (bndP bs))(_:bs.length=sp.length)(_:∀q H',bD H H'→H' q=some (.tup ((tabOf b sp bs m.toNat S).map V.int))→Q (.ref q) H')
theorem frmS_rng (E:kQ m sp){t:Stp}(h:t.i<sp.length):0≤kY sp t∧kY sp t<m:=by
 obtain⟨a,b,c,d⟩:=E _ (fc h);rw[←(nI h).2];unfold frm;split <;> lia
def qz (h0:0≤z)(h1:z<n):ixN n z=some z.toNat:=by unfold ixN;rw[rR h0,rR h1]
theorem atI_int {xs:List α}{x:α}(h0:0≤z)(h:xs[z.toNat]? =some x):atI xs z=some x:=by
 have:=(ar.mp h).1;unfold atI;rw[qz h0 ⋯];exact h
def map_set {l:List Int}{x:Int}:(l.map V.int).set n (V.int x)=(l.set n x).map V.int:=by rw[List.map_set]
def scRest:bY pzg pzg (defScope sRest):=by trivial
def ok_rest (F:Fun K "rest_by" "rest_by" sRest f fd):‹0› 1 f fd pzg spRest:=by
 specialize F.ok scRest;obtain⟨b,n,rfl,hb,k⟩:=h;apply⟨_,PSl.h (cP ⟨(bZ (dB mF (pv 1) (pv 0)))⟩),?_⟩;exact⟨_,rfl,_,rfl,_,_,rfl,rfl,hb,k⟩
def scTabBy:bY ["net","steps","bounds","times","step"] pzJ (defScope sTabBy):=by trivial
theorem ok_tabBy (F:Fun K "table_by" "table_by" sTabBy f fd)(T:Nm mg)(G1:Fn K mg "leads_to" sTo pzc f1 fd1)(G2:Fn K mg "leads_from" sFrom pzc f2 fd2)(G3:Fn K mg "rest_by" sRest pzg f3 fd3):‹0› 2 f fd pzJ spTabBy:=by
 have F1:‹0› 1 f1 fd1 pzc spTo:=ok_to G1.F;have F2:‹0› 1 f2 fd2 pzc ra:=qh G2.F;have F3:‹0› 1 f3 fd3 pzg spRest:=ok_rest G3.F;specialize F.ok scTabBy;obtain ⟨v,vb,L,b,m,sp,bs,zs,S,rfl,hv,hb,m0,m16,E,hL,dz,lS,hS,hvb,lb,k⟩:=h;have hr1:=hr;obtain ⟨t,p,ys,rfl,ht,hp,hl,hy⟩:=fe hv;obtain ⟨pb,yb,rfl,hpb,hlb,rb⟩:=gT hvb;apply ⟨_,PSl.h (aZ ⟨(psZ 3 scTabBy.nd (dB op_rep (oF (ai bP aF)) (ixZ (pv 0))))⟩
  (aZ ⟨(ig bH rfl (gh (pv 1)) (pgZ 4 scTabBy.nd) (cE (oP (dB i6 (dO gG (pv 3) (pc1 G2 F2 hr1 (ai (pv 0) (ai (pv 4) aF))) (fun _ _=>rfl)) (dB nW (ixZ (pv 4)) (ixZ (dO dF (pv 2) (ixZ (pv 4)) (fun _ _=>rfl))))) (p9 (pv 3) (pc1 G1 F1 hr1 (ai (pv 0) (ai (pv 4) aF))) lQ))))⟩
  (cP ⟨(bZ (dI gH rfl T.ttup fW (ai (gi (fr:=pza) (js:=[0]) rfl (gh (pv 3)) ⇑0 rfl ⇑0 rfl (by exists sTabBy) ⇑0 rfl ⇑0 (fun _ _ _ _ _=>⟨(pc1 G3 F3 hr1 (ai (dO (r:=pq K) dF (pv 1) bP (fun _ _=>rfl)) (ai (pv 0) aF))),gC⟩)) aF)))⟩))),?_⟩
 apply⟨szZ1,λq1 H1 S1 h1=>⟨_,rfl,t,_,_,_,rfl,rfl,SqT.of (S1 _ _ ht),aO (j:=1) rfl,q1,m,_,rfl,rfl,h1,⋯,⋯,?_,λLt hLt=>?_⟩⟩
 ·show 1 * m.toNat≤bf
  exact de ⋯
 have hLtH:H Lt=none:=bD.free S1 hLt;have S2:bD H (upd H1 Lt (.lst (bx m.toNat [V.int 0]).flatten)):=S1.trans (bD.put (bD.refl H1) hLt);have h2:(upd H1 Lt (.lst (bx m.toNat [V.int 0]).flatten)) Lt=some (.lst ((bx m.toNat (0:Int)).map V.int)):=by
  rw[aR,List.map_replicate,List.flatten_replicate_singleton]
 generalize upd H1 Lt (.lst (bx m.toNat [V.int 0]).flatten)=H2 at S2 h2 ⊢;have lz:zs.length=S.length:=by rw[dz.length];unfold fF;rw[aa]
 have len:∀j,((S.take j).foldl (setT sp (lowB bs)) (bx m.toNat 0)).length=m.toNat:=λj=>by rw[mM (m:=0),eC]
 apply⟨_,rfl,L,rfl,⟨_,SqL.of (S2 _ _ hL)⟩,?_⟩;apply jE (K:=K) (a:=L) (xs:=zs) (λj σ HD=>bD H HD∧HD Lt=some (.lst (((S.take j).foldl (setT sp (lowB bs)) (bx m.toNat 0)).map V.int))∧∃w4,σ=[some (.ref t),some (.ref L),some (.ref pb),some (.ref Lt),w4]) ⟨S2,h2,none,rfl⟩ (λj σ HD _ ⟨h,_⟩=>SqL.of (h _ _ hL)) ?_ ?_
 ·rintro j y σ HD hy' ⟨SD,hD,w4,rfl⟩
  have hj:j<S.length:=by have:=(ar.mp hy').1;lia
  have hsj:=gE hj;obtain⟨y',hy2,dy⟩:=dz.at (i:=j) (d:= .tup ((Stp.row S[j]).map Dt.int)) (by unfold fF;rw[az,hsj];rfl);rw[hy'] at hy2;cases hy2;obtain⟨q,qs,rfl,hq,rq⟩:=dy.tup_of;have eq:=rq.ints_of;subst eq;obtain⟨hin,hd⟩:=hS _ (aY hj);have fold:(S.take (j+1)).foldl (setT sp (lowB bs)) (bx m.toNat 0)=setT sp (lowB bs) ((S.take j).foldl (setT sp (lowB bs)) (bx m.toNat 0)) S[j]:=by
   rw[bj,hsj,cG];rfl
  rw[fold];have lj:=len j;generalize (S.take j).foldl (setT sp (lowB bs)) (bx m.toNat 0)=ts at hD lj ⊢;generalize S[j]=st at hq hin hd;obtain⟨f0,f1'⟩:=frmS_rng E hin;obtain⟨t0,t1⟩:=jC E hin;have hbi:st.i<bs.length:=by lia
  obtain⟨qb,hqb,hqb2⟩:=iX rb (gE hbi);have el:lowB bs st.i=bs[st.i].1:=by unfold lowB;rw[ae,gE hbi];rfl
  have hat:∀z:Int,0≤z→z<m.toNat→(ts.map V.int)[z.toNat]? =some (V.int (tm ts z)):=λz z0 z1=>by
   rw[az,gE (by lia:z.toNat<ts.length)];unfold tm;rw[ae,gE (by lia:z.toNat<ts.length)];rfl
  apply⟨_,rfl,_,rfl,_,rfl,.ref t,q,b,m,sp,st,sAt sp st.i,rfl,hv.same SD,SD _ _ hq,ju hin,?_⟩;rw[(lL hin).2];apply⟨Lt,_,_,_,rfl,rfl,SqL.of hD,atI_int f0 (hat _ f0 f1'),?_⟩;apply⟨_,rfl,q,_,_,_,rfl,rfl,SqT.of (SD _ _ hq),aO (j:=1) rfl,_,rfl,_,rfl,q,_,_,_,rfl,rfl,SqT.of (SD _ _ hq),aO (j:=0) rfl,pb,_,_,_,rfl,rfl,SqT.of (SD _ _ hpb),aO (j:=st.i) hqb,qb,_,_,_,rfl,rfl,SqT.of (SD _ _ hqb2),aO (j:=0) rfl,_,_,rfl,rfl,?_,_,_,rfl,rfl,?_⟩
  ·exact .inl (by rcases hd with e | e <;> rw[e] <;> decide)
  apply⟨_,rfl,_,rfl,_,rfl,.ref t,q,b,m,sp,st,sAt sp st.i,rfl,hv.same SD,SD _ _ hq,ju hin,?_⟩;rw[(lL hin).1];apply⟨Lt,_,_,_,rfl,rfl,hD,qz t0 (by rw[aa];lia),?_⟩;rw[map_set,←el];exact⟨λa o e=>by rw[bt (bF e hLtH)];exact SD _ _ e,aR,_,rfl⟩
 ·rintro σ HD ⟨SD,hD,w4,rfl⟩
  rw[lz,bo] at hD;apply⟨_,rfl,Lt,rfl,⟨_,SqL.of hD⟩,?_⟩;have lt:(ku sp (lowB bs) m.toNat S).length=m.toNat:=by have:=len S.length;rwa [bo] at this
  apply iT (K:=K) (a:=Lt) (xs:=(ku sp (lowB bs) m.toNat S).map V.int) (λi zs HC=>HC=HD∧zs=(((ku sp (lowB bs) m.toNat S).take i).map (· % b)).map V.int) ⟨rfl,rfl⟩ (λi zs HC hi ⟨e1,e2⟩=>⟨by rw[e1];exact SqL.of hD,by rw[e2,aa,aa,bM];lia⟩) (by rw[aa,lt];exact de ⋯) (λi x zs HC hx ⟨e1,e2⟩=>?_) (λzs HC ⟨e1,e2⟩ D hD2=>?_)
  ·subst e1
   rw[az] at hx;obtain⟨z,hz,rfl⟩:=aM.mp hx;apply fO ⟨_,rfl,t,_,_,_,rfl,rfl,SqT.of (SD _ _ ht),aO (j:=0) rfl,_,rfl,b,z,rfl,hb,?_⟩;rw[e2,bj,hz,aD,aD];exact⟨rfl,rfl⟩
  ·subst e1
   rw[aa,bo] at e2;have S3:bD HC (upd HC D (.lst zs)):=bD.put (bD.refl HC) hD2;apply⟨D,_,rfl,.inl (.inl aR),λq H4 S4 h4=>?_⟩;exact k q H4 (SD.trans (S3.trans S4)) (by rw[h4,e2];rfl)
def setF (sp:List Sn)(fs:List Int)(s:Stp):List Int:=fs.set (fb sp s).toNat (tm fs (kY sp s))
def fstS (sp:List Sn)(m:Nat)(S:List Stp):List Int:=S.foldl (setF sp) (j4 m)
theorem setF_len {sp:List Sn}:∀(S:List Stp) (fs:List Int),(S.foldl (setF sp) fs).length=fs.length
 | [],_=>rfl
 | s::S,fs=>by
  rw[bQ,setF_len S];exact eI
def fstS_len:(fstS sp m S).length=m:=by unfold fstS;rw[setF_len,kg]
def fstS_snoc {s:Stp}:fstS sp m (S++[s])=setF sp (fstS sp m S) s:=by unfold fstS;rw[cG];rfl
def snocRec {P:List α→Prop}(l:List α)(h0:P [])(h1:∀l a,P l→P (l++[a])):P l:=by
 have:∀r:List α,P r.reverse:=λr=>by
  induction r with
  | nil=>exact h0
  | cons a r ih=>rw[eY];exact h1 _ _ ih
 have h:=this l.reverse
 rwa [List.reverse_reverse] at h
theorem frm_rng0 (E:kQ m sp){t:Stp}(h:t.i<sp.length):0≤kY sp t∧kY sp t<m:=by
 have e:=(nI h).2;obtain⟨a,b,c,d⟩:=E _ (fc h);rw[←e];unfold frm;split <;> lia
theorem fstS_ok (E:kQ m sp)(h:Spr sp S):(∀s∈S,s.i<sp.length)→∀s∈S,tm (fstS sp m S) (fb sp s)=tm (fstS sp m S) (kY sp s):=by
 induction h with
 | nil=>exact λ_ s hs=>by cases hs
 | snoc h n o ih =>
  rename_i S s;intro hl t ht;have hl':∀t∈S,t.i<sp.length:=λt h'=>hl t (aJ _ h')
  have hs:s.i<sp.length:=hl s ∅;obtain⟨x0,x1⟩:=jC E hs;have len:(fstS sp m S).length=m:=fstS_len;rw[fstS_snoc];unfold setF
  rcases aI.mp ht with z | z
  ·rw[mS x0 ⋯ (jC E (hl' t z)).1,mS x0 ⋯ (frm_rng0 E (hl' t z)).1,rQ (λq=>(o t z).1 q.symm),rQ (λq=>(o t z).2 q.symm)]
   exact ih hl' t z
  ·rw[aw.mp z,mS x0 ⋯ x0,mS x0 ⋯ (frm_rng0 E hs).1,rR rfl,rQ (λq=>n q.symm)]
def Cn (sp:List Sn)(a c:Int):Prop:=∀π:Int→Prop,(∀x∈sp,π x.s↔π x.g)→(π a↔π c)
def Cn.refl {a:Int}:Cn sp a a:=λ_ _=>Iff.rfl
def Cn.symm {a c:Int}(h:Cn sp a c):Cn sp c a:=λπ hp=>(h π hp).symm
def Cn.trans {a c:Int}(h:Cn sp a c)(k:Cn sp c d):Cn sp a d:=λπ hp=>(h π hp).trans (k π hp)
def cn_step {s:Stp}(h:s.i<sp.length):Cn sp (kY sp s) (fb sp s):=λπ hp=>by
 obtain⟨e1,e2⟩:=nI h;rw[←e1,←e2];have:=hp _ (fc h);unfold frm too;split <;> first | exact this | exact this.symm
theorem fstS_cn (E:kQ m sp):∀(S:List Stp),(∀s∈S,s.i<sp.length)→∀x:Int,0≤x→x<m→Cn sp x (tm (fstS sp m S) x):=λS=>by
 apply snocRec (P:=λS=>(∀s∈S,s.i<sp.length)→∀x:Int,0≤x→x<m→Cn sp x (tm (fstS sp m S) x)) S ?_ ?_
 ·intro _ x x0 x1
  show Cn sp x (tm (j4 m) x);rw[mW x0 x1];exact Cn.refl
 ·intro S s ih hl x x0 x1
  have hs:s.i<sp.length:=hl s ∅;have ih:=ih λt h'=>hl t (aJ _ h')
  obtain⟨y0,y1⟩:=jC E hs;have len:(fstS sp m S).length=m:=fstS_len;rw[fstS_snoc];unfold setF;rw[mS y0 ⋯ x0]
  by_cases e:x=fb sp s
  ·rw[rR e,e]
   obtain⟨f0,f1⟩:=frm_rng0 E hs;exact(cn_step hs).symm.trans (ih _ f0 f1)
  ·rw[rQ e]
   exact ih x x0 x1
structure Lbl (m:Nat)(sp:List Sn)(fs:List Int):Prop where
 len:fs.length=m
 spn:∀x∈sp,tm fs x.s=tm fs x.g
 con:∀x:Int,0≤x→x<m→Cn sp x (tm fs x)
def Lbl.of (E:kQ m sp)(F:jo m sp l)(ok:SprOk m sp l S)(hl:∀i∈l,i<sp.length):Lbl m sp (fstS sp m S):=by
 have hS:∀s∈S,s.i<sp.length:=λs hs=>hl _ (ok.inn s hs).1
 apply⟨fstS_len,λx hx=>?_,fstS_cn E S hS⟩;obtain⟨k,hk,rfl⟩:=bK hx;have ek:sAt sp k=sp[k]:=by unfold sAt;rw[ae,gE hk];rfl
 rw[←ek];have H:=F.held E hk;apply(H (λz=>tm (fstS sp m S) (sAt sp k).s=tm (fstS sp m S) z) (λi hi=>?_) rfl);obtain⟨s,hs,rfl⟩:=ba.mp (ok.all i hi);have e:=fstS_ok E ok.spr hS s hs;obtain⟨f1,f2,f3,f4⟩:=qJ (hl _ hi);have hd:=(ok.inn s hs).2;obtain⟨i,d⟩:=s
 dsimp only at e f1 f2 f3 f4 hd ⊢
 rcases hd with rfl | rfl
 ·rw[f1,f2] at e;rw[e]
 ·rw[f3,f4] at e;rw[e]
def Lbl.same {fs:List Int}(h:Lbl m sp fs){x:Int}(x0:0≤x)(x1:x<m)(y0:0≤y)(y1:y<m):tm fs x=tm fs y↔Cn sp x y:=by
 constructor
 ·intro e
  have a:=h.con x x0 x1;rw[e] at a;exact a.trans (h.con y y0 y1).symm
 ·intro c
  exact(c (λz=>tm fs x=tm fs z) λz hz=>by rw[h.spn z hz]).mp rfl
def kI (fs:List Int)(f:Int):List Int:=((aG fs.length).filter λi=>decide (fs.getD i 0=f)).map λi:Nat=>(i:Int)
def iY (fs:List Int):List Int:=fs.foldl (λa f=>if f∈a then a else a++[f]) []
def n9 {fs:List Int}{f:Int}:iY (fs++[f])=if f∈iY fs then iY fs else iY fs++[f]:=by unfold iY;rw[cG];rfl
def kT {f:Int}:∀(fs:List Int),f∈iY fs↔f∈fs:=λfs=>by
 apply snocRec (P:=λfs=>f∈iY fs↔f∈fs) fs ?_ ?_
 ·exact Iff.rfl
 ·intro fs g ih
  rw[n9]
  by_cases e:g∈iY fs
  ·rw[rR e,ih,aI,aw]
   exact⟨.inl,λh=>h.elim id λz=>by rw[←z] at e;exact ih.mp e⟩
  ·rw[rQ e,aI,aI,ih]
def i7:∀(fs:List Int),(iY fs).Nodup:=λfs=>by
 apply snocRec (P:=λfs=>(iY fs).Nodup) fs ?_ ?_
 ·exact jI
 ·intro fs g ih
  rw[n9]
  by_cases e:g∈iY fs
  ·rw[rR e];exact ih
  ·rw[rQ e]
   exact nd_snoc ih e
def idxF_snoc {fs:List Int}{f g:Int}:kI (fs++[g]) f=if g=f then kI fs f++[(fs.length:Int)] else kI fs f:=by
 unfold kI;rw[av,cU,fj,eK,aD];have e1:(aG fs.length).filter (λi=>decide ((fs++[g]).getD i 0=f))=(aG fs.length).filter (λi=>decide (fs.getD i 0=f)):=by
  apply List.filter_congr λi hi=>?_
  rw[ae,ae,cu (bS.mp hi)]
 have e2:(fs++[g]).getD fs.length 0=g:=by
  rw[ae,bp (aB _),fY];rfl
 rw[e1,fA,kL]
 by_cases z:g=f
 ·rw[rR z,rR (by rw[decide_eq_true_eq,e2];exact z)];rfl
 ·rw[rQ z,rQ (by rw[decide_eq_true_eq,e2];exact z),jJ,c5]
theorem jD {fs:List Int}{f:Int}:z∈kI fs f↔0≤z∧z<fs.length∧tm fs z=f:=by
 unfold kI;rw[ba]
 constructor
 ·rintro⟨i,hi,rfl⟩
  obtain⟨a,c⟩:=bX.mp hi;have:=bS.mp a;exact⟨⋯,⋯,by unfold tm;rw[cA];exact rW c⟩
 ·rintro⟨a,c,d⟩
  exact⟨z.toNat,bX.mpr ⟨bS.mpr ⋯,rT d⟩,⋯⟩
end HN
namespace L2
open PySem PySem.Spec PyProof.Rows
section
variable {pins:List (aq×Obj)}{kvs:List (Key×V)}{k:Key}{z:V}{r:af}
def d_setdef (I:Inv X pins σ H s)(e:H a=some (.dK kvs))(ry:gL (kV k) u)(rz:gL z r)(hl:kvs.length<bf)
  (h1:∀v w' s',l6 kvs k=some v→Inv X pins σ H s'→gL v w'→Q w' s') (h2:∀s',l6 kvs k=none→Inv X pins σ (upd H a (.dK (nP kvs k z))) s'→Q r s') :
  aW (br X.prog X.w) A (call (.builtin "dict.setdefault") [.ref a,u,r]) Q E s:=by
 obtain⟨zz,hd,vs,rel,dd⟩:=dk_of I.hok e;apply call_meetsIn PySem.F.slot_dict_setdefault dd.typeIs PySem.F.entry_dict_setdefault (PySem.F.args_dict_setdefault_3 _ _ _) (kt_meets_setdefault (hW X.prog X.w) a (kV_is ry) hd r)
  ⟨vs,dd,by rw[←rel.length];exact zz,λw' hv=>?_,λhn h' dd' hs=>?_⟩
 ·cases l:l6 kvs k with
  | none =>
   have:=RelO.none_of (by rw[←l];exact rel.val k);rw[this] at hv;cases hv
  | some v =>
   obtain⟨w2,hw,rw'⟩:=RelO.some_of (v:=v) (o:=valueAt vs k) (by rw[←l];exact rel.val k);rw[hw] at hv;cases hv;exact h1 v _ _ l (I.tok _) rw'
 ·have l:l6 kvs k=none:=by
   cases l:l6 kvs k with
   | none=>rfl
   | some v =>
    obtain⟨w2,hw,_⟩:=RelO.some_of (v:=v) (o:=valueAt vs k) (by rw[←l];exact rel.val k);rw[hw] at hn;cases hn
  have he:∃q,h'.get? a=some q:=let ⟨q,_,_,hq,_⟩:=dd';⟨q,hq⟩;exact h2 _ l (d_write I (by rw[e];exact True.intro) hs he (dk_new (aQ (kA kvs k z) hl) hd (rel.put k rz) dd'))
end
def tDSetd (td ty tx:TE):TE:=λσ H Q=>td σ H λx H1=>∃a,x= .ref a∧IsDct H1 a∧ty σ H1 λy H2=>tx σ H2 λz H3=>∃kvs k,H3 a=some (.dK kvs)∧y=kV k∧kvs.length<bf ∧
 (∀v,l6 kvs k=some v→Q v H3)∧(l6 kvs k=none→Q z (upd H3 a (.dK (nP kvs k z))))
def isVV (r d:aq):HO:= .ext λh=>h.IsValuesView r d
def tDVals (td:TE):TE:=λσ H Q=>td σ H λx H1=>∃a kvs,x= .ref a∧H1 a=some (.dK kvs)∧∀p,H1 p=none→Q (.ref p) (upd H1 p (isVV p a))
structure M0 (X:Cx)(o:Expr)(m:Str)(apos:Pos)(cpos:Pos):Prop where
 base:kU o m X.env (eP o X.env)=eP o X.env
 few:((fB cpos (bB [] X.env)).all (fun x=> !x.1) && (backToKw cpos (keywordEach [] X.env)).all (fun x=>x.1.isSome)
  && decide (([]:List Expr).length+([]:List Keyword).length+(if ([]:List Keyword).isEmpty then 0 else 1)<30))=true
 line:(apos.endLine == cpos.line)=true
 trees:fB cpos (bB [] X.env)=[]
theorem Paired.getR {α β:Type}{F:α→β→Prop}:∀{l:List α} {k:List β},jS F l k→∀{i:Nat} {x:α},l[i]? =some x→∃y,k[i]? =some y∧F x y
 | _,_,.nil,_,_,h=>by cases h
 | _,_,.cons r t,0,x,h=>by cases h;exact⟨_,rfl,r⟩
 | _,_,.cons r t,i+1,x,h=>Paired.getR t (i:=i) h
section
variable {o f:Expr}{cpos:Pos}{td ty tx:TE}
def pe_dsetd (ho:PE X o td)(he:PE X e ty)(hf:PE X f tx)(m:M2 X o "setdefault" apos e f cpos):PE X (.Call (.Attribute o "setdefault" apos) [e,f] [] cpos) (tDSetd td ty tx):=by
 intro pins s σ H Q I h;apply wpAny_Call_method m.base m.few m.line PySem.F.plainAttrs_dict PySem.F.slot_dict_setdefault PySem.F.type_dict_setdefault (thn (ho pins s σ H _ I h) fun u s1 ⟨x,H1,I1,rx,a,ex,d,q1⟩=>?_);subst ex;obtain rfl:u=af.ref a:=rx;obtain ⟨t1,t2,_⟩:=isDct_at I1 d;apply ⟨t1,t2,?_⟩;rw [m.trees];apply jB rfl (Calls.evalArgs_plain (Calls.spliced_cons (thn (he pins s1 σ H1 _ I1 q1) fun iv s2 ⟨y,H2,I2,ry,q2⟩ =>
  Calls.spliced_cons (thn (hf pins s2 σ H2 _ I2 q2) fun fv s3 ⟨z,H3,I3,rz,kvs,k,ea,ey,hl,q3,q4⟩=>Calls.spliced_nil ?_))))
 subst ey;exact d_setdef I3 ea ry rz hl (λv w' s4 l I4 rw'=>⟨v,H3,I4,rw',q3 v l⟩) λs4 l I4=>⟨z,_,I4,rz,q4 l⟩
def pe_dvals (ho:PE X o td)(m:M0 X o "values" apos cpos):PE X (.Call (.Attribute o "values" apos) [] [] cpos) (tDVals td):=by
 intro pins s σ H Q I h;apply wpAny_Call_method m.base m.few m.line PySem.F.plainAttrs_dict PySem.F.slot_dict_values PySem.F.type_dict_values (thn (ho pins s σ H _ I h) λu s1 ⟨x,H1,I1,rx,a,kvs,ex,ea,q1⟩=>?_);subst ex;obtain rfl:u=af.ref a:=rx;obtain⟨t1,t2,_⟩:=isDct_at I1 (.inl ⟨kvs,.inl ea⟩);apply⟨t1,t2,?_⟩;rw[m.trees];obtain⟨zz,hd,vs,rel,dd⟩:=dk_of I1.hok ea;apply jB rfl (PySem.evalArgs_none ?_);apply call_meetsIn PySem.F.slot_dict_values dd.typeIs PySem.F.entry_dict_values (PySem.F.args_dict_values_1 _) (meets_dict_values (hW X.prog X.w) a hd) ⟨⟨vs,dd⟩,?_⟩;have hg:(s1.heap.push { cls:= .type "dict_values",data:= .fields #[.ref a] }).get? s1.heap.objs.size=some { cls:= .type "dict_values",data:= .fields #[.ref a] }:=aU _ rfl;apply⟨.ref s1.heap.objs.size,_,I1.laid (t':=s1.toks) (o:=isVV s1.heap.objs.size a) (λ_ _ z=>ax _ z) (aB _) ⟨⟨_,hg,rfl,rfl⟩,⟨_,hg⟩,λh1 h2 ⟨o,e,r⟩ k=>⟨o,k o e,r⟩⟩,rfl,q1 _ I1.fresh⟩
def call_listV (hc:X.calm=true):jV X (.type "list") (λxs H Q=>∃(r d:aq) (kvs:List (Key×V)),xs=[.ref r]∧H r=some (isVV r d)∧H d=some (.dK kvs)∧∀l,H l=none→Q (.ref l) (upd H l (.lst (kvs.map (·.2))))):=by
 intro pins s σ H xs us Q I r h;obtain⟨rv,d,kvs,rfl,hr,hd,q⟩:=h;obtain⟨u,rfl,ru⟩:=oo r;cases(show u=af.ref rv from ru);obtain⟨hv,_,_⟩:=I.hok rv _ hr;obtain⟨zz,lo,vs,rel,dd⟩:=dk_of I.hok hd;obtain⟨ep,hat⟩:=dd.dictAt;have ll:=rel.length;apply PySem.W.kdl_call (PySem.W.kdl_values (knd:=hW X.prog X.w) (kvs:=vs) (ep:=ep)) (I.ok.hd hc) ⟨hv,hat⟩ (by rw[←ll];exact zz) λh' tk acc c hk hg hi=>?_
 apply⟨.ref s.heap.objs.size,_,I.laid (t':=tk) (o:= .lst (kvs.map (·.2))) hk (aB _) ⟨?_,acc.toList,c,?_,?_⟩,rfl,q _ I.fresh⟩
 ·rw[aa];exact zz
 ·apply vals_at ((aa ..).trans (ll.trans (hi.1.symm.trans (cV ..).symm))) λi x hx=>?_
  rw[az] at hx;obtain⟨p,hp,rfl⟩:=aM.mp hx;have hik:i<acc.size:=by rw[hi.1,←ll];exact(ar.mp hp).1
  have e:=dQ hik;obtain⟨k',e2⟩:=hi.2 i _ e;apply⟨_,by rw[jX];exact e,?_⟩;obtain⟨q',hq',rq⟩:=Paired.getR rel hp;rw[e2] at hq';cases hq';exact rq.2
 ·rw[km];exact hg
end
def enumL_step {z i1:aq}{k:Nat}{xs:Array af}{x:af}(E0:IsEnum s.heap z i1 k was)(J0:s.heap.IsListIter i1 a k)(T0:s.heap.IsList a xs)(hx:xs[k]? =some x)(hzi:z≠i1)
  (q:∀ g,IsEnumOut g z i1 ((k:Int)+1) x s.heap.objs.size→g.IsListIter i1 a (k+1)→g.get? s.heap.objs.size=some { cls:= .type "tuple",data:= .seq #[.int k s.toks,x] }→g.objs.size=s.heap.objs.size+1 →
   (∀ c o,c≠z→c≠i1→s.heap.get? c=some o→g.get? c=some o)→Q (.ref s.heap.objs.size) { s with heap:=g,toks:=s.toks+1 }) :
  aW (br prog w) A (cO.«enumerate.__next__» ⟨[.ref z],[]⟩) (λfin s'=>∃v,fin= .done (.ret v)∧Q v s') E s:=by
 obtain⟨h0,gs,dr,tk,os⟩:=s;show aW _ _ (field (.ref z) 2 >>= _) _ _ _;apply ao (cS E0 rfl (x:= .ref i1) rfl ?_);apply ao (wpAny_nextOf_list_item J0 T0 hx λg1 J1 s1=>?_);have s1:cH i1 h0 g1:=s1;have E1:IsEnum g1 z i1 k was:=(s1.2 z hzi).trans E0;show aW _ _ (field (.ref z) 3 >>= _) _ _ ⟨g1,gs,dr,tk,os⟩;apply ao (cS E1 rfl (x:=rawInt k) rfl ?_);show aW _ _ (field (.ref z) 4 >>= _) _ _ ⟨g1,gs,dr,tk,os⟩;apply ao (cS E1 rfl (x:= .none) rfl ?_);show aW _ _ (mkInt k >>= _) _ _ ⟨g1,gs,dr,tk,os⟩;apply ao (wpAny_mkInt ?_);show aW _ _ (setField (.ref z) 3 (rawInt ((k:Int)+1)) >>= _) _ _ ⟨g1,gs,dr,tk+1,os⟩;apply ao (dN E1 ∅ λg2 E2 s2=>?_);have s2:cH z g1 g2:=s2;have E2:IsEnum g2 z i1 ((k:Int)+1) was:=E2;show aW _ _ (setField (.ref z) 4 .none >>= _) _ _ ⟨g2,gs,dr,tk+1,os⟩;apply ao (dN E2 ∅ λg3 E3 s3=>?_);have s3:cH z g2 g3:=s3;have E3:IsEnum g3 z i1 ((k:Int)+1) was:=E3;show aW _ _ (newTuple [.int k tk,x] >>= _) _ _ ⟨g3,gs,dr,tk+1,os⟩;apply ao (wpAny_newTuple ?_);have E4:IsEnum (g3.push { cls:= .type "tuple",data:= .seq #[.int k tk,x] }) z i1 ((k:Int)+1) was:=ax _ E3;have z3:g3.objs.size=h0.objs.size:=by rw[s3.1,s2.1,s1.1]
 have J4:(g3.push { cls:= .type "tuple",data:= .seq #[.int k tk,x] }).IsListIter i1 a (k+1):=by
  obtain⟨o,e,r⟩:=(J1.extBut s2.extBut hzi.symm).extBut s3.extBut hzi.symm;exact⟨o,ax _ e,r⟩
 have T4:(g3.push { cls:= .type "tuple",data:= .seq #[.int k tk,x] }).get? h0.objs.size=some { cls:= .type "tuple",data:= .seq #[.int k tk,x] }:=by rw[←z3];exact aU _ rfl
 have z4:(g3.push { cls:= .type "tuple",data:= .seq #[.int k tk,x] }).objs.size=h0.objs.size+1:=by rw[eE,z3]
 have k4:∀c o,c≠z→c≠i1→h0.get? c=some o→(g3.push { cls:= .type "tuple",data:= .seq #[.int k tk,x] }).get? c=some o:=λc o c1 c2 e=>ax _ (s3.extBut c o c1 (s2.extBut c o c1 (s1.extBut c o c2 e)))
 have zlt:z<h0.objs.size:=aN E0;generalize g3.push { cls:= .type "tuple",data:= .seq #[.int k tk,x] }=g4 at E4 J4 T4 z4 k4;rw[z3];show aW _ _ (ft (.ref z) >>= _) _ _ ⟨g4,gs,dr,tk+1,os⟩;apply ao ?_;unfold ft;apply ao (cS E4 rfl (x:= .none) rfl (aP ?_));simp only[if_true];apply ao (wpAny_rule ?_);apply ao (cS E4 rfl (x:=was) rfl ?_);apply ao (dN E4 ∅ λg5 E5 s5=>?_);have s5:cH z g4 g5:=s5;have E5:IsEnum g5 z i1 ((k:Int)+1) x:=E5;show aW _ _ (hV (.ref z) (.ref h0.objs.size) >>= _) _ _ ⟨g5,gs,dr,tk+1,os⟩;apply ao ?_;unfold hV;apply ao (dN E5 ∅ λg6 E6 s6=>?_);have s6:cH z g5 g6:=s6;have E6:IsEnumOut g6 z i1 ((k:Int)+1) x h0.objs.size:=E6;apply dN E6 ∅ λg7 E7 s7=>?_
 have s7:cH z g6 g7:=s7;have E7:IsEnumOut g7 z i1 ((k:Int)+1) x h0.objs.size:=E7;have up:∀c o,c≠z→g4.get? c=some o→g7.get? c=some o:=λc o c1 e=>s7.extBut c o c1 (s6.extBut c o c1 (s5.extBut c o c1 e))
 apply ao (jW (aP ⟨_,rfl,q g7 E7 ?_ (up _ _ (cZ zlt) T4) (by rw[s7.1,s6.1,s5.1,z4]) λc o c1 c2 e=>up c o c1 (k4 c o c1 c2 e)⟩));obtain⟨o,e,r⟩:=J4;exact⟨o,up _ o hzi.symm e,r⟩
def enumL_item {z i1:aq}{k:Nat}{xs:Array af}{x:af}{Q:Option af→ay→Prop}(E0:IsEnum s.heap z i1 k was)(J0:s.heap.IsListIter i1 a k)(T0:s.heap.IsList a xs)(hx:xs[k]? =some x)(hzi:z≠i1)
  (q:∀ g,IsEnumOut g z i1 ((k:Int)+1) x s.heap.objs.size→g.IsListIter i1 a (k+1)→g.get? s.heap.objs.size=some { cls:= .type "tuple",data:= .seq #[.int k s.toks,x] }→g.objs.size=s.heap.objs.size+1 →
   (∀ c o,c≠z→c≠i1→s.heap.get? c=some o→g.get? c=some o)→Q (some (.ref s.heap.objs.size)) { s with heap:=g,toks:=s.toks+1 }):aW (br prog w) A (pyNext (.ref z)) Q E s:=by
 have ht:s.TypeIs (.ref z) "enumerate" := ⟨_,E0,rfl⟩;unfold pyNext;apply ao (wpAny_attempt (dJ (name:=cj "__next__") ht kq (fJ kq ht F.entry_enumerate_next ?_ (F.args_enumerate_next_1 _))));exact enumL_step E0 J0 T0 hx hzi λg e1 e2 e3 e4 e5=>aP (q g e1 e2 e3 e4 e5)
def enumL_end {z i1:aq}{k:Nat}{xs:Array af}{Q:Option af→ay→Prop}(hh:A.handled=none)(E0:IsEnum s.heap z i1 k was)(J0:s.heap.IsListIter i1 a k)(T0:s.heap.IsList a xs)(hx:xs[k]? =none)
  (q:∀g,bO.ExtBut i1 s.heap g→Q none { s with heap:=g }):aW (br prog w) A (pyNext (.ref z)) Q E s:=by
 have ht:s.TypeIs (.ref z) "enumerate" := ⟨_,E0,rfl⟩;unfold pyNext;apply ao (wpAny_attempt (dJ (name:=cj "__next__") ht kq (fJ kq ht F.entry_enumerate_next ?_ (F.args_enumerate_next_1 _))));show aW _ _ (field (.ref z) 2 >>= _) _ _ _;apply ao (cS E0 rfl (x:= .ref i1) rfl ?_);apply ao (wpAny_nextOf_list_end hh J0 T0 hx λg x kp hxx=>?_);obtain⟨o,e1,e2⟩:=hxx;apply ao (wpAny_isInstance (T := "StopIteration") (b:=true) ⟨o,e1,e2⟩ isSubtype_stop ?_);exact aP (q _ kp)
section
open AutoSeq1 (wpAny_loadPart')
def enumL_new (a:aq)(xs:Array af) :
  Meets (cO.«enumerate.__new__» ⟨[.type "enumerate",.ref a],[]⟩) (fun _ R s=>s.heap.IsList a xs ∧
   R (.ok (.ret (.ref (s.heap.push { cls:= .type "list_iterator",data:= .fields #[.ref a,.int 0 0] }).objs.size)))
    {s with heap:=(s.heap.push { cls:= .type "list_iterator",data:= .fields #[.ref a,.int 0 0] }).push { cls:= .type "enumerate",data:= .fields #[.none,.bool false,.ref s.heap.objs.size,rawInt 0,.none,.none] } }) :=
 .of_wp λprog w A R s h=>by
  obtain⟨hp,g,d,tk,os⟩:=s;obtain⟨h1,h⟩:=h;have subE:=sub_enumerate;have k1:bO.IsList (ay.heap ⟨hp,g,d,tk,os⟩) a xs:=h1
  wp_walk using fT k1
  apply wpAny_stack_any λst=>aP ?_
  split
  ·rename_i c _ _ _ _ _
   cases(c == af.type "enumerate")
   ·wp_walk using fT k1
    exact⟨_,rfl,h⟩
   ·wp_walk using fT k1
    exact⟨_,rfl,h⟩
  ·wp_walk using fT k1
   exact⟨_,rfl,h⟩
def call_enumL {xs:Array af}(h1:s.heap.IsList a xs)
  (q:∀g,IsEnum g (s.heap.objs.size+1) s.heap.objs.size 0 .none→g.IsListIter s.heap.objs.size a 0→g.objs.size=s.heap.objs.size+2→(∀c o,s.heap.get? c=some o→g.get? c=some o)→Q (.ref (s.heap.objs.size+1)) { s with heap:=g }) :
  aW (br prog w) A (call (.type "enumerate") [.ref a]) Q E s:=by
 apply callType_new F.called_enumerate ↥0 (F.typeCall_enumerate_1 _) (F.newCall_enumerate_1 _) (λobj=>F.args_object_init_2 obj _) F.entry_enumerate_new (enumL_new a xs) ⟨h1,?_⟩;have e1:(s.heap.push { cls:= .type "list_iterator",data:= .fields #[.ref a,.int 0 0] }).objs.size=s.heap.objs.size+1:=eE ..;have f2:=aU (s.heap.push { cls:= .type "list_iterator",data:= .fields #[.ref a,.int 0 0] }) (o:={ cls:= .type "enumerate",data:= .fields #[.none,.bool false,.ref s.heap.objs.size,rawInt 0,.none,.none] }) rfl;show _∧_;rw[e1] at f2 ⊢;exact⟨⟨_,f2,rfl⟩,q _ f2 ⟨_,ax _ (aU _ rfl),rfl,rfl⟩ (by rw[eE,e1]) λc o x=>ax _ (ax _ x)⟩
end
def ItL (a:aq):It :=
 ⟨fun i H=>∃ xs x,H a=some (.lst xs)∧xs[i]? =some x,
  λi H v H'=>∃p x,H p=none∧v= .ref p∧H'=upd H p (.tup [.int (i:Nat),x])∧∀xs,H a=some (.lst xs)→xs[i]? =some x,
  fun i H=>∃ xs,H a=some (.lst xs)∧xs.length≤i⟩
def turn_enumL {k0}{z i1:aq}(a:aq)(hzi:z≠i1) :
  Turn P w K (.Tuple es k0 pos) (ItL a) [z,i1] z (λi h=>(∃was,IsEnum h z i1 i was)∧h.IsListIter i1 a i) where
 mem:=by simp
 obj:=λi h st c hc=>by
  obtain⟨⟨was,e1⟩,⟨o2,e2,_,d2⟩⟩:=st;simp only[aH,cz,or_false] at hc
  rcases hc with rfl | rfl
  ·exact⟨_,e1,λv z=>by cases z⟩
  ·exact⟨_,e2,λv z=>by rw[d2] at z;cases z⟩
 keep:=λi h h' st k=>by
  obtain⟨⟨was,e1⟩,⟨o2,e2,r2⟩⟩:=st;exact⟨⟨was,k z ∅ _ e1⟩,⟨o2,k i1 ∅ _ e2,r2⟩⟩
 item:=by
  intro X hP hw hK hc i pins s σ H E I hf st hg;subst hP hw hK;obtain⟨xs,x,ha,hx⟩:=hg;obtain⟨⟨was,e1⟩,j1⟩:=st;obtain⟨its,rv,pt,_⟩:=I.list (SqL.of (K:=X.K) ha);obtain⟨u,hu,ru⟩:=rv.get hx;have nz:∀e∈[z,i1],H e=none:=λe he=>(hf e he).1
  have hT:H s.heap.objs.size=none:=I.fresh;apply enumL_item e1 j1 (pt.isList) (x:=u) (by simpa using hu) hzi λg z1 m1 tp sz kk=>⟨_,rfl,?_⟩
  apply wpAny_letOwnedTupleGo_enum z1 λg2 z2 s2=>?_
  have s2:cH z g g2:=s2;have k2:∀e o,e ∉ [z,i1]→s.heap.get? e=some o→g2.get? e=some o:=λe o hn h=>by
   simp only[aH,cz,or_false,not_or] at hn;exact s2.extBut _ _ hn.1 (kk e o hn.1 hn.2 h)
  have zlt:z<s.heap.objs.size:=aN e1;have tp2:g2.get? s.heap.objs.size=some { cls:= .type "tuple",data:= .seq #[.int i s.toks,u] }:=s2.extBut _ _ (cZ zlt) tp;have trk:∀e o,H e=some o→e ∉ [z,i1]:=λe o he hm=>by rw[nz e hm] at he;cases he
  have I':=I.tok (s.toks+1);have J:Inv X pins σ (upd H s.heap.objs.size (.tup [.int (i:Nat),x])) { s with heap:=g2,toks:=s.toks+1 }:=by
   apply I'.turnAll (ch:=[z,i1]) (λe he=>hf e he) k2 (λe o h=>by rw[bt (bF h hT)];exact h) (λe o h n=>by rw[bt (bG (aN h))];exact n) λe o h=>?_
   by_cases q:e=s.heap.objs.size
   ·subst q
    rw[aR] at h;cases h;exact⟨by show 2≤bf;decide,[.int i s.toks,u],.cons ⟨_,rfl⟩ (.cons ru .nil),_,tp2,rfl,rfl,_,rfl⟩
   ·rw[bt q] at h
    apply (I.hok e o h).stay (fun c v hc' q'=>k2 c v (by
     rcases hc' with z' | z'
     ·rw[z'];exact trk e o h
     ·exact trk c _ z') q') (fun c q'=>by rw [bt (bF q' hT)];exact q') fun c xs q'=>by rw [bt (bF q' hT)];exact q'
  apply⟨.ref s.heap.objs.size,_,J,rfl,⟨_,x,hT,rfl,rfl,λxs' h'=>by rw[ha] at h';cases h';exact hx⟩,⟨⟨u,z2⟩,m1.extBut s2.extBut hzi.symm⟩,λe he=>?_⟩;obtain⟨o4,q4,_⟩:=j1;have hlt:e<s.heap.objs.size:=by
   simp only[aH,cz,or_false] at he
   rcases he with rfl | rfl
   ·exact aN e1
   ·exact aN q4
  rw[bt (bG hlt)];exact nz e he
 done:=by
  intro X hP hw hK hc i pins s σ H E I hf st hg;subst hP hw hK;obtain⟨xs,ha,hx⟩:=hg;obtain⟨⟨was,e1⟩,j1⟩:=st;obtain⟨its,rv,pt,_⟩:=I.list (SqL.of (K:=X.K) ha);obtain⟨f0,f1,f2,f3,f4,f5⟩:=hf i1 ∅;have hl:=rv.length;exact enumL_end (I.ok.hd hc) e1 j1 (pt.isList) (by simp;lia) λg kp=>⟨rfl,I.turned (t':=s.toks) (λb o hb e=>kp b o hb e) f0 f1 f3 f4 f5⟩
 self:=λ_ _ _ _ _ st h=>let ⟨⟨_,e1⟩,_⟩:=st;wpAny_pyIter_enum e1 h
def iEnumL (ta:TA):TI:=λσ H R=>ta σ H λvs H1=>∃a xs,vs=[.ref a]∧H1 a=some (.lst xs)∧R (ItL a) H1
def pi_enumL {ta:TA}{p:Pos}{k0}{pt:Pos}(hg:Gl X "enumerate")(hm:X.mg "enumerate" =none)(ha:PA X [ea] ta)(hs:bB [ea] X.env=[(false,eP ea X.env)]:=by rfl) :
  PI X (.Tuple es k0 pt) (.Call (.Name "enumerate" p) [ea] [] pos) (iEnumL ta):=by
 intro pins s σ H R I h;apply Call_ (mU I hg hm boot_enumerate (fH (thn (ha pos pins s σ H _ I h) λus s1 ⟨vs,H1,I1,r1,q1⟩=>?_) hs rfl));obtain⟨a,xs,e,hA,q⟩:=q1;subst e;obtain⟨u1,rfl,r2⟩:=oo r1;cases(show u1=af.ref a from r2);obtain⟨its,rv,pt',_⟩:=I1.list (SqL.of (K:=X.K) hA);apply call_enumL (pt'.isList) λg z1 j1 sz kk=>?_
 apply wpAny_pyIter_enum z1 ⟨s1.heap.objs.size+1,[s1.heap.objs.size+1,s1.heap.objs.size],_,ItL a,H1,rfl,I1.kept (t':=s1.toks) kk,turn_enumL a (by show @Ne Nat _ _;lia),⟨⟨_,z1⟩,j1⟩,λe he=>?_,q⟩;have hge:s1.heap.objs.size≤e:=by
  simp only[aH,cz,or_false] at he
  rcases he with rfl | rfl <;> (show @LE.le Nat _ _ _;lia)
 exact I1.fpOk hge (I1.hok.fresh hge)
theorem for_enumL {tb:TS}{D:kQ}(Pv:Nat→St→Hp→Prop)(h0:Pv 0 σ H)(hl:∀i σ H,i≤xs.length→Pv i σ H→H a=some (.lst xs))
  (hs:∀i x p σ H,xs[i]? =some x→Pv i σ H→H p=none→g (.ref p) σ (upd H p (.tup [.int (i:Nat),x])) λσ2 H2=>tb { D with nx:=Pv (i+1),ct:=Pv (i+1),bk:=D.nx } σ2 H2) (hd:∀σ H,Pv xs.length σ H→D.nx σ H) :
  ∃W:Nat→Nat→St→Hp→Prop,(∃m,W 0 m σ H)∧∀i m σ H,W i m σ H →
   ((ItL a).stop i H∧D.nx σ H)∨((ItL a).go i H∧∃N:St→Hp→Prop,(∀σ' H',N σ' H'→∃m',m'<m∧W (i+1) m' σ' H')∧∀x H',(ItL a).yld i H x H'→g x σ H' λσ2 H2=>tb { D with nx:=N,ct:=N,bk:=D.nx } σ2 H2):=by
 apply⟨λi m σ H=>i≤xs.length∧m=xs.length - i∧Pv i σ H,⟨_,bu _,rfl,h0⟩,λi m σ H ⟨hi,hm,hp⟩=>?_⟩;have qa:=hl i σ H hi hp
 by_cases e:i=xs.length
 ·subst e
  exact .inl ⟨⟨xs,qa,aB _⟩,hd σ H hp⟩
 ·have hlt:i<xs.length:=fE hi e
  apply .inr ⟨⟨xs,_,qa,gE hlt⟩,Pv (i+1),λσ' H' hp'=>⟨xs.length - (i+1),⋯,⋯,rfl,hp'⟩,λv H3 hy=>?_⟩;obtain⟨p,x,hn,rfl,rfl,hx⟩:=hy;exact hs i x p σ H (hx xs qa) hp hn
end L2
namespace HN
open PySem L2 PyProof.Rows
abbrev sParts:cF:=top 60
def PtsD (H:Hp)(zs:List V)(fs:List Int):Prop:=∃As:List aq,zs=As.map V.ref∧As.length=(iY fs).length∧∀(i:Nat) (f:Int) (A:aq),(iY fs)[i]? =some f→As[i]? =some A→H A=some (.lst ((kI fs f).map V.int))
inductive spParts (T:aq)(lp:Pos)(lq:Str)(vs:List V)(H:Hp)(Q:VK)(_:XK):Prop
 | mk (v:V)(b m:Int)(sp:List Sn)(_:vs=[v])(_:IsD H v (jv b m sp))(_:jb b m sp)(_:L2.LamT T lp lq H)(_:∀(L:aq) (zs:List V) (fs:List Int) (H':Hp),L2.Tb T H H'→L2.LamT T lp lq H'→H' L=some (.lst zs)→PtsD H' zs fs→Lbl m.toNat sp fs→Q (.ref L) H')
def kvsF (hs:List Int)(As:List aq):List (Key×V):=List.zipWith (λf A=>(Sum.inl f,V.ref A)) hs As
def kvsF_len (h:As.length=hs.length):(kvsF hs As).length=hs.length:=by unfold kvsF;rw[List.length_zipWith,h,Nat.min_self]
theorem kvsF_snd:∀{hs:List Int} {As:List aq},As.length=hs.length→(kvsF hs As).map (·.2)=As.map V.ref
 | [],[],_=>rfl
 | _::_,[],h=>by cases h
 | [],_::_,h=>by cases h
 | f::hs,A::As,h=>by
  have:=kvsF_snd (hs:=hs) (As:=As) (by simpa using h);show V.ref A::(kvsF hs As).map (·.2)=_;rw[this];rfl
theorem kvsF_snoc:∀{hs:List Int} {As:List aq} {f:Int} {A:aq},As.length=hs.length→kvsF (hs++[f]) (As++[A])=kvsF hs As++[(.inl f,.ref A)]
 | [],[],_,_,_=>rfl
 | _::_,[],_,_,h=>by cases h
 | [],_::_,_,_,h=>by cases h
 | g::hs,B::As,f,A,h=>by
  have:=kvsF_snoc (hs:=hs) (As:=As) (f:=f) (A:=A) (by simpa using h);show(Sum.inl g,V.ref B)::kvsF (hs++[f]) (As++[A])=_;rw[this];rfl
theorem kvsF_no:∀{hs:List Int} {As:List aq} {f:Int},f ∉ hs→l6 (kvsF hs As) (.inl f)=none
 | [],_,_,_=>rfl
 | _::_,[],_,_=>rfl
 | g::hs,B::As,f,h=>by
  show l6 ((Sum.inl g,V.ref B)::kvsF hs As) (.inl f)=none;rw[gR (λz=>h (by injection z with z;rw[z];simp))];exact kvsF_no λz=>h (aA _ z)
theorem kvsF_at:∀{hs:List Int} {As:List aq} {f:Int} {A:aq} {i:Nat},hs.Nodup→hs[i]? =some f→As[i]? =some A→l6 (kvsF hs As) (.inl f)=some (.ref A)
 | [],_,_,_,_,_,h,_=>by cases h
 | _::_,[],_,_,_,_,_,h=>by cases h
 | g::hs,B::As,f,A,0,_,h,k=>by
  cases h;cases k;exact ik rfl
 | g::hs,B::As,f,A,i+1,nd,h,k=>by
  have nd:=bw.mp nd;have h:hs[i]? =some f:=h;show l6 ((Sum.inl g,V.ref B)::kvsF hs As) (.inl f)=_;rw[gR (λz=>nd.1 (by injection z with z;rw[z];exact aL h))];exact kvsF_at nd.2 h k
def frst_lt (F:jo m sp l):∀i∈l,i<sp.length:=λi hi=>by
 obtain⟨_,π,O,pm⟩:=F
 rcases(ky sp π (j4 m,[])).1 i (pm.mem_iff.mp hi) with z | z
 ·cases z
 ·exact O.lt z
def nodup_at {A:aq}{k:Nat}(nd:As.Nodup)(h:As[j]? =some A)(g:As[k]? =some A):j=k:=by
 obtain⟨h1,h2⟩:=ar.mp h;obtain⟨g1,g2⟩:=ar.mp g;exact(j7 nd).mp (h2.trans g2.symm)
theorem idxF_no {fs:List Int}{f:Int}(h:f ∉ fs):kI fs f=[]:=List.eq_nil_iff_forall_not_mem.mpr λz hz=>by
 obtain⟨a,c,d⟩:=jD.mp hz;exact h (d ▸ oN a c)
def gF {T:aq}(k:L2.LamT T lp lq H)(hT:∀ps,H T=some (.tbl ps)→H' T=some (.tbl ps))(hf:∀a o u,H a=some (.frz o u)→H' a=some (.frz o u)):L2.LamT T lp lq H':=L2.LamG.stay k hT hf
def ox:bY ["net","firsts","step","parts","happening","first"] pza (defScope sParts):=by trivial
theorem ok_parts (F:Fun K "parts_of" "parts_of" sParts f fd)(T:Nm mg)(T2:Nt mg)(G1:Fn K mg "spread_of" sSpread pza f1 fd1)(F1:‹0› 7 f1 fd1 pza (spSpread Tb0 lp lq))(G2:Fn K mg "leads_to" sTo pzc f2 fd2)(G3:Fn K mg "leads_from" sFrom pzc f3 fd3):‹0› 8 f fd pza (spParts Tb0 lp lq):=by
 have F2:‹0› 1 f2 fd2 pzc spTo:=ok_to G2.F;have F3:‹0› 1 f3 fd3 pzc ra:=qh G3.F;specialize F.ok ox;obtain ⟨v,b,m,sp,rfl,hv,N,hT,k⟩:=h;have hr1:gP 1 _:=hr.mono ↥0;obtain ⟨t,p,ys,rfl,ht,hp,hl,hy⟩:=fe hv;apply ⟨_,PSl.h (aZ ⟨(psZ 1 ox.nd (dI (rL rfl) rfl T2.tlist boot_list (ai (dI qM rfl T2.range boot_range (ai (ixZ (pv 0)) aF)) aF)))⟩
  (aZ ⟨(ig bH rfl (gh (pc1 G1 F1 hr (ai (pv 0) aF))) (pgZ 2 ox.nd) (cE (oP (dO gG (pv 1) (pc1 G3 F3 hr1 (ai (pv 0) (ai (pv 2) aF))) (fun _ _=>rfl)) (p9 (pv 1) (pc1 G2 F2 hr1 (ai (pv 0) (ai (pv 2) aF))) lQ))))⟩
  (aZ ⟨(psZ 3 ox.nd pe_dnewK)⟩
  (aZ ⟨(ig bH rfl (pi_enumL rfl T2.enum (ai (pv 1) aF)) (pg_tup rfl (kR (pgZ 4 ox.nd) (kR (pgZ 5 ox.nd) pgs_nil))) (cE (iK (mE bh bV bU gm (pe_dsetd (pv 3) (pv 5) (ji aF) ⟨rfl,rfl,rfl,rfl⟩) (ai (pv 4) aF)))))⟩
  (cP ⟨(bZ (dI (call_listV rfl) rfl T2.tlist boot_list (ai (pe_dvals (pv 3) ⟨rfl,rfl,rfl,rfl⟩) aF)))⟩))))),?_⟩
 have m1:=N.m1;have m2:=N.m2;have em:((m.toNat:Nat):Int)=m:=dv ⋯;apply⟨_,rfl,t,_,_,_,rfl,rfl,SqT.of ht,aO (j:=1) rfl,m,rfl,λq0 H0 S0 h0=>?_⟩;apply⟨q0,m.toNat,rfl,by rw[h0,em],⋯,λL1 hL1=>?_⟩;have nL1:H L1=none:=S0.free hL1;have S1:bD H (upd H0 L1 (.lst ((aG m.toNat).map λk=>V.int (k:Nat)))):=S0.put hL1;have h1:(upd H0 L1 (.lst ((aG m.toNat).map λk=>V.int (k:Nat)))) L1=some (.lst ((j4 m.toNat).map V.int)):=by
  rw[aR];unfold j4;rw[cW];rfl
 generalize upd H0 L1 (.lst ((aG m.toNat).map λk=>V.int (k:Nat)))=H1 at S1 h1 ⊢;apply⟨_,rfl,.ref t,b,m,sp,rfl,hv.same S1,N,LamT.same S1 hT,λLS zS l S H2 tb2 hT2 hLS1 hLS dS fr ok=>?_⟩;have lz:zS.length=S.length:=by rw[dS.length];unfold fF;rw[aa]
 obtain⟨ps,eT⟩:=LamT.tbl (LamT.same S1 hT);have nT:∀{a:aq} {o:HO},H1 a=some o→(∀ps,o≠ .tbl ps)→a≠Tb0:=λe n z=>by rw[z,eT] at e;exact n _ (bE e).symm
 have h2:H2 L1=some (.lst ((j4 m.toNat).map V.int)):=tb2 _ _ (nT h1 (λ_ z=>by cases z)) h1;have K12:kK H1 H2:=λa xs e=>tb2 _ _ (nT e (λ_ z=>by cases z)) e
 have hv2:IsD H2 (.ref t) (jv b m sp):=cg K12 (hv.same S1);have ht2:=K12 _ _ (S1 _ _ ht);have nLS:LS≠L1:=λz=>by rw[z,h1] at hLS1;cases hLS1
 have E:=N.ends;have hin:∀s∈S,s.i<sp.length:=λs hs=>frst_lt fr _ (ok.inn s hs).1
 have len:∀j,((S.take j).foldl (setF sp) (j4 m.toNat)).length=m.toNat:=λj=>by rw[setF_len,kg]
 apply⟨LS,rfl,⟨_,SqL.of hLS⟩,?_⟩;apply jE (K:=K) (a:=LS) (xs:=zS) (λj σ HD=>(∀a o,a≠L1→H2 a=some o→HD a=some o)∧HD L1=some (.lst (((S.take j).foldl (setF sp) (j4 m.toNat)).map V.int))∧∃w2,σ=[some (.ref t),some (.ref L1),w2,none,none,none]) ⟨λ_ _ _ e=>e,h2,none,rfl⟩ (λj σ HD _ ⟨h,_⟩=>SqL.of (h _ _ nLS hLS)) ?_ ?_
 ·rintro j y σ HD hy' ⟨KD,hD,w2,rfl⟩
  have hj:j<S.length:=by have:=(ar.mp hy').1;lia
  have hsj:=gE hj;obtain⟨y',hy2,dy⟩:=dS.at (i:=j) (d:= .tup ((Stp.row S[j]).map Dt.int)) (by unfold fF;rw[az,hsj];rfl);rw[hy'] at hy2;cases hy2;obtain⟨q,qs,rfl,hq,rq⟩:=dy.tup_of;have eq:=rq.ints_of;subst eq;have fold:(S.take (j+1)).foldl (setF sp) (j4 m.toNat)=setF sp ((S.take j).foldl (setF sp) (j4 m.toNat)) S[j]:=by
   rw[bj,hsj,cG];rfl
  rw[fold];have lj:=len j;generalize (S.take j).foldl (setF sp) (j4 m.toNat)=ts at hD lj ⊢;have hinj:=hin _ (aY hj);generalize S[j]=st at hq hinj;obtain⟨f0,f1'⟩:=frmS_rng E hinj;obtain⟨t0,t1⟩:=jC E hinj;have hat:∀z:Int,0≤z→z<m.toNat→(ts.map V.int)[z.toNat]? =some (V.int (tm ts z)):=λz z0 z1=>by
   rw[az,gE (by lia:z.toNat<ts.length)];unfold tm;rw[ae,gE (by lia:z.toNat<ts.length)];rfl
  have KT:kK H2 HD:=λa xs e=>KD a _ (fM e h2 nofun) e
  have hvD:=cg KT hv2;have hqD:=KT _ _ hq;apply⟨_,rfl,_,rfl,_,rfl,.ref t,q,b,m,sp,st,sAt sp st.i,rfl,hvD,hqD,ju hinj,?_⟩;rw[(lL hinj).2];apply⟨L1,_,_,_,rfl,rfl,SqL.of hD,atI_int f0 (hat _ f0 f1'),?_⟩;apply⟨_,rfl,_,rfl,_,rfl,.ref t,q,b,m,sp,st,sAt sp st.i,rfl,hvD,hqD,ju hinj,?_⟩;rw[(lL hinj).1];apply⟨L1,_,_,_,rfl,rfl,hD,qz t0 (by rw[aa];lia),?_⟩;rw[map_set];exact⟨λa o n e=>by rw[bt n];exact KD _ _ n e,aR,_,rfl⟩
 rintro σ HD ⟨KD,hD,w2,rfl⟩;rw[lz,bo] at hD;have lb:Lbl m.toNat sp (fstS sp m.toNat S):=Lbl.of E fr ok (frst_lt fr);have hD:HD L1=some (.lst ((fstS sp m.toNat S).map V.int)):=hD;have lF:=lb.len;generalize fstS sp m.toNat S=fs at hD lb lF;apply λDa hDa=>?_
 have nDL:Da≠L1:=λz=>by rw[z,hD] at hDa;cases hDa
 have S3:bD HD (upd HD Da (.dK [])):=(bD.refl HD).put hDa;have e3:(upd HD Da (.dK [])) Da=some (.dK []):=aR;have h3:=S3 _ _ hD;generalize upd HD Da (.dK [])=H3 at S3 e3 h3 ⊢;apply⟨_,rfl,L1,_,rfl,h3,?_⟩;apply for_enumL (a:=L1) (xs:=fs.map V.int) (λi σ HE=>(∀a o,a≠Da→H3 a=some o→HE a=some o)∧(∃As:List aq,HE Da=some (.dK (kvsF (iY (fs.take i)) As))∧As.length=(iY (fs.take i)).length∧As.Nodup∧(∀A∈As,H3 A=none)∧∀(j:Nat) (f:Int) (A:aq),(iY (fs.take i))[j]? =some f→As[j]? =some A→HE A=some (.lst ((kI (fs.take i) f).map V.int)))∧∃w4 w5,σ=[some (.ref t),some (.ref L1),w2,some (.ref Da),w4,w5]) ⟨λ_ _ _ e=>e,⟨[],e3,rfl,jI,λ_ h=>(by cases h),λ_ _ _ h=>(by cases h)⟩,none,none,rfl⟩ (λi σ HE _ ⟨h,_⟩=>h _ _ (cK nDL) h3) ?_ ?_
 ·rintro i x p σ HE hx ⟨KE,⟨As,eDa,lA,ndA,frA,hA⟩,w4,w5,rfl⟩ hp0
  rw[az] at hx;obtain⟨f,hf,rfl⟩:=aM.mp hx;have hi:i<fs.length:=(ar.mp hf).1;have li:(fs.take i).length=i:=by rw[bM];lia
  have et:fs.take (i+1)=fs.take i++[f]:=by rw[bj,hf];rfl
  have SE:bD HE (upd HE p (.tup [.int (i:Nat),.int f])):=(bD.refl HE).put hp0;have ep:(upd HE p (.tup [.int (i:Nat),.int f])) p=some (.tup [.int (i:Nat),.int f]):=aR;generalize upd HE p (.tup [.int (i:Nat),.int f])=HF at SE ep ⊢;apply⟨p,_,rfl,SqT.of ep,rfl,_,_,rfl,_,_,rfl,rfl,?_⟩;apply⟨_,rfl,Da,rfl,.inl ⟨_,.inl (SE _ _ eDa)⟩,_,rfl,bu _,λLn hLn=>?_⟩;have hLE:HE Ln=none:=SE.free hLn;have SG:bD HE (upd HF Ln (.lst [])):=SE.put hLn;have eLn:(upd HF Ln (.lst [])) Ln=some (.lst []):=aR;generalize upd HF Ln (.lst [])=HG at SG eLn ⊢;have few:(iY (fs.take i)).length≤16:=by
   have:=lO (i7 (fs.take i)) λz hz=>(kT _).mp hz
   lia
  have nLD:Ln≠Da:=λz=>by rw[z,eDa] at hLE;cases hLE
  have app:∀(A:aq) (HI:Hp),(∀a o,a≠Da→HE a=some o→HI a=some o)→∀(As':List aq),HI Da=some (.dK (kvsF (iY (fs.take i++[f])) As'))→As'.length=(iY (fs.take i++[f])).length→As'.Nodup→(∀A∈As',H3 A=none)→HI A=some (.lst ((kI (fs.take i) f).map V.int))→A≠Da→H3 A=none→(∃j:Nat,(iY (fs.take i++[f]))[j]? =some f∧As'[j]? =some A)→(∀(j:Nat) (g:Int) (B:aq),(iY (fs.take i++[f]))[j]? =some g→As'[j]? =some B→B≠A→HI B=some (.lst ((kI (fs.take i) g).map V.int))∧g≠f) →
    (∀a o,a≠Da→H3 a=some o→(upd HI A (.lst ((kI (fs.take i) f).map V.int++[.int (i:Nat)]))) a=some o)∧(∃As:List aq,(upd HI A (.lst ((kI (fs.take i) f).map V.int++[.int (i:Nat)]))) Da=some (.dK (kvsF (iY (fs.take (i+1))) As))∧As.length=(iY (fs.take (i+1))).length∧As.Nodup∧(∀A∈As,H3 A=none)∧∀(j:Nat) (g:Int) (B:aq),(iY (fs.take (i+1)))[j]? =some g→As[j]? =some B→(upd HI A (.lst ((kI (fs.take i) f).map V.int++[.int (i:Nat)]))) B=some (.lst ((kI (fs.take (i+1)) g).map V.int))):=by
   intro A HI KI As' d1 d2 d3 d4 hAI nAD nA3 ⟨j0,a1,a2⟩ oth;rw[et];apply⟨λa o n e=>?_,As',by rw[bt (cK nAD)];exact d1,d2,d3,d4,λj g B hg hB=>?_⟩
   ·rw[bt (λz=>by rw[z,nA3] at e;cases e)]
    exact KI _ _ n (KE _ _ n e)
   ·by_cases z:B=A
    ·have eg:g=f:=by
      have:j=j0:=by
       have hj:=(ar.mp hB).1;have hj0:=(ar.mp a2).1;rw[z] at hB;exact nodup_at d3 hB a2
      rw[this,a1] at hg;exact(bE hg).symm
     rw[z,aR,eg,idxF_snoc,rR rfl,aD,li];rfl
    ·obtain⟨o1,o2⟩:=oth j g B hg hB z
     rw[bt z,idxF_snoc,rQ (λq=>o2 q.symm)];exact o1
  apply⟨_,.inl f,SG _ _ eDa,rfl,aS (by rw[kvsF_len lA];lia:_<1000) (by decide:1000≤bf),λv hv=>?_,λhn=>?_⟩
  ·by_cases mem:f∈iY (fs.take i)
   ·obtain⟨j,hj,ej⟩:=bK mem
    have ej:(iY (fs.take i))[j]? =some f:=by rw[gE hj,ej]
    have hjA:j<As.length:=by lia
    have eA:=gE hjA;rw[kvsF_at (i7 _) ej eA] at hv;cases hv;have hAE:=hA j f _ ej eA;have hAG:=SG _ _ hAE;have nAD:As[j]≠Da:=λz=>by rw[z,eDa] at hAE;cases hAE
    apply⟨.inl ⟨rfl,_,SqL.of hAG⟩,_,rfl,As[j],_,_,rfl,rfl,hAG,?_,?_⟩
    ·have:(kI (fs.take i) f).length≤16:=by unfold kI;rw[aa];exact aQ (cw _ _) (by rw[bb];lia)
     rw[aa];exact aS (by lia:_<1000) (by decide:1000≤bf)
    ·have eh:iY (fs.take i++[f])=iY (fs.take i):=by rw[n9,rR mem]
     obtain ⟨r1,r2⟩:=app As[j] HG (fun a o _ e=>SG _ _ e) As (by rw [eh];exact SG _ _ eDa) (by rw [eh];exact lA) ndA frA hAG nAD (frA _ (aY hjA)) ⟨j,by rw [eh];exact ej,eA⟩ (fun j' g B hg hB nB=>by
      rw[eh] at hg;apply⟨SG _ _ (hA j' g B hg hB),λz=>nB ?_⟩;have:j'=j:=by
       rw[z] at hg;obtain⟨h1,h2⟩:=ar.mp hg;obtain⟨g1,g2⟩:=ar.mp ej;exact(j7 (i7 _)).mp (h2.trans g2.symm)
      rw [this,eA] at hB;exact (bE hB).symm)
     exact⟨r1,r2,_,_,rfl⟩
   ·rw[kvsF_no mem] at hv;cases hv
  ·have mem:f ∉ iY (fs.take i):=λmem=>by
    obtain⟨j,hj,ej⟩:=bK mem;have ej:(iY (fs.take i))[j]? =some f:=by rw[gE hj,ej]
    rw[kvsF_at (i7 _) ej (gE (by lia:j<As.length))] at hn;cases hn
   have eh:iY (fs.take i++[f])=iY (fs.take i)++[f]:=by rw[n9,rQ mem]
   have ei:kI (fs.take i) f=[]:=idxF_no λz=>mem ((kT _).mpr z)
   rw[putK_new _ hn,←kvsF_snoc lA,←eh];have hH3:H3 Ln=none:=by
    cases z:H3 Ln with
    | none=>rfl
    | some o=>rw[KE _ _ nLD z] at hLE;cases hLE
   have inA:∀B∈As,∃o,HE B=some o:=λB hB=>by
    obtain⟨j,hj,ej⟩:=bK hB;exact⟨_,hA j _ B (gE (by lia:j<(iY (fs.take i)).length)) (by rw[gE hj,ej])⟩
   have nLA:Ln ∉ As:=λz=>by
    obtain⟨o,e⟩:=inA _ z;rw[hLE] at e;cases e
   have eLI:(upd HG Da (.dK (kvsF (iY (fs.take i++[f])) (As++[Ln])))) Ln=some (.lst ((kI (fs.take i) f).map V.int)):=by rw[bt nLD,ei];exact eLn
   apply ⟨.inl ⟨rfl,_,SqL.of eLI⟩,_,rfl,Ln,_,_,rfl,rfl,eLI,(by rw [ei];show 0<bf;decide),?_⟩;obtain ⟨r1,r2⟩:=app Ln _ (fun a o n e=>by rw [bt n];exact SG _ _ e) (As++[Ln]) aR (by rw [eh,av,av,lA];rfl) (nd_snoc ndA nLA) (fun A h=>by
    rcases aI.mp h with h | h
    ·exact frA A h
    ·rw[aw.mp h];exact hH3) eLI nLD hH3 ⟨(iY (fs.take i)).length,by rw[eh,bp (aB _),fY];rfl,by rw[←lA,bp (aB _),fY];rfl⟩ (λj g B hg hB nB=>by
     have hjl:j<As.length:=by
      have:=(ar.mp hB).1;rw[av,cU] at this
      rcases Nat.lt_or_ge j As.length with z | z
      ·exact z
      ·exfalso
       have:j=As.length:=by lia
       rw[this,bp (aB _),fY] at hB;exact nB (bE hB).symm
     rw [cu hjl] at hB;rw [eh,cu ⋯] at hg;have hBE:=hA j g B hg hB;apply ⟨?_,fun z=>mem (by rw [←z];exact aL hg)⟩;rw [bt (fun z=>by rw [z,eDa] at hBE;cases hBE)];exact SG _ _ hBE)
   exact⟨r1,r2,_,_,rfl⟩
 rintro σ HE ⟨KE,⟨As,eDa,lA,ndA,frA,hA⟩,w4,w5,rfl⟩;rw[aa,bo] at eDa lA hA;apply⟨_,rfl,Da,_,rfl,eDa,λr hr=>⟨r,Da,_,rfl,aR,by rw[bt (bF eDa hr)];exact eDa,λL hL=>?_⟩⟩;have S4:bD HE (upd (upd HE r (isVV r Da)) L (.lst ((kvsF (iY fs) As).map (·.2)))):=((bD.refl HE).put hr).put hL;have e4:(upd (upd HE r (isVV r Da)) L (.lst ((kvsF (iY fs) As).map (·.2)))) L=some (.lst (As.map V.ref)):=by rw[aR,kvsF_snd lA]
 generalize upd (upd HE r (isVV r Da)) L (.lst ((kvsF (iY fs) As).map (·.2)))=H4 at S4 e4 ⊢;have keep2:∀a o,a≠L1→H2 a=some o→H4 a=some o:=λa o n e=>by
  have e3':=S3 _ _ (KD _ _ n e);exact S4 _ _ (KE _ _ (λz=>by have q:=KD _ _ n e;rw[z,hDa] at q;cases q) e3')
 apply k L _ fs H4 (λa o n e=>keep2 a o (λz=>by rw[z,nL1] at e;cases e) (tb2 _ _ n (S1 _ _ e))) (gF hT2 (λps e=>keep2 _ _ (λz=>by rw[z,h2] at e;cases e) e) λa o u e=>keep2 _ _ (λz=>by rw[z,h2] at e;cases e) e) e4 ⟨As,rfl,lA,λi f A h1 h2=>S4 _ _ (hA i f A h1 h2)⟩ lb
abbrev sHeldF:cF:=top 63
abbrev pU:cF:=top 61
abbrev sMvP:cF:=top 62
def shM (b:Int)(ts us:List Int):List Int:=List.zipWith (λt u=>(t - u) % b) ts us
def shM_len {us:List Int}(h:us.length=ts.length):(shM b ts us).length=ts.length:=by unfold shM;rw[List.length_zipWith,h,Nat.min_self]
theorem shM_tm {us:List Int}(h:us.length=ts.length){k:Int}(h0:0≤k)(h1:k<ts.length):tm (shM b ts us) k=(tm ts k - tm us k) % b:=by
 have h2:k.toNat<ts.length:=by lia
 have h3:k.toNat<us.length:=by lia
 unfold tm shM;rw[ae,ae,ae,List.getElem?_zipWith,gE h2,gE h3];rfl
inductive ph (vs:List V)(H:Hp)(Q:VK)(_:XK):Prop
 | mk (v:V)(u1 u2:aq)(b m:Int)(sp:List Sn)(ts us:List Int)(_:vs=[v,.ref u1,.ref u2])(_:IsD H v (jv b m sp))(_:0<b)(_:H u1=some (.tup (ts.map V.int)))(_:H u2=some (.tup (us.map V.int)))(_:us.length=ts.length)(_:ts.length≤1000)(_:∀(L:aq) (H':Hp),bD H H'→H L=none→H' L=some (.lst ((shM b ts us).map V.int))→Q (.ref L) H')
def setA (v:Int→Int)(l:List Int)(X:List Int):List Int:=l.foldl (λX z=>X.set z.toNat (v z)) X
theorem setA_len {v:Int→Int}:∀(l X:List Int),(setA v l X).length=X.length
 | [],_=>rfl
 | z::l,X=>by
  show(setA v l (X.set z.toNat (v z))).length=_;rw[setA_len l,eI]
theorem setA_tm {v:Int→Int}{k:Int}(k0:0≤k):∀(l X:List Int),(∀z∈l,0≤z∧z<X.length)→tm (setA v l X) k=if k∈l then v k else tm X k
 | [],_,_=>by rw[rQ ∅];rfl
 | z::l,X,h=>by
  obtain⟨z0,z1⟩:=h z ∅;show tm (setA v l (X.set z.toNat (v z))) k=_;rw[setA_tm k0 l _ (λy hy=>by rw[eI];exact h y (aA _ hy)),mS z0 z1 k0]
  by_cases e:k∈l
  ·rw[rR e,rR (aA _ e)]
  ·rw[rQ e]
   by_cases q:k=z
   ·rw[rR q,rR (by rw[q];simp),q]
   ·rw[rQ q,rQ (λy=>(aH.mp y).elim q e)]
def setA_snoc {v:Int→Int}{l X:List Int}:setA v (l++[z]) X=(setA v l X).set z.toNat (v z):=by unfold setA;rw[cG];rfl
inductive spMvP (vs:List V)(H:Hp)(Q:VK)(_:XK):Prop
 | mk (v:V)(p u q:aq)(b m:Int)(sp:List Sn)(zs:List V)(fs ts:List Int)(g:Int→Int)(_:vs=[v,.ref p,.ref u,.ref q])(_:IsD H v (jv b m sp))(_:0<b)(_:H p=some (.lst zs))(_:PtsD H zs fs)(_:H u=some (.tup (ts.map V.int)))(_:fs.length=ts.length)(_:ts.length≤1000)(_:H q=some (.lst (((iY fs).map g).map V.int)))(_:∀(r:aq) (H':Hp) (X:List Int),bD H H'→H' r=some (.tup (X.map V.int))→X.length=ts.length→(∀k:Int,0≤k→k<ts.length→tm X k=(tm ts k+g (tm fs k)) % b)→Q (.ref r) H')
def hdF (fs:List Int)(f:Int):Int:=(kI fs f).headD 0
theorem idxF_hd {fs:List Int}{f:Int}(h:f∈iY fs):(kI fs f)[0]? =some (hdF fs f)∧0≤hdF fs f∧hdF fs f<fs.length∧tm fs (hdF fs f)=f:=by
 have h:=(kT fs).mp h;obtain⟨i,hi,e⟩:=bK h;have m0:((i:Nat):Int)∈kI fs f:=jD.mpr ⟨⋯,⋯,by unfold tm;rw[cA,ae,gE hi];exact e⟩;unfold hdF;cases e2:kI fs f with
 | nil=>rw[e2] at m0;cases m0
 | cons a l=>exact⟨rfl,jD.mp (by rw[e2];exact bq)⟩
inductive spHeldF (vs:List V)(H:Hp)(Q:VK)(_:XK):Prop
 | mk (v:V)(p u1 u2:aq)(b m:Int)(sp:List Sn)(zs:List V)(fs ts us:List Int)(_:vs=[v,.ref p,.ref u1,.ref u2])(_:IsD H v (jv b m sp))(_:0<b)(_:H p=some (.lst zs))(_:PtsD H zs fs)(_:H u1=some (.tup (ts.map V.int)))(_:H u2=some (.tup (us.map V.int)))(_:us.length=ts.length)(_:fs.length=ts.length)(_:ts.length≤1000)(_:∀(r:aq) (H':Hp) (X:List Int),bD H H'→H' r=some (.tup (X.map V.int))→X.length=ts.length→(∀k:Int,0≤k→k<ts.length→tm X k=(tm us k+(tm ts (hdF fs (tm fs k)) - tm us (hdF fs (tm fs k))) % b) % b)→Q (.ref r) H')
def scShifts:bY pzl pzl (defScope pU):=by trivial
theorem ok_shifts (F:Fun K "shifts_between" "shifts_between" pU f fd)(T2:Nt mg)(G1:Fn K mg "rest_by" sRest pzg f1 fd1):‹0› 2 f fd pzl ph:=by
 have F1:‹0› 1 f1 fd1 pzg spRest:=ok_rest G1.F;specialize F.ok scShifts;obtain⟨v,u1,u2,b,m,sp,ts,us,rfl,hv,b0,h1,h2,lu,few,k⟩:=h;obtain⟨t,p,ys,rfl,ht,hp,hl,hy⟩:=fe hv;apply⟨_,PSl.h (cP ⟨(bZ (pE (xs:=["time","base"]) (fr:=pza) (js:=[0]) rfl (pi_zip2 rfl T2.zip (ai (pv 1) (ai (pv 2) aF))) ⇑0 rfl ⇑0 (by exists pU) rfl ⇑0 (λ_ _ _ _ _=>pg_two rfl ⇑0 rfl rfl) (λ_ _ _ _ _=>⟨(pc1 G1 F1 hr (ai (dO (r:=pq K) dF (pv 2) bP (λ_ _=>rfl)) (ai (dB kz (pv 0) (pv 1)) aF))),gC⟩)))⟩),?_⟩;apply⟨_,rfl,_,rfl,⟨false,u1⟩,⟨false,u2⟩,_,_,rfl,h1,h2,?_⟩;apply oJ (K:=K) (c1:=⟨false,u1⟩) (c2:=⟨false,u2⟩) (xs:=ts.map V.int) (ys:=us.map V.int) (λi zs H2=>bD H H2∧zs=((shM b ts us).take i).map V.int) ⟨bD.refl H,rfl⟩ (λi zs H2 hi ⟨S2,e2⟩=>⟨S2 _ _ h1,S2 _ _ h2,?_⟩) (by rw[aa,aa,lu];exact aB _) (λi x y zs pz H2 hx hx' ⟨S2,e2⟩ hpz=>?_) (by rw[aa,lu];exact de few) (λzs H2 ⟨S2,e2⟩ D hD=>?_)
 ·rw[e2,aa,bM];lia
 ·rw[az] at hx hx'
  obtain⟨x,ex,rfl⟩:=aM.mp hx;obtain⟨y,ey,rfl⟩:=aM.mp hx';have S3:bD H (upd H2 pz (.tup [.int x,.int y])):=S2.put hpz;generalize upd H2 pz (.tup [.int x,.int y])=H3 at S3 ⊢;apply fO ?_;apply⟨_,rfl,t,_,_,_,rfl,rfl,SqT.of (S3 _ _ ht),aO (j:=0) rfl,_,rfl,_,rfl,_,_,rfl,rfl,b,_,rfl,b0,S3,?_⟩;have e3:(shM b ts us)[i]? =some ((x - y) % b):=by unfold shM;rw[List.getElem?_zipWith,ex,ey]
  rw[e2,bj,e3,aD];rfl
 ·rw[aa,lu,←shM_len (b:=b) lu,bo] at e2
  rw[e2];exact k D _ (S2.put hD) (S2.free hD) aR
def scMvP:bY ["net","parts","table","shifts","times","part","shift","happening"] pzr (defScope sMvP):=by trivial
theorem ok_mvP (F:Fun K "moved_in_parts" "moved_in_parts" sMvP f fd)(T:Nm mg)(T2:Nt mg)(G1:Fn K mg "rest_by" sRest pzg f1 fd1):‹0› 2 f fd pzr spMvP:=by
 have F1:‹0› 1 f1 fd1 pzg spRest:=ok_rest G1.F;specialize F.ok scMvP;obtain ⟨v,p,u,q,b,m,sp,zs,fs,ts,g,rfl,hv,b0,hp,hz,hu,lf,few,hq,k⟩:=h;obtain ⟨t,pp,ys,rfl,ht,hpp,hl,hy⟩:=fe hv;obtain ⟨As,rfl,lA,hA⟩:=hz;apply ⟨_,PSl.h (aZ ⟨(psZ 4 scMvP.nd (dI oT rfl T2.tlist boot_list (ai (pv 2) aF)))⟩
  (aZ ⟨(ig bH rfl (pi_zip2 rfl T2.zip (ai (pv 1) (ai (pv 3) aF))) (pg_tup rfl (kR (pgZ 5 scMvP.nd) (kR (pgZ 6 scMvP.nd) pgs_nil))) (cE (ig bH rfl (gh (pv 5)) (pgZ 7 scMvP.nd) (cE (oP (pc1 G1 F1 hr (ai (ixZ (pv 0)) (ai (dB i6 (dO dF (pv 2) (pv 7) (fun _ _=>rfl)) (pv 6)) aF))) (p9 (pv 4) (pv 7) lQ))))))⟩
  (cP ⟨(bZ (dI gH rfl T.ttup fW (ai (pv 4) aF)))⟩))),?_⟩
 apply⟨_,rfl,u,_,rfl,.inr (SqT.of hu),λL hL=>?_⟩;have S1:bD H (upd H L (.lst (ts.map V.int))):=(bD.refl H).put hL;have h1:(upd H L (.lst (ts.map V.int))) L=some (.lst (ts.map V.int)):=aR;generalize upd H L (.lst (ts.map V.int))=H1 at S1 h1 ⊢;apply⟨_,rfl,_,rfl,⟨true,p⟩,⟨true,q⟩,_,_,rfl,S1 _ _ hp,S1 _ _ hq,?_⟩;apply for_zip2 (c1:=⟨true,p⟩) (c2:=⟨true,q⟩) (xs:=As.map V.ref) (ys:=((iY fs).map g).map V.int) (λj σ H2=>bD H H2∧(∃X:List Int,H2 L=some (.lst (X.map V.int))∧X.length=ts.length∧∀k:Int,0≤k→k<ts.length→tm X k=if tm fs k∈(iY fs).take j then (tm ts k+g (tm fs k)) % b else tm ts k)∧∃v5 v6 v7,σ=[some (.ref t),some (.ref p),some (.ref u),some (.ref q),some (.ref L),v5,v6,v7]) ⟨S1,⟨ts,h1,rfl,λk _ _=>by rw[rQ ∅]⟩,none,none,none,rfl⟩ (λi σ H2 _ ⟨S2,_⟩=>⟨S2 _ _ hp,S2 _ _ hq⟩) (by rw[aa,aa,aa,lA]) ?_ ?_
 ·rintro j x y pz σ H2 hx hx' ⟨S2,⟨X,hX,lX,eX⟩,v5,v6,v7,rfl⟩ hpz
  rw[az] at hx;obtain⟨A,eA,rfl⟩:=aM.mp hx;rw[az,az] at hx';obtain⟨_,e0,rfl⟩:=aM.mp hx';obtain⟨f,ef,rfl⟩:=aM.mp e0;have S3:bD H (upd H2 pz (.tup [.ref A,.int (g f)])):=S2.put hpz;have h3:(upd H2 pz (.tup [.ref A,.int (g f)])) pz=some (.tup [.ref A,.int (g f)]):=aR;have hX3:(upd H2 pz (.tup [.ref A,.int (g f)])) L=some (.lst (X.map V.int)):=by rw[bt (bF hX hpz)];exact hX
  generalize upd H2 pz (.tup [.ref A,.int (g f)])=H3 at S3 h3 hX3 ⊢;have hAH:=hA j f A ef eA;have hm:∀z∈kI fs f,0≤z∧z<X.length:=λz hz=>by
   obtain⟨a,c,_⟩:=jD.mp hz;exact⟨a,⋯⟩
  apply⟨pz,_,rfl,SqT.of h3,rfl,_,_,rfl,_,_,rfl,rfl,?_⟩;apply⟨_,rfl,A,rfl,⟨_,SqL.of (S3 _ _ hAH)⟩,?_⟩;apply jE (K:=K) (a:=A) (xs:=(kI fs f).map V.int) (λi σ HD=>bD H HD∧HD L=some (.lst ((setA (λz=>(tm ts z+g f) % b) ((kI fs f).take i) X).map V.int))∧∃w7,σ=[some (.ref t),some (.ref p),some (.ref u),some (.ref q),some (.ref L),some (.ref A),some (.int (g f)),w7]) ⟨S3,hX3,v7,rfl⟩ (λi σ HD _ ⟨h,_⟩=>SqL.of (h _ _ hAH)) ?_ ?_
  ·rintro i y σ HD hy' ⟨SD,hD,w7,rfl⟩
   rw[az] at hy';obtain⟨z,ez,rfl⟩:=aM.mp hy';obtain⟨z0,z1⟩:=hm z (aL ez);apply⟨_,rfl,t,_,_,_,rfl,rfl,SqT.of (SD _ _ ht),aO (j:=0) rfl,_,rfl,_,rfl,u,_,_,_,rfl,rfl,SqT.of (SD _ _ hu),kr z0 ⋯,_,rfl,_,_,rfl,rfl,b,_,rfl,b0,?_⟩;apply⟨_,rfl,_,rfl,L,_,_,_,rfl,rfl,hD,qz z0 (by rw[aa,setA_len];lia),?_⟩;rw[map_set,bj,ez];exact⟨λa o e=>by rw[bt (bF e hL)];exact SD _ _ e,by rw[aR];show _=some (HO.lst ((setA _ (_++[z]) X).map V.int));rw[setA_snoc],_,rfl⟩
  ·rintro σ HD ⟨SD,hD,w7,rfl⟩
   rw[aa,bo] at hD;apply⟨SD,⟨_,hD,by rw[setA_len];exact lX,λk k0 k1=>?_⟩,_,_,_,rfl⟩;rw[setA_tm k0 _ _ hm,bj,ef,eX k k0 k1]
   by_cases e:tm fs k=f
   ·rw[rR (jD.mpr ⟨k0,⋯,e⟩),rR (by rw[e];simp),e]
   ·rw[rQ (λq=>e (jD.mp q).2.2)]
    by_cases c:tm fs k∈(iY fs).take j
    ·rw[rR c,rR (aJ _ c)]
    ·rw[rQ c,rQ (λq=>(aI.mp q).elim c λr=>e (by simpa using r))]
 ·rintro σ H2 ⟨S2,⟨X,hX,lX,eX⟩,v5,v6,v7,rfl⟩
  apply⟨_,rfl,L,_,rfl,SqL.of hX,λr H4 S4 h4=>?_⟩;apply k r H4 X (S2.trans S4) h4 lX λk k0 k1=>?_
  rw[eX k k0 k1,rR];rw[aa,lA,bo];exact(kT fs).mpr (oN k0 ⋯)
def scHeldF:bY ["net","parts","table","other","shifts"] pzj (defScope sHeldF):=by trivial
theorem ok_heldF (F:Fun K "held_at_firsts" "held_at_firsts" sHeldF f fd)(G1:Fn K mg "shifts_between" pU pzl f1 fd1)(F1:‹0› 2 f1 fd1 pzl ph)(G2:Fn K mg "moved_in_parts" sMvP pzr f2 fd2)(F2:‹0› 2 f2 fd2 pzr spMvP):‹0› 3 f fd pzj spHeldF:=by
 specialize F.ok scHeldF;obtain ⟨v,p,u1,u2,b,m,sp,zs,fs,ts,us,rfl,hv,b0,hp,hz,h1,h2,lu,lf,few,k⟩:=h;apply ⟨_,PSl.h (aZ ⟨(psZ 4 scHeldF.nd (pc1 G1 F1 hr (ai (pv 0) (ai (pv 2) (ai (pv 3) aF)))))⟩
  (cP ⟨(bZ (pc1 G2 F2 hr (ai (pv 0) (ai (pv 1) (ai (pv 3) (ai (gi (fr:=["shifts"]) (js:=[4]) rfl (gh (pv 1)) ⇑0 rfl ⇑0 rfl (by exists sHeldF) ⇑0 rfl ⇑0 (fun _ _ _ _ _=>⟨(dO (r:=rIxL K) gG (pv 1) (dO (r:=rIxL K) gG (pv 0) bP (fun _ _=>rfl)) (fun _ _=>rfl)),gC⟩)) aF))))))⟩)),?_⟩
 apply⟨_,rfl,_,rfl,_,rfl,v,u1,u2,b,m,sp,ts,us,rfl,hv,b0,h1,h2,lu,few,λL H1 S1 _ e1=>?_⟩;have hz':=hz;obtain⟨As,rfl,lA,hA⟩:=hz';have fw:As.length≤ts.length:=by
  rw[lA,←lf];exact lO (i7 fs) λz hz=>(kT _).mp hz
 have hg:∀f∈iY fs,tm (shM b ts us) (hdF fs f)=(tm ts (hdF fs f) - tm us (hdF fs f)) % b:=λf hf=>by
  obtain⟨_,a,c,_⟩:=idxF_hd hf;exact shM_tm lu a ⋯
 apply⟨_,rfl,_,rfl,_,rfl,_,rfl,p,rfl,⟨_,SqL.of (S1 _ _ hp)⟩,?_⟩;apply iT (K:=K) (a:=p) (xs:=As.map V.ref) (λi zs H2=>H2=H1∧zs=(((iY fs).take i).map λf=>tm (shM b ts us) (hdF fs f)).map V.int) ⟨rfl,rfl⟩ (λi zs H2 hi ⟨e3,e4⟩=>⟨by rw[e3];exact SqL.of (S1 _ _ hp),?_⟩) (by rw[aa];exact de ⋯) (λi x zs H2 hx ⟨e3,e4⟩=>?_) (λzs H2 ⟨e3,e4⟩ D hD=>?_)
 ·rw[e4,aa,aa,bM];lia
 ·subst e3
  rw[az] at hx;obtain⟨A,eA,rfl⟩:=aM.mp hx;have hi:i<(iY fs).length:=by rw[←lA];exact(ar.mp eA).1
  have ef:=gE hi;obtain⟨q1,q2,q3,q4⟩:=idxF_hd (aY hi);apply fO ?_;apply⟨_,rfl,_,rfl,A,_,_,_,rfl,rfl,SqL.of (S1 _ _ (hA i _ A ef eA)),aO (j:=0) (by rw[az,q1];rfl),L,_,_,_,rfl,rfl,SqL.of e1,kr q2 (by rw[shM_len lu];lia),rfl,?_⟩;rw[e4,bj,ef,aD,aD];rfl
 ·subst e3
  have S5:=S1.put (o:= .lst zs) hD;have e5:(upd H2 D (.lst zs)) D=some (.lst (((iY fs).map λf=>tm (shM b ts us) (hdF fs f)).map V.int)):=by
   rw[aR,e4,aa,lA,bo]
  generalize upd H2 D (.lst zs)=H5 at S5 e5 ⊢;apply⟨v,p,u2,D,b,m,sp,_,fs,us,λf=>tm (shM b ts us) (hdF fs f),rfl,hv.same S5,b0,S5 _ _ hp,⟨As,rfl,lA,λi f A h1 h2=>S5 _ _ (hA i f A h1 h2)⟩,S5 _ _ h2,⋯,⋯,e5,λr H' X S6 h6 lX eX=>?_⟩;apply k r H' X (S5.trans S6) h6 ⋯ λk k0 k1=>?_
  have e9:=hg _ ((kT fs).mpr (oN k0 (by lia:k<fs.length)));rw[eX k k0 ⋯,←e9]
abbrev sOverR:cF:=top 48
abbrev sMid:cF:=top 50
abbrev sDeadL:cF:=top 51
def noFree {n:List (Str×cQ)}{p:Str×cQ→Prop}(h:(n.all λy=>y.2 != .free)=true):∀y∈n,y.2= .free→p y:=λy hy e=>by
 have:=gf.mp h y hy;rw[e] at this;exact rS this ↥0
def pi_tupK {l:Expr}(e:X.K=K)(hl:PE X l tl):PI X tg l (iTup K tl):=e ▸ lr hl
def scOverR:bY pzy pzy (defScope sOverR):=by trivial
def ok_overR (F:Fun K "rings_over" "rings_over" sOverR f fd):‹0› 1 f fd pzy spOverR:=by
 specialize F.ok scOverR;obtain⟨u,kk,rl,rg,rfl,hu,hrs,few,hlen,k⟩:=h;have lrl:rl.length=rg.length:=by rw[hrs.length,aa]
 apply⟨_,PSl.h (cP ⟨(bZ (gi (fr:=["span"]) (js:=[1]) rfl (gh (pv 0)) ⇑0 rfl ⇑0 rfl (by exists sOverR) ⇑0 rfl ⇑0 (λ_ _ _ _ _=>⟨(pv 0),(jZ (cy (r:=rIn K false) op_in_seq (pv 1) (by exact(gi (fr:=[]) (js:=[]) rfl (pi_tupK (K:=K) rfl (pv 0)) ⇑0 rfl ⇑0 rfl (noFree ⇑0) ⇑0 rfl ⇑0 (λ_ _ _ _ _=>⟨(dO (r:=pq K) dF (pv 0) bP (λ_ _=>rfl)),gC⟩))) rfl))⟩)))⟩),?_⟩;apply⟨_,rfl,u,rfl,⟨_,SqL.of hu⟩,?_⟩;apply iT (K:=K) (a:=u) (xs:=rl) (λi zs HC=>bD H HC∧zs.length≤i∧eM HC zs (((rg.take i).filter (iS kk)).map wayQ)) ⟨bD.refl H,aB _,.nil⟩ (λi zs HC hi ⟨S,e2,_⟩=>⟨SqL.of (S _ _ hu),e2⟩) (by rw[lrl];exact de ⋯) (λi x zs HC hx ⟨S,e2,e3⟩=>?_) (λzs HC ⟨S,e2,e3⟩ D hD=>?_)
 ·have hi:i<rg.length:=by have:=(ar.mp hx).1;lia
  obtain⟨d,ed,dx⟩:=hrs.get hx;rw[az,gE hi] at ed;cases ed;have dx:IsD H x (oU rg[i].2):=dx;obtain⟨px,yx,rfl,hpx,hlx,rx⟩:=gT dx;have et:(rg.take (i+1)).filter (iS kk)=(rg.take i).filter (iS kk)++(if iS kk rg[i]=true then [rg[i]] else []):=by
   rw[bj,gE hi,eK];congr 1;show List.filter _ [rg[i]]=_;rw[fA];rfl
  have ln:=hlen _ (aY hi);apply⟨_,rfl,_,rfl,px,rfl,⟨_,SqT.of (S _ _ hpx)⟩,?_⟩;apply jF (K:=K) (a:=px) (xs:=yx) (λj ws HD=>HD=HC∧ws=((rg[i].2.take j).map λs=>V.int (s.i:Int))) ⟨rfl,rfl⟩ (λj ws HD hj ⟨e1,e2'⟩=>⟨by rw[e1];exact SqT.of (S _ _ hpx),by rw[e2',aa,bM];lia⟩) (by rw[hlx];exact de ln) (λj y ws HD hy' ⟨e1,e2'⟩=>?_) (λws HD ⟨e1,e2'⟩ D hD=>?_)
  ·subst e1
   have hj:j<rg[i].2.length:=by have:=(ar.mp hy').1;lia
   obtain⟨q,hq,hq2⟩:=iX rx (gE hj);rw[hy'] at hq;cases hq;apply fO ?_;apply⟨_,rfl,q,_,_,_,rfl,rfl,SqT.of (S _ _ hq2),aO (j:=0) rfl,rfl,?_⟩;rw[e2',bj,gE hj,aD];rfl
  ·subst e1
   have S1:bD HD (upd HD D (.lst ws)):=bD.put (bD.refl HD) hD;have hD1:(upd HD D (.lst ws)) D=some (.lst ws):=aR;generalize upd HD D (.lst ws)=HE at S1 hD1 ⊢;rw[hlx,bo] at e2';subst e2';apply⟨D,_,rfl,.inl (SqL.of hD1),rfl,(by rw[List.all_map];exact gf.mpr λ_ _=>rfl),_,rfl,?_⟩;rw[show(rg[i].2.map λs=>V.int (s.i:Int))=(rg[i].2.map Stp.i).map (λ(i:Nat)=>V.int i) by rw[cW];rfl,inV_nat,et];show if (decide (kk∈rg[i].2.map Stp.i))=true then _ else _;have eo:iS kk rg[i]=decide (kk∈rg[i].2.map Stp.i):=rfl;rw[eo];apply ite2 (λc=>?_) (λc=>?_)
   ·apply⟨_,rfl,S.trans S1,by rw[av];show zs.length+1≤i+1;lia,?_⟩
    rw[rR c,aD];exact(e3.same S1).append (.cons (dx.same (S.trans S1)) .nil)
   ·apply⟨S.trans S1,⋯,?_⟩
    rw[rQ c,c5];exact e3.same S1
 ·rw[lrl,bo] at e3
  have S1:bD HC (upd HC D (.lst zs)):=bD.put (bD.refl HC) hD;apply k D zs _ (S.trans S1) (bD.free S hD) aR (e3.same S1)
def scMid:bY ["case","span","bound"] pzu (defScope sMid):=by trivial
def ok_mid (F:Fun K "middle_of" "middle_of" sMid f fd):‹0› 1 f fd pzu spMid:=by
 specialize F.ok scMid;obtain⟨c,kk,bs,rs,rfl,hc,hk,k⟩:=h;obtain⟨vb,u,rl,h1,h2,h3,h4⟩:=hc.ex;obtain⟨pb,yb,rfl,hpb,hlb,rb⟩:=gT h2;obtain⟨q,hq,hq2⟩:=iX rb (gE hk);have e0:bs.getD kk (0,0)=bs[kk]:=by rw[ae,gE hk];rfl
 apply ⟨_,PSl.h (aZ ⟨(psZ 2 scMid.nd (dO dF (ixZ (pv 0)) (pv 1) (fun _ _=>rfl)))⟩
  (cP ⟨(bZ (dB op_fdiv (dB i6 (ixZ (pv 2)) (ixZ (pv 2))) bP))⟩)),?_⟩
 apply⟨_,rfl,c,_,_,_,rfl,rfl,SqT.of h1,aO (j:=0) rfl,_,rfl,pb,_,_,_,rfl,rfl,SqT.of hpb,aO (j:=kk) hq,?_⟩;apply⟨_,rfl,q,_,_,_,rfl,rfl,SqT.of hq2,aO (j:=0) rfl,_,rfl,q,_,_,_,rfl,rfl,SqT.of hq2,aO (j:=1) rfl,_,_,rfl,rfl,_,_,rfl,rfl,⟨↥0,↥0⟩,?_⟩;rw[e0] at k;exact k
def scDeadL:bY ["net","case","ring"] pzs (defScope sDeadL):=by trivial
def ok_deadL (F:Fun K "dead_leaf" "dead_leaf" sDeadL f fd)(G1:Fn K mg "is_dead" sDead pze f1 fd1)(F1:‹0› 3 f1 fd1 pze spDead):‹0› 4 f fd pzs spDeadL:=by
 specialize F.ok scDeadL;obtain⟨v,c,b,m,sp,bs,rs,rfl,hv,b0,b61,hc,few,hin,k⟩:=h;obtain⟨vb,u,rl,h1,h2,h3,h4⟩:=hc.ex;have hr3:gP 3 _:=hr;have lrl:rl.length=rs.length:=by rw[h4.length,aa]
 apply ⟨_,PSl.h (aZ ⟨(ig bH rfl (gh (ixZ (pv 1))) (pgZ 2 scDeadL.nd) (cE (gg (iB (pc1 G1 F1 hr3 (ai (pv 0) (ai (ixZ (pv 1)) (ai (pv 2) aF))))) (cE (bZ (dG (ai jh (ai (pv 2) aF))))) cY)))⟩
  (cP ⟨(bZ oQ)⟩)),?_⟩
 apply⟨_,rfl,c,_,_,_,rfl,rfl,SqT.of h1,aO (j:=1) rfl,u,rfl,⟨_,SqL.of h3⟩,?_⟩;apply jE (K:=K) (a:=u) (xs:=rl) (λi σ H1=>bD H H1∧(∀q∈rs.take i,jA b bs q.2=false)∧∃v2,σ=[some v,some (.ref c),v2]) ⟨bD.refl H,λ_ h=>rS h ∅,none,rfl⟩ (λi σ H1 _ ⟨S,_⟩=>SqL.of (S _ _ h3)) ?_ ?_
 ·rintro i x σ H1 hx ⟨S1,hal,v2,rfl⟩
  have hi:i<rs.length:=by have:=(ar.mp hx).1;lia
  obtain⟨d,ed,dx⟩:=h4.get hx;rw[az,gE hi] at ed;cases ed;have dx:IsD H x (oU rs[i].2):=dx;apply⟨_,rfl,_,rfl,c,_,_,_,rfl,rfl,SqT.of (S1 _ _ h1),aO (j:=0) rfl,_,rfl,v,vb,x,b,m,sp,bs,rs[i].2,rfl,hv.same S1,b0,b61,h2.same S1,dx.same S1,hin _ (aY hi),λH2 S2=>⟨_,rfl,ite2 (λhc=>?_) (λhc=>?_)⟩⟩
  ·apply⟨_,rfl,o6,λq3 H3 S3 h3'=>?_⟩
   exact k (.ref q3) H3 (S1.trans (S2.trans S3)) (.inr ⟨rs[i],aY hi,.tup h3' (.cons (.str _) (.cons (dx.same (S1.trans (S2.trans S3))) .nil)),hc⟩)
  ·apply⟨S1.trans S2,λq hq=>?_,_,rfl⟩
   rw[bj,gE hi] at hq
   rcases aI.mp hq with z | z
   ·exact hal q z
   ·rw[aw.mp z];exact jM.mpr hc
 ·rintro σ H1 ⟨S1,hal,v2,rfl⟩
  rw[lrl,bo] at hal;exact k .non H1 S1 (.inl ⟨rfl,hal⟩)
abbrev cCuts:cF:=top 49
abbrev rA:cF:=clsOf cCuts 0
abbrev sSpanC:cF:=clsOf cCuts 1
abbrev sSidesC:cF:=clsOf cCuts 2
def lamPosC:List cF→Pos
 | [_,_,_,_,.Assign _ (.Call _ _ [⟨_,.Lambda _ _ _ lp,_⟩] _) _]=>lp
 | _=>⟨0,0,0,0⟩
abbrev lpC:Pos:=lamPosC (gW rA)
abbrev lqC:Str:=(("Cuts.__init__" :Str) ++ ".<locals>.") ++ "<lambda>"
def lenNC (K:au)(hK:X.K=K:=by rfl):jV X (.builtin "len") (λxs H Q=>∃p ys,xs=[.ref p]∧(SqL K H p ys∨SqT K H p ys)∧Q (.int ys.length) H):=by subst hK;exact bR
structure CutC (K:au)(C:aq):Prop where
 cl:Cls K C
 n1:oj K C "first_case"
 n2:oj K C "touched"
 n3:oj K C "order"
def scInitC:bY ["self","net","rings","touched"] ["self","net"] (defScope rA):=by trivial
theorem ok_initC {c:aq}(F:Fun K "__init__" "Cuts.__init__" rA f fd)(hcd:fd.code= .ref c)(CH:dg K c T1=true)(B:BM mg base)(ne:T0≠T1)(T:Nm mg)(T2:Nt mg)(ms:mg "sorted" =none)(CC:CutC K C)
  (G1:Fn K mg "rings_of" sRingsO pza f1 fd1) (F1:‹0› 8 f1 fd1 pza (spRingsO T0 p0 q0))
  (G2:Fn K mg "rings_over" sOverR pzy f2 fd2) (G3:Fn K mg "first_bounds" sFirst pza f3 fd3)
  (G4:Fn K mg "forest_of" mz pza f4 fd4) (F4:‹0› 6 f4 fd4 pza (lP T0 p0 q0)):‹0› 9 f fd ["self","net"] (spInitC T0 p0 q0 T1 lpC lqC C):=by
 have F2:‹0› 1 f2 fd2 pzy spOverR:=ok_overR G2.F;have F3:‹0› 1 f3 fd3 pza spFirst:=ok_first G3.F T;apply okC F hcd scInitC (by contradiction) (fun A outer s H vs Q E hr h=>?_);obtain ⟨x,dx,v,b,m,sp,rfl,hx,hv,N,hT0,hT1,k⟩:=h;have hr1:gP 1 _:=hr.mono ↥0;have hr6:gP 6 _:=hr.mono ↥0;have E:=N.ends;have few:=N.few;have m1:=N.m1;have m2:=N.m2;apply ⟨_,PSl.h (aZ ⟨(psZ 2 scInitC.nd (pc1 G1 F1 hr (ai (pv 1) aF)))⟩
  (aZ ⟨(psZ 3 scInitC.nd (gi (fr:=["rings"]) (js:=[2]) rfl (gk rfl T2.range (ai (cp bR rfl T.len bC (ai (ixZ (pv 1)) aF)) aF)) ⇑0 rfl ⇑0 rfl (by exists rA) ⇑0 rfl ⇑0 (fun _ _ _ _ _=>⟨(pc1 G2 F2 hr1 (ai (pv 1) (ai (pv 0) aF))),gC⟩)))⟩
  (aZ ⟨(ps_fld (pv 0) (dG (ai (pc1 G3 F3 hr1 (ai (pv 1) aF)) (ai (pv 2) aF))) rfl)⟩
  (aZ ⟨(ps_fld (pv 0) (pv 3) rfl)⟩
  (cP ⟨(ps_fld (pv 0) (pe_sortT (js:=[3]) (fr:=["touched"]) (x := "span") (c:=c) (P:=T1) rfl hr.depth rfl ms (pc1 G4 F4 hr6 (ai (pv 1) aF)) rfl rfl CH B (fun _ _ _ _ _ _=>rfl) rfl rfl rfl ⇑0 rfl ↥0 (by exists rA) rfl ⇑0
   (fun cl L f' cd s' H'=>pe_tup (ai (pe_un qY (cp (lenNC K) rfl T.len bC (ai (dO (r:=rIxL K) gG (pv 1) (pv 0) (fun _ _=>rfl)) aF))) (ai (pv 0) aF)))) rfl)⟩))))),?_⟩
 apply⟨_,rfl,v,b,m,sp,rfl,hv,N,hT0,λL rl l rg H1 tb1 hT01 fL hL dL R=>?_⟩;have fr:=R.fr;have xT0:x≠T0:=by obtain⟨ps,h⟩:=LamT.tbl hT0;exact fM hx h nofun
 have xT1:x≠T1:=by obtain⟨ps,h⟩:=LamT.tbl hT1;exact fM hx h nofun
 have K1:Kp H H1:=Tb.kp hT0 tb1;have hT11:=LamT.ntb hT1 hT0 (cK ne) tb1;have hx1:=tb1 x _ xT0 hx;have hv1:=cg K1.tup hv;have tl:l.length≤15:=by have:=fr.few E ⋯;lia
 have lrg:rg.length≤40:=by
  have:rg.length=(pX sp l).length:=by rw[←R.ks,aa]
  have h2:(pX sp l).length≤sp.length:=by unfold pX;exact aQ (cw _ _) (by rw[bb];exact aB _)
  lia
 have lng:∀q∈rg,q.2.length≤1000:=λq hq=>by
  have:=((R.rk q hq).rg N tl).few;lia
 have st1:∀a o,a≠T0→a≠T1→a≠x→H a=some o→H1 a=some o:=λa o n0 _ _ e=>tb1 a o n0 e
 obtain⟨t,p,ys,ev,ht,hp,hl,hy⟩:=fe hv1;subst ev;clear hy hv fL tb1;apply⟨_,rfl,t,_,_,_,rfl,rfl,SqT.of ht,aO (j:=2) rfl,p,_,rfl,.inr (SqT.of hp),_,rfl,⋯,⋯,?_⟩;apply ko (n:=((ys.length:Int)).toNat) (λi zs HC=>bD H1 HC∧zs.length=i∧∀j,j<i→∃u ql,zs[j]? =some (.ref u)∧HC u=some (.lst ql)∧eM HC ql ((rg.filter (iS j)).map wayQ)) ⟨bD.refl H1,rfl,λj hj=>rS hj (Nat.not_lt_zero _)⟩ (λi zs HC hi ⟨_,e2,_⟩=>Nat.le_of_eq e2) (de ⋯) (λi zs HC hi ⟨S,lz,dz⟩=>?_) (λzs HC ⟨S,lz,dz⟩ D hD=>?_)
 ·rw[fZ]
  apply fO ⟨_,rfl,_,rfl,L,i,rl,rg,rfl,S _ _ hL,dL.same S,lrg,lng,λL' rl' H2 S2 f2 h2 d2=>⟨S.trans S2,by rw[av,lz];rfl,λj hj=>?_⟩⟩
  rcases jn.mp hj with z | z
  ·obtain⟨u,ql,a1,a2,a3⟩:=dz j z
   exact⟨u,ql,by rw[cu ⋯];exact a1,S2 _ _ a2,a3.same S2⟩
  ·subst z
   exact⟨L',rl',by rw[bp ⋯,lz,fY];rfl,h2,d2⟩
 have S1:bD H1 (upd HC D (.lst zs)):=S.trans (bD.put (bD.refl HC) hD);have tch:TchD (upd HC D (.lst zs)) D sp.length rg:=by
  apply⟨zs,aR,by rw[lz];lia,λj hj=>?_⟩;obtain⟨u,ql,a1,a2,a3⟩:=dz j ⋯;have S2:bD HC (upd HC D (.lst zs)):=bD.put (bD.refl HC) hD;exact⟨u,ql,a1,S2 _ _ a2,a3.same S2⟩
 generalize upd HC D (.lst zs)=H2 at S1 tch ⊢;clear dz hD;apply⟨_,rfl,.ref t,b,m,sp,rfl,hv1.same S1,⋯,λub H3 S3 hub=>⟨_,rfl,o6,λq4 H4 S4 h4=>⟨_,rfl,x,C,dx,_,rfl,S4 _ _ (S3 _ _ (S1 _ _ hx1)),CC.cl,CC.n1,↥0,?_⟩⟩⟩;have S14:bD H1 H4:=S1.trans (S3.trans S4);have cs4:CsD H4 q4 (sp.map λz=>(z.l,z.o)) rg:=⟨ub,L,rl,h4,hub.same S4,S14 _ _ hL,dL.same S14⟩;have tch4:=tch.kp (bD.kp (S3.trans S4));have hx4:=S14 _ _ hx1;have K4:Kp H4 (upd H4 x (.ins C dx (nE "first_case" (.ref q4) []))):=Kp.upd hx4;have st5:∀a o,a≠T0→a≠T1→a≠x→H a=some o→(upd H4 x (.ins C dx (nE "first_case" (.ref q4) []))) a=some o:=λa o n0 n1 n2 e=>by rw[bt n2];exact S14 _ _ (st1 a o n0 n1 n2 e)
 have kp5:Kp H (upd H4 x (.ins C dx (nE "first_case" (.ref q4) []))):=K1.trans ((bD.kp S14).trans K4);have hx5:(upd H4 x (.ins C dx (nE "first_case" (.ref q4) []))) x=some (.ins C dx [("first_case",.ref q4)]):=aR;have hT05:=mO (o:= .ins C dx (nE "first_case" (.ref q4) [])) (LamT.same S14 hT01) hx4;have hT15:=mO (o:= .ins C dx (nE "first_case" (.ref q4) [])) (LamT.same S14 hT11) hx4;have hv5:=cg K4.tup (hv1.same S14);have cs5:=cs4.kp K4;have tch5:=tch4.kp K4;generalize upd H4 x (.ins C dx (nE "first_case" (.ref q4) []))=H5 at st5 kp5 hx5 hT05 hT15 hv5 cs5 tch5 ⊢;clear K4 hx4 tch4 cs4 S14 h4 S4 hub S3 tch S1 ht hp st1 hv1 hT11 hT01 hx1 K1 dL hL;apply⟨_,rfl,_,rfl,x,C,dx,_,rfl,hx5,CC.cl,CC.n2,(by show 1<1000;decide),?_⟩;have K5:Kp H5 (upd H5 x (.ins C dx (nE "touched" (.ref D) [("first_case",.ref q4)]))):=Kp.upd hx5;have st6:∀a o,a≠T0→a≠T1→a≠x→H a=some o→(upd H5 x (.ins C dx (nE "touched" (.ref D) [("first_case",.ref q4)]))) a=some o:=λa o n0 n1 n2 e=>by rw[bt n2];exact st5 a o n0 n1 n2 e
 have kp6:=kp5.trans K5;have hx6:(upd H5 x (.ins C dx (nE "touched" (.ref D) [("first_case",.ref q4)]))) x=some (.ins C dx [("first_case",.ref q4),("touched",.ref D)]):=aR;have hT06:=mO (o:= .ins C dx (nE "touched" (.ref D) [("first_case",.ref q4)])) hT05 hx5;have hT16:=mO (o:= .ins C dx (nE "touched" (.ref D) [("first_case",.ref q4)])) hT15 hx5;have hv6:=cg K5.tup hv5;have cs6:=cs5.kp K5;have tch6:=tch5.kp K5;generalize upd H5 x (.ins C dx (nE "touched" (.ref D) [("first_case",.ref q4)]))=H6 at st6 kp6 hx6 hT06 hT16 hv6 cs6 tch6 ⊢;clear K5 st5 kp5 hx5 hT05 hT15 hv5 cs5 tch5;apply⟨_,rfl,.ref t,b,m,sp,rfl,hv6,N,hT06,λu H7 ns tb7 hT07 hu F0=>?_⟩;obtain⟨l',π0,rfl,O0,pm0⟩:=F0.natsF;have el:l'=l:=jo.one (m:=m.toNat) (sp:=sp) ⟨F0,π0,O0,pm0⟩ fr;subst el;have K6:Kp H6 H7:=Tb.kp hT06 tb7;have hT17:=LamT.ntb hT16 hT06 (cK ne) tb7;have hx7:=tb7 x _ xT0 hx6;have st7:∀a o,a≠T0→a≠T1→a≠x→H a=some o→H7 a=some o:=λa o n0 n1 n2 e=>tb7 a o n0 (st6 a o n0 n1 n2 e)
 have kp7:=kp6.trans K6;have cs7:=cs6.kp K6;have tch7:=tch6.kp K6;clear K6 st6 kp6 hx6 hT06 hT16 hv6 cs6 tch6 tb7;have hlt:=(fr.pots E).nodup.2;have hnd:=(fr.pots E).nodup.1;have lns:(l'.map λ(i:Nat)=>(i:Int)).length=l'.length:=aa ..;have gns:∀i,i<l'.length→(l'.map λ(i:Nat)=>(i:Int)).getD i 0=((l'.getD i 0:Nat):Int):=λi hi=>by
  rw[ae,az,ae,gE hi];rfl
 apply⟨u,l'.map λ(i:Nat)=>(i:Int),λi=>(-(((rg.filter (iS (l'.getD i 0))).length:Nat):Int),((l'.getD i 0:Nat):Int)),rfl,hu,by rw[lns];lia,hT17,?_,λi hi H8 tb8=>?_,λD2 H8 π tb8 hT18 f8 pm8 _=>?_⟩
 ·apply List.Pairwise.of_map (S:=λa c:Int=>a≠c) Prod.snd (λa c h e=>h (by rw[e])) ?_
  rw[cW,lns];have e:(aG l'.length).map (Prod.snd ∘ λi=>(-(((rg.filter (iS (l'.getD i 0))).length:Nat):Int),((l'.getD i 0:Nat):Int)))=l'.map λ(i:Nat)=>(i:Int):=by
   apply List.ext_getElem (by rw[aa,aa,bb]) λi h1 h2=>?_
   rw[aa,bb] at h1;rw[j6,k5,j6];show((l'.getD i 0:Nat):Int)=_;rw[ae,gE h1];rfl
  rw[e,fP];exact(b9.mp hnd).imp λhh e=>hh ⋯
 ·rw[lns] at hi
  rw[gns i hi];obtain⟨tv,a1,a2,a3⟩:=tch7.ex;have hk:l'.getD i 0<sp.length:=by
   rw[ae,gE hi];exact hlt _ (aY hi)
  obtain⟨uu,ql,b1,b2,b3⟩:=a3 _ hk;have K8:Kp H7 H8:=Tb.kp hT17 tb8;have lq:ql.length=(rg.filter (iS (l'.getD i 0))).length:=by rw[b3.length,aa]
  apply⟨_,rfl,_,rfl,D,_,_,_,rfl,rfl,SqL.of (K8.lst _ _ a1),aO b1,uu,_,rfl,.inl (SqL.of (K8.lst _ _ b2)),_,rfl,_,rfl,o6,λa9 h9=>⟨bD.put (bD.refl H8) h9,a9,rfl,?_⟩⟩;rw[aR,lq]
 ·have K8:Kp H7 H8:=Tb.kp hT17 tb8
  have S9:bD H8 (upd H8 D2 (.lst (π.map λ(i:Nat)=>V.int ((l'.map λ(i:Nat)=>(i:Int)).getD i 0)))):=bD.put (bD.refl H8) f8;have h9:(upd H8 D2 (.lst (π.map λ(i:Nat)=>V.int ((l'.map λ(i:Nat)=>(i:Int)).getD i 0)))) D2=some (.lst ((π.map λi=>l'.getD i 0).map λ(i:Nat)=>V.int i)):=by
   rw[aR,cW];congr 2;apply gX λi hi=>?_
   have:=bS.mp (pm8.mem_iff.mp hi);rw[lns] at this;rw[gns i this];rfl
  generalize upd H8 D2 (.lst (π.map λ(i:Nat)=>V.int ((l'.map λ(i:Nat)=>(i:Int)).getD i 0)))=H9 at S9 h9 ⊢;have hx9:=S9 _ _ (tb8 x _ xT1 hx7);apply⟨_,rfl,x,C,dx,_,rfl,hx9,CC.cl,CC.n3,(by show 2<1000;decide),?_⟩;have K9:Kp H7 H9:=K8.trans (bD.kp S9);have hT08:=LamT.same S9 (LamT.ntb hT07 hT17 ne tb8);have hT19:=LamT.same S9 hT18;have KX:Kp H9 (upd H9 x (.ins C dx (nE "order" (.ref D2) [("first_case",.ref q4),("touched",.ref D)]))):=Kp.upd hx9;apply k l' rg _ (λa o n0 n1 n2 e=>?_) (kp7.trans (K9.trans KX)) (mO hT08 hx9) (mO hT19 hx9) R ⟨dx,q4,D,D2,_,aR,(cs7.kp K9).kp KX,(tch7.kp K9).kp KX,KX.lst _ _ h9,ord_perm (by rw[lns] at pm8;exact pm8)⟩;rw[bt n2];exact S9 _ _ (tb8 a o n1 (st7 a o n0 n1 n2 e))
def scSpanC:bY ["self","case","span","bound"] ["self","case"] (defScope sSpanC):=by trivial
def ok_spanC (F:Fun K "span_to_cut" "Cuts.span_to_cut" sSpanC f fd)(CC:CutC K C):‹0› 1 f fd ["self","case"] (spSpanC C):=by
 specialize F.ok scSpanC;obtain ⟨x,c,sp,l,rg,rs,bs,rfl,hx,hc,hl,few,k1,k2⟩:=h;obtain ⟨dx,c0,tl,ol,ord,h1,h2,h3,h4,h5⟩:=hx.ex;obtain ⟨vb,u,rl,c1,c2,c3,c4⟩:=hc.ex;obtain ⟨pb,yb,rfl,hpb,hlb,rb⟩:=gT c2;apply ⟨_,PSl.h (aZ ⟨(ig bH rfl (gh (pe_fld (pv 0) rfl)) (pgZ 2 scSpanC.nd) (PSl.h (aZ ⟨(psZ 3 scSpanC.nd (dO dF (ixZ (pv 1)) (pv 2) (fun _ _=>rfl)))⟩
  (cP ⟨(gg (cy op_lt (ixZ (pv 3)) (ixZ (pv 3)) (cL _)) (cE (bZ (pv 2))) cY)⟩))))⟩
  (cP ⟨(bZ oQ)⟩)),?_⟩
 apply⟨_,rfl,x,C,dx,_,_,rfl,h1,CC.cl,CC.n3,rfl,ol,rfl,⟨_,SqL.of h4⟩,?_⟩;apply jE (K:=K) (a:=ol) (xs:=ord.map λ(i:Nat)=>V.int i) (λi σ H1=>H1=H∧(∀j∈ord.take i,¬((bs.getD j (0,0)).1<(bs.getD j (0,0)).2))∧∃v2 v3,σ=[some (.ref x),some (.ref c),v2,v3]) ⟨rfl,λ_ h=>rS h ∅,none,none,rfl⟩ (λi σ H1 _ ⟨e,_⟩=>by rw[e];exact SqL.of h4) ?_ ?_
 ·rintro i y σ H1 hy ⟨rfl,hal,v2,v3,rfl⟩
  obtain⟨j,hj,rfl⟩:=mapI_at hy;have hm:j∈ord:=aL hj;have hjl:=h5.mem_iff.mp hm;have hjb:=hl j hjl;obtain⟨q,hq,hq2⟩:=iX rb (gE hjb);have e0:bs.getD j (0,0)=bs[j]:=by rw[ae,gE hjb];rfl
  apply⟨_,rfl,c,_,_,_,rfl,rfl,SqT.of c1,aO (j:=0) rfl,_,rfl,pb,_,_,_,rfl,rfl,SqT.of hpb,aO (j:=j) hq,?_⟩;apply⟨_,rfl,q,_,_,_,rfl,rfl,SqT.of hq2,aO (j:=0) rfl,_,rfl,q,_,_,_,rfl,rfl,SqT.of hq2,aO (j:=1) rfl,_,_,rfl,rfl,_,rfl,?_⟩;show if decide (bs[j].1<bs[j].2)=true then _ else _;apply ite2 (λhc=>?_) (λhc=>?_)
  ·exact⟨_,rfl,k2 j hjl (by rw[e0];exact rW hc)⟩
  ·apply⟨rfl,λz hz=>?_,_,_,rfl⟩
   rw[bj,hj] at hz
   rcases aI.mp hz with y | y
   ·exact hal z y
   ·rw[aw.mp (show z∈[j] from y),e0]
    exact λw=>hc (rT w)
 ·rintro σ H1 ⟨rfl,hal,v2,v3,rfl⟩
  rw[aa,bo] at hal;exact k1 λj hj=>hal j (h5.mem_iff.mpr hj)
def pj:bY ["self","case","span","at","bounds","one","other"] pzK (defScope sSidesC):=by trivial
theorem ok_sidesC (F:Fun K "sides" "Cuts.sides" sSidesC f fd)(CC:CutC K C)(G1:Fn K mg "with_bound" sWithB pzp f1 fd1):‹0› 2 f fd pzK (spSidesC C):=by
 have F1:‹0› 1 f1 fd1 pzp spWithB:=ok_withB G1.F;specialize F.ok pj;obtain⟨Hb,x,c,n,a,sp,l,rg,rs,bs,rfl,Sb,hx,hc,hn,lb,few,k⟩:=h;obtain⟨dx,c0,tl,ol,ord,h1,h2,h3,h4,h5⟩:=hx.ex;obtain⟨tv,t1,t2,t3⟩:=h3.ex;obtain⟨u,ql,b1,b2,b3⟩:=t3 n ⋯;obtain⟨vb,u0,rl,c1,c2,c3,c4⟩:=hc.ex;obtain⟨pb,yb,rfl,hpb,hlb,rb⟩:=gT c2;obtain⟨qn,hqn,hqn2⟩:=iX rb (gE hn);have e0:bs.getD n (0,0)=bs[n]:=by rw[ae,gE hn];rfl
 have e1:kZ bs n a=bs.set n (bs[n].1,a):=by unfold kZ;rw[e0]
 have e2:d7 bs n a=bs.set n (a+1,bs[n].2):=by unfold d7;rw[e0]
 apply ⟨_,PSl.h (aZ ⟨(psZ 4 pj.nd (ixZ (pv 1)))⟩
  (aZ ⟨(psZ 5 pj.nd (pc1 G1 F1 hr (ai (pv 4) (ai (pv 2) (ai (ixZ (dO dF (pv 4) (pv 2) (fun _ _=>rfl))) (ai (pv 3) aF))))))⟩
  (aZ ⟨(psZ 6 pj.nd (pc1 G1 F1 hr (ai (pv 4) (ai (pv 2) (ai (dB i6 (pv 3) bP) (ai (ixZ (dO dF (pv 4) (pv 2) (fun _ _=>rfl))) aF))))))⟩
  (cP ⟨(bZ (ji (ai (dG (ai (pv 6) (ai (dO gG (pe_fld (pv 0) rfl) (pv 2) (fun _ _=>rfl)) aF))) (ai (dG (ai (pv 5) (ai (dO gG (pe_fld (pv 0) rfl) (pv 2) (fun _ _=>rfl)) aF))) aF))))⟩)))),?_⟩
 apply⟨_,rfl,c,_,_,_,rfl,rfl,SqT.of c1,aO (j:=0) rfl,?_⟩;apply⟨_,rfl,_,rfl,_,rfl,_,rfl,pb,_,_,_,rfl,rfl,SqT.of hpb,aO (j:=n) hqn,qn,_,_,_,rfl,rfl,SqT.of hqn2,aO (j:=0) rfl,_,rfl,.ref pb,n,bs[n].1,a,bs,rfl,c2,hn,few,λu1 H1 S1 hu1=>?_⟩;apply⟨_,rfl,_,rfl,_,rfl,_,_,rfl,rfl,_,rfl,_,rfl,pb,_,_,_,rfl,rfl,SqT.of (S1 _ _ hpb),aO (j:=n) hqn,qn,_,_,_,rfl,rfl,SqT.of (S1 _ _ hqn2),aO (j:=1) rfl,.ref pb,n,a+1,bs[n].2,bs,rfl,c2.same S1,hn,few,λu2 H2 S2 hu2=>?_⟩;have S02:=S1.trans S2;have Sb2:=Sb.trans S02;apply⟨_,rfl,_,rfl,x,C,dx,_,_,rfl,Sb2 _ _ h1,CC.cl,CC.n2,rfl,_,rfl,tl,_,_,_,rfl,rfl,SqL.of (Sb2 _ _ t1),aO b1,o6,λq3 H3 S3 h3'=>?_⟩;apply⟨_,rfl,_,rfl,x,C,dx,_,_,rfl,S3 _ _ (Sb2 _ _ h1),CC.cl,CC.n2,rfl,_,rfl,tl,_,_,_,rfl,rfl,SqL.of (S3 _ _ (Sb2 _ _ t1)),aO b1,o6,λq4 H4 S4 h4'=>?_⟩;apply⟨o6,λL hL=>?_⟩;have S5:bD H4 (upd H4 L (.lst [.ref q3,.ref q4])):=bD.put (bD.refl H4) hL;have S25:=S3.trans (S4.trans S5);apply k L q3 q4 _ (S02.trans S25) (bD.free (S02.trans (S3.trans S4)) hL) aR ⟨u2,u,ql,S5 _ _ (S4 _ _ h3'),?_,b2,b3⟩ ⟨u1,u,ql,S5 _ _ h4',?_,b2,b3⟩
 ·rw[e2];exact hu2.same S25
 ·rw[e1];exact(hu1.same S2).same S25
abbrev sTabF:cF:=top 53
def CutD.move {x:aq}{rg:List (Nat×List Stp)}(a:CutD H C x sp l rg)(e:Kp H H')(hx:∀o,H x=some o→H' x=some o):CutD H' C x sp l rg:=by
 obtain⟨dx,c0,tl,ol,ord,h1,h2,h3,h4,h5⟩:=a.ex;exact⟨dx,c0,tl,ol,ord,hx _ h1,h2.kp e,h3.kp e,e.lst _ _ h4,h5⟩
structure CutK (P:aX)(w:bz)(K:au)(mg:Str→Option af)(base:bO)(T0:aq)(p0:Pos)(q0:Str)(T1:aq)(p1:Pos)(q1:Str)(C fi g1 g2:aq)(di d1 d2:bg):Prop where
 cc:CutC K C
 mke:Mk K C fi
 gl:mg "Cuts" =some (.ref C)
 ini:‹0› 9 fi di ["self","net"] (spInitC T0 p0 q0 T1 p1 q1 C)
 bi:oM K di ["self","net"] []
 m1:Meth K C "span_to_cut" g1
 f1:‹0› 1 g1 d1 ["self","case"] (spSpanC C)
 b1:oM K d1 ["self","case"] []
 m2:Meth K C "sides" g2
 f2:‹0› 2 g2 d2 pzK (spSidesC C)
 b2:oM K d2 pzK []
def pS:bY ["net","most","cuts","steps","tables","ahead","case","span"] pzk (defScope sTabF):=by trivial
theorem ok_tabF {f5 fi g1 g2:aq}{fd5 di d1 d2:bg}(F:Fun K "tables_that_fit" "tables_that_fit" sTabF f fd)(T:Nm mg)(ne:T0≠T1)(CK:CutK P w K mg base T0 p0 q0 T1 p1 q1 C fi g1 g2 di d1 d2)
  (G2:Fn K mg "spread_of" sSpread pza f2 fd2) (F2:‹0› 7 f2 fd2 pza (spSpread T0 p0 q0))
  (G3:Fn K mg "dead_leaf" sDeadL pzs f3 fd3) (F3:‹0› 4 f3 fd3 pzs spDeadL)
  (G4:Fn K mg "table_by" sTabBy pzJ f4 fd4) (F4:‹0› 2 f4 fd4 pzJ spTabBy)
  (G5:Fn K mg "middle_of" sMid pzu f5 fd5):‹0› 11 f fd pzk (spTabF T0 p0 q0 T1 p1 q1):=by
 have F5:‹0› 1 f5 fd5 pzu spMid:=ok_mid G5.F;specialize F.ok pS;obtain ⟨v,b,m,sp,most,rfl,hv,N,hmost,hcases,hT0,hT1,k⟩:=h;have hr1:gP 1 _:=hr.mono ↥0;have hr2:gP 2 _:=hr.mono ↥0;have hr4:gP 4 _:=hr.mono ↥0;have hr7:gP 7 _:=hr.mono ↥0;have E:=N.ends;have nfew:=N.few;have m1:=N.m1;have m2:=N.m2;have nb1:=N.b1;apply ⟨_,PSl.h (aZ ⟨(psZ 2 pS.nd (pe_make CK.mke CK.ini hr rfl CK.gl CK.bi .nil pass0 (ai (pv 0) aF)))⟩
  (aZ ⟨(psZ 3 pS.nd (pc1 G2 F2 hr7 (ai (pv 0) aF)))⟩
  (aZ ⟨(psZ 4 pS.nd (ji aF))⟩
  (aZ ⟨(psZ 5 pS.nd (ji (ai (pe_fld (pv 2) rfl) aF)))⟩
  (aZ ⟨(nQ bH (PW.pt (pw_and (cy qT (cp bR rfl T.len bC (ai (pv 5) aF)) bP (cL _)) (pw_and1 (cy op_lt (cp bR rfl T.len bC (ai (pv 4) aF)) (pv 1) (cL _))))) (PSl.h (aZ ⟨(psZ 6 pS.nd (qe bh fh fg qk (pv 5)))⟩
  (cP ⟨(gg (cy op_isN (pc1 G3 F3 hr4 (ai (pv 0) (ai (pv 6) aF))) oQ (cL _)) (PSl.h (aZ ⟨(psZ 7 pS.nd (pe_meth (pv 2) CK.cc.cl CK.m1 CK.f1 hr1 CK.b1 .nil pass0 (ai (pv 6) aF)))⟩
  (cP ⟨(gg (cy op_isN (pv 7) oQ (cL _)) (cE (iK (mE bh bV bU gm (pv 4) (ai (pc1 G4 F4 hr2 (ai (pv 0) (ai (pv 3) (ai (ixZ (pv 6)) aF)))) aF)))) (cE (iK (mE bh PySem.F.slot_list_extend PySem.F.type_list_extend mt_extend (pv 5) (ai (pe_meth (pv 2) CK.cc.cl CK.m2 CK.f2 hr2 CK.b2 .nil pass0 (ai (pv 6) (ai (pv 7) (ai (pc1 G5 F5 hr1 (ai (pv 6) (ai (pv 7) aF))) aF)))) aF)))))⟩))) cY)⟩))))⟩
  (cP ⟨(bZ (pv 4))⟩)))))),?_⟩
 apply⟨_,rfl,λx dx hx hdx nxd=>?_⟩;have S0:bD H (upd (upd H dx (.own x)) x (.ins C dx [])):=by
  have Sa:bD H (upd H dx (.own x)):=bD.put (bD.refl H) hdx;exact bD.put Sa (by rw[bt (cK nxd)];exact hx)
 have hx0:(upd (upd H dx (.own x)) x (.ins C dx [])) x=some (.ins C dx []):=aR;generalize upd (upd H dx (.own x)) x (.ins C dx [])=H0 at S0 hx0 ⊢;apply⟨x,dx,v,b,m,sp,rfl,hx0,hv.same S0,N,LamT.same S0 hT0,LamT.same S0 hT1,λl rg H1 st1 kp1 hT01 hT11 R cd1=>⟨rfl,?_⟩⟩;have f:=R.ff N;have fr:=R.fr;have lrg:rg.length≤40:=by
  have:rg.length=(pX sp l).length:=by rw[←R.ks,aa]
  have h2:(pX sp l).length≤sp.length:=by unfold pX;exact aQ (cw _ _) (by rw[bb];exact aB _)
  lia
 have tl:l.length≤15:=by have:=fr.few E ⋯;lia
 have hlt:=f.acy.nodup.2;have st1':∀a o,a≠T0→a≠T1→H a=some o→H1 a=some o:=λa o n0 n1 e=>st1 a o n0 n1 (bF e hx) (S0 _ _ e)
 have kp1':Kp H H1:=(bD.kp S0).trans kp1;have hv1:=cg kp1'.tup hv;apply ⟨_,rfl,v,b,m,sp,rfl,hv1,N,hT01,fun Ls zsS l' S H2 tb2 hT02 fLs hLs dS fr' SO=>?_⟩;have el:l'=l:=jo.one fr' fr;subst el;have kp2:Kp H1 H2:=Tb.kp hT01 tb2;have hT12:=LamT.ntb hT11 hT01 (cK ne) tb2;have cd2:CutD H2 C x sp l' rg:=cd1.move kp2 fun o e=>tb2 x o (by
  obtain ⟨_,_,_,_,_,h1,_⟩:=cd1.ex;obtain ⟨ps,h⟩:=LamT.tbl hT01;exact fM h1 h nofun) e
 have st2:∀a o,a≠T0→a≠T1→H a=some o→H2 a=some o:=λa o n0 n1 e=>tb2 a o n0 (st1' a o n0 n1 e)
 have kp2':=kp1'.trans kp2;have hv2:=cg kp2.tup hv1;clear kp2 tb2 cd1 hT01 hT11 hv1 kp1' st1' kp1 st1 hv S0 fr' hx0;obtain⟨dx',c0,tl',ol,ord,h1,h2,h3,h4,h5⟩:=cd2.ex;apply⟨bu _,λLt hLt=>?_⟩;have S3:bD H2 (upd H2 Lt (.lst [])):=bD.put (bD.refl H2) hLt;have hLt3:(upd H2 Lt (.lst [])) Lt=some (.lst []):=aR;generalize upd H2 Lt (.lst [])=H3 at S3 hLt3 ⊢;apply⟨_,rfl,x,C,dx',_,_,rfl,S3 _ _ h1,CK.cc.cl,CK.cc.n1,rfl,szZ1,λAh hAh=>?_⟩;have hAh2:H2 Ah=none:=bD.free S3 hAh;have nLA:Lt≠Ah:=λz=>by rw[←z,hLt3] at hAh;cases hAh
 have S4:bD H3 (upd H3 Ah (.lst [.ref c0])):=bD.put (bD.refl H3) hAh;have hAh4:(upd H3 Ah (.lst [.ref c0])) Ah=some (.lst [.ref c0]):=aR;generalize upd H3 Ah (.lst [.ref c0])=H4 at S4 hAh4 ⊢;have S24:=S3.trans S4;have cl4:CsL H2 H4 [.ref c0] [(sp.map λz=>(z.l,z.o),rg)]:=by
  obtain⟨vb,u,rl,a1,a2,a3,a4⟩:=h2.ex;exact .cons ⟨c0,rfl,vb,u,rl,S24 _ _ a1,a2.same S24,a3,a4⟩ .nil
 have sz0:szC l' [(sp.map λz=>(z.l,z.o),rg)]≤8191:=by
  have e:=lV l' hlt λy hy=>(N.all y hy).lo
  have:=hcases l' fr;show(2 * fG (sp.map λz=>(z.l,z.o)) l' - 1)+0≤8191;lia
 apply⟨λn σ Hc=>∃(cs:List Cse) (Ts:List (List Int)) (zs tv:List V) (w6 w7:Option V),n=szC l' cs∧n≤8191∧σ=[some v,some (.int (most:Nat)),some (.ref x),some (.ref Ls),some (.ref Lt),some (.ref Ah),w6,w7]∧bD H2 Hc∧Hc Ah=some (.lst zs)∧CsL H2 Hc zs cs∧Hc Lt=some (.lst tv)∧eM Hc tv (fF id Ts)∧SrcI b m sp l' rg cs Ts∧Ts.length≤most,⟨_,_,[],_,[],_,_,rfl,sz0,rfl,S24,hAh4,cl4,S4 _ _ hLt3,.nil,SrcI.start N lrg,bu _⟩,?_⟩;clear cl4 hAh4 S4 S24 hLt3 S3 hAh sz0;rintro n σ Hc ⟨cs,Ts,zs,tv,w6,w7,rfl,n8,rfl,Sc,hAc,clc,hLc,dtv,I,hTs⟩;have lzs:zs.length=cs.length:=Paired.len clc;have ltv:tv.length=Ts.length:=by rw[dtv.length];unfold fF;rw[aa]
 have lcs:=szC_len hlt cs I.ok;have pF:fG (sp.map λz=>(z.l,z.o)) l'≤4096:=by
  have e:=lV l' hlt λy hy=>(N.all y hy).lo
  have:=hcases l' fr;lia
 have fin:(Ts.length<most∨most=4096→cs=[])→Q (.ref Lt) Hc:=λhe=>k Lt tv l' rg Ts Hc (λa o n0 n1 e=>Sc _ _ (st2 a o n0 n1 e)) (kp2'.trans (bD.kp Sc)) (LamT.same Sc hT02) (LamT.same Sc hT12) hLc dtv R I.tabs hTs λlt T hT=>by
  rcases I.hold T hT with h | ⟨c,hc,_⟩
  ·exact h
  ·rw[he lt] at hc;cases hc
 apply⟨_,rfl,Ah,_,rfl,.inl (SqL.of hAc),_,_,rfl,rfl,_,rfl,?_⟩
 rcases List.eq_nil_or_concat cs with rfl | ⟨cs',c,rfl⟩
 ·have:zs=[]:=g9.mp lzs
  subst this;apply j3 (by rfl) (iteF ⟨_,rfl,fin λ_=>rfl⟩)
 rw[List.concat_eq_append] at *;obtain⟨zs',y,rfl,clc',q,rfl,ce⟩:=Paired.snoc_of clc;apply mr (rT (by rw[av];show((zs'.length+1:Nat):Int) > 0;lia)) ?_;apply⟨_,rfl,Lt,_,rfl,.inl (SqL.of hLc),_,rfl,_,_,rfl,rfl,_,rfl,?_⟩
 by_cases hlm:Ts.length<most
 rotate_left
 ·exact j3 (rV ⋯) ⟨_,rfl,fin fun z=>rS z fun z=>by
   rcases z with z | z
   ·exact hlm z
   ·have h0:=I.cnt
    rw [pZ] at h0;have h1:=jg (I.ok c ∅).ob hlt;have e1:psC l' [c]=fG c.1 l'+0:=rfl;lia⟩
 apply mr (rT ⋯) ⟨_,λσ' H' z=>z,?_⟩;apply⟨_,rfl,.inl ⟨rfl,_,SqL.of hAc⟩,Ah,_,.ref q,rfl,rfl,hAc,by rw[av,bp ∅];simp,?_⟩;rw[fI];have K5:kK Hc (upd Hc Ah (.lst zs')):=fm hAc;have S5:bD H2 (upd Hc Ah (.lst zs')):=λa o e=>by rw[bt (bF e hAh2)];exact Sc _ _ e
 have hA5:(upd Hc Ah (.lst zs')) Ah=some (.lst zs'):=aR;have hL5:(upd Hc Ah (.lst zs')) Lt=some (.lst tv):=by rw[bt nLA];exact hLc
 have cl5:=CsL.keep K5 (show CsL H2 Hc zs' cs' from clc');have ce5:=ce.keep K5;have dtv5:=eO K5 dtv;generalize upd Hc Ah (.lst zs')=H5 at K5 S5 hA5 hL5 cl5 ce5 dtv5 ⊢;have C:=I.ok c ∅;have less:=I.less f;have lcs':cs'.length+1≤8191:=by rw[av] at lcs;show cs'.length+[c].length≤8191;lia
 have lz':zs'.length=cs'.length:=Paired.len cl5;clear clc clc' ce hAc hLc dtv K5 lzs fin;apply⟨_,rfl,_,rfl,v,q,b,m,sp,c.1,c.2,rfl,hv2.same S5,⋯,by have:=N.b2;lia,ce5.dn S5,C.few,λz hz=>by rw[C.ob.len];exact((f.rk z (C.sub z hz)).rg N tl).inn,λr H6 S6 hd=>⟨rfl,_,rfl,?_⟩⟩;have S26:=S5.trans S6;have hA6:=S6 _ _ hA5;have hL6:=S6 _ _ hL5;have ce6:=ce5.keep (bD.tupK S6);have cl6:=CsL.keep (bD.tupK S6) cl5;have dtv6:=dtv5.same S6;clear ce5 cl5 dtv5 hA5 hL5
 rcases hd with ⟨rfl,al⟩ | ⟨z,hz,dz,hdz⟩
 rotate_left
 ·have:r≠ .non:=λe=>by rw[e] at dz;cases dz
  apply j3 (rV this) ?_;exact⟨_,less,cs',Ts,zs',tv,_,_,rfl,⋯,rfl,S26,hA6,cl6,hL6,dtv6,I.dead N f hz hdz,hTs⟩
 apply mr (rT rfl) ?_;apply⟨_,rfl,x,dx',_,rfl,S26 _ _ h1,rfl,_,rfl,x,q,sp,l',rg,c.2,c.1,rfl,cd2.same S26,ce6.dn S26,λj hj=>by rw[C.ob.len];exact hlt j hj,⋯,λfx=>?_,λj hj hlj=>?_⟩
 ·apply⟨_,rfl,rfl,_,rfl,mr (rT rfl) ?_⟩
  obtain⟨vb,u,rl,a1,a2,a3,a4⟩:=ce6.ex;apply⟨_,rfl,.inl ⟨rfl,_,SqL.of hL6⟩,_,rfl,_,rfl,_,rfl,q,_,_,_,rfl,rfl,SqT.of a1,aO (j:=0) rfl,v,vb,Ls,b,m,sp,c.1,zsS,S,rfl,hv2.same S26,⋯,⋯,m2,E,S26 _ _ hLs,dS.same S26,by have:=SO.len;lia,λs' hs'=>⟨hlt _ (SO.inn s' hs').1,(SO.inn s' hs').2⟩,a2,C.ob.len,λqt H7 S7 h7=>?_⟩;apply⟨Lt,_,_,rfl,rfl,S7 _ _ hL6,cf (m:=4096) ⋯ ↥0,?_⟩;have K8:kK H7 (upd H7 Lt (.lst (tv++[.ref qt]))):=fm (S7 _ _ hL6);apply⟨_,less,cs',Ts++[tabOf b sp c.1 m.toNat S],zs',tv++[.ref qt],_,_,rfl,⋯,rfl,λa o e=>?_,?_,CsL.keep K8 (CsL.keep (bD.tupK S7) cl6),aR,?_,I.leaf N f SO al fx,by rw[av];exact hlm⟩
  ·rw[bt (bF e hLt)];exact S7 _ _ (S26 _ _ e)
  ·rw[bt (cK nLA)];exact S7 _ _ hA6
  ·apply eO K8 ?_
   unfold fF;rw[aD];exact(dtv6.same S7).append (.cons (.tup h7 (eM.ints _)) .nil)
 ·apply⟨_,rfl,rfl,_,rfl,j3 (rV nofun) ?_⟩
  have hjb:j<c.1.length:=by rw[C.ob.len];exact hlt j hj
  apply⟨_,rfl,.inl ⟨rfl,_,SqL.of hA6⟩,_,rfl,x,dx',_,rfl,S26 _ _ h1,rfl,_,rfl,_,rfl,_,rfl,_,rfl,q,j,c.1,c.2,rfl,ce6.dn S26,hjb,?_⟩;obtain⟨a,ha⟩:∃a,a=((c.1.getD j (0,0)).1+(c.1.getD j (0,0)).2) / 2:=⟨_,rfl⟩;rw[←ha];apply⟨H2,x,q,j,a,sp,l',rg,c.2,c.1,rfl,S26,cd2,ce6.dn S26,hjb,C.ob.len,by rw[C.ob.len];exact nfew,λL q1 q2 H7 S7 fL hL e1 e2=>?_⟩;have nLA2:L≠Ah:=λz=>by rw[z,hA6] at fL;cases fL
  apply⟨Ah,L,_,_,rfl,rfl,S7 _ _ hA6,hL,aQ (m:=10000) (by show zs'.length+2≤10000;lia) ↥0,?_⟩;have K8:kK H7 (upd H7 Ah (.lst (zs'++[.ref q1,.ref q2]))):=fm (S7 _ _ hA6);obtain⟨I',less'⟩:=I.cut N f lrg al hj (a:=a) ⋯ ⋯;apply⟨_,less',_,Ts,_,tv,_,_,rfl,⋯,rfl,λa o e=>?_,aR,?_,?_,eO K8 (dtv6.same S7),I',hTs⟩
  ·rw[bt (bF e hAh2)];exact S7 _ _ (S26 _ _ e)
  ·exact Paired.app (CsL.keep K8 (CsL.keep (bD.tupK S7) cl6)) (.cons ⟨q1,rfl,e1.keep K8⟩ (.cons ⟨q2,rfl,e2.keep K8⟩ .nil))
  ·rw[bt nLA];exact S7 _ _ hL6
abbrev sTreeF:cF:=top 54
def pR:bY ["marks","trees","mark","one","other"] ["marks"] (defScope sTreeF):=by trivial
theorem ok_treeF (F:Fun K "tree_from" "tree_from" sTreeF f fd)(RV:mg "reversed" =none):‹0› 1 f fd ["marks"] spTreeF:=by
 specialize F.ok pR;obtain ⟨L,ys,ms,t,rfl,hL,dys,ems,hlw,few,k⟩:=h;apply ⟨_,PSl.h (aZ ⟨(psZ 1 pR.nd (ji aF))⟩
  (aZ ⟨(ig bH rfl (pi_revL rfl RV (ai (pv 0) aF)) (pgZ 2 pR.nd) (cE (gg (cy jO (ixZ (pv 2)) jh (cL _)) (PSl.h (aZ ⟨(psZ 3 pR.nd (qe bh fh fg qk (pv 1)))⟩
  (aZ ⟨(psZ 4 pR.nd (qe bh fh fg qk (pv 1)))⟩
  (cP ⟨(iK (mE bh bV bU gm (pv 1) (ai (dB mG (pv 2) (dG (ai (pv 3) (ai (pv 4) aF)))) aF)))⟩)))) (cE (iK (mE bh bV bU gm (pv 1) (ai (pv 2) aF)))))))⟩
  (cP ⟨(bZ (dO gG (pv 1) bP (fun _ _=>rfl)))⟩))),?_⟩
 apply⟨bu _,λLt hLt=>?_⟩;have nLL:L≠Lt:=bF hL hLt;have S1:bD H (upd H Lt (.lst [])):=bD.put (bD.refl H) hLt;have h1:(upd H Lt (.lst [])) Lt=some (.lst []):=aR;generalize upd H Lt (.lst [])=H1 at S1 h1 ⊢;have lys:ys.length=ms.length:=by rw[dys.length,aa]
 have tot:ms.reverse.foldl stpT (some [])=some [t]:=by rw[ems];exact stp_pre t []
 apply⟨_,rfl,L,ys,rfl,SqL.of (S1 _ _ hL),?_⟩;apply for_revL (K:=K) (a:=L) (xs:=ys) (λi σ H2=>bD H H2∧∃(zs:List V) (st:List Tq) (v2 v3 v4:Option V),σ=[some (.ref L),some (.ref Lt),v2,v3,v4]∧H2 Lt=some (.lst zs)∧(ms.reverse.take i).foldl stpT (some [])=some st∧eM H2 zs (st.reverse.map jY)∧st.length≤i∧∀t∈st,pl (jY t)=true) ⟨S1,[],[],none,none,none,rfl,h1,rfl,.nil,aB _,λ_ h=>rS h ∅⟩ (λi σ H2 _ ⟨S2,_⟩=>SqL.of (S2 _ _ hL)) ?_ ?_
 ·rintro i x σ H2 hx ⟨S2,zs,st,v2,v3,v4,rfl,hz,hst,dz,lst,pls'⟩
  have hi:i<ys.length:=by have:=(ar.mp hx).1;rwa [dW] at this
  have hm:ms.reverse[i]? =some (ms.reverse[i]'(by rw[dW];lia)):=gE _;obtain⟨mk,hmk⟩:∃mk,ms.reverse[i]? =some mk:=⟨_,hm⟩;clear hm;have dx:IsD H2 x (mrkD mk):=by
   have hj:ys.length - 1 - i<ys.length:=by lia
   rw[List.getElem?_reverse ⋯] at hx;rw[List.getElem?_reverse ⋯] at hmk;obtain⟨y,hy,dy⟩:=(dys.same S2).at (i:=ys.length - 1 - i) (d:=mrkD mk) (by rw[az,lys,hmk];rfl);rw[hx] at hy;cases hy;exact dy
  obtain⟨st',est,est2⟩:=stp_at tot hmk hst;have lzs:zs.length≤10000:=by
   have:=dz.length;rw[aa,dW] at this;lia
  cases mk with
  | leaf d =>
   have e:st'= .leaf d::st:=by
    have:some (Tq.leaf d::st)=some st':=est;cases this;rfl
   subst e;obtain⟨pd,w1,x1,ed,nw⟩:=hlw d (List.mem_reverse.mp (aL hmk));have dx:IsD H2 x d:=dx;rw[ed] at dx;obtain⟨q,xs,rfl,hq,rq⟩:=IsD.tup_of dx;cases rq with
   | cons d0 rq =>
    cases d0;apply⟨_,rfl,q,_,_,_,rfl,rfl,SqT.of hq,aO (j:=0) rfl,rfl,_,rfl,j3 (rV (λz=>nw (by injection z))) ?_⟩;apply⟨_,rfl,.inl ⟨rfl,_,SqL.of hz⟩,_,rfl,Lt,zs,_,rfl,rfl,hz,(cf lzs ↥0),?_⟩;have KC:kK H2 (upd H2 Lt (.lst (zs++[.ref q]))):=fm hz;apply⟨λa o e=>by rw[bt (bF e hLt)];exact S2 _ _ e,zs++[.ref q],_,_,_,_,rfl,aR,est2,?_,by rw[aV];lia,λt ht=>?_⟩
    ·rw[eY,aD]
     apply(eM.keepP KC dz (nj _ λt ht=>pls' t (List.mem_reverse.mp ht))).append (.cons ?_ .nil);rw[←ed] at dx;exact IsD.keepP KC dx pd
    ·rcases aH.mp ht with rfl | ht
     ·exact pd
     ·exact pls' t ht
  | cut kc ac =>
   obtain⟨x1,y1,s1,rfl,e⟩:∃x1 y1 s1,st=x1::y1::s1∧st'= .cut kc ac x1 y1::s1:=by
    rcases st with _ | ⟨x1,_ | ⟨y1,s1⟩⟩
    ·cases est
    ·cases est
    ·apply⟨x1,y1,s1,rfl,?_⟩
     have:some (Tq.cut kc ac x1 y1::s1)=some st':=est;cases this;rfl
   subst e;have dx:IsD H2 x (.tup [.str "cut",.int (kc:Nat),.int ac]):=dx;obtain⟨q,xs,rfl,hq,rq⟩:=IsD.tup_of dx;obtain rfl:xs=[.str "cut",.int (kc:Nat),.int ac]:=by
    cases rq with
    | cons d0 rq =>
     cases d0;cases rq with
     | cons d1 rq =>
      cases d1;cases rq with
      | cons d2 rq=>cases d2;cases rq;rfl
   rw[eY,eY,aD,aD] at dz;obtain⟨zs1,vx,rfl,dz1,dvx⟩:=eM.snocD dz;obtain⟨zs2,vy,rfl,dz2,dvy⟩:=eM.snocD dz1;have px:=pls' x1 ∅;have py:=pls' y1 ∅;apply⟨_,rfl,q,_,_,_,rfl,rfl,SqT.of hq,aO (j:=0) rfl,rfl,_,rfl,mr (rT rfl) ?_⟩;apply⟨_,rfl,.inl ⟨rfl,_,SqL.of hz⟩,Lt,_,vx,rfl,rfl,hz,by rw[av,bp ∅];simp,?_⟩;rw[fI];have K3:kK H2 (upd H2 Lt (.lst (zs2++[vy]))):=fm hz;have S3:bD H (upd H2 Lt (.lst (zs2++[vy]))):=λa o e=>by rw[bt (bF e hLt)];exact S2 _ _ e
   have h3:(upd H2 Lt (.lst (zs2++[vy]))) Lt=some (.lst (zs2++[vy])):=aR;generalize upd H2 Lt (.lst (zs2++[vy]))=H3 at K3 S3 h3 ⊢;apply⟨_,rfl,.inl ⟨rfl,_,SqL.of h3⟩,Lt,_,vy,rfl,rfl,h3,by rw[av,bp ∅];simp,?_⟩;rw[fI];have K4:kK H2 (upd H3 Lt (.lst zs2)):=K3.trans (fm h3);have S4:bD H (upd H3 Lt (.lst zs2)):=λa o e=>by rw[bt (bF e hLt)];exact S3 _ _ e
   have h4:(upd H3 Lt (.lst zs2)) Lt=some (.lst zs2):=aR;generalize upd H3 Lt (.lst zs2)=H4 at K4 S4 h4 ⊢;apply⟨_,rfl,.inl ⟨rfl,_,SqL.of h4⟩,_,rfl,_,rfl,_,rfl,o6,λq5 H5 S5 h5=>?_⟩;apply⟨q,q5,_,_,rfl,rfl,S5 _ _ (K4 _ _ hq),h5,szZ5,λq6 H6 S6 h6=>?_⟩;have S46:=S5.trans S6;apply⟨Lt,zs2,_,rfl,rfl,S46 _ _ h4,(cf (by rw[av,av] at lzs;lia:zs2.length≤10000) ↥0),?_⟩;have K26:kK H2 H6:=λa xs e=>S46 _ _ (K4 _ _ e)
   have KC:kK H6 (upd H6 Lt (.lst (zs2++[.ref q6]))):=fm (S46 _ _ h4);have K2C:=K26.trans KC;apply⟨λa o e=>by rw[bt (bF e hLt)];exact S46 _ _ (S4 _ _ e),zs2++[.ref q6],_,_,_,_,rfl,aR,est2,?_,by simp only[aV] at lst ⊢;lia,λt ht=>?_⟩
   ·rw[eY,aD]
    apply(eM.keepP K2C dz2 (nj _ λt ht=>pls' t (by simp[List.mem_reverse.mp ht]))).append (.cons ?_ .nil);exact .tup (KC _ _ h6) (.cons (.str _) (.cons (.int _) (.cons (.int _) (.cons (IsD.keepP K2C dvx px) (.cons (IsD.keepP K2C dvy py) .nil)))))
   ·rcases aH.mp ht with rfl | ht
    ·exact pl_cut px py
    ·exact pls' t (by simp[ht])
 ·rintro σ H2 ⟨S2,zs,st,v2,v3,v4,rfl,hz,hst,dz,lst,pls'⟩
  rw[lys,←dW,bo,tot] at hst;cases hst;cases dz with
  | cons d0 dn =>
   cases dn;exact⟨_,rfl,Lt,_,_,_,rfl,rfl,SqL.of hz,aO (j:=0) rfl,k _ H2 S2 d0⟩
def qW (T0 T1:aq)(H H':Hp):Prop:=∀a o,a≠T0→a≠T1→H a=some o→H' a=some o
def qW.trans (a:qW T0 T1 H H1)(b:qW T0 T1 H1 H2):qW T0 T1 H H2:=λx o n0 n1 e=>b x o n0 n1 (a x o n0 n1 e)
def bD.stayT (a:bD H H'):qW T0 T1 H H':=λx o _ _ e=>a x o e
inductive spLeafIn (v:V)(b m:Int)(sp:List Sn)(R:List (Int×Int)→Dt→Prop)(vs:List V)(H:Hp)(Q:VK)(_:XK):Prop
 | mk (l:List Nat)(rg:List (Nat×List Stp))(q:aq)(c:Cse)(_:vs=[.ref q])(_:FR m sp l rg)(_:CsD H q c.1 c.2)(_:jU b sp l rg c)(_:IsD H v (jv b m sp))(_:∀r H',bD H H'→((∃d,IsD H' r d∧LeafW d∧R c.1 d)∨(r= .non∧(∀z∈c.2,jA b c.1 z.2=false)∧∃k∈l,(c.1.getD k (0,0)).1<(c.1.getD k (0,0)).2))→Q r H')
inductive spTreeBy (P:aX)(w:bz)(K:au)(mg:Str→Option af)(base:bO)(T0:aq)(p0:Pos)(q0:Str)(T1:aq)(p1:Pos)(q1:Str)(vs:List V)(H:Hp)(Q:VK)(_:XK):Prop
 | mk (v:V)(g:aq)(b m:Int)(sp:List Sn)(R:List (Int×Int)→Dt→Prop)(_:vs=[v,.ref g])(_:IsD H v (jv b m sp))(_:jb b m sp)(_:(∀l,jo m.toNat sp l→kd sp l≤4096))(_:L2.LamT T0 p0 q0 H)(_:L2.LamT T1 p1 q1 H)(_:LmOk P w K mg base 6 g (qW T0 T1 H) (spLeafIn v b m sp R))(_:∀(u:V) (t:Tq) (H':Hp),qW T0 T1 H H'→Kp H H'→L2.LamT T0 p0 q0 H'→L2.LamT T1 p1 q1 H'→IsD H' u (jY t)→pl (jY t)=true→GoodT R t (sp.map λz=>(z.l,z.o)) 21→siz t≤8191→Q u H')
section
variable {m:Int}{rg:List (Nat×List Stp)}{cs:List Cse}{c:Cse}
theorem sz_cut (f:FF m sp l rg)(lrg:rg.length≤40)(C:jU b sp l rg c)(al:∀q∈c.2,jA b c.1 q.2=false){k:Nat}{a:Int}(hk:k∈l)(h1:(c.1.getD k (0,0)).1≤a)(h2:a<(c.1.getD k (0,0)).2)(hc:∀d∈cs,jU b sp l rg d) :
  (∀d∈cs++[(d7 c.1 k a,rg.filter (iS k)),(kZ c.1 k a,rg.filter (iS k))],jU b sp l rg d)∧szC l (cs++[(d7 c.1 k a,rg.filter (iS k)),(kZ c.1 k a,rg.filter (iS k))])<szC l (cs++[c])∧2≤fG c.1 l:=by
 have ht2:=f.acy.nodup.2;obtain⟨o1,o2⟩:=C.cut lrg ht2 al hk h1 h2;have p1:0<fG (d7 c.1 k a) l:=jg o1.ob ht2;have p2:0<fG (kZ c.1 k a) l:=jg o2.ob ht2;have e:=nh C.ob f.acy.nodup.1 ht2 hk h1 h2;apply⟨λd hd=>?_,?_,⋯⟩
 ·rcases aI.mp hd with z | z
  ·exact hc d z
  ·rcases aH.mp z with rfl | z
   ·exact o1
   ·rw[aw.mp z];exact o2
 ·rw[mX,mX]
  show _+((2 * fG (d7 c.1 k a) l - 1)+((2 * fG (kZ c.1 k a) l - 1)+0))<_+((2 * fG c.1 l - 1)+0);lia
theorem sz_less (f:FF m sp l rg)(C:jU b sp l rg c):szC l cs<szC l (cs++[c]):=by
 have:=jg C.ob f.acy.nodup.2;rw[mX];show _<_+((2 * fG c.1 l - 1)+0);lia
end
theorem siz_pre:∀t:Tq,siz t=(pre t).length
 | .leaf _=>rfl
 | .cut k a x y=>by
  show siz x+siz y+1=(pre x++pre y).length+1;rw[av,siz_pre x,siz_pre y]
theorem pls_appT:∀(xs ys:List Dt),pls (xs++ys)=(pls xs && pls ys)
 | [],ys=>by show pls ys=(true && pls ys);rw[Bool.true_and]
 | x::xs,ys=>by
  show(pl x && pls (xs++ys))=((pl x && pls xs) && pls ys);rw[pls_appT xs ys,Bool.and_assoc]
def LmOk.mono {k:Nat}{sp:Sp}(L:LmOk P w K mg base j f Hf sp)(h:j≤k):LmOk P w K mg base k f Hf sp:=⟨L.isFn,λA outer s H u v Q hr=>L.run A outer s H u v Q (hr.mono h)⟩
theorem pl_pre:∀(t:Tq),(∀d,Mrk.leaf d∈pre t→LeafW d)→pl (jY t)=true
 | .leaf d,h=>(h d (by simp[pre])).1
 | .cut k a x y,h=>pl_cut (pl_pre x λd hd=>h d (by simp[pre,hd])) (pl_pre y λd hd=>h d (by simp[pre,hd]))
abbrev sTreeB:cF:=top 55
def lR:bY ["net","leaf_in","cuts","marks","ahead","case","mark","span","at"] pzz (defScope sTreeB):=by trivial
theorem ok_treeBy {f5 f6 fi g1 g2:aq}{fd5 fd6 di d1 d2:bg}(F:Fun K "tree_by" "tree_by" sTreeB f fd)(T:Nm mg)(CK:CutK P w K mg base T0 p0 q0 T1 p1 q1 C fi g1 g2 di d1 d2)
  (G5:Fn K mg "middle_of" sMid pzu f5 fd5) (G6:Fn K mg "tree_from" sTreeF ["marks"] f6 fd6) (F6:‹0› 1 f6 fd6 ["marks"] spTreeF):‹0› 11 f fd pzz (spTreeBy P w K mg base T0 p0 q0 T1 p1 q1):=by
 have F5:‹0› 1 f5 fd5 pzu spMid:=ok_mid G5.F;specialize F.ok lR;obtain ⟨v,g,b,m,sp,R,rfl,hv,N,hcases,hT0,hT1,LM,k⟩:=h;have hr1:gP 1 _:=hr.mono ↥0;have hr2:gP 2 _:=hr.mono ↥0;have hr6:gP 6 _:=hr.mono ↥0;have E:=N.ends;have nfew:=N.few;have m1:=N.m1;have m2:=N.m2;have nb1:=N.b1;apply ⟨_,PSl.h (aZ ⟨(psZ 2 lR.nd (pe_make CK.mke CK.ini hr rfl CK.gl CK.bi .nil pass0 (ai (pv 0) aF)))⟩
  (aZ ⟨(psZ 3 lR.nd (ji aF))⟩
  (aZ ⟨(psZ 4 lR.nd (ji (ai (pe_fld (pv 2) rfl) aF)))⟩
  (aZ ⟨(nQ bH (cy qT (cp bR rfl T.len bC (ai (pv 4) aF)) bP (cL _)) (PSl.h (aZ ⟨(psZ 5 lR.nd (qe bh fh fg qk (pv 4)))⟩
  (aZ ⟨(psZ 6 lR.nd (pe_callV (i:=1) LM hr6 (pv 5)))⟩
  (aZ ⟨(ps_cutK (gg (cy op_isN (pv 6) oQ (cL _)) (PSl.h (aZ ⟨(psZ 7 lR.nd (pe_meth (pv 2) CK.cc.cl CK.m1 CK.f1 hr1 CK.b1 .nil pass0 (ai (pv 5) aF)))⟩
  (aZ ⟨(psZ 8 lR.nd (pc1 G5 F5 hr1 (ai (pv 5) (ai (pv 7) aF))))⟩
  (aZ ⟨(psZ 6 lR.nd (dG (ai jh (ai (pv 7) (ai (pv 8) aF)))))⟩
  (cP ⟨(iK (mE bh PySem.F.slot_list_extend PySem.F.type_list_extend mt_extend (pv 4) (ai (pe_meth (pv 2) CK.cc.cl CK.m2 CK.f2 hr2 CK.b2 .nil pass0 (ai (pv 5) (ai (pv 7) (ai (pv 8) aF)))) aF)))⟩))))) cY))⟩
  (cP ⟨(iK (mE bh bV bU gm (pv 3) (ai (pv 6) aF)))⟩))))))⟩
  (cP ⟨(bZ (pc1 G6 F6 hr1 (ai (pv 3) aF)))⟩))))),?_⟩
 apply⟨_,rfl,λx dx hx hdx nxd=>?_⟩;have S0:bD H (upd (upd H dx (.own x)) x (.ins C dx [])):=by
  have Sa:bD H (upd H dx (.own x)):=bD.put (bD.refl H) hdx;exact bD.put Sa (by rw[bt (cK nxd)];exact hx)
 have hx0:(upd (upd H dx (.own x)) x (.ins C dx [])) x=some (.ins C dx []):=aR;generalize upd (upd H dx (.own x)) x (.ins C dx [])=H0 at S0 hx0 ⊢;apply⟨x,dx,v,b,m,sp,rfl,hx0,hv.same S0,N,LamT.same S0 hT0,LamT.same S0 hT1,λl rg H2 st1 kp1 hT02 hT12 RR cd2=>⟨rfl,?_⟩⟩;have f:=RR.ff N;have fr:=RR.fr;have lrg:rg.length≤40:=by
  have:rg.length=(pX sp l).length:=by rw[←RR.ks,aa]
  have h2:(pX sp l).length≤sp.length:=by unfold pX;exact aQ (cw _ _) (by rw[bb];exact aB _)
  lia
 have tl:l.length≤15:=by have:=fr.few E ⋯;lia
 have hlt:=f.acy.nodup.2;have st2:qW T0 T1 H H2:=λa o n0 n1 e=>st1 a o n0 n1 (bF e hx) (S0 _ _ e)
 have kp2':Kp H H2:=(bD.kp S0).trans kp1;have hv2:=cg kp2'.tup hv;clear st1 kp1 S0 hx0 hv;obtain⟨dx',c0,tl',ol,ord,h1,h2,h3,h4,h5⟩:=cd2.ex;apply⟨bu _,λLt hLt=>?_⟩;have S3:bD H2 (upd H2 Lt (.lst [])):=bD.put (bD.refl H2) hLt;have hLt3:(upd H2 Lt (.lst [])) Lt=some (.lst []):=aR;generalize upd H2 Lt (.lst [])=H3 at S3 hLt3 ⊢;apply⟨_,rfl,x,C,dx',_,_,rfl,S3 _ _ h1,CK.cc.cl,CK.cc.n1,rfl,szZ1,λAh hAh=>?_⟩;have hAh2:H2 Ah=none:=bD.free S3 hAh;have nLA:Lt≠Ah:=λz=>by rw[←z,hLt3] at hAh;cases hAh
 have S4:bD H3 (upd H3 Ah (.lst [.ref c0])):=bD.put (bD.refl H3) hAh;have hAh4:(upd H3 Ah (.lst [.ref c0])) Ah=some (.lst [.ref c0]):=aR;generalize upd H3 Ah (.lst [.ref c0])=H4 at S4 hAh4 ⊢;have S24:=S3.trans S4;have cl4:CsL H2 H4 [.ref c0] [(sp.map λz=>(z.l,z.o),rg)]:=by
  obtain⟨vb,u,rl,a1,a2,a3,a4⟩:=h2.ex;exact .cons ⟨c0,rfl,vb,u,rl,S24 _ _ a1,a2.same S24,a3,a4⟩ .nil
 have pr0:fG (sp.map λz=>(z.l,z.o)) l≤4096:=by
  have e:=lV l hlt λy hy=>(N.all y hy).lo
  have:=hcases l fr;lia
 have sz0:szC l [(sp.map λz=>(z.l,z.o),rg)]+0≤8191:=by
  show(2 * fG (sp.map λz=>(z.l,z.o)) l - 1)+0+0≤8191;lia
 have ok0:∀c∈[(sp.map (λz=>(z.l,z.o)),rg)],jU b sp l rg c:=(SrcI.start (b:=b) (l:=l) N lrg).ok;apply⟨λn σ Hc=>∃(cs:List Cse) (ms:List Mrk) (zs mv:List V) (w5 w6 w7 w8:Option V),n=szC l cs∧n+ms.length≤8191∧σ=[some v,some (.ref g),some (.ref x),some (.ref Lt),some (.ref Ah),w5,w6,w7,w8]∧bD H2 Hc∧Hc Ah=some (.lst zs)∧CsL H2 Hc zs cs∧Hc Lt=some (.lst mv)∧eM Hc mv (ms.map mrkD)∧(∀c∈cs,jU b sp l rg c)∧Wn R l (sp.map (λz=>(z.l,z.o)),rg) ms cs.reverse∧(∀d,Mrk.leaf d∈ms→LeafW d)∧pls (ms.map mrkD)=true,⟨_,_,[],_,[],_,_,_,_,rfl,sz0,rfl,S24,hAh4,cl4,S4 _ _ hLt3,.nil,ok0,Wn.start,λ_ h=>rS h ∅,rfl⟩,?_⟩;clear cl4 hAh4 S4 S24 hLt3 S3 hAh sz0 ok0;rintro n σ Hc ⟨cs,ms,zs,mv,w5,w6,w7,w8,rfl,n8,rfl,Sc,hAc,clc,hLc,dmv,ok,W,lw,pm⟩;have lzs:zs.length=cs.length:=Paired.len clc;have lmv:mv.length=ms.length:=by rw[dmv.length,aa]
 have lcs:=szC_len hlt cs ok;apply⟨_,rfl,Ah,_,rfl,.inl (SqL.of hAc),_,_,rfl,rfl,_,rfl,?_⟩
 rcases List.eq_nil_or_concat cs with rfl | ⟨cs',c,rfl⟩
 ·have:zs=[]:=g9.mp lzs
  subst this;obtain⟨t,et,gt⟩:=Wn.fin W;apply j3 (by rfl) ⟨_,rfl,Lt,mv,ms,t,rfl,hLc,dmv,et,lw,⋯,λu H9 S9 h9=>?_⟩;have S29:=Sc.trans S9;apply k u t H9 (st2.trans (bD.stayT S29)) (kp2'.trans (bD.kp S29)) (LamT.same S29 hT02) (LamT.same S29 hT12) h9 (pl_pre t (by rw[←et];exact lw)) (gt 21 ?_) (by rw[siz_pre,←et];lia);have:2 ^ 21 * fG (sp.map λz=>(z.l,z.o)) l≤2 ^ 21 * 4096:=Nat.mul_le_mul_left _ pr0;exact aQ this ↥0
 rw[List.concat_eq_append] at *;obtain⟨zs',y,rfl,clc',q,rfl,ce⟩:=Paired.snoc_of clc;apply mr (rT (by rw[av];show((zs'.length+1:Nat):Int) > 0;lia)) ⟨_,λσ' H' z=>z,?_⟩;apply⟨_,rfl,.inl ⟨rfl,_,SqL.of hAc⟩,Ah,_,.ref q,rfl,rfl,hAc,by rw[av,bp ∅];simp,?_⟩;rw[fI];have K5:kK Hc (upd Hc Ah (.lst zs')):=fm hAc;have S5:bD H2 (upd Hc Ah (.lst zs')):=λa o e=>by rw[bt (bF e hAh2)];exact Sc _ _ e
 have hA5:(upd Hc Ah (.lst zs')) Ah=some (.lst zs'):=aR;have hL5:(upd Hc Ah (.lst zs')) Lt=some (.lst mv):=by rw[bt nLA];exact hLc
 have cl5:=CsL.keep K5 (show CsL H2 Hc zs' cs' from clc');have ce5:=ce.keep K5;have dmv5:=eM.keepP K5 dmv pm;generalize upd Hc Ah (.lst zs')=H5 at K5 S5 hA5 hL5 cl5 ce5 dmv5 ⊢;have C':=ok c ∅;have less:=sz_less (cs:=cs') f C';rw[List.reverse_append] at W;have W:Wn R l (sp.map (λz=>(z.l,z.o)),rg) ms (c::cs'.reverse):=W;have ok':∀d∈cs',jU b sp l rg d:=λd hd=>ok d (aJ _ hd)
 have lcs':cs'.length+1≤8191:=by rw[av] at lcs;show cs'.length+[c].length≤8191;lia
 have lz':zs'.length=cs'.length:=Paired.len cl5;have stH5:qW T0 T1 H H5:=st2.trans (bD.stayT S5);clear clc clc' ce hAc hLc dmv K5 lzs ok;apply⟨rfl,stH5,_,rfl,stH5,l,rg,q,c,rfl,RR,ce5.dn S5,C',hv2.same S5,λr H6 S6 hd=>?_⟩;have S26:=S5.trans S6;have hA6:=S6 _ _ hA5;have hL6:=S6 _ _ hL5;have ce6:=ce5.keep (bD.tupK S6);have cl6:=CsL.keep (bD.tupK S6) cl5;have dmv6:=dmv5.same S6;clear ce5 cl5 dmv5 hA5 hL5 stH5;apply⟨λσ' H'=>∃(cs2:List Cse) (mk:Mrk) (zs2:List V) (v6:V) (w7 w8:Option V),szC l cs2<szC l (cs'++[c])∧σ'=[some v,some (.ref g),some (.ref x),some (.ref Lt),some (.ref Ah),some (.ref q),some v6,w7,w8]∧bD H2 H'∧H' Ah=some (.lst zs2)∧CsL H2 H' zs2 cs2∧H' Lt=some (.lst mv)∧eM H' mv (ms.map mrkD)∧IsD H' v6 (mrkD mk)∧(∀c∈cs2,jU b sp l rg c)∧Wn R l (sp.map (λz=>(z.l,z.o)),rg) (ms++[mk]) cs2.reverse∧(∀d,mk= .leaf d→LeafW d)∧pl (mrkD mk)=true,?_,?_⟩
 ·rintro σ' H7 ⟨cs2,mk,zs2,v6,w7,w8,less2,rfl,S7,hA7,cl7,hL7,dm7,d6,ok2,W2,lw2,pm2⟩
  apply⟨_,rfl,.inl ⟨rfl,_,SqL.of hL7⟩,_,rfl,Lt,mv,_,rfl,rfl,hL7,(cf (by lia:mv.length≤10000) ↥0),?_⟩;have K8:kK H7 (upd H7 Lt (.lst (mv++[v6]))):=fm hL7;apply⟨_,less2,cs2,ms++[mk],zs2,mv++[v6],_,_,_,_,rfl,by rw[av];show _+(ms.length+1)≤8191;lia,rfl,λa o e=>by rw[bt (bF e hLt)];exact S7 _ _ e,by rw[bt (cK nLA)];exact hA7,CsL.keep K8 cl7,aR,?_,ok2,W2,λd hd=>?_,?_⟩
  ·rw[aD]
   exact(eM.keepP K8 dm7 pm).append (.cons (IsD.keepP K8 d6 pm2) .nil)
  ·rcases aI.mp hd with z | z
   ·exact lw d z
   ·exact lw2 d (aw.mp z).symm
  ·rw[aD,pls_appT,pm,Bool.true_and]
   show(pl (mrkD mk) && true)=true;rw[pm2];rfl
 apply⟨_,rfl,rfl,_,rfl,?_⟩
 rcases hd with ⟨d,dr,dw,dR⟩ | ⟨rfl,al,k0,hk0,hlk0⟩
 ·have nr:r≠ .non:=λe=>by
   obtain⟨_,w',x',ed,_⟩:=dw;rw[e,ed] at dr;cases dr
  apply j3 (rV nr) ?_;exact⟨cs',.leaf d,zs',r,_,_,less,rfl,S26,hA6,cl6,hL6,dmv6,dr,ok',W.leaf dR,(λd' e=>by cases e;exact dw),dw.1⟩
 apply mr (rT rfl) ?_;apply⟨_,rfl,x,dx',_,rfl,S26 _ _ h1,rfl,_,rfl,x,q,sp,l,rg,c.2,c.1,rfl,cd2.same S26,ce6.dn S26,λj hj=>by rw[C'.ob.len];exact hlt j hj,⋯,λfx=>rS hlk0 (fx k0 hk0),λj hj hlj=>?_⟩;have hjb:j<c.1.length:=by rw[C'.ob.len];exact hlt j hj
 apply⟨_,rfl,_,rfl,q,j,c.1,c.2,rfl,ce6.dn S26,hjb,?_⟩;obtain⟨a,ha⟩:∃a,a=((c.1.getD j (0,0)).1+(c.1.getD j (0,0)).2) / 2:=⟨_,rfl⟩;rw[←ha];apply⟨_,rfl,_,rfl,(by show 3≤bf;decide),λqm H7 S7 hm7=>?_⟩;have S27:=S26.trans S7;apply⟨_,rfl,.inl ⟨rfl,_,SqL.of (S7 _ _ hA6)⟩,_,rfl,x,dx',_,rfl,S27 _ _ h1,rfl,_,rfl,_,rfl,_,rfl,H2,x,q,j,a,sp,l,rg,c.2,c.1,rfl,S27,cd2,(ce6.keep (bD.tupK S7)).dn S27,hjb,C'.ob.len,by rw[C'.ob.len];exact nfew,λL q1 q2 H8 S8 fL hL e1 e2=>?_⟩;have nLA2:L≠Ah:=λz=>by rw[z,S7 _ _ hA6] at fL;cases fL
 have hA8:=S8 _ _ (S7 _ _ hA6);apply⟨Ah,L,_,_,rfl,rfl,hA8,hL,aQ (m:=10000) (by show zs'.length+2≤10000;lia) ↥0,?_⟩;have K9:kK H8 (upd H8 Ah (.lst (zs'++[.ref q1,.ref q2]))):=fm hA8;have K68:kK H6 H8:=λa xs e=>S8 _ _ (S7 _ _ e)
 obtain⟨okn,lessn,p2⟩:=sz_cut f lrg C' al hj (a:=a) ⋯ ⋯ ok';obtain⟨mid1,mid2⟩:=prodC_mid C'.ob f.acy.nodup.1 hlt hj hlj ha;apply⟨_,.cut j a,_,.ref qm,_,_,lessn,rfl,λa o e=>?_,aR,?_,?_,?_,?_,okn,?_,(λd e=>by cases e),rfl⟩
 ·rw[bt (bF e hAh2)];exact S8 _ _ (S27 _ _ e)
 ·exact Paired.app (CsL.keep K9 (CsL.keep K68 cl6)) (.cons ⟨q1,rfl,e1.keep K9⟩ (.cons ⟨q2,rfl,e2.keep K9⟩ .nil))
 ·rw[bt nLA];exact S8 _ _ (S7 _ _ hL6)
 ·exact eM.keepP K9 (eM.keepP K68 dmv6 pm) pm
 ·exact .tup (K9 _ _ (S8 _ _ hm7)) (.cons (.str _) (.cons (.int _) (.cons (.int _) .nil)))
 ·rw[List.reverse_append]
  exact W.cut hjb ⋯ ⋯ p2 mid1 mid2
abbrev sCases:cF:=top 27
def gone_few (E:kQ m sp)(h:∀i∈π,i<sp.length):(kX sp m π).2.length≤m:=by
 obtain⟨D,_,_,l⟩:=gone_cnt E π (j4 m) [] (kg m) h (Cnt.start m);have l:D.length+(kX sp m π).2.length=m:=l;lia
def gone_lt (h:∀i∈π,i<sp.length):∀i∈(kX sp m π).2,i<sp.length:=λi hi=>by
 rcases(ky sp π (j4 m,[])).1 i hi with z | z
 ·cases z
 ·exact h i z
def WOk (sp:List Sn):Prop:=∀x∈sp,0≤x.o - x.l∧x.o - x.l+1≤10 ^ 61
theorem jb.wok {m:Int}(N:jb b m sp)(h:b≤10 ^ 61):WOk sp:=λx hx=>by
 have s:=N.all x hx;have:=s.lo;have:=s.ob;lia
theorem prodW_abs {sp:List Sn}(w:WOk sp):∀{l:List Nat},(∀i∈l,i<sp.length)→(kd sp l).natAbs≤(10 ^ 61) ^ l.length
 | [],_=>by show 1≤(10 ^ 61) ^ 0;decide
 | i::l,h=>by
  rw[oA,Int.natAbs_mul,aV,Nat.pow_succ,jT ((10 ^ 61) ^ l.length)];apply Nat.mul_le_mul ?_ (prodW_abs w λj hj=>h j (aA _ hj));have:=w _ (fc (h i bq));show((sAt sp i).o - (sAt sp i).l+1).natAbs≤_;lia
def pow_33 {k:Nat}(h:n≤(10 ^ 61) ^ k)(hk:k≤16):n<10 ^ 1000:=by
 apply cf h ?_;rw[←Nat.pow_mul];exact Nat.pow_lt_pow_right ↥0 ⋯
inductive spCases (T:aq)(lp:Pos)(lq:Str)(vs:List V)(H:Hp)(Q:VK)(_:XK):Prop
 | mk (v b m sp:_)(_:vs=[v])(_:IsD H v (jv b m sp))(_:jb b m sp)(_:b≤10 ^ 61)(_:L2.LamT T lp lq H)(_:∀H' (l:List Nat),L2.Tb T H H'→L2.LamT T lp lq H'→jo m.toNat sp l→Q (.int (kd sp l)) H')
def scCases:bY ["net","cases","span"] pza (defScope sCases):=by trivial
theorem ok_cases (F:Fun K "cases_of" "cases_of" sCases f fd)(G1:Fn K mg "forest_of" mz pza f1 fd1)(F1:‹0› 6 f1 fd1 pza (lP Tb0 lp lq))(G2:Fn K mg "width_of" sWidth pzf f2 fd2) :
  ‹0› 7 f fd pza (spCases Tb0 lp lq):=by
 have F2:‹0› 1 f2 fd2 pzf spWidth:=ok_width G2.F;specialize F.ok scCases;obtain ⟨v,b,m,sp,rfl,hv,N,b33,hT,k⟩:=h;have hr1:gP 1 _:=hr.mono ↥0;have E:=N.ends;have m2:=N.m2;have m1:=N.m1;have wk:=N.wok b33;apply ⟨_,PSl.h (aZ ⟨(psZ 1 scCases.nd bP)⟩
  (aZ ⟨(ig bH rfl (lr (pc1 G1 F1 hr (ai (pv 0) aF))) (pgZ 2 scCases.nd) (cE (ps_aug (i:=1) scCases.nd rfl (.inl rfl) (dB i6 (pc1 G2 F2 hr1 (ai (pv 0) (ai (pv 2) aF))) bP) ip_mulG)))⟩
  (cP ⟨(bZ (pv 1))⟩))),?_⟩
 apply⟨_,rfl,v,b,m,sp,rfl,hv,N,hT,λu H1 ns tb hT1 hu F0=>?_⟩;obtain⟨l,π,rfl,O,pm⟩:=F0.natsF;have hp:∀i∈π,i<sp.length:=λi hi=>O.lt hi
 have hlt:∀i∈l,i<sp.length:=λi hi=>gone_lt hp i (pm.mem_iff.mp hi)
 have few:l.length≤16:=by have:=gone_few E hp;rw[pm.length_eq];lia
 have hv1:=cg (Tb.tupK (LamT.tbl hT) tb) hv;rw[cW] at hu;apply⟨u,rfl,⟨_,SqT.of hu⟩,?_⟩;apply for_tup (K:=K) (a:=u) (xs:=l.map (V.int ∘ λ(i:Nat)=>(i:Int))) (λi σ HA=>HA=H1∧∃v2,σ=[some v,some (.int (kd sp (l.take i))),v2]) ⟨rfl,none,rfl⟩ (λi σ HA _ ⟨e,_⟩=>by rw[e];exact SqT.of hu) ?_ ?_
 ·rintro i x σ HA hx ⟨rfl,v2,rfl⟩
  rw[az] at hx;obtain⟨j,hj,rfl⟩:=aM.mp hx;have hjl:=aL hj;have hjn:=hlt j hjl;have w0:=wk _ (fc hjn);apply⟨_,rfl,_,rfl,_,rfl,v,b,m,sp,j,sAt sp j,rfl,hv1,ju hjn,_,_,rfl,rfl,?_⟩;apply⟨_,_,rfl,rfl,⟨?_,?_⟩,rfl,some (.int j),?_⟩
  ·exact pow_33 (prodW_abs wk (l:=l.take i) λk hk=>hlt k (List.mem_of_mem_take hk)) (by rw[bM];lia)
  ·exact pow_33 (k:=1) (by rw[Nat.pow_one];lia) ↥0
  ·rw[bj,hj]
   show _=[some v,some (.int (kd sp (l.take i++[j]))),_];rw[prodW_snoc];rfl
 ·rintro σ HA ⟨rfl,v2,rfl⟩
  rw[aa,bo];exact⟨_,rfl,k HA l tb hT1 ⟨F0,π,O,pm⟩⟩
abbrev jf:cF:=top 56
def lamE5:List cF→Expr
 | [_,_,_,_,.Return (some (.Tuple [_,.Call _ [_,e] _ _] _ _)) _]=>e
 | _=> .Constant .none 0 ⟨0,0,0,0⟩
def lamP5:Expr→Pos
 | .Lambda _ _ _ p=>p
 | _=>⟨0,0,0,0⟩
def lamS5:Expr→fN
 | .Lambda _ _ s _=>s
 | _=>{ kind:= .function,names:=[],isGenerator:=false,isCoroutine:=false }
def lamA5:Expr→gQ
 | .Lambda a _ _ _=>a
 | _=>{ posonlyargs:=[],args:=[],vararg:=none,kwonlyargs:=[],kw_defaults:=[],kwarg:=none,defaults:=[] }
def lamB5:Expr→Expr
 | .Lambda _ e _ _=>e
 | e=>e
abbrev laT:gQ:=lamA5 (lamE5 (gW jf))
abbrev lbT:Expr:=lamB5 (lamE5 (gW jf))
abbrev lpT:Pos:=lamP5 (lamE5 (gW jf))
abbrev lsT:fN:=lamS5 (lamE5 (gW jf))
abbrev lqT:Str:=(("table_for" :Str) ++ ".<locals>.") ++ "<lambda>"
def ptF_same (N:∀b o,fz b=some o→H b=none):bD H (ptF H fz):=λa o e=>by
 cases q:fz a with
 | none=>rw[ie q];exact e
 | some o'=>rw[N a o' q] at e;cases e
def ctF_kp (F:Fz fz H):Kp H (ctF H fz):=⟨λq xs e=>F.cut e (λ_ z=>by cases z),λq xs e=>F.cut e (λ_ z=>by cases z),λq _ xs e=>F.cut e (λ_ z=>by cases z)⟩
def ptF_back (F:Fz fz H)(S:bD (ctF H fz) H'):bD H (ptF H' fz):=λa o e=>by
 cases q:fz a with
 | some o'=>rw[F a o' q] at e;cases e;exact rB q
 | none=>rw[ie q];exact S a o (by rw[iM q];exact e)
def LamT.cutF {T:aq}(F:Fz fz H)(cl:∀c o,fz c=some o→∃v,o.data= .cell v)(h:L2.LamT T lp lq H):L2.LamT T lp lq (ctF H fz):=by
 obtain⟨l,e,r⟩:=h;apply⟨l,F.cut e (λ_ z=>by cases z),λx hx=>?_⟩;obtain⟨oc,vs,t,e2,hd,z⟩:=r x hx;apply⟨oc,vs,t,?_,hd,z⟩;cases q:fz x.2 with
 | none=>rw[iM q];exact e2
 | some o' =>
  obtain⟨v,hv⟩:=cl _ o' q;rw[F _ o' q] at e2;cases e2;rw[hd] at hv;cases hv
def LmOk.imp {k:Nat}{Hg:Hp→Prop}{sp:Sp}(L:LmOk P w K mg base k f Hf sp)(h:∀H,Hg H→Hf H):LmOk P w K mg base k f Hg sp:=⟨λH hh g=>L.isFn H hh (h H g),λA outer s H u v Q hr e0 g=>L.run A outer s H u v Q hr e0 (h H g)⟩
inductive k7 (T0:aq)(p0:Pos)(q0:Str)(T1:aq)(p1:Pos)(q1:Str)(T2:aq)(vs:List V)(H:Hp)(Q:VK)(_:XK):Prop
 | mk (v:V)(b m:Int)(sp:List Sn)(_:vs=[v])(_:IsD H v (jv b m sp))(_:jb b m sp)(_:(∀l,jo m.toNat sp l→kd sp l≤4096))(_:L2.LamT T0 p0 q0 H)(_:L2.LamT T1 p1 q1 H)(_:L2.LamT T2 lpT lqT H)(_:∀(q:aq) (H':Hp),(∀a o,a≠T0→a≠T1→a≠T2→H a=some o→H' a=some o)→Kp H H'→L2.LamT T0 p0 q0 H'→L2.LamT T1 p1 q1 H'→L2.LamT T2 lpT lqT H'→((∃(qt:aq) (t:List Int),H' q=some (.tup [.str "table",.ref qt])∧H' qt=some (.tup (t.map V.int))∧kN b m sp t)∨∃(u:V) (t:Tq),H' q=some (.tup [.str "none",u])∧IsD H' u (jY t)∧pl (jY t)=true∧(∀T,¬kB b T sp=true)∧GoodT (RDead b sp) t (sp.map λz=>(z.l,z.o)) 21∧siz t≤8191)→Q (.ref q) H')
def ps_out:PS X st (λ_ _ _=>False):=λ_ _ _ _ _ _ h=>h.elim
def scTabFor:bY ["net","many","tables"] pza (defScope jf):=by trivial
theorem ok_tabForN {c:aq}(F:Fun K "table_for" "table_for" jf f fd)(hcd:fd.code= .ref c)(CH:dg K c T2=true)(B:BM mg base)(T:Nm mg)(MC:∃t,mg "MOST_CASES" =some (.int 4096 t))(ne:T0≠T1)(n2:T2≠T0)(n3:T2≠T1)
  (G1:Fn K mg "cases_of" sCases pza f1 fd1) (F1:‹0› 7 f1 fd1 pza (spCases T0 p0 q0))
  (G2:Fn K mg "tables_that_fit" sTabF pzk f2 fd2) (F2:‹0› 11 f2 fd2 pzk (spTabF T0 p0 q0 T1 p1 q1))
  (G3:Fn K mg "tree_by" sTreeB pzz f3 fd3) (F3:‹0› 11 f3 fd3 pzz (spTreeBy P w K mg base T0 p0 q0 T1 p1 q1))
  (G4:Fn K mg "dead_leaf" sDeadL pzs f4 fd4) (F4:‹0› 4 f4 fd4 pzs spDeadL):‹0› 12 f fd pza (k7 T0 p0 q0 T1 p1 q1 T2):=by
 apply okC F hcd scTabFor (by contradiction) (fun A outer s H vs Q E hr h=>?_);obtain ⟨v,b,m,sp,rfl,hv,N,hc,hT0,hT1,hT2,k⟩:=h;have hr7:gP 7 _:=hr.mono ↥0;apply ⟨_,PSl.h (aZ ⟨(psZ 1 scTabFor.nd (pc1 G1 F1 hr7 (ai (pv 0) aF)))⟩
  (aZ ⟨(gg (cy qT (pv 1) (qd MC) (cL _)) (cE ps_out) cY)⟩
  (aZ ⟨(psZ 2 scTabFor.nd (pc1 G2 F2 hr (ai (pv 0) (ai bP aF))))⟩
  (aZ ⟨(gg (cy qT (cp bR rfl T.len bC (ai (pv 2) aF)) bP (cL _)) (cE (bZ (dG (ai jh (ai (dO gG (pv 2) bP (fun _ _=>rfl)) aF))))) cY)⟩
  (cP ⟨(bZ (dG (ai jh (ai (pe_callZ (scope:=lsT) (fr:=pza) (js:=[0]) F3 hr (fun _=>rfl) rfl G3.mg G3.F.kp G3.b rfl ⇑0 (by exists jf) (ai (pv 0) (ai (pe_lam (T:=T2) rfl rfl CH B (by exists jf)) aF))) aF))))⟩))))),?_⟩
 apply⟨_,rfl,v,b,m,sp,rfl,hv,N,by have:=N.b2;lia,hT0,λH1 l tb1 hT01 fr=>?_⟩;have kp1:=Tb.kp hT0 tb1;have hT11:=LamT.ntb hT1 hT0 (cK ne) tb1;have hT21:=LamT.ntb hT2 hT0 n2 tb1;have cl:=hc l fr;apply⟨_,rfl,_,_,rfl,rfl,_,rfl,j3 (rV ⋯) ?_⟩;apply⟨_,rfl,v,b,m,sp,1,rfl,cg kp1.tup hv,N,↥0,hc,hT01,hT11,λL tv l' rg Ts H2 st2 kp2 hT02 hT12 hL dL R tabs few hold=>?_⟩;have hT22:L2.LamT T2 lpT lqT H2:=by
  obtain⟨ps0,e0⟩:=LamT.tbl hT01;obtain⟨ps1,e1⟩:=LamT.tbl hT11;exact L2.LamG.stay hT21 (λps e=>st2 _ _ n2 n3 e) λa o u e=>st2 _ _ (fM e e0 nofun) (fM e e1 nofun) e
 have ltv:tv.length=Ts.length:=by rw[dL.length];unfold fF;rw[aa]
 apply⟨_,rfl,L,_,rfl,.inl (SqL.of hL),_,_,rfl,rfl,_,rfl,?_⟩;cases Ts with
 | cons t Ts =>
  apply mr (rT (by rw[ltv,aV];show((Ts.length+1:Nat):Int) > 0;lia)) ?_;cases dL with
  | cons d0 ds =>
   rename_i y ys;obtain⟨qt,qs,rfl,hq,rq⟩:=IsD.tup_of d0;have eq:=rq.ints_of;subst eq;apply⟨_,rfl,L,_,_,_,rfl,rfl,SqL.of hL,aO (j:=0) rfl,o6,λq H3 S3 h3=>?_⟩;exact k q H3 (λa o n0 n1 _ e=>S3 _ _ (st2 a o n0 n1 (tb1 a o n0 e))) (kp1.trans (kp2.trans (bD.kp S3))) (LamT.same S3 hT02) (LamT.same S3 hT12) (LamT.same S3 hT22) (.inl ⟨qt,t,h3,S3 _ _ hq,tabs t ∅⟩)
 | nil =>
  apply j3 (rV (by rw[ltv];decide)) ?_;have nof:∀T',¬kB b T' sp=true:=λT' hT'=>by
   obtain⟨t,ht,_⟩:=hold (.inl ↥0) T' hT';cases ht
  have hv2:=cg kp2.tup (cg kp1.tup hv);apply⟨_,rfl,hT22,λg cl' H3 tb3 hT23 LF LE=>⟨cl',[v],LE,rfl,λfz C0 N0=>?_⟩⟩;have kp3:=Tb.kp hT22 tb3;have hT03:=LamT.ntb hT02 hT22 (cK n2) tb3;have hT13:=LamT.ntb hT12 hT22 (cK n3) tb3;have SP:=ptF_same N0;have hT04:=LamT.same SP hT03;have hT14:=LamT.same SP hT13;have LF:LamF lqT laT lbT lsT cl' g H3:=LF;have LF4:=LF.same SP;have hv4:=(cg kp3.tup hv2).same SP;have m2:=N.m2;have m1:=N.m1;have LM:LmOk P w K mg base 6 g (qW T0 T1 (ptF H3 fz)) (spLeafIn v b m sp (RDead b sp)):=by
   apply LmOk.mono (j:=5) (LmOk.imp (lam_run (k:=4) (q:=lqT) (params:=laT) (body:=lbT) (scope:=lsT) (cl:=cl') (fz:=fz) (x := "case") (fr:=pza) (ws:=[v]) (λ_ _ _ _=>rfl) rfl rfl rfl ⇑0 rfl ↥0 C0 (λy hy hf=>?_) ⇑0 (λL' cd A' outer' s' H' hr'=>pc1 G4 F4 hr' (ai (pv 1) (ai (pv 0) aF))) (λv' Hx Qx _ Zx hsp=>?_)) λHx st=>?_) ↥0
   ·have e:y.1 = "net" := (by trivial:∀y:Str×cQ,y∈lsT.names→y.2=cQ.free→y.1 = "net") y hy hf
    obtain⟨cc,_,_,ec,_⟩:=C0.val 0 "net" v rfl rfl;exact⟨cc,by rw[e];exact ec⟩
   ·obtain⟨l2,rg2,q2,c2,e2,R2,cd2,ok2,hvx,kk⟩:=hsp
    cases e2;have KX:=ctF_kp Zx;have f2:=R2.ff N;have tl:l2.length≤15:=by have:=R2.fr.few N.ends ⋯;lia
    apply⟨_,rfl,_,rfl,v,q2,b,m,sp,c2.1,c2.2,rfl,cg KX.tup hvx,by have:=N.b1;lia,by have:=N.b2;lia,cd2.kp KX,ok2.few,λz hz=>by rw[ok2.ob.len];exact((f2.rk z (ok2.sub z hz)).rg N tl).inn,λr H' S' hd fr'=>?_⟩;apply kk r _ (ptF_back Zx S') ?_
    rcases hd with ⟨rfl,al⟩ | ⟨z,hz,dz,hdz⟩
    ·apply .inr ⟨rfl,al,eZ λnz=>?_⟩
     have ht2:=f2.acy.nodup.2;have fix:∀j∈l2,(c2.1.getD j (0,0)).1=(c2.1.getD j (0,0)).2:=λj hj=>by
      have h1:=(ok2.ob.lo j (ht2 j hj)).2.1;have h2:¬((c2.1.getD j (0,0)).1<(c2.1.getD j (0,0)).2):=λz=>nz ⟨j,hj,z⟩
      lia
     obtain⟨ts,_,_,hf,_⟩:=tight N f2 ok2.ob ⟨fix,ok2.all al⟩;exact nof ts hf
    ·exact .inl ⟨_,IsD.keepP (bD.tupK (ptF_same fr')) dz (rH z.2).1,rH z.2,z.2,rfl,(f2.rk z (ok2.sub z hz)).rg N tl,hdz⟩
   ·obtain⟨ps0,e0⟩:=LamT.tbl hT04
    obtain⟨ps1,e1⟩:=LamT.tbl hT14;have fz':∀a o u,ptF H3 fz a=some (.frz o u)→Hx a=some (.frz o u):=λa o u e=>st a _ (fM e e0 nofun) (fM e e1 nofun) e
    obtain⟨pm,cd,ct,e,oc,vs,t,ec,r⟩:=LF4;exact⟨⟨pm,cd,ct,fz' _ _ _ e,oc,vs,t,fz' _ _ _ ec,r⟩,λa o z=>fz' _ _ _ (rB z)⟩
  apply⟨v,g,b,m,sp,RDead b sp,rfl,hv4,N,hc,hT04,hT14,LM,λu t H5 st5 kp5 hT05 hT15 du plu gd sz Z5=>?_⟩;have KC:=ctF_kp Z5;have hT25:L2.LamT T2 lpT lqT H5:=by
   obtain⟨ps0,e0⟩:=LamT.tbl hT04;obtain⟨ps1,e1⟩:=LamT.tbl hT14;exact L2.LamG.stay (LamT.same SP hT23) (λps e=>st5 _ _ n2 n3 e) λa o u e=>st5 _ _ (fM e e0 nofun) (fM e e1 nofun) e
  apply⟨o6,λq H6 S6 h6=>?_⟩;have kpa:Kp H H6:=kp1.trans (kp2.trans (kp3.trans ((bD.kp SP).trans (kp5.trans (KC.trans (bD.kp S6))))));have sta:∀a o,a≠T0→a≠T1→a≠T2→H a=some o→H6 a=some o:=λa o n0 n1 n2' e=>by
   have e3:=tb3 a o n2' (st2 a o n0 n1 (tb1 a o n0 e));have e5:=st5 a o n0 n1 (SP _ _ e3);apply S6 _ _ ?_;have fo:fz a=none:=by
    cases z:fz a with
    | none=>rfl
    | some o'=>rw[N0 a o' z] at e3;cases e3
   rw[iM fo];exact e5
  exact k q H6 sta kpa (LamT.same S6 (LamT.cutF Z5 C0.cell hT05)) (LamT.same S6 (LamT.cutF Z5 C0.cell hT15)) (LamT.same S6 (LamT.cutF Z5 C0.cell hT25)) (.inr ⟨u,t,h6,(IsD.keepP KC.tup du plu).same S6,plu,nof,gd,sz⟩)
end HN
namespace L2
open PySem PySem.W PySem.Spec PyProof.Rows
section
variable {pins:List (aq×Obj)}{σ:List (Option V)}
def Inv.repinE {o o':Obj}(I:Inv X ((kS,o)::pins) σ H s)(hs0:X.s₀.heap.objs.size≤kS)(hC:∀x c,X.env.cells.lookup x=some c→c≠kS)(hP:∀p∈X.pn++pins,p.1≠kS)(k:∀b o,b≠kS→s.heap.get? b=some o→h'.get? b=some o)(ho':h'.get? kS=some o')(hd:∀v,o'.data≠ .cell v):Inv X ((kS,o')::pins) σ H { s with heap:=h',toks:=t' }:=by
 obtain⟨p1,p2,p3,p4,_⟩:=I.pin (kS,o) (aE _ (bq ..));have I2:=I.unpin.turned (t':=t') (it:=kS) (h':=h') k p2 p3 (.inr hs0) hC hP;apply I2.pins_of λp hp=>?_
 rcases aH.mp hp with rfl | hp
 ·exact⟨ho',p2,p3,p4,hd⟩
 ·exact I2.pin p (aE _ hp)
def Inv.swap {p q:aq×Obj}(I:Inv X (p::q::pins) σ H s):Inv X (q::p::pins) σ H s:=I.pins_of λz hz=>by
 apply I.pin z (aE _ ?_)
 rcases aH.mp hz with rfl | hz
 ·simp
 ·rcases aH.mp hz with rfl | hz
  ·simp
  ·simp[hz]
end
def kH (key:Nat→Int):Nat→Nat:=argBest λi j=>decide (key i<key j)
theorem best_ok (key:Nat→Int):∀n,kH key n≤n∧∀j,j≤n→key (kH key n)≤key j
 | 0=>⟨aB 0,λj hj=>by rw[Nat.le_zero.mp hj];exact d8 _⟩
 | n+1=>by
  obtain⟨h1,h2⟩:=best_ok key n;have e:kH key (n+1)=if decide (key (n+1)<key (kH key n))=true then n+1 else kH key n:=rfl;rw[e]
  by_cases c:key (n+1)<key (kH key n)
  ·rw[rR (rT c)]
   apply⟨aB _,λj hj=>?_⟩
   by_cases z:j=n+1
   ·rw[z];exact d8 _
   ·have:=h2 j ⋯;lia
  ·rw[rQ (by rw[rV c];exact bc)]
   apply⟨⋯,λj hj=>?_⟩
   by_cases z:j=n+1
   ·rw[z];lia
   ·exact h2 j ⋯
section
variable {pins:List (aq×Obj)}{σ:List (Option V)}
def KeyI (X:Cx)(σ:List (Option V))(H:Hp)(f:af)(vs:List V)(key:Nat→Int):Prop :=
 ∀(t:ay) (H':Hp) (pins':List (aq×Obj)) (i:Nat) (v:V) (u:af),vs[i]? =some v→gL v u→Inv X pins' σ H' t→bD H H'→aW (br X.prog X.w) X.A.in1 (call f [u]) (λk t'=>∃H'' tk,Inv X pins' σ H'' t'∧bD H' H''∧k= .int (key i) tk) (λ_ _=>False) t
structure Two (X:Cx)(pins:List (aq×Obj))(It S:aq):Prop where
 i0:X.s₀.heap.objs.size≤It
 s0:X.s₀.heap.objs.size≤S
 ic:∀x c,X.env.cells.lookup x=some c→c≠It
 sc:∀x c,X.env.cells.lookup x=some c→c≠S
 ip:∀p∈X.pn++pins,p.1≠It
 sp:∀p∈X.pn++pins,p.1≠S
 ne:It≠S
def Two.ipS {It S:aq}(T:Two X pins It S)(o:Obj):∀p∈X.pn++((S,o)::pins),p.1≠It:=λp hp=>by
 rcases aI.mp hp with hp | hp
 ·exact T.ip p (aJ _ hp)
 ·rcases aH.mp hp with rfl | hp
  ·exact cK T.ne
  ·exact T.ip p (aE _ hp)
def Two.spI {It S:aq}(T:Two X pins It S)(o:Obj):∀p∈X.pn++((It,o)::pins),p.1≠S:=λp hp=>by
 rcases aI.mp hp with hp | hp
 ·exact T.sp p (aJ _ hp)
 ·rcases aH.mp hp with rfl | hp
  ·exact T.ne
  ·exact T.sp p (aE _ hp)
def min_next {It S L:aq}{oS:Obj}{vs:List V}{Q:Option af→ay→Prop}(hh:A.handled=none)(T:Two X pins It S)(I:Inv X ((It,oI)::(S,oS)::pins) σ H s)(hL:H L=some (.lst vs))(hI:oI.cls= .type "list_iterator" ∧oI.data= .fields #[.ref L,.int j 0])
  (hit:∀v u oI' s',vs[j]? =some v→gL v u→Inv X ((It,oI')::(S,oS)::pins) σ H s'→oI'.cls= .type "list_iterator" ∧oI'.data= .fields #[.ref L,.int ((j+1:Nat):Int) 0]→Q (some u) s')
  (hend:∀s',j=vs.length→Inv X ((S,oS)::pins) σ H s'→Q none s') (hj:j≤vs.length):aW (br X.prog X.w) A (pyNext (.ref It)) Q E s:=by
 obtain⟨its,rv,⟨o,n,ho,hcl,_,hd⟩,_⟩:=I.list (SqL.of hL);have gI:=(I.pin (It,oI) (aE _ (bq ..))).1;have hLI:L≠It:=λz=>by have:=(I.pin (It,oI) (aE _ (bq ..))).2.1;rw[←z,hL] at this;cases this
 have st:s.heap.IsListIter It L j∧s.heap.IsList L its.toArray:=⟨⟨oI,gI,hI.1,hI.2⟩,⟨o,ho,hcl,n,hd⟩⟩;have W:=Walks.list (prog:=X.prog) (w:=X.w) (A:=A) hh It L hLI its.toArray;have lz:its.length=vs.length:=rv.length.symm
 by_cases e:j=vs.length
 ·apply W.done s _ _ (by rw[aK,lz,←e];exact st) λh' tk hk=>hend _ e ?_
  have:=I.unpin.turned (t':=tk) (it:=It) (h':=h') (λb o hb e=>hk b o (by simp[hb]) e) (I.pin (It,oI) (aE _ (bq ..))).2.1 (I.pin (It,oI) (aE _ (bq ..))).2.2.1 (.inr T.i0) T.ic (T.ipS oS);exact this
 ·apply W.item j s _ _ (by rw[aK];lia) st λu h' tk hu st' hk=>?_
  obtain⟨oI',gI',c1,c2⟩:=st'.1;have hu:its[j]? =some u:=by simpa using hu
  have hv:vs[j]? =some (vs[j]'⋯):=gE _;apply hit vs[j] u oI' _ hv ?_ (I.repinE T.i0 T.ic (T.ipS oS) (λb o hb e=>hk b o (by simp[hb]) e) gI' (λv z=>by rw[c2] at z;cases z)) ⟨c1,c2⟩;obtain⟨u',hu',ru⟩:=gz.get rv hv;rw[hu] at hu';cases hu';exact ru
end
def ny {id:String}{b:cO}{args:List af}(hk:builtinKind id=none)(hp:plainId id=true)
  (hb:entryFor table id=some b) (ha:argsOk id ⟨args,kw⟩)
  (hfin:aW (br prog w) A.in1 (b ⟨args,kw⟩) (fun fin s'=>match fin with
   | .done f=>(match (Except.ok f:Result) with | .ok (.ret v)=>Q v s' | .ok _=>False | .error e=>E e s')
   | .again c'=>c'.quiet=true∧jj (br prog w) A c' (fun r s'=>match r with | .ok (.ret v)=>Q v s' | .ok _=>False | .error e=>E e s') s') E s):aW (br prog w) A (call (.builtin id) args kw) Q E s:=by
 apply wpAny_call (codeAny_call_builtin hp hb ?_);simp only[checkBuiltinCall,hk];cases hsig:Manifest.signature? id with
 | none=>exact aP hfin
 | some sig =>
  have ha':Bind.checkArgs id sig ⟨args,kw⟩=fV ():=by simpa only [argsOk,hsig] using ha
  simp only[ha'];exact aP hfin
structure MM (nm l:String)(op:CmpOp)(sg:Int→Int):Prop where
 el:∀f:String→CmpOp→cO,f "min" .Lt=cO.«min.loop» →f "max" .Gt=cO.«max.loop» →entryFor table l=some (f nm op)
 en:∀g:String→cO,g "min" =cO.«min» →g "max" =cO.«max» →entryFor table nm=some (g nm)
 kind:builtinKind nm=none
 plain:plainId nm=true
 pl:plainId l=true
 nml:(toString nm++toString ".loop" :String)=l
 cmp:∀{prog:aX} {w:bz} {A:bT} {i j:Int} {ti tj:Tok} {Q:af→ay→Prop} {E:af→ay→Prop} {s:ay},Q (.bool (decide (sg i<sg j))) s→aW (br prog w) A (richCompare op (.int i ti) (.int j tj)) Q E s
 args:∀a g:af,argsOk nm ⟨[a],[(cj "key",g)]⟩
 boot:kh (cj nm)=some (.builtin nm)
 nn:cj nm ≠ "__name__"
 nd:(cj nm == ("__debug__" :Str))=false
section
variable {pins:List (aq×Obj)}{σ:List (Option V)}
def Inv.pin1 {p:aq×Obj}(I:Inv X (p::pins) σ H s):s.heap.get? p.1=some p.2:=(I.pin p (aE _ (bq ..))).1
def Inv.pin2 {p q:aq×Obj}(I:Inv X (p::q::pins) σ H s):s.heap.get? q.1=some q.2:=I.unpin.pin1
def min_put {It S:aq}{xs:Array af}{c:Nat}(T:Two X pins It S)(I:Inv X ((It,oI)::(S,bJ "list" xs c)::pins) σ H s)(ys:Array af):∃c',Inv X ((It,oI)::(S,bJ "list" ys c')::pins) σ H { s with heap:=s.heap.update S (cN λ_=>ys) }:=by
 have hS:=I.pin2;obtain⟨c',hc'⟩:∃c',(s.heap.update S (cN λ_=>ys)).get? S=some (bJ "list" ys c'):=⟨_,gO hS λ_=>ys⟩;exact⟨c',(I.swap.repinE (t':=s.toks) T.s0 T.sc (T.spI oI) (λb o hb e=>(jL _ _ (cK hb)).trans e) hc' (λv z=>by cases z)).swap⟩
theorem mm_first {l:String}{sg:Int→Int}(M:MM nm l op sg){It S L g:aq}{vs:List V}{R:Result→ay→Prop}(T:Two X pins It S)(hh:X.A.handled=none)(hkey:KeyI X σ H (.ref g) vs key)(hL:H L=some (.lst vs))(hne:vs≠[])
  (fin:∀v u H' s',vs[kH (λi=>sg (key i)) (vs.length - 1)]? =some v→gL v u→bD H H'→Inv X pins σ H' s'→R (.ok (.ret u)) s')
  {c:Nat} (I:Inv X ((It,oI)::(S,bJ "list" #[] c)::pins) σ H s) (hI:oI.cls= .type "list_iterator" ∧oI.data= .fields #[.ref L,.int ((0:Nat):Int) 0]):jj (br X.prog X.w) X.A (.builtin l ⟨[.ref It,.ref g,.ref S],[]⟩) R s:=by
 apply(λ⟨f,a,b,k⟩=>k (M.el f a b):(∃f:String→CmpOp→cO,f "min" .Lt=cO.«min.loop» ∧f "max" .Gt=cO.«max.loop» ∧(entryFor table l=some (f nm op)→jj (br X.prog X.w) X.A (.builtin l ⟨[.ref It,.ref g,.ref S],[]⟩) R s))→_) ⟨_,rfl,rfl,λhe=>?_⟩;have loop:∀(k j:Nat) (s:ay) (H':Hp) (v:V) (vb:af) (tb:Tok) (c:Nat) (oI:Obj),vs.length - (j+1)=k→j+1≤vs.length→bD H H'→Inv X ((It,oI)::(S,bJ "list" #[vb,.int (key (kH (λi=>sg (key i)) j)) tb] c)::pins) σ H' s →
   oI.cls= .type "list_iterator" ∧oI.data= .fields #[.ref L,.int ((j+1:Nat):Int) 0]→vs[kH (λi=>sg (key i)) j]? =some v→gL v vb→jj (br X.prog X.w) X.A (.builtin l ⟨[.ref It,.ref g,.ref S],[]⟩) R s:=by
  intro k
  induction k with
  | zero =>
   intro j s H' v vb tb c oI hk hj S' I hI hv rv;have hin:j+1=vs.length:=by lia
   have hS:=I.pin2;apply lI he ?_;rw[bT.under_plainId M.pl _];show aW _ X.A.in1 (seqItems? (.ref S) >>= _) _ _ s;apply ao (fR hS rfl ?_);show aW _ X.A.in1 (tryCatch (pyNext (.ref It)) _ >>= _) _ _ s;apply ao (j8 (min_next (A:=X.A.in1) (j:=j+1) hh T I (S' _ _ hL) hI (λv2 u2 _ _ z=>rS (ar.mp z).1 ⋯) (λs' _ I'=>?_) ⋯));have hS':=I'.pin1;show aW _ X.A.in1 (updateSeq S (λ_=> #[]) >>= _) _ _ _;apply ao ?_;apply wpAny_updateSeq hS' rfl (ao (jW (aP ?_)));have I2:=(I'.repinE (t':=s'.toks) T.s0 T.sc T.sp (h':=s'.heap.update S (cN λ_=> #[])) (λb o hb e=>(jL _ _ (cK hb)).trans e) (gO hS' λ_=> #[]) (λv z=>by cases z)).unpin;exact fin v vb H' _ (by rw[←hin];exact hv) rv S' I2
  | succ k ih =>
   intro j s H' v vb tb c oI hk hj S' I hI hv rv;have hlt:j+1<vs.length:=by lia
   have hS:=I.pin2;apply lI he ?_;rw[bT.under_plainId M.pl _];show aW _ X.A.in1 (seqItems? (.ref S) >>= _) _ _ s;apply ao (fR hS rfl ?_);show aW _ X.A.in1 (tryCatch (pyNext (.ref It)) _ >>= _) _ _ s;apply ao (j8 (min_next (A:=X.A.in1) (j:=j+1) hh T I (S' _ _ hL) hI (λv2 u2 oI2 s2 hv2 ru2 I2 hI2=>?_) (λs' z _=>rS z ⋯) ⋯));show aW _ X.A.in1 (tryCatch (holding [u2] (call (.ref g) [u2])) _ >>= _) _ _ _;apply ao (j8 (dU (cx (hkey _ H' _ (j+1) v2 u2 hv2 ru2 I2 S') (λkv s3 hk3=>?_) λ_ _ z=>z.elim)));obtain⟨H3,tk,I3,S3,rfl⟩:=hk3;have hS3:=I3.pin2;show aW _ X.A.in1 (tryCatch (holding [u2,.int (key (j+1)) tk] (richCompare op (.int (key (j+1)) tk) (.int (key (kH (λi=>sg (key i)) j)) tb) >>= _)) _ >>= _) _ _ _;apply ao (j8 (dU (ao (M.cmp ?_))));apply ao (dU (eG ?_));apply ao (jW (aP ?_));have eb:kH (λi=>sg (key i)) (j+1)=if decide (sg (key (j+1))<sg (key (kH (λi=>sg (key i)) j)))=true then j+1 else kH (λi=>sg (key i)) j:=rfl;cases hb:decide (sg (key (j+1))<sg (key (kH (λi=>sg (key i)) j))) with
   | true =>
    rw[hb,rR rfl] at eb;rw[rR rfl];apply ao ?_;apply wpAny_updateSeq hS3 rfl (ao (jW ?_));rw[M.nml];obtain⟨c',I4⟩:=min_put T I3 #[u2,.int (key (j+1)) tk];apply aP ⟨plainId_quiet M.pl _,ih (j+1) _ H3 v2 u2 tk c' oI2 ⋯ hlt (S'.trans S3) (by rw[eb];exact I4) hI2 (by rw[eb];exact hv2) ru2⟩
   | false =>
    rw[hb,rQ bc] at eb;rw[rQ bc];apply ao (jW ?_);rw[M.nml];exact aP ⟨plainId_quiet M.pl _,ih (j+1) _ H3 v vb tb c oI2 ⋯ hlt (S'.trans S3) (by rw[eb];exact I3) hI2 (by rw[eb];exact hv) rv⟩
 have hlt:0<vs.length:=om.mpr hne;have hS:=I.pin2;apply lI he ?_;rw[bT.under_plainId M.pl _];show aW _ X.A.in1 (seqItems? (.ref S) >>= _) _ _ s;apply ao (fR hS rfl ?_);show aW _ X.A.in1 (tryCatch (pyNext (.ref It)) _ >>= _) _ _ s;apply ao (j8 (min_next (A:=X.A.in1) (j:=0) hh T I hL hI (λv2 u2 oI2 s2 hv2 ru2 I2 hI2=>?_) (λs' z _=>rS z ⋯) ⋯));show aW _ X.A.in1 (tryCatch (holding [u2] (call (.ref g) [u2])) _ >>= _) _ _ _;apply ao (j8 (dU (cx (hkey _ H _ 0 v2 u2 hv2 ru2 I2 (bD.refl H)) (λkv s3 hk3=>?_) λ_ _ z=>z.elim)));obtain⟨H3,tk,I3,S3,rfl⟩:=hk3;have hS3:=I3.pin2;show aW _ X.A.in1 (updateSeq S (λ_=> #[u2,.int (key 0) tk]) >>= _) _ _ _;apply ao ?_;apply wpAny_updateSeq hS3 rfl ?_;rw[M.nml];obtain⟨c',I4⟩:=min_put T I3 #[u2,.int (key 0) tk];exact aP ⟨plainId_quiet M.pl _,loop _ 0 _ H3 v2 u2 tk c' oI2 rfl hlt S3 I4 hI2 hv2 ru2⟩
theorem mm_call {l:String}{sg:Int→Int}(M:MM nm l op sg){L g:aq}{vs:List V}(I:Inv X pins σ H s)(hh:X.A.handled=none)(hkey:KeyI X σ H (.ref g) vs key)(hL:H L=some (.lst vs))(hne:vs≠[])
  (fin:∀v u H' s',vs[kH (λi=>sg (key i)) (vs.length - 1)]? =some v→gL v u→bD H H'→Inv X pins σ H' s'→Q u s'):aW (br X.prog X.w) X.A (call (.builtin nm) [.ref L] [(cj "key",.ref g)]) Q E s:=by
 apply(λ⟨f,a,b,k⟩=>k (M.en f a b):(∃f:String→cO,f "min" =cO.«min» ∧f "max" =cO.«max» ∧(entryFor table nm=some (f nm)→aW (br X.prog X.w) X.A (call (.builtin nm) [.ref L] [(cj "key",.ref g)]) Q E s))→_) ⟨_,rfl,rfl,λhe=>?_⟩;apply ny M.kind M.plain he (M.args _ _) ?_;show aW _ X.A.in1 (cO.Builtins.bindParams nm ["key","default"] 0 ⟨[],[(cj "key",.ref g)]⟩ >>= _) _ _ s;apply ao (wpAny_of_eq (show cO.Builtins.bindParams nm ["key","default"] 0 ⟨[],[(cj "key",.ref g)]⟩=fV [some (.ref g),none] from rfl) ?_);apply ao (aP ?_);obtain⟨its,rv,⟨o,n,ho,hcl,_,hd⟩,_⟩:=I.list (SqL.of hL);apply ao (fT ⟨o,ho,hcl,n,hd⟩ ?_);apply ao (fk ?_);rw[M.nml];obtain⟨h1,eh1⟩:∃h1,h1=s.heap.push { cls:= .type "list_iterator",data:= .fields #[.ref L,.int 0 0] }:=⟨_,rfl⟩;have z1:h1.objs.size=s.heap.objs.size+1:=by rw[eh1];exact eE ..
 rw[←eh1];obtain⟨h2,eh2⟩:∃h2,h2=h1.push { cls:= .type "list",data:= .seq #[] }:=⟨_,rfl⟩;have keep:∀b o,s.heap.get? b=some o→h2.get? b=some o:=λb o e=>by rw[eh2];apply ax _ ?_;rw[eh1];exact ax _ e
 have gI:h2.get? s.heap.objs.size=some { cls:= .type "list_iterator",data:= .fields #[.ref L,.int 0 0] }:=by rw[eh2];apply ax _ ?_;rw[eh1];exact aU _ rfl
 have gS:h2.get? h1.objs.size=some (bJ "list" #[] 0):=by rw[eh2];exact aU _ rfl
 have I2:=I.kept (t':=s.toks) keep;have lS:s.heap.objs.size≤h1.objs.size:=by lia
 have I3:Inv X ((s.heap.objs.size,{ cls:= .type "list_iterator",data:= .fields #[.ref L,.int 0 0] })::(h1.objs.size,bJ "list" #[] 0)::pins) σ H { s with heap:=h2 }:=I2.pins_of λz hz=>by
  rcases aH.mp hz with rfl | hz
  ·exact⟨gI,I.hok.fresh (aB _),cZ I.lt,I.nofs (aB _),λv z=>by cases z⟩
  ·rcases aH.mp hz with rfl | hz
   ·exact⟨gS,I.hok.fresh lS,cZ (aS I.lt lS),I.nofs lS,λv z=>by cases z⟩
   ·exact I2.pin z (aE _ hz)
 have old:∀b o,s.heap.get? b=some o→b≠s.heap.objs.size∧b≠h1.objs.size:=λb o e=>⟨bG (aN e),bG (aS (aN e) lS)⟩
 have T:Two X pins s.heap.objs.size h1.objs.size:=⟨I.sz,aQ I.sz lS,λy d e=>by obtain⟨v,o,ho,_⟩:=I.cell y d e;exact(old d o ho).1,λy d e=>by obtain⟨v,o,ho,_⟩:=I.cell y d e;exact(old d o ho).2,λz hz=>(old _ _ (I.pin z hz).1).1,λz hz=>(old _ _ (I.pin z hz).1).2,bG (by lia:s.heap.objs.size<h1.objs.size)⟩;apply aP ⟨plainId_quiet M.pl _,?_⟩;rw[←eh2];exact mm_first M (R:=λr s'=>match r with | .ok (.ret v)=>Q v s' | .ok _=>False | .error e=>E e s') T hh hkey hL hne (λv u H' s' a1 a2 a3 a4=>fin v u H' s' a1 a2 a3 a4) I3 ⟨rfl,rfl⟩
end
def MmQ (sg:Int→Int)(P:aq)(lq:Str)(js:List Nat)(te:TE)(σ:St)(Q:VK)(v:V)(H1:Hp):Prop:=∃(L:aq) (vs:List V) (key:Nat→Int),v= .ref L∧H1 L=some (.lst vs)∧vs≠[]∧LamG P lq H1 ∧
 (∀i x,vs[i]? =some x→∀H2,Tb P H1 H2→te (some x::c9 σ js) H2 λu H3=>bD H2 H3∧u= .int (key i)) ∧
 ∀H4 i x,Tb P H1 H4→LamG P lq H4→vs[i]? =some x→(∀j,j<vs.length→sg (key i)≤sg (key j))→Q x H4
def tMmL (sg:Int→Int)(P:aq)(lq:Str)(tr:TE)(js:List Nat)(te:TE):TE:=λσ H Q=>tr σ H λv H1=>MmQ sg P lq js te σ Q v H1
def MmQ1 (sg:Int→Int)(P:aq)(lq:Str)(js:List Nat)(te:TE)(σ:St)(Q:VK):List V→Hp→Prop
 | [v],H1=>MmQ sg P lq js te σ Q v H1
 | _,_=>False
theorem pe_mmL {l:String}{sg:Int→Int}(M:MM nm l op sg){tr:TE}{p kp:Pos}{c P:aq}(hc:X.calm=true)(hrm:X.A.depth<ka)(hg:Gl X (cj nm))(hm:X.mg (cj nm)=none)(hi:PE X re tr)
  (hd:defaultsOf params X.env=([],[])) (qU:X.env.code= .ref c) (C:codeHdIn X.K c P=true) (B:BM X.mg X.base)
  (hbind:∀q cl pm cdv ct (u:af),bindArgs (kla_fn "<lambda>" q params body scope cl pm cdv ct) ⟨[u],[]⟩=fV [(x,u)])
  (hk:scope.kind= .function) (hco:scope.isCoroutine=false) (hgen:scope.isGenerator=false) (iL:∀y∈scope.names,y.2≠ .cell) (hx:scope.names.lookup x=some .local) (hfx:x ∉ fr)
  (hfr:∀y∈scope.names,y.2= .free→X.env.scope.names.lookup y.1=some .cell) (hjs:js.map (λj=>X.N[j]?)=fr.map some) (hfv:∀y∈fr,scope.names.lookup y=some .free)
  (hb:∀cl L f cd s' H',PE (cxLam X (X.env.qual ++ "<lambda>") scope cl L f cd (x::fr) s' H') body te)
  (he:fB pos (bB [re] X.env)=(false,eP re X.env)::fB pos (bB [] X.env):=by rfl)
  (hs:bB [re] X.env=(false,eP re X.env)::bB [] X.env:=by rfl) (hpl:(fB pos (bB [re] X.env)).any (·.1)=false:=by rfl) :
  PE X (.Call (.Name (cj nm) p) [re] [⟨some "key",.Lambda params body scope lp,kp⟩] pos) (tMmL sg P (X.env.qual ++ "<lambda>") tr js te):=by
 intro pins s σ H Q I h;apply eQ (mU I hg hm M.boot ?_ M.nn M.nd);apply callWith_kw (kws:=[⟨some "key",.Lambda params body scope lp,kp⟩]) (thn ((ai hi aF hs) pos pins s σ H (MmQ1 sg P (X.env.qual ++ "<lambda>") js te σ Q) I h) λus s1 ⟨vs,H1,I1,r1,q0⟩=>?_) he hpl;apply kws_cons ?_;obtain⟨v,rfl⟩:∃v,vs=[v]:=by
  cases vs with
  | nil=>exact q0.elim
  | cons v r=>cases r with
   | nil=>exact⟨v,rfl⟩
   | cons _ _=>exact q0.elim
 have q1:MmQ sg P (X.env.qual ++ "<lambda>") js te σ Q v H1:=q0;obtain⟨L,vs,key,rfl,hL,hne,T,hkey,hQ⟩:=q1;obtain rfl:us=[.ref L]:=by
  cases r1 with
  | cons ru rs =>
   cases rs;exact rX (λz=>[z]) ru
 apply n6 (body:=body) I1 hd qU C B hfr T λf cl H2 s2 I2 tb T2 F2 c1 c2=>?_
 apply kws_nil ?_;show aW _ _ (call (.builtin nm) [.ref L] [(cj "key",.ref f)]) _ _ _;have LP:L≠P:=λz=>by
  obtain⟨ps,e⟩:=T.tbl;rw[←z,hL] at e;cases e
 have KI:KeyI X σ H2 (.ref f) vs key:=λt H' pins' i v u hv ru I' S'=>by
  apply wpAny_of_in1 (cx (lam_call (v:=v) I' hc hrm (F2.same S') ru (λpm cdv ct=>hbind _ _ _ _ _ _) hk hco hgen iL hx hfx c1 c2 hfr hjs hfv (λL cd s' H'=>hb cl L f cd s' H') (hkey i v hv H' (tb.trans S'.tb))) (λk t' ⟨v',H'',I'',rv,S'',ev⟩=>?_) λ_ _ z=>z);subst ev;obtain⟨tk,rfl⟩:∃tk,k= .int (key i) tk:=rv;exact⟨H'',tk,I'',S'',rfl⟩
 apply mm_call M I2 (I2.ok.hd hc) KI (tb _ _ LP hL) hne λv u H' s' hv ru S' I'=>?_
 obtain⟨b1,b2⟩:=best_ok (λi=>sg (key i)) (vs.length - 1);exact⟨v,H',I',ru,hQ H' _ v (tb.trans S'.tb) (T2.same S') hv λj hj=>b2 j ⋯⟩
def mm_min:MM "min" "min.loop" .Lt (λz=>z):=⟨λ_ h _=>by rw[h];exact F.entry_min_loop,λ_ h _=>by rw[h];exact F.entry_min,F.kind_min,F.plain_min,F.plain_min_loop,↥0,λ{_ _ _ i j ti tj _ _ _} h=>CmpOf.ints_lt (P:=λk v=>∃t,v= .int (if k=0 then i else j) t) (λk=>if k=0 then i else j) (λ_ _ z=>z) 0 1 _ _ _ _ _ ⟨ti,rfl⟩ ⟨tj,rfl⟩ h,λ_ _=>by unfold argsOk;kernel_rfl,by trivial,↥0,↥0⟩
def mm_max:MM "max" "max.loop" .Gt (fun z=> -z):=⟨fun _ _ h=>by rw [h];exact F.entry_max_loop,fun _ _ h=>by rw [h];exact F.entry_max,F.kind_max,F.plain_max,F.plain_max_loop,↥0,fun {_ _ _ i j ti tj _ _ _} h=>CmpOf.ints_gt (P:=fun k v=>∃ t,v= .int (if k=0 then i else j) t) (fun k=>if k=0 then i else j) (fun _ _ z=>z) 0 1 _ _ _ _ _ ⟨ti,rfl⟩ ⟨tj,rfl⟩ (by
 have e:decide (-i< -j)=decide (i > j):=decide_eq_decide.mpr ⟨fun _=>by lia,fun _=>by lia⟩;rw [e] at h;exact h),fun _ _=>by unfold argsOk;kernel_rfl,by trivial,↥0,↥0⟩
end L2
namespace L2
open PySem PySem.Spec PyProof.Rows
inductive rCountI (x:V)(vs:List V)(H:Hp)(Q:VK):Prop
 | mk (l:aq)(zs:List Int)(y:Int)(_:x= .ref l)(_:vs=[.int y])(_:H l=some (.lst (zs.map V.int)))(_:Q (.int (zs.count y:Nat)) H)
def mt_countI:MtM X "list.count" rCountI:=by
 intro pins s σ H x vs v us Q I rx rv h;obtain⟨l,zs,y,rfl,rfl,hH,q⟩:=h;cases(show v=af.ref l from rx);obtain⟨u,rfl,ru⟩:=rv.one;obtain⟨t,rfl⟩:=ru;obtain⟨z,its,n,r,hl,e⟩:=I.lstM hH;apply count_list_ints ⟨_,e,rfl,_,rfl⟩ (intsAre_of r) ?_;exact⟨.int (zs.count y:Nat),H,I.tok _,⟨_,rfl⟩,q⟩
end L2
namespace HN
open PySem L2 PyProof.Rows
abbrev oy:cF:=top 64
abbrev sHeldM:cF:=top 65
abbrev sOthI:cF:=top 66
abbrev lqCm:Str:=(("commonest" :Str) ++ ".<locals>.") ++ "<lambda>"
def hfr_in {inner:fN}(hk:env.scope.kind= .function)(hx:env.kindOf x=some .cell)(hn:scope.names.lookup x=some .free)(hi:∀y∈inner.names,y.2= .free→y.1=x):∀y∈inner.names,y.2= .free→(relabel scope env).names.lookup y.1=some .cell:=λy hy hf=>by
 rw[hi y hy hf];exact mB hk hx hn
def pi_listK {l:Expr}(e:X.K=K)(hl:PE X l tl):PI X tg l (iList K tl):=e ▸ gh hl
inductive spCommon (T:aq)(vs:List V)(H:Hp)(Q:VK)(_:XK):Prop
 | mk (L:aq)(zs:List Int)(_:vs=[.ref L])(_:H L=some (.lst (zs.map V.int)))(_:zs≠[])(_:L2.LamG T lqCm H)(_:∀(z:Int) (H':Hp),L2.Tb T H H'→L2.LamG T lqCm H'→z∈zs→(∀y∈zs,zs.count y≤zs.count z)→Q (.int z) H')
theorem fun_of:∀(hs gs:List Int),hs.Nodup→gs.length=hs.length→∃g:Int→Int,hs.map g=gs
 | [],[],_,_=>⟨λ_=>0,rfl⟩
 | [],_::_,_,h=>by cases h
 | _::_,[],_,h=>by cases h
 | h::hs,a::gs,nd,e=>by
  have nd:=bw.mp nd;obtain⟨g,eg⟩:=fun_of hs gs nd.2 (by simpa using e);apply⟨λf=>if f=h then a else g f,?_⟩;rw[bI,rR rfl,←eg];congr 1;apply gX λf hf=>?_
  rw[rQ (λz=>nd.1 (by rw[←z];exact hf))]
def Cmn (sh:List Int)(l:List Int)(z:Int):Prop:=z∈l.map (tm sh)∧∀y∈l.map (tm sh),(l.map (tm sh)).count y≤(l.map (tm sh)).count z
inductive spHeldM (T:aq)(vs:List V)(H:Hp)(Q:VK)(_:XK):Prop
 | mk (v:V)(p u1 u2:aq)(b m:Int)(sp:List Sn)(zs:List V)(fs ts us:List Int)(_:vs=[v,.ref p,.ref u1,.ref u2])(_:IsD H v (jv b m sp))(_:0<b)(_:H p=some (.lst zs))(_:PtsD H zs fs)(_:H u1=some (.tup (ts.map V.int)))(_:H u2=some (.tup (us.map V.int)))(_:us.length=ts.length)(_:fs.length=ts.length)(_:ts.length≤1000)(_:L2.LamG T lqCm H)(_:∀(r:aq) (H':Hp) (X:List Int) (g:Int→Int),L2.Tb T H H'→L2.LamG T lqCm H'→H' r=some (.tup (X.map V.int))→X.length=ts.length→(∀k:Int,0≤k→k<ts.length→tm X k=(tm us k+g (tm fs k)) % b)→(∀f∈iY fs,Cmn (shM b ts us) (kI fs f) (g f))→Q (.ref r) H')
def qg (ts us:List Int):List Int:=((aG ts.length).filter λk:Nat=> !decide (tm ts k=tm us k)).map λk:Nat=>(k:Int)
inductive spOthI (vs:List V)(H:Hp)(Q:VK)(_:XK):Prop
 | mk (u1 u2:aq)(ts us:List Int)(_:vs=[.ref u1,.ref u2])(_:H u1=some (.tup (ts.map V.int)))(_:H u2=some (.tup (us.map V.int)))(_:us.length=ts.length)(_:ts.length≤1000)(_:∀(r:aq) (H':Hp),bD H H'→H' r=some (.tup ((qg ts us).map V.int))→Q (.ref r) H')
def scCommon:bY pzt pzt (defScope oy):=by trivial
theorem ok_common {c T:aq}(F:Fun K "commonest" "commonest" oy f fd)(hcd:fd.code= .ref c)(CH:dg K c T=true)(B:BM mg base)(T2:Nt mg):‹0› 2 f fd pzt (spCommon T):=by
 apply okC F hcd scCommon (by contradiction) (fun A outer s H vs Q E hr h=>?_);obtain ⟨L,zs,rfl,hL,hne,hT,k⟩:=h;apply ⟨_,PSl.h (cP ⟨(bZ (pe_mmL mm_max (js:=[0]) (fr:=pzt) (x := "number") (c:=c) (P:=T) rfl hr.depth rfl T2.max (pv 0) rfl rfl CH B (fun _ _ _ _ _ _=>rfl) rfl rfl rfl ⇑0 rfl ↥0 (by exists oy) rfl ⇑0
   (fun cl L f' cd s' H'=>(show PE _ _ (tBM K "list" rCountI (tVar 1) (oV (tVar 0) tNil)) from mE bh PySem.F.slot_list_count PySem.F.type_list_count mt_countI (pv 1) (ai (pv 0) aF)))))⟩),?_⟩
 obtain⟨ps,et⟩:=hT.tbl;apply⟨_,rfl,L,zs.map V.int,λi=>((zs.count (zs.getD i 0):Nat):Int),rfl,hL,λz=>hne (List.map_eq_nil_iff.mp z),hT,λi x hx H3 tb=>?_,λH4 i x tb4 hT4 hx maxi=>?_⟩
 ·rw[az] at hx
  obtain⟨z,ez,rfl⟩:=aM.mp hx;have e:zs.getD i 0=z:=by rw[ae,ez];rfl
  have hL3:=tb _ _ (fM hL et nofun) hL;apply⟨_,rfl,.inl ⟨rfl,_,SqL.of hL3⟩,_,rfl,L,zs,z,rfl,rfl,hL3,bD.refl _,?_⟩;show V.int _=V.int ((zs.count (zs.getD i 0):Nat):Int);rw[e]
 ·rw[az] at hx
  obtain⟨z,ez,rfl⟩:=aM.mp hx;apply k z H4 tb4 hT4 (aL ez) λy hy=>?_
  obtain⟨j,hj,rfl⟩:=bK hy;have:((zs.count (zs.getD j 0):Nat):Int)≤((zs.count (zs.getD i 0):Nat):Int):=Int.neg_le_neg_iff.mp (maxi j (by rw[aa];exact hj));have e1:zs.getD j 0=zs[j]:=by rw[ae,gE hj];rfl
  have e2:zs.getD i 0=z:=by rw[ae,ez];rfl
  rw[e1,e2] at this;lia
def scHeldM:bY ["net","parts","table","other","shifts"] pzj (defScope sHeldM):=by trivial
theorem ok_heldM {T:aq}(F:Fun K "held_at_most" "held_at_most" sHeldM f fd)(G1:Fn K mg "shifts_between" pU pzl f1 fd1)(F1:‹0› 2 f1 fd1 pzl ph)(G2:Fn K mg "moved_in_parts" sMvP pzr f2 fd2)(F2:‹0› 2 f2 fd2 pzr spMvP)(G3:Fn K mg "commonest" oy pzt f3 fd3)(F3:‹0› 2 f3 fd3 pzt (spCommon T)):‹0› 3 f fd pzj (spHeldM T):=by
 specialize F.ok scHeldM;obtain ⟨v,p,u1,u2,b,m,sp,zs,fs,ts,us,rfl,hv,b0,hp,hz,h1,h2,lu,lf,few,hT,k⟩:=h;apply ⟨_,PSl.h (aZ ⟨(psZ 4 scHeldM.nd (pc1 G1 F1 hr (ai (pv 0) (ai (pv 2) (ai (pv 3) aF)))))⟩
  (cP ⟨(bZ (pc1 G2 F2 hr (ai (pv 0) (ai (pv 1) (ai (pv 3) (ai (gi (fr:=["shifts"]) (js:=[4]) rfl (gh (pv 1)) ⇑0 rfl ⇑0 rfl (by exists sHeldM) ⇑0 rfl ⇑0 (fun _ _ _ _ _=>⟨(pc1 G3 F3 hr (ai (by exact gi (fr:=["shifts"]) (js:=[1]) rfl (pi_listK (K:=K) rfl (pv 0)) ⇑0 rfl ⇑0 rfl (hfr_in (x := "shifts") rfl rfl rfl ⇑0) ⇑0 rfl ⇑0 (fun _ _ _ _ _=>⟨(dO (r:=rIxL K) gG (pv 1) (pv 0) (fun _ _=>rfl)),gC⟩)) aF)),gC⟩)) aF))))))⟩)),?_⟩
 apply⟨_,rfl,_,rfl,_,rfl,v,u1,u2,b,m,sp,ts,us,rfl,hv,b0,h1,h2,lu,few,λL H1 S1 _ e1=>?_⟩;obtain⟨As,rfl,lA,hA⟩:=hz;have fw:As.length≤ts.length:=by
  rw[lA,←lf];exact lO (i7 fs) λz hz=>(kT _).mp hz
 have lsh:(shM b ts us).length=ts.length:=shM_len lu;generalize esh:shM b ts us=sh at e1 lsh;have hT1:=hT.same S1;have NE:∀{Hx:Hp} {a:aq} {o:HO},L2.LamG T lqCm Hx→Hx a=some o→(∀q,o≠ .tbl q)→a≠T:=λg e n z=>by
  obtain⟨ps,et⟩:=g.tbl;rw[z,et] at e;exact n _ (bE e).symm
 apply⟨_,rfl,_,rfl,_,rfl,_,rfl,p,rfl,⟨_,SqL.of (S1 _ _ hp)⟩,?_⟩;have keepP:∀{H2:Hp},L2.Tb T H1 H2→H2 p=some (.lst (As.map V.ref)):=λtb=>tb _ _ (NE hT1 (S1 _ _ hp) (λ_ z=>by cases z)) (S1 _ _ hp)
 apply iT (K:=K) (a:=p) (xs:=As.map V.ref) (λi zs H2=>L2.Tb T H1 H2∧L2.LamG T lqCm H2∧∃gs:List Int,zs=gs.map V.int∧gs.length=i∧∀(j:Nat) (f z:Int),(iY fs)[j]? =some f→gs[j]? =some z→Cmn sh (kI fs f) z) ⟨λ_ _ _ e=>e,hT1,[],rfl,rfl,λ_ _ _ _ h=>(by cases h)⟩ (λi zs H2 hi ⟨tb,_,gs,e3,e4,_⟩=>⟨SqL.of (keepP tb),by rw[e3,aa];lia⟩) (by rw[aa];exact de ⋯) (λi x zs H2 hx ⟨tb,hT2,gs,e3,e4,hg⟩=>?_) (λzs H2 ⟨tb,hT2,gs,e3,e4,hg⟩ D hD=>?_)
 ·rw[az] at hx
  obtain⟨A,eA,rfl⟩:=aM.mp hx;have hi:i<(iY fs).length:=by rw[←lA];exact(ar.mp eA).1
  have ef:=gE hi;obtain⟨f0,ef0⟩:∃f0,f0=(iY fs)[i]:=⟨_,rfl⟩;have mf:f0∈iY fs:=by rw[ef0];exact aY hi
  rw[←ef0] at ef;have hA1:=S1 _ _ (hA i _ A ef eA);have hA2:=tb _ _ (NE hT1 hA1 (λ_ z=>by cases z)) hA1;have hL2:=tb _ _ (NE hT1 e1 (λ_ z=>by cases z)) e1;have li:(kI fs f0).length≤ts.length:=by
   unfold kI;rw[aa,←lf];exact aQ (cw _ _) (by rw[bb];exact aB _)
  apply fO ?_;apply⟨_,rfl,A,rfl,⟨_,SqL.of hA2⟩,?_⟩;apply iT (K:=K) (a:=A) (xs:=(kI fs f0).map V.int) (λj ys H3=>H3=H2∧ys=(((kI fs f0).take j).map (tm sh)).map V.int) ⟨rfl,rfl⟩ (λj ys H3 hj ⟨q1,q2⟩=>⟨by rw[q1];exact SqL.of hA2,?_⟩) (by rw[aa];exact de ⋯) (λj x ys H3 hx ⟨q1,q2⟩=>?_) (λys H3 ⟨q1,q2⟩ D hD=>?_)
  ·rw[q2,aa,aa,bM];lia
  ·subst q1
   rw[az] at hx;obtain⟨z,ez,rfl⟩:=aM.mp hx;obtain⟨z0,z1,_⟩:=jD.mp (aL ez);apply fO ?_;apply⟨_,rfl,_,rfl,L,_,_,_,rfl,rfl,SqL.of hL2,kr z0 ⋯,rfl,?_⟩;rw[q2,bj,ez,aD,aD];rfl
  ·subst q1
   rw[aa,bo] at q2;subst q2;obtain⟨h0,_⟩:=idxF_hd mf;apply⟨D,(kI fs f0).map (tm sh),rfl,aR,λz=>?_,hT2.same ((bD.refl H3).put hD),λz H4 tb4 hT4 hz mx=>?_⟩
   ·rw[List.map_eq_nil_iff.mp z] at h0;cases h0
   apply⟨λa o n e=>tb4 _ _ n (by have e:=tb _ _ n e;rw[bt (bF e hD)];exact e),hT4,gs++[z],by rw[e3,aD];rfl,by rw[av,e4];rfl,λj f z' ej ez=>?_⟩
   rcases Nat.lt_or_ge j i with c | c
   ·rw[cu ⋯] at ez
    exact hg j f z' ej ez
   ·have hj:j=i:=by have:=(ar.mp ez).1;rw[av,cU] at this;lia
    subst hj;rw[bp ⋯,e4,fY] at ez;cases ez;rw[ef] at ej;cases ej;exact⟨hz,mx⟩
 ·rw[aa,lA] at e4
  obtain⟨g,eg⟩:=fun_of (iY fs) gs (i7 fs) e4;have hm:∀f∈iY fs,Cmn sh (kI fs f) (g f):=λf hf=>by
   obtain⟨j,hj,rfl⟩:=bK hf;apply hg j _ _ (gE hj) ?_;rw[←eg,az,gE hj];rfl
  subst e3;rw[←eg];have SD:bD H2 (upd H2 D (.lst (((iY fs).map g).map V.int))):=(bD.refl H2).put hD;have eD:(upd H2 D (.lst (((iY fs).map g).map V.int))) D=some (.lst (((iY fs).map g).map V.int)):=aR;generalize upd H2 D (.lst (((iY fs).map g).map V.int))=H5 at SD eD ⊢;have tb5:L2.Tb T H H5:=λa o n e=>SD _ _ (tb _ _ n (S1 _ _ e))
  have kt:∀{a:aq} {o:HO},H a=some o→(∀q,o≠ .tbl q)→H5 a=some o:=λe n=>tb5 _ _ (NE hT e n) e
  apply⟨v,p,u2,D,b,m,sp,_,fs,us,g,rfl,cg (λa xs e=>kt e (λ_ z=>by cases z)) hv,b0,kt hp (λ_ z=>by cases z),⟨As,rfl,lA,λi f A h1 h2=>kt (hA i f A h1 h2) (λ_ z=>by cases z)⟩,kt h2 (λ_ z=>by cases z),⋯,⋯,eD,λr H' X S6 h6 lX eX=>?_⟩;rw[esh] at k;exact k r H' X g (λa o n e=>S6 _ _ (tb5 a o n e)) ((hT2.same SD).same S6) h6 ⋯ (λk k0 k1=>eX k k0 ⋯) hm
def scOthI:bY pzv pzv (defScope sOthI):=by trivial
def ok_othI (F:Fun K "others_in" "others_in" sOthI f fd)(T:Nm mg)(T2:Nt mg):‹0› 1 f fd pzv spOthI:=by
 specialize F.ok scOthI;obtain⟨u1,u2,ts,us,rfl,h1,h2,lu,few,k⟩:=h;apply⟨_,PSl.h (cP ⟨(bZ (dI gH rfl T.ttup fW (ai (gi (fr:=pzv) (js:=[0,1]) rfl (gk rfl T2.range (ai (cp bR rfl T.len bC (ai (pv 0) aF)) aF)) ⇑0 rfl ⇑0 rfl (by exists sOthI) ⇑0 rfl ⇑0 (λ_ _ _ _ _=>⟨(pv 0),(jZ (cy qS (dO (r:=pq K) dF (pv 1) (pv 0) (λ_ _=>rfl)) (dO (r:=pq K) dF (pv 2) (pv 0) (λ_ _=>rfl)) (cL _)))⟩)) aF)))⟩),?_⟩;apply⟨_,rfl,u1,_,rfl,.inr (SqT.of h1),_,rfl,⋯,by rw[aa];lia,?_⟩;rw[aa,cA];apply ko (n:=ts.length) (λi zs H2=>H2=H∧zs=(((aG i).filter λk:Nat=> !decide (tm ts k=tm us k)).map λk:Nat=>(k:Int)).map V.int) ⟨rfl,rfl⟩ (λi zs H2 hi ⟨e1,e2⟩=>?_) (de few) (λi zs H2 hi ⟨e1,e2⟩=>?_) (λzs H2 ⟨e1,e2⟩ D hD=>?_)
 ·rw[e2,aa,aa]
  exact aQ (cw _ _) (by rw[bb];exact aB _)
 ·subst e1
  apply⟨_,rfl,_,rfl,u1,_,_,_,rfl,rfl,SqT.of h1,kr ⋯ ⋯,_,rfl,_,rfl,u2,_,_,_,rfl,rfl,SqT.of h2,kr ⋯ ⋯,rfl,_,rfl,?_⟩;rw[fZ];have ed:(!decide (V.int (tm ts i)=V.int (tm us i)))= !decide (tm ts i=tm us i):=by
   by_cases c:tm ts i=tm us i
   ·rw[c,rT rfl,rT rfl]
   ·rw[rV c,rV λz=>c (by injection z)]
  rw[ed,e2,fj,eK,aD,aD];apply ite2 (λhc=>?_) (λhc=>?_)
  ·apply⟨_,rfl,rfl,?_⟩
   rw[fA,rR hc];rfl
  ·apply⟨rfl,?_⟩
   rw[fA,rQ hc];exact(c5 _).symm
 ·subst e1
  apply⟨D,_,rfl,SqL.of aR,λp3 H3 S3 h3=>?_⟩;apply k p3 H3 ((bD.put (bD.refl H2) hD).trans S3) ?_;rw[h3,e2];rfl
abbrev sStay:cF:=top 67
structure Mvd (b:Int)(fs us X:List Int)(g:Int→Int):Prop where
 len:X.length=us.length
 tm:∀k:Int,0≤k→k<us.length→tm X k=(tm us k+g (tm fs k)) % b
theorem Mvd.ok {m:Int}{fs us X:List Int}{g:Int→Int}(M:Mvd b fs us X g)(N:jb b m sp)(lb:Lbl m.toNat sp fs)(h:kN b m sp us):kN b m sp X:=by
 have b1:=N.b1;have lu:=h.1;apply⟨M.len.trans lu,λx hx=>?_,?_⟩
 ·obtain⟨i,hi,rfl⟩:=bK hx
  have lx:=M.len;have e:=M.tm i ⋯ ⋯;have e2:HN.tm X i=X[i]:=by unfold HN.tm;rw[cA,ae,gE hi];rfl
  rw[←e2,e];exact⟨dh _ ⋯,df _ ⋯⟩
 ·have hf:=h.2.2
  unfold kB at hf ⊢;rw[iA,ir] at hf ⊢;intro x hx;have s:=N.ends x hx;have w:iJ b X x=iJ b us x:=by
   unfold iJ;rw[M.tm x.g s.2.2.1 ⋯,M.tm x.s s.1 ⋯,←lb.spn x hx];have a1:=cX (HN.tm us x.g+g (HN.tm fs x.s)) b;have a2:=cX (HN.tm us x.s+g (HN.tm fs x.s)) b;have:(HN.tm us x.g+g (HN.tm fs x.s)) % b - (HN.tm us x.s+g (HN.tm fs x.s)) % b - x.l=HN.tm us x.g - HN.tm us x.s - x.l+b * ((HN.tm us x.s+g (HN.tm fs x.s)) / b - (HN.tm us x.g+g (HN.tm fs x.s)) / b):=by
    rw[jw];lia
   rw[this,iU]
  have:=hf x hx;unfold brk at this ⊢;rw[w];exact this
abbrev AT:=aq×List Int
def stS (ts:List Int)(p:List Int×List AT)(k:Nat):List Int×List AT:=if 0<(p.2.filter λy=>decide (tm y.2 k=tm ts k)).length then (p.1++[(k:Int)],p.2.filter λy=>decide (tm y.2 k=tm ts k)) else p
theorem stS_inv {ts:List Int}:∀(l:List Nat) (p:List Int×List AT),p.2≠[]→(l.foldl (stS ts) p).2≠[]∧(∀y∈(l.foldl (stS ts) p).2,y∈p.2)∧(l.foldl (stS ts) p).1.length≤p.1.length+l.length
 | [],p,h=>⟨h,λ_ hy=>hy,aB _⟩
 | k::l,p,h=>by
  have n:(stS ts p k).2≠[]∧(∀y∈(stS ts p k).2,y∈p.2)∧(stS ts p k).1.length≤p.1.length+1:=by
   unfold stS;split
   ·rename_i c
    exact⟨λz=>by have z:p.2.filter (λy=>decide (tm y.2 k=tm ts k))=[]:=z;rw[z] at c;exact rS c ∅,λy hy=>(bX.mp hy).1,by rw[av];exact aB _⟩
   ·exact⟨h,λ_ hy=>hy,⋯⟩
  obtain⟨a,c,d⟩:=stS_inv l (stS ts p k) n.1;rw[bQ,aV];exact⟨a,λy hy=>n.2.1 y (c y hy),⋯⟩
theorem stS_len {ts:List Int}:∀(l:List Nat) (p:List Int×List AT),(l.foldl (stS ts) p).2.length≤p.2.length
 | [],_=>aB _
 | k::l,p=>by
  rw[bQ];apply aQ (stS_len l _) ?_;unfold stS;split
  ·exact cw _ _
  ·exact aB _
structure NoneC (H:Hp)(q:aq)(b:Int)(sp:List Sn)(u:V)(t:Tq):Prop where
 q:H q=some (.tup [.str "none",u])
 tree:IsD H u (jY t)
 pl:pl (jY t)=true
 no:∀T,¬kB b T sp=true
 good:GoodT (RDead b sp) t (sp.map λz=>(z.l,z.o)) 21∧siz t≤8191
structure mR (H:Hp)(q:aq)(b m:Int)(sp:List Sn)(ts:List Int)(fs:List Int)(l:List Nat)(rg:List (Nat×List Stp))(Ts:List (List Int))(Ys:List AT)(qs:aq)(y:AT):Prop where
 q:H q=some (.tup [.str "stay",.ref qs,.ref y.1])
 qs:H qs=some (.tup (((aG m.toNat).foldl (stS ts) ([],Ys)).1.map V.int))
 fst:((aG m.toNat).foldl (stS ts) ([],Ys)).2[0]? =some y
 qy:H y.1=some (.tup (y.2.map V.int))
 ok:∀t∈Ts,kN b m sp t
 len:Ys.length=Ts.length
 mv:∀(i:Nat) (t:List Int) (z:AT),Ts[i]? =some t→Ys[i]? =some z→Mvd b fs t z.2 (λf=>(tm ts (hdF fs f) - tm t (hdF fs f)) % b)
 lb:Lbl m.toNat sp fs
 fr:FR m sp l rg
 hold:∀T,kB b T sp=true→∃t∈Ts,∀k∈l,ke b t sp k=ke b T sp k
def mR.tab {q:aq}{m:Int}{fs:List Int}{rg:List (Nat×List Stp)}{Ys:List AT}{y:AT}(A:mR H q b m sp ts fs l rg Ts Ys qs y)(N:jb b m sp):kN b m sp y.2:=by
 have hy:=aL A.fst;have n:Ys≠[]:=λz=>by
  have e:∀(l:List Nat) (s:List Int),(l.foldl (stS ts) (s,[])).2=[]:=λl=>by
   induction l with
   | nil=>intro _;rfl
   | cons k l ih=>intro s;exact ih s
  rw[z,e] at hy;cases hy
 obtain⟨i,hi,e⟩:=bK ((stS_inv (aG m.toNat) ([],Ys) n).2.1 y hy);have hi:i<Ys.length:=hi;have e:Ys[i]=y:=e;have hj:i<Ts.length:=by have:=A.len;lia
 have M:=A.mv i Ts[i] y (gE hj) (by rw[gE hi,e]);exact M.ok N A.lb (A.ok _ (aY hj))
inductive spStay (T0:aq)(p0:Pos)(q0:Str)(T1:aq)(p1:Pos)(q1:Str)(T2:aq)(vs:List V)(H:Hp)(Q:VK)(_:XK):Prop
 | mk (v:V)(u:aq)(b m:Int)(sp:List Sn)(ts:List Int)(_:vs=[v,.ref u])(_:IsD H v (jv b m sp))(_:jb b m sp)(_:(∀l,jo m.toNat sp l→kd sp l≤4096))(_:H u=some (.tup (ts.map V.int)))(_:ts.length=m.toNat)(_:L2.LamT T0 p0 q0 H)(_:L2.LamT T1 p1 q1 H)(_:L2.LamT T2 lpT lqT H)(_:∀(q:aq) (H':Hp),Kp H H'→(∀a o,a≠T0→a≠T1→a≠T2→H a=some o→H' a=some o)→L2.LamT T0 p0 q0 H'→L2.LamT T1 p1 q1 H'→L2.LamT T2 lpT lqT H'→((∃u t,NoneC H' q b sp u t)∨∃fs l rg Ts Ys qs y,mR H' q b m sp ts fs l rg Ts Ys qs y)→Q (.ref q) H')
def oO:bY ["net","table","found","parts","tables","some","happening","holding"] pzd (defScope sStay):=by trivial
theorem ok_stay (F:Fun K "staying" "staying" sStay f fd)(T:Nm mg)(T2':Nt mg)(MC:∃t,mg "MOST_CASES" =some (.int 4096 t))(n1:T0≠T1)(n2:T2≠T0)(n3:T2≠T1)
  (G1:Fn K mg "table_for" jf pza f1 fd1) (F1:‹0› 12 f1 fd1 pza (k7 T0 p0 q0 T1 p1 q1 T2))
  (G2:Fn K mg "parts_of" sParts pza f2 fd2) (F2:‹0› 8 f2 fd2 pza (spParts T0 p0 q0))
  (G3:Fn K mg "held_at_firsts" sHeldF pzj f3 fd3) (F3:‹0› 3 f3 fd3 pzj spHeldF)
  (G4:Fn K mg "tables_that_fit" sTabF pzk f4 fd4) (F4:‹0› 11 f4 fd4 pzk (spTabF T0 p0 q0 T1 p1 q1)):‹0› 13 f fd pzd (spStay T0 p0 q0 T1 p1 q1 T2):=by
 specialize F.ok oO;obtain ⟨v,u,b,m,sp,ts,rfl,hv,N,hc,hu,lt,hT0,hT1,hT2,k⟩:=h;have hr4:gP 3 _:=hr.mono ↥0;have hr9:gP 8 _:=hr.mono ↥0;have hr11:gP 11 _:=hr.mono ↥0;apply ⟨_,PSl.h (aZ ⟨(psZ 2 oO.nd (pc1 G1 F1 hr (ai (pv 0) aF)))⟩
  (aZ ⟨(gg (cy jO (ixZ (pv 2)) jh (cL _)) (cE (bZ (pv 2))) cY)⟩
  (aZ ⟨(psZ 3 oO.nd (pc1 G2 F2 hr9 (ai (pv 0) aF)))⟩
  (aZ ⟨(pY (iy:=4) (fr:=["net","parts","table"]) (js:=[0,3,1]) oO.nd rfl (.inl rfl) rfl (gh (pc1 G4 F4 hr11 (ai (pv 0) (ai (qd MC) aF)))) ⇑0 rfl ⇑0 rfl (by exists sStay) ⇑0 rfl ⇑0 (fun _ _ _ _ _=>⟨(pc1 G3 F3 hr4 (ai (pv 1) (ai (pv 2) (ai (pv 3) (ai (pv 0) aF))))),gC⟩))⟩
  (aZ ⟨(psZ 5 oO.nd (ji aF))⟩
  (aZ ⟨(ig bH rfl (gk rfl T2'.range (ai (ixZ (pv 0)) aF)) (pgZ 6 oO.nd) (PSl.h (aZ ⟨(pY (iy:=7) (fr:=["happening","table"]) (js:=[6,1]) oO.nd rfl (.inl rfl) rfl (gh (pv 4)) ⇑0 rfl ⇑0 rfl (by exists sStay) ⇑0 rfl ⇑0 (fun _ _ _ _ _=>⟨(pv 0),(jZ (cy jO (dO (r:=pq K) dF (pv 0) (pv 1) (fun _ _=>rfl)) (dO (r:=pq K) dF (pv 2) (pv 1) (fun _ _=>rfl)) (cL _)))⟩))⟩
  (cP ⟨(gg (cy qT (cp bR rfl T.len bC (ai (pv 7) aF)) bP (cL _)) (PSl.h (aZ ⟨(iK (mE bh bV bU gm (pv 5) (ai (pv 6) aF)))⟩
  (cP ⟨(psZ 4 oO.nd (pv 7))⟩))) cY)⟩))))⟩
  (cP ⟨(bZ (dG (ai jh (ai (dI gH rfl T.ttup fW (ai (pv 5) aF)) (ai (dO gG (pv 4) bP (fun _ _=>rfl)) aF)))))⟩))))))),?_⟩
 obtain⟨ps0,et0⟩:=LamT.tbl hT0;obtain⟨ps1,et1⟩:=LamT.tbl hT1;obtain⟨ps2,et2⟩:=LamT.tbl hT2;have nm1:=N.m1;have nm2:=N.m2;have em:((m.toNat:Nat):Int)=m:=dv ⋯;apply⟨_,rfl,v,b,m,sp,rfl,hv,N,hc,hT0,hT1,hT2,λq H1 st1 kp1 hT01 hT11 hT21 ans=>?_⟩;have hv1:=cg kp1.tup hv
 rcases ans with ⟨qt0,t0,hq,hqt,tok0⟩ | ⟨u',t,hq,du,plu,nof,gd⟩
 rotate_left
 ·apply⟨_,rfl,q,_,_,_,rfl,rfl,SqT.of hq,aO (j:=0) rfl,rfl,_,rfl,mr (rT rfl) ?_⟩
  exact⟨_,rfl,k q H1 kp1 st1 hT01 hT11 hT21 (.inl ⟨u',t,hq,du,plu,nof,gd⟩)⟩
 apply⟨_,rfl,q,_,_,_,rfl,rfl,SqT.of hq,aO (j:=0) rfl,rfl,_,rfl,j3 (rV nofun) ?_⟩;apply⟨_,rfl,v,b,m,sp,rfl,hv1,N,hT01,λLp zp fs H2 tb2 hT02 hLp hpt lb=>?_⟩;obtain⟨qs1,eu1⟩:=LamT.tbl hT01;have fz2:∀a o u,H1 a=some (.frz o u)→H2 a=some (.frz o u):=λa o u e=>tb2 _ _ (fM e eu1 nofun) e
 have kp2:Kp H1 H2:=Tb.kp hT01 tb2;have hT12:L2.LamT T1 p1 q1 H2:=gF hT11 (λps e=>tb2 _ _ (cK n1) e) fz2;have hT22:L2.LamT T2 lpT lqT H2:=gF hT21 (λps e=>tb2 _ _ n2 e) fz2;have hv2:=cg kp2.tup hv1;obtain⟨qs2,eu2⟩:=LamT.tbl hT02;obtain⟨qs3,eu3⟩:=LamT.tbl hT12;apply⟨_,rfl,v,b,m,sp,4096,rfl,hv2,N,↥0,hc,hT02,hT12,λL tv l rg Ts H3 st3 kp3 hT03 hT13 hL dL R tabs few hold=>?_⟩;have fz3:∀a o u,H2 a=some (.frz o u)→H3 a=some (.frz o u):=λa o u e=>st3 _ _ (fM e eu2 nofun) (fM e eu3 nofun) e
 have hT23:L2.LamT T2 lpT lqT H3:=gF hT22 (λps e=>st3 _ _ n2 n3 e) fz3;have hv3:=cg kp3.tup hv2;have holdA:=hold (.inr rfl);have ltv:tv.length=Ts.length:=by rw[dL.length];unfold fF;rw[aa]
 have hu3:H3 u=some (.tup (ts.map V.int)):=kp3.tup _ _ (kp2.tup _ _ (kp1.tup _ _ hu));have kp03:Kp H H3:=kp1.trans (kp2.trans kp3);have st03:∀a o,a≠T0→a≠T1→a≠T2→H a=some o→H3 a=some o:=λa o e0 e1 e2 e=>st3 _ _ e0 e1 (tb2 _ _ e0 (st1 _ _ e0 e1 e2 e))
 have hLp3:=kp3.lst _ _ hLp;have hpt3:PtsD H3 zp fs:=by
  obtain⟨As,e,lA,hA⟩:=hpt;exact⟨As,e,lA,λi f A h1 h2=>kp3.lst _ _ (hA i f A h1 h2)⟩
 have getT:∀(i:Nat) x,tv[i]? =some x→∃qx t,x= .ref qx∧H3 qx=some (.tup (t.map V.int))∧Ts[i]? =some t:=λi x hx=>by
  have hi:i<Ts.length:=by rw[←ltv];exact(ar.mp hx).1
  obtain⟨d,ed,dx⟩:=dL.get hx;unfold fF at ed;rw[az,gE hi] at ed;cases ed;obtain⟨qx,xs,rfl,hqx,rx⟩:=dx.tup_of;have:=rx.ints_of;subst this;exact⟨qx,Ts[i],rfl,hqx,gE hi⟩
 apply⟨L,rfl,⟨_,SqL.of hL⟩,?_⟩;have lfs:fs.length=ts.length:=by rw[lb.len,lt]
 have lTs:∀t∈Ts,t.length=ts.length:=λt ht=>by rw[(tabs t ht).1,lt]
 apply iT (K:=K) (a:=L) (xs:=tv) (λi zs H4=>bD H3 H4∧∃Ys:List AT,zs=Ys.map (λy=>V.ref y.1)∧Ys.length=i∧(∀y∈Ys,H4 y.1=some (.tup (y.2.map V.int)))∧∀(j:Nat) (t:List Int) (z:AT),Ts[j]? =some t→Ys[j]? =some z→Mvd b fs t z.2 (λf=>(tm ts (hdF fs f) - tm t (hdF fs f)) % b)) ⟨bD.refl H3,[],rfl,rfl,λ_ h=>(by cases h),λ_ _ _ _ h=>(by cases h)⟩ (λi zs H4 hi ⟨S4,Ys,e1,e2,_⟩=>⟨SqL.of (S4 _ _ hL),by rw[e1,aa];lia⟩) (by rw[ltv];exact aQ few ↥0) (λi x zs H4 hx ⟨S4,Ys,e1,e2,hY,mY⟩=>?_) (λzs H4 ⟨S4,Ys,e1,e2,hY,mY⟩ Lt hLt=>?_)
 ·obtain⟨qx,t,rfl,hqx,et⟩:=getT i x hx
  apply fO ?_;apply⟨_,rfl,_,rfl,_,rfl,_,rfl,v,Lp,u,qx,b,m,sp,zp,fs,ts,t,rfl,hv3.same S4,by have:=N.b1;lia,S4 _ _ hLp3,?_,S4 _ _ hu3,S4 _ _ hqx,lTs t (aL et),lfs,⋯,λr H5 X S5 h5 lX eX=>?_⟩
  ·obtain⟨As,e,lA,hA⟩:=hpt3
   exact⟨As,e,lA,λi f A h1 h2=>S4 _ _ (hA i f A h1 h2)⟩
  apply⟨S4.trans S5,Ys++[(r,X)],by rw[e1,aD];rfl,by rw[av,e2];rfl,λy hy=>?_,λj t' z ej ez=>?_⟩
  ·rcases aI.mp hy with hy | hy
   ·exact S5 _ _ (hY y hy)
   ·rw[aw.mp hy];exact h5
  ·rcases Nat.lt_or_ge j i with c | c
   ·rw[cu ⋯] at ez
    exact mY j t' z ej ez
   ·have hj:j=i:=by have:=(ar.mp ez).1;rw[av,cU] at this;lia
    subst hj;rw[bp ⋯,e2,fY] at ez;cases ez;rw[et] at ej;cases ej;have lt':=lTs t (aL et);exact⟨by rw[lX,lt'],λk k0 k1=>eX k k0 ⋯⟩
 subst e1;have lY:Ys.length=Ts.length:=e2.trans ltv;have S5:bD H3 (upd H4 Lt (.lst (Ys.map λy=>V.ref y.1))):=S4.put hLt;have h5:(upd H4 Lt (.lst (Ys.map λy=>V.ref y.1))) Lt=some (.lst (Ys.map λy=>V.ref y.1)):=aR;have hY5:∀y∈Ys,(upd H4 Lt (.lst (Ys.map λy=>V.ref y.1))) y.1=some (.tup (y.2.map V.int)):=λy hy=>by rw[bt (bF (hY y hy) hLt)];exact hY y hy
 generalize upd H4 Lt (.lst (Ys.map λy=>V.ref y.1))=H5 at S5 h5 hY5 ⊢;have nY:Ys≠[]:=λz=>by
  obtain⟨t,ht,_⟩:=holdA t0 tok0.2.2;rw[z] at lY;rw[g9.mp lY.symm] at ht;cases ht
 have len:∀y∈Ys,y.2.length=ts.length:=λy hy=>by
  obtain⟨i,hi,rfl⟩:=bK hy;have hj:i<Ts.length:=by lia
  rw[(mY i Ts[i] Ys[i] (gE hj) (gE hi)).len];exact lTs _ (aY hj)
 obtain⟨t,p,ys,rfl,ht,hp,hl,hy⟩:=fe hv3;apply⟨bu _,λLs hLs=>?_⟩;have S6:bD H5 (upd H5 Ls (.lst [])):=(bD.refl H5).put hLs;have h6:(upd H5 Ls (.lst [])) Ls=some (.lst []):=aR;generalize upd H5 Ls (.lst [])=H6 at S6 h6 ⊢;apply⟨_,rfl,t,_,_,_,rfl,rfl,SqT.of (S6 _ _ (S5 _ _ ht)),aO (j:=1) rfl,m,rfl,⋯,⋯,?_⟩;apply jP (n:=m.toNat) (λi σ HD=>bD H5 HD∧HD Ls=some (.lst ((((aG i).foldl (stS ts) ([],Ys)).1).map V.int))∧∃(La:aq) (w6 w7:Option V),La≠Ls∧HD La=some (.lst ((((aG i).foldl (stS ts) ([],Ys)).2).map λy=>V.ref y.1))∧σ=[some (.ref t),some (.ref u),some (.ref q),some (.ref Lp),some (.ref La),some (.ref Ls),w6,w7]) ⟨S6,h6,Lt,none,none,bF h5 hLs,S6 _ _ h5,rfl⟩ ?_ ?_
 ·rintro i σ HD hi ⟨SD,hD,La,w6,w7,nL,hLa,rfl⟩
  rw[fj,cG];obtain⟨nz,sub,sz⟩:=stS_inv (ts:=ts) (aG i) ([],Ys) nY;generalize epr:(aG i).foldl (stS ts) ([],Ys)=pr at hD hLa nz sub sz ⊢;obtain⟨S0,lf⟩:=pr;have sub:∀y∈lf,y∈Ys:=sub;have sz:S0.length≤0+i:=by rw[bb] at sz;exact sz
  have hD:HD Ls=some (.lst (S0.map V.int)):=hD;have hLa:HD La=some (.lst (lf.map λy=>V.ref y.1)):=hLa;have e0:(0:Int)+(i:Int)=i:=fZ _;have sml:lf.length≤4096:=by have:=stS_len (ts:=ts) (aG i) ([],Ys);rw[epr] at this;have this:lf.length≤Ys.length:=this;lia
  have hi':(i:Int)<ts.length:=by lia
  apply⟨_,rfl,La,rfl,⟨_,SqL.of hLa⟩,?_⟩;apply iT (K:=K) (a:=La) (xs:=lf.map λy=>V.ref y.1) (λj zs H7=>H7=HD∧zs=((lf.take j).filter λy=>decide (tm y.2 i=tm ts i)).map λy=>V.ref y.1) ⟨rfl,rfl⟩ (λj zs H7 hj ⟨e1,e2⟩=>⟨by rw[e1];exact SqL.of hLa,?_⟩) (by rw[aa];exact aQ sml ↥0) (λj x zs H7 hx ⟨e1,e2⟩=>?_) (λzs H7 ⟨e1,e2⟩ Lh hLh=>?_)
  ·rw[e2,aa]
   exact aQ (cw _ _) (by rw[bM];lia)
  ·subst e1
   rw[az] at hx;obtain⟨y,ey,rfl⟩:=aM.mp hx;have my:=sub y (aL ey);have ly:=len y my;apply⟨_,rfl,_,rfl,y.1,_,_,_,rfl,rfl,SqT.of (SD _ _ (hY5 y my)),kr ⋯ ⋯,_,rfl,_,rfl,u,_,_,_,rfl,rfl,SqT.of (SD _ _ (S5 _ _ hu3)),kr ⋯ ⋯,rfl,_,rfl,?_⟩;rw[e0];have ed:decide (V.int (tm y.2 i)=V.int (tm ts i))=decide (tm y.2 i=tm ts i):=by
    by_cases c:tm y.2 i=tm ts i
    ·rw[c,rT rfl,rT rfl]
    ·rw[rV c,rV λz=>c (by injection z)]
   rw[ed,e2,bj,ey];apply ite2 (λhc=>?_) (λhc=>?_)
   ·apply⟨_,rfl,rfl,?_⟩
    rw[eK,aD];show _=_++(List.filter _ [y]).map _;rw[fA,rR hc];rfl
   ·apply⟨rfl,?_⟩
    rw[eK,aD];show _=_++(List.filter _ [y]).map _;rw[fA,rQ (by first | exact hc | (rw[hc];exact bc))];exact(c5 _).symm
  ·subst e1
   rw[aa,bo] at e2;subst e2;generalize eF:(lf.filter λy=>decide (tm y.2 i=tm ts i))=fl;have S7:bD H7 (upd H7 Lh (.lst (fl.map λy=>V.ref y.1))):=(bD.refl H7).put hLh;have h7:(upd H7 Lh (.lst (fl.map λy=>V.ref y.1))) Lh=some (.lst (fl.map λy=>V.ref y.1)):=aR;have nH:Lh≠Ls:=λz=>by rw[z,hD] at hLh;cases hLh
   generalize upd H7 Lh (.lst (fl.map λy=>V.ref y.1))=H8 at S7 h7 ⊢;have hD8:=S7 _ _ hD;have keep:∀{a:aq} {o:HO} {x:HO},H5 a=some o→(upd H8 Ls x) a=some o:=λe=>by
    rw[bt (bF e hLs)];exact S7 _ _ (SD _ _ e)
   apply⟨_,rfl,Lh,_,rfl,.inl (SqL.of h7),_,_,rfl,rfl,_,rfl,?_⟩;have es:stS ts (S0,lf) i=if 0<fl.length then (S0++[(i:Int)],fl) else (S0,lf):=by
    unfold stS;show(if 0<(lf.filter λy=>decide (tm y.2 i=tm ts i)).length then _ else _)=_;rw[eF]
   show if decide (_)=true then _ else _;rw[bQ,List.foldl_nil,es,aa];apply ite2 (λhc=>?_) (λhc=>?_)
   ·have hc':0<fl.length:=by have:=rW hc;lia
    rw[rR hc'];apply⟨_,rfl,.inl ⟨rfl,_,SqL.of hD8⟩,_,rfl,Ls,_,_,rfl,rfl,hD8,by rw[aa];exact cf (by lia:_≤16) ↥0,?_⟩;apply⟨_,rfl,λa o e=>keep e,?_,Lh,_,_,nH,by rw[bt nH];exact h7,rfl⟩;rw[aR,e0,aD];rfl
   ·have hc':¬(0<fl.length):=λz=>hc (rT ⋯)
    rw[rQ hc'];exact⟨λa o e=>S7 _ _ (SD _ _ e),hD8,La,_,_,nL,S7 _ _ hLa,rfl⟩
 ·rintro σ HD ⟨SD,hD,La,w6,w7,nL,hLa,rfl⟩
  obtain⟨nz,sub,sz⟩:=stS_inv (ts:=ts) (aG m.toNat) ([],Ys) nY;obtain⟨y,ey⟩:∃y,((aG m.toNat).foldl (stS ts) ([],Ys)).2[0]? =some y:=by
   cases e:((aG m.toNat).foldl (stS ts) ([],Ys)).2 with
   | nil=>exact rS e nz
   | cons a l=>exact⟨a,rfl⟩
  apply⟨_,rfl,Ls,_,rfl,SqL.of hD,λqs H9 S9 h9=>?_⟩;apply⟨_,rfl,La,_,_,_,rfl,rfl,SqL.of (S9 _ _ hLa),aO (j:=0) (by rw[az,ey];rfl),(by show 3≤bf;decide),λqr HA SA hA=>?_⟩;have S3A:bD H3 HA:=λa o e=>SA _ _ (S9 _ _ (SD _ _ (S5 _ _ e)))
  apply k qr HA (kp03.trans (bD.kp S3A)) (λa o e0 e1 e2 e=>S3A _ _ (st03 a o e0 e1 e2 e)) (LamT.same S3A hT03) (LamT.same S3A hT13) (LamT.same S3A hT23) (.inr ⟨fs,l,rg,Ts,Ys,qs,y,?_⟩);exact⟨hA,SA _ _ h9,ey,SA _ _ (S9 _ _ (SD _ _ (hY5 y (sub y (aL ey))))),tabs,lY,mY,lb,R,holdA⟩
abbrev sFew:cF:=top 68
abbrev lqFw:Str:=(("fewest_moved" :Str) ++ ".<locals>.") ++ "<lambda>"
def lenK (K:au)(hK:X.K=K:=by rfl):jV X (.builtin "len") (λxs H Q=>∃p ys,xs=[.ref p]∧(SqL K H p ys∨SqT K H p ys)∧Q (.int ys.length) H):=by subst hK;exact bR
structure FewA (H:Hp)(q:aq)(b m:Int)(sp:List Sn)(ts:List Int)(fs:List Int)(l:List Nat)(rg:List (Nat×List Stp))(Ts:List (List Int))(Ys:List AT)(qs:aq)(y:AT):Prop where
 q:H q=some (.tup [.str "moved",.ref qs,.ref y.1])
 qs:H qs=some (.tup ((qg ts y.2).map V.int))
 mem:y∈Ys
 qy:H y.1=some (.tup (y.2.map V.int))
 least:∀z∈Ys,(qg ts y.2).length≤(qg ts z.2).length
 ok:∀t∈Ts,kN b m sp t
 len:Ys.length=Ts.length
 mv:∀(i:Nat) (t:List Int) (z:AT),Ts[i]? =some t→Ys[i]? =some z→∃g,Mvd b fs t z.2 g∧∀f∈iY fs,Cmn (shM b ts t) (kI fs f) (g f)
 lb:Lbl m.toNat sp fs
 fr:FR m sp l rg
 hold:∀T,kB b T sp=true→∃t∈Ts,∀k∈l,ke b t sp k=ke b T sp k
def FewA.tab {q:aq}{m:Int}{fs:List Int}{rg:List (Nat×List Stp)}{Ys:List AT}{y:AT}(A:FewA H q b m sp ts fs l rg Ts Ys qs y)(N:jb b m sp):kN b m sp y.2:=by
 obtain⟨i,hi,e⟩:=bK A.mem;have hj:i<Ts.length:=by have:=A.len;lia
 obtain⟨g,M,_⟩:=A.mv i Ts[i] y (gE hj) (by rw[gE hi,e]);exact M.ok N A.lb (A.ok _ (aY hj))
inductive spFew (T0:aq)(p0:Pos)(q0:Str)(T1:aq)(p1:Pos)(q1:Str)(T2 T4 T5:aq)(vs:List V)(H:Hp)(Q:VK)(_:XK):Prop
 | mk (v:V)(u:aq)(b m:Int)(sp:List Sn)(ts:List Int)(_:vs=[v,.ref u])(_:IsD H v (jv b m sp))(_:jb b m sp)(_:(∀l,jo m.toNat sp l→kd sp l≤4096))(_:H u=some (.tup (ts.map V.int)))(_:ts.length=m.toNat)(_:L2.LamT T0 p0 q0 H)(_:L2.LamT T1 p1 q1 H)(_:L2.LamT T2 lpT lqT H)(_:L2.LamG T4 lqCm H)(_:L2.LamG T5 lqFw H)(_:∀(q:aq) (H':Hp),Kp H H'→(∀a o,a≠T0→a≠T1→a≠T2→a≠T4→a≠T5→H a=some o→H' a=some o)→L2.LamT T0 p0 q0 H'→L2.LamT T1 p1 q1 H'→L2.LamT T2 lpT lqT H'→L2.LamG T4 lqCm H'→L2.LamG T5 lqFw H'→((∃u t,NoneC H' q b sp u t)∨∃fs l rg Ts Ys qs y,FewA H' q b m sp ts fs l rg Ts Ys qs y)→Q (.ref q) H')
def scFew:bY ["net","table","found","parts","tables","nearest"] pzd (defScope sFew):=by trivial
theorem ok_few {f5 c T4 T5:aq}{fd5:bg}(F:Fun K "fewest_moved" "fewest_moved" sFew f fd)(hcd:fd.code= .ref c)(CH:dg K c T5=true)(B:BM mg base)(T:Nm mg)(MC:∃t,mg "MOST_CASES" =some (.int 4096 t))(n1:T0≠T1)(n2:T2≠T0)(n3:T2≠T1)(a0:T4≠T0)(a1:T4≠T1)(a2:T4≠T2)(b0:T5≠T0)(b1:T5≠T1)(b2:T5≠T2)(b4:T5≠T4)
  (G1:Fn K mg "table_for" jf pza f1 fd1) (F1:‹0› 12 f1 fd1 pza (k7 T0 p0 q0 T1 p1 q1 T2))
  (G2:Fn K mg "parts_of" sParts pza f2 fd2) (F2:‹0› 8 f2 fd2 pza (spParts T0 p0 q0))
  (G3:Fn K mg "held_at_most" sHeldM pzj f3 fd3) (F3:‹0› 3 f3 fd3 pzj (spHeldM T4))
  (G4:Fn K mg "tables_that_fit" sTabF pzk f4 fd4) (F4:‹0› 11 f4 fd4 pzk (spTabF T0 p0 q0 T1 p1 q1))
  (G5:Fn K mg "others_in" sOthI pzv f5 fd5) (F5:‹0› 1 f5 fd5 pzv spOthI):‹0› 13 f fd pzd (spFew T0 p0 q0 T1 p1 q1 T2 T4 T5):=by
 apply okC F hcd scFew (by contradiction) (fun A outer s H vs Q E hr h=>?_);obtain ⟨v,u,b,m,sp,ts,rfl,hv,N,hc,hu,lt,hT0,hT1,hT2,hT4,hT5,k⟩:=h;have hr1:gP 1 _:=hr.mono ↥0;have hr4:gP 3 _:=hr.mono ↥0;have hr9:gP 8 _:=hr.mono ↥0;have hr11:gP 11 _:=hr.mono ↥0;apply ⟨_,PSl.h (aZ ⟨(psZ 2 scFew.nd (pc1 G1 F1 hr (ai (pv 0) aF)))⟩
  (aZ ⟨(gg (cy jO (ixZ (pv 2)) jh (cL _)) (cE (bZ (pv 2))) cY)⟩
  (aZ ⟨(psZ 3 scFew.nd (pc1 G2 F2 hr9 (ai (pv 0) aF)))⟩
  (aZ ⟨(pY (iy:=4) (fr:=["net","parts","table"]) (js:=[0,3,1]) scFew.nd rfl (.inl rfl) rfl (gh (pc1 G4 F4 hr11 (ai (pv 0) (ai (qd MC) aF)))) ⇑0 rfl ⇑0 rfl (by exists sFew) ⇑0 rfl ⇑0 (fun _ _ _ _ _=>⟨(pc1 G3 F3 hr4 (ai (pv 1) (ai (pv 2) (ai (pv 3) (ai (pv 0) aF))))),gC⟩))⟩
  (aZ ⟨(psZ 5 scFew.nd (pe_mmL mm_min (js:=[1]) (fr:=["table"]) (x := "other") (c:=c) (P:=T5) rfl hr.depth rfl T.min (pv 4) rfl rfl CH B (fun _ _ _ _ _ _=>rfl) rfl rfl rfl ⇑0 rfl ↥0 (by exists sFew) rfl ⇑0
   (fun cl L f' cd s' H'=>cp (lenK K) rfl T.len bC (ai (pc1 G5 F5 (((hr.in1).in1).deeper _ |>.mono ↥0) (ai (pv 1) (ai (pv 0) aF))) aF))))⟩
  (cP ⟨(bZ (dG (ai jh (ai (pc1 G5 F5 hr1 (ai (pv 1) (ai (pv 5) aF))) (ai (pv 5) aF)))))⟩)))))),?_⟩
 obtain⟨ps0,et0⟩:=LamT.tbl hT0;obtain⟨ps1,et1⟩:=LamT.tbl hT1;obtain⟨ps2,et2⟩:=LamT.tbl hT2;have nm1:=N.m1;have nm2:=N.m2;have em:((m.toNat:Nat):Int)=m:=dv ⋯;apply⟨_,rfl,v,b,m,sp,rfl,hv,N,hc,hT0,hT1,hT2,λq H1 st1 kp1 hT01 hT11 hT21 ans=>?_⟩;have hv1:=cg kp1.tup hv;have fz1:∀a o u,H a=some (.frz o u)→H1 a=some (.frz o u):=λa o u e=>st1 _ _ (fM e et0 nofun) (fM e et1 nofun) (fM e et2 nofun) e
 have hT41:L2.LamG T4 lqCm H1:=hT4.stay (λps e=>st1 _ _ a0 a1 a2 e) fz1;have hT51:L2.LamG T5 lqFw H1:=hT5.stay (λps e=>st1 _ _ b0 b1 b2 e) fz1
 rcases ans with ⟨qt0,t0,hq,hqt,tok0⟩ | ⟨u',t,hq,du,plu,nof,gd⟩
 rotate_left
 ·apply⟨_,rfl,q,_,_,_,rfl,rfl,SqT.of hq,aO (j:=0) rfl,rfl,_,rfl,mr (rT rfl) ?_⟩
  exact⟨_,rfl,k q H1 kp1 (λa o e0 e1 e2 _ _ e=>st1 a o e0 e1 e2 e) hT01 hT11 hT21 hT41 hT51 (.inl ⟨u',t,hq,du,plu,nof,gd⟩)⟩
 apply⟨_,rfl,q,_,_,_,rfl,rfl,SqT.of hq,aO (j:=0) rfl,rfl,_,rfl,j3 (rV nofun) ?_⟩;apply⟨_,rfl,v,b,m,sp,rfl,hv1,N,hT01,λLp zp fs H2 tb2 hT02 hLp hpt lb=>?_⟩;obtain⟨qs1,eu1⟩:=LamT.tbl hT01;have fz2:∀a o u,H1 a=some (.frz o u)→H2 a=some (.frz o u):=λa o u e=>tb2 _ _ (fM e eu1 nofun) e
 have kp2:Kp H1 H2:=Tb.kp hT01 tb2;have hT12:L2.LamT T1 p1 q1 H2:=gF hT11 (λps e=>tb2 _ _ (cK n1) e) fz2;have hT22:L2.LamT T2 lpT lqT H2:=gF hT21 (λps e=>tb2 _ _ n2 e) fz2;have hT42:L2.LamG T4 lqCm H2:=hT41.stay (λps e=>tb2 _ _ a0 e) fz2;have hT52:L2.LamG T5 lqFw H2:=hT51.stay (λps e=>tb2 _ _ b0 e) fz2;have hv2:=cg kp2.tup hv1;obtain⟨qs2,eu2⟩:=LamT.tbl hT02;obtain⟨qs3,eu3⟩:=LamT.tbl hT12;apply⟨_,rfl,v,b,m,sp,4096,rfl,hv2,N,↥0,hc,hT02,hT12,λL tv l rg Ts H3 st3 kp3 hT03 hT13 hL dL R tabs few hold=>?_⟩;have fz3:∀a o u,H2 a=some (.frz o u)→H3 a=some (.frz o u):=λa o u e=>st3 _ _ (fM e eu2 nofun) (fM e eu3 nofun) e
 have hT23:L2.LamT T2 lpT lqT H3:=gF hT22 (λps e=>st3 _ _ n2 n3 e) fz3;have hT43:L2.LamG T4 lqCm H3:=hT42.stay (λps e=>st3 _ _ a0 a1 e) fz3;have hT53:L2.LamG T5 lqFw H3:=hT52.stay (λps e=>st3 _ _ b0 b1 e) fz3;have hv3:=cg kp3.tup hv2;have holdA:=hold (.inr rfl);have ltv:tv.length=Ts.length:=by rw[dL.length];unfold fF;rw[aa]
 have hu3:H3 u=some (.tup (ts.map V.int)):=kp3.tup _ _ (kp2.tup _ _ (kp1.tup _ _ hu));have kp03:Kp H H3:=kp1.trans (kp2.trans kp3);have st03:∀a o,a≠T0→a≠T1→a≠T2→H a=some o→H3 a=some o:=λa o e0 e1 e2 e=>st3 _ _ e0 e1 (tb2 _ _ e0 (st1 _ _ e0 e1 e2 e))
 have hLp3:=kp3.lst _ _ hLp;have hpt3:PtsD H3 zp fs:=by
  obtain⟨As,e,lA,hA⟩:=hpt;exact⟨As,e,lA,λi f A h1 h2=>kp3.lst _ _ (hA i f A h1 h2)⟩
 have getT:∀(i:Nat) x,tv[i]? =some x→∃qx t,x= .ref qx∧H3 qx=some (.tup (t.map V.int))∧Ts[i]? =some t:=λi x hx=>by
  have hi:i<Ts.length:=by rw[←ltv];exact(ar.mp hx).1
  obtain⟨d,ed,dx⟩:=dL.get hx;unfold fF at ed;rw[az,gE hi] at ed;cases ed;obtain⟨qx,xs,rfl,hqx,rx⟩:=dx.tup_of;have:=rx.ints_of;subst this;exact⟨qx,Ts[i],rfl,hqx,gE hi⟩
 apply⟨L,rfl,⟨_,SqL.of hL⟩,?_⟩;have lfs:fs.length=ts.length:=by rw[lb.len,lt]
 have lTs:∀t∈Ts,t.length=ts.length:=λt ht=>by rw[(tabs t ht).1,lt]
 have NE:∀{Hx:Hp} {Tx a:aq} {lq:Str} {o:HO},L2.LamG Tx lq Hx→Hx a=some o→(∀q,o≠ .tbl q)→a≠Tx:=λg e n z=>by
  obtain⟨ps,et⟩:=g.tbl;rw[z,et] at e;exact n _ (bE e).symm
 have kt:∀{H4:Hp} {a:aq} {o:HO},L2.Tb T4 H3 H4→H3 a=some o→(∀q,o≠ .tbl q)→H4 a=some o:=λtb e n=>tb _ _ (NE hT43 e n) e
 apply iT (K:=K) (a:=L) (xs:=tv) (λi zs H4=>L2.Tb T4 H3 H4∧L2.LamG T4 lqCm H4∧∃Ys:List AT,zs=Ys.map (λy=>V.ref y.1)∧Ys.length=i∧(∀y∈Ys,H4 y.1=some (.tup (y.2.map V.int)))∧∀(j:Nat) (t:List Int) (z:AT),Ts[j]? =some t→Ys[j]? =some z→∃g,Mvd b fs t z.2 g∧∀f∈iY fs,Cmn (shM b ts t) (kI fs f) (g f)) ⟨λ_ _ _ e=>e,hT43,[],rfl,rfl,λ_ h=>(by cases h),λ_ _ _ _ h=>(by cases h)⟩ (λi zs H4 hi ⟨tb4,_,Ys,e1,e2,_⟩=>⟨SqL.of (kt tb4 hL (λ_ z=>by cases z)),by rw[e1,aa];lia⟩) (by rw[ltv];exact aQ few ↥0) (λi x zs H4 hx ⟨tb4,hT44,Ys,e1,e2,hY,mY⟩=>?_) (λzs H4 ⟨tb4,hT44,Ys,e1,e2,hY,mY⟩ Lt hLt=>?_)
 ·obtain⟨qx,t,rfl,hqx,et⟩:=getT i x hx
  have lt':=lTs t (aL et);apply fO ?_;apply⟨_,rfl,_,rfl,_,rfl,_,rfl,v,Lp,u,qx,b,m,sp,zp,fs,ts,t,rfl,cg (λa xs e=>kt tb4 e (λ_ z=>by cases z)) hv3,by have:=N.b1;lia,kt tb4 hLp3 (λ_ z=>by cases z),?_,kt tb4 hu3 (λ_ z=>by cases z),kt tb4 hqx (λ_ z=>by cases z),lt',lfs,⋯,hT44,λr H5 X g tb5 hT45 h5 lX eX cm=>?_⟩
  ·obtain⟨As,e,lA,hA⟩:=hpt3
   exact⟨As,e,lA,λi f A h1 h2=>kt tb4 (hA i f A h1 h2) (λ_ z=>by cases z)⟩
  apply⟨λa o n e=>tb5 _ _ n (tb4 _ _ n e),hT45,Ys++[(r,X)],by rw[e1,aD];rfl,by rw[av,e2];rfl,λy hy=>?_,λj t' z ej ez=>?_⟩
  ·rcases aI.mp hy with hy | hy
   ·exact tb5 _ _ (NE hT44 (hY y hy) (λ_ z=>by cases z)) (hY y hy)
   ·rw[aw.mp hy];exact h5
  ·rcases Nat.lt_or_ge j i with c | c
   ·rw[cu ⋯] at ez
    exact mY j t' z ej ez
   ·have hj:j=i:=by have:=(ar.mp ez).1;rw[av,cU] at this;lia
    subst hj;rw[bp ⋯,e2,fY] at ez;cases ez;rw[et] at ej;cases ej;exact⟨g,⟨by rw[lX,lt'],λk k0 k1=>eX k k0 ⋯⟩,cm⟩
 subst e1;have lY:Ys.length=Ts.length:=e2.trans ltv;have S5:bD H4 (upd H4 Lt (.lst (Ys.map λy=>V.ref y.1))):=(bD.refl H4).put hLt;have h5:(upd H4 Lt (.lst (Ys.map λy=>V.ref y.1))) Lt=some (.lst (Ys.map λy=>V.ref y.1)):=aR;generalize upd H4 Lt (.lst (Ys.map λy=>V.ref y.1))=H5 at S5 h5 ⊢;have tb35:L2.Tb T4 H3 H5:=λa o n e=>S5 _ _ (tb4 _ _ n e)
 have fz5:∀a o u,H3 a=some (.frz o u)→H5 a=some (.frz o u):=λa o u e=>kt tb35 e (λ_ z=>by cases z)
 have hT05:L2.LamT T0 p0 q0 H5:=gF hT03 (λps e=>tb35 _ _ (cK a0) e) fz5;have hT15:L2.LamT T1 p1 q1 H5:=gF hT13 (λps e=>tb35 _ _ (cK a1) e) fz5;have hT25:L2.LamT T2 lpT lqT H5:=gF hT23 (λps e=>tb35 _ _ (cK a2) e) fz5;have hT45:L2.LamG T4 lqCm H5:=hT44.same S5;have hT55:L2.LamG T5 lqFw H5:=hT53.stay (λps e=>tb35 _ _ b4 e) fz5;have nY:Ys≠[]:=λz=>by
  obtain⟨t,ht,_⟩:=holdA t0 tok0.2.2;rw[z] at lY;rw[g9.mp lY.symm] at ht;cases ht
 have len:∀y∈Ys,y.2.length=ts.length:=λy hy=>by
  obtain⟨i,hi,rfl⟩:=bK hy;have hj:i<Ts.length:=by lia
  obtain⟨g,M,_⟩:=mY i Ts[i] Ys[i] (gE hj) (gE hi);rw[M.len];exact lTs _ (aY hj)
 have hu5:=kt tb35 hu3 (λ_ z=>by cases z);have hY5:∀y∈Ys,H5 y.1=some (.tup (y.2.map V.int)):=λy hy=>S5 _ _ (hY y hy)
 have kf:∀{H6:Hp} {a:aq} {o:HO},L2.Tb T5 H5 H6→H5 a=some o→(∀q,o≠ .tbl q)→H6 a=some o:=λtb e n=>tb _ _ (NE hT55 e n) e
 apply⟨_,rfl,Lt,_,λi=>(((qg ts ((Ys.getD i (0,[])).2)).length:Nat):Int),rfl,h5,λz=>nY (List.map_eq_nil_iff.mp z),hT55,λi x hx H6 tb6=>?_,λH6 i x tb6 hT56 hx mini=>?_⟩
 ·rw[az] at hx
  obtain⟨y,ey,rfl⟩:=aM.mp hx;have my:=aL ey;have e:Ys.getD i (0,[])=y:=by rw[ae,ey];rfl
  apply⟨_,rfl,_,rfl,u,y.1,ts,y.2,rfl,kf tb6 hu5 (λ_ z=>by cases z),kf tb6 (hY5 y my) (λ_ z=>by cases z),len y my,⋯,λr H7 S7 h7=>⟨r,_,rfl,.inr (SqT.of h7),S7,?_⟩⟩;show V.int _=V.int (((qg ts ((Ys.getD i (0,[])).2)).length:Nat):Int);rw[e,aa]
 ·rw[az] at hx
  obtain⟨y,ey,rfl⟩:=aM.mp hx;have my:=aL ey;have e:Ys.getD i (0,[])=y:=by rw[ae,ey];rfl
  have least:∀z∈Ys,(qg ts y.2).length≤(qg ts z.2).length:=λz hz=>by
   obtain⟨j,hj,rfl⟩:=bK hz;have:=mini j (by rw[aa];exact hj);have this:(((qg ts ((Ys.getD i (0,[])).2)).length:Nat):Int)≤(((qg ts ((Ys.getD j (0,[])).2)).length:Nat):Int):=this;have e2:Ys.getD j (0,[])=Ys[j]:=by rw[ae,gE hj];rfl
   rw[e,e2] at this;lia
  have hy6:=kf tb6 (hY5 y my) (λ_ z=>by cases z);apply⟨_,rfl,_,rfl,u,y.1,ts,y.2,rfl,kf tb6 hu5 (λ_ z=>by cases z),hy6,len y my,⋯,λqs H7 S7 h7=>?_⟩;apply⟨_,rfl,(by show 3≤bf;decide),λqr HA SA hA=>?_⟩;have S6A:bD H6 HA:=S7.trans SA;have fz6:∀a o u,H5 a=some (.frz o u)→H6 a=some (.frz o u):=λa o u e=>kf tb6 e (λ_ z=>by cases z)
  have kp35:Kp H3 H5:=⟨λa xs e=>kt tb35 e (λ_ z=>by cases z),λa xs e=>kt tb35 e (λ_ z=>by cases z),λa _ xs e=>kt tb35 e (λ_ z=>by cases z)⟩;have kp56:Kp H5 H6:=⟨λa xs e=>kf tb6 e (λ_ z=>by cases z),λa xs e=>kf tb6 e (λ_ z=>by cases z),λa _ xs e=>kf tb6 e (λ_ z=>by cases z)⟩;apply k qr HA (kp03.trans (kp35.trans (kp56.trans (bD.kp S6A)))) (λa o e0 e1 e2 e4 e5 e=>S6A _ _ (tb6 _ _ e5 (tb35 _ _ e4 (st03 a o e0 e1 e2 e)))) (LamT.same S6A (gF hT05 (λps e=>tb6 _ _ (cK b0) e) fz6)) (LamT.same S6A (gF hT15 (λps e=>tb6 _ _ (cK b1) e) fz6)) (LamT.same S6A (gF hT25 (λps e=>tb6 _ _ (cK b2) e) fz6)) ((hT45.stay (λps e=>tb6 _ _ (cK b4) e) fz6).same S6A) (hT56.same S6A) (.inr ⟨fs,l,rg,Ts,Ys,qs,y,?_⟩);exact⟨hA,SA _ _ h7,my,S6A _ _ hy6,least,tabs,lY,mY,lb,R,holdA⟩
def qp {x:Int}:x % b=y % b↔∃k,x=y+b * k:=by
 constructor
 ·intro h
  have a1:=cX x b;have a2:=cX y b;exact⟨x / b - y / b,by rw[jw];lia⟩
 ·rintro⟨k,rfl⟩
  exact iU y b k
def md_eq {x k:Int}(x0:0≤x)(x1:x<b)(y0:0≤y)(y1:y<b)(h:x=y+b * k):x=y:=by
 have:=qp.mpr ⟨k,h⟩;rw[fQ x0 x1,fQ y0 y1] at this;exact this
theorem part_same {m:Int}{fs t T:List Int}(N:jb b m sp)(fr:jo m.toNat sp l)(hl:∀i∈l,i<sp.length)(h:∀k∈l,ke b t sp k=ke b T sp k)(lb:Lbl m.toNat sp fs){x:Int}(x0:0≤x)(x1:x<m)(y0:0≤y)(y1:y<m)(e:tm fs x=tm fs y) :
  ∃k,tm t x - tm T x=tm t y - tm T y+b * k:=by
 have P:∀i∈l,∃k,tm t (sAt sp i).g - tm T (sAt sp i).g=tm t (sAt sp i).s - tm T (sAt sp i).s+b * k:=λi hi=>by
  have hk:=hl i hi;have ek:sAt sp i=sp[i]:=by unfold sAt;rw[ae,gE hk];rfl
  have q:=h i hi;unfold ke at q;rw[gE hk] at q;have q:sp[i].l+iJ b t sp[i]=sp[i].l+iJ b T sp[i]:=q;have q2:iJ b t sp[i]=iJ b T sp[i]:=by lia
  unfold iJ at q2;obtain⟨k,hk2⟩:=qp.mp q2;rw[ek];exact⟨k,⋯⟩
 have A:∀z∈sp,(∃k,tm t z.s - tm T z.s=tm t y - tm T y+b * k)↔∃k,tm t z.g - tm T z.g=tm t y - tm T y+b * k:=λz hz=>by
  obtain⟨j,hj,rfl⟩:=bK hz;have ej:sAt sp j=sp[j]:=by unfold sAt;rw[ae,gE hj];rfl
  rw[←ej];have I:∀i∈l,(∃k,tm t (sAt sp i).s - tm T (sAt sp i).s=tm t y - tm T y+b * k)↔∃k,tm t (sAt sp i).g - tm T (sAt sp i).g=tm t y - tm T y+b * k:=λi hi=>by
   obtain⟨k,e⟩:=P i hi
   constructor
   ·rintro⟨k2,e2⟩;exact⟨k+k2,by rw[jx];lia⟩
   ·rintro⟨k2,e2⟩;exact⟨k2 - k,by rw[jw];lia⟩
  have H:=fr.held N.ends hj;apply⟨H (λz=>∃k,tm t z - tm T z=tm t y - tm T y+b * k) I,λhg=>eZ λns=>?_⟩;exact H (λz=>¬∃k,tm t z - tm T z=tm t y - tm T y+b * k) (λi hi=>not_congr (I i hi)) ns hg
 have m1:=N.m1;exact((lb.same x0 ⋯ y0 ⋯).mp e (λz=>∃k,tm t z - tm T z=tm t y - tm T y+b * k) A).mpr ⟨0,⋯⟩
def idxF_pair {fs:List Int}{f:Int}:(kI fs f).Pairwise (· < ·):=by
 unfold kI;rw[fP];exact((List.pairwise_lt_range (n:=fs.length)).filter _).imp λh=>by lia
theorem hdF_le {fs:List Int}{j:Int}(j0:0≤j)(j1:j<fs.length):0≤hdF fs (tm fs j)∧hdF fs (tm fs j)≤j∧tm fs (hdF fs (tm fs j))=tm fs j:=by
 have mj:j∈kI fs (tm fs j):=jD.mpr ⟨j0,j1,rfl⟩;have p:=idxF_pair (fs:=fs) (f:=tm fs j);unfold hdF;cases q:kI fs (tm fs j) with
 | nil=>rw[q] at mj;cases mj
 | cons a r =>
  rw[q] at mj p;have ma:a∈kI fs (tm fs j):=by rw[q];simp
  obtain⟨a0,a1,a2⟩:=jD.mp ma;apply⟨a0,?_,a2⟩;show a≤j
  rcases aH.mp mj with rfl | h
  ·exact d8 _
  ·have:=(jq.mp p).1 j h;lia
theorem cnt_not {p:Nat→Bool}:∀l:List Nat,(l.filter λk=> !p k).length+l.countP p=l.length
 | []=>rfl
 | k::l=>by
  have:=cnt_not (p:=p) l;rw[fA,iW,aV];cases p k <;> simp <;> lia
def qf {us:List Int}:(qg ts us).length+(aG ts.length).countP (λk:Nat=>decide (tm ts k=tm us k))=ts.length:=by
 unfold qg;rw[aa];have:=cnt_not (p:=λk:Nat=>decide (tm ts k=tm us k)) (aG ts.length);rw[bb] at this;exact this
theorem cnt_two {lab:Nat→Int}{p:Nat→Bool}{f:Int}{hs:List Int}(nf:f ∉ hs):∀l:List Nat,l.countP (λk=>p k && decide (lab k∈f::hs))=l.countP (λk=>p k && decide (lab k=f))+l.countP (λk=>p k && decide (lab k∈hs))
 | []=>rfl
 | k::l=>by
  rw[iW,iW,iW,cnt_two nf l];cases hp:p k
  ·rfl
  ·by_cases e:lab k=f
   ·rw[rT (by rw[e];simp:lab k∈f::hs),rT e,rV (by rw[e];exact nf)]
    simp;lia
   ·by_cases e2:lab k∈hs
    ·rw[rT (aA _ e2:lab k∈f::hs),rV e,rT e2]
     simp;lia
    ·rw[rV (λz=>(aH.mp z).elim e e2:¬lab k∈f::hs),rV e,rV e2]
     simp
theorem cnt_parts {lab:Nat→Int}{p q:Nat→Bool}{l:List Nat}:∀(hs:List Int),hs.Nodup→(∀f∈hs,l.countP (λk=>p k && decide (lab k=f))≤l.countP (λk=>q k && decide (lab k=f)))→l.countP (λk=>p k && decide (lab k∈hs))≤l.countP (λk=>q k && decide (lab k∈hs))
 | [],_,_=>by
  have:∀p:Nat→Bool,l.countP (λk=>p k && decide (lab k∈([]:List Int)))=0:=λp=>List.countP_eq_zero.mpr λk _=>by
   rw[rV cz,Bool.and_false];exact bc
  rw[this p];exact bu _
 | f::hs,nd,h=>by
  have nd:=bw.mp nd;rw[cnt_two nd.1,cnt_two nd.1];exact Nat.add_le_add (h f ∅) (cnt_parts hs nd.2 λg hg=>h g (aA _ hg))
def cnt_idx {fs sh:List Int}{f c:Int}:((kI fs f).map (tm sh)).count c=(aG fs.length).countP (λk:Nat=>decide (tm sh k=c) && decide (tm fs k=f)):=by
 unfold kI;rw[cW,List.count,List.countP_map,List.countP_filter];apply iq λk _=>?_
 show((tm sh (k:Nat) == c) && decide (fs.getD k 0=f))=true↔_;have e:tm fs (k:Nat)=fs.getD k 0:=by unfold tm;rw[cA]
 rw[e]
 by_cases z:tm sh (k:Nat)=c
 ·rw[z,beq_self_eq_true,rT rfl]
 ·rw[rV z,beq_false_of_ne z]
section
variable {q0:aq}{m:Int}{fs:List Int}{rg:List (Nat×List Stp)}{Ys:List AT}{y0:AT}
theorem FewA.best (A:FewA H q0 b m sp ts fs l rg Ts Ys qs y0)(N:jb b m sp)(lt:ts.length=m.toNat)(hts:∀x∈ts,0≤x∧x<b){T:List Int}(ok:kN b m sp T):(qg ts y0.2).length≤(qg ts T).length:=by
 have b1:=N.b1;have m1:=N.m1;have hlt:=(A.fr.ff N).acy.nodup.2;have lfs:fs.length=m.toNat:=A.lb.len;obtain⟨t,ht,lay⟩:=A.hold T ok.2.2;obtain⟨i,hi,rfl⟩:=bK ht;have hk:i<Ys.length:=by have:=A.len;lia
 obtain⟨g,M,C⟩:=A.mv i Ts[i] Ys[i] (gE hi) (gE hk);have lT:=(A.ok _ (aY hi)).1;apply aQ (A.least Ys[i] (aY hk)) ?_;have o1:=qf (ts:=ts) (us:=Ys[i].2);have o2:=qf (ts:=ts) (us:=T)
 suffices hh:(aG ts.length).countP (λk:Nat=>decide (tm ts k=tm T k))≤(aG ts.length).countP (λk:Nat=>decide (tm ts k=tm Ys[i].2 k)) by lia
 have mem:∀k∈aG ts.length,tm fs ((k:Nat):Int)∈iY fs:=λk hk=>by
  have hk:=bS.mp hk;rw[kT];unfold tm;rw[cA,ae,gE ⋯];exact aY _
 have add:∀p:Nat→Bool,(aG ts.length).countP p=(aG ts.length).countP (λk=>p k && decide (tm fs ((k:Nat):Int)∈iY fs)):=λp=>iq λk hk=>by rw[rT (mem k hk),Bool.and_true]
 rw[add (λk:Nat=>decide (tm ts k=tm T k)),add (λk:Nat=>decide (tm ts k=tm Ys[i].2 k))];apply cnt_parts (lab:=λk=>tm fs ((k:Nat):Int)) (iY fs) (i7 fs) λf hf=>?_
 obtain⟨_,h0,h1,h2⟩:=idxF_hd hf;have cm:=C f hf;have sh:∀k:Nat,k<ts.length→tm (shM b ts Ts[i]) (k:Nat)=(tm ts k - tm Ts[i] k) % b:=λk hk=>shM_tm ⋯ ⋯ ⋯
 have gr:0≤g f∧g f<b:=by
  obtain⟨z,hz,e⟩:=ba.mp cm.1;obtain⟨z0,z1,_⟩:=jD.mp hz;rw[←e,shM_tm ⋯ z0 ⋯];exact⟨dh _ ⋯,df _ ⋯⟩
 have c1:(aG ts.length).countP (λk:Nat=>decide (tm ts k=tm Ys[i].2 k) && decide (tm fs k=f))=((kI fs f).map (tm (shM b ts Ts[i]))).count (g f):=by
  rw[cnt_idx,lfs,←lt];apply iq λk hk=>?_
  have hk:=bS.mp hk;rw[cI,cI,decide_eq_true_eq,decide_eq_true_eq,decide_eq_true_eq,sh k hk];apply and_congr_left λef=>?_
  have e:=M.tm k ⋯ ⋯;rw[ef] at e;rw[e];have r:=tm_in hts (i:=(k:Int)) ⋯ ⋯
  constructor
  ·intro z
   have a1:=cX (tm Ts[i] k+g f) b;have:(tm ts k - tm Ts[i] k) % b=g f % b:=qp.mpr ⟨- ((tm Ts[i] k+g f) / b),by rw[Int.mul_neg];lia⟩;rw[this];exact fQ gr.1 gr.2
  ·intro z
   have a1:=cX (tm ts k - tm Ts[i] k) b;have:(tm Ts[i] k+g f) % b=tm ts k % b:=qp.mpr ⟨- ((tm ts k - tm Ts[i] k) / b),by rw[Int.mul_neg];lia⟩;rw[this];exact(fQ r.1 r.2).symm
 have c2:(aG ts.length).countP (λk:Nat=>decide (tm ts k=tm T k) && decide (tm fs k=f))=((kI fs f).map (tm (shM b ts Ts[i]))).count ((tm T (hdF fs f) - tm Ts[i] (hdF fs f)) % b):=by
  rw[cnt_idx,lfs,←lt];apply iq λk hk=>?_
  have hk:=bS.mp hk;rw[cI,cI,decide_eq_true_eq,decide_eq_true_eq,decide_eq_true_eq,sh k hk];apply and_congr_left λef=>?_
  obtain⟨c3,e3⟩:=part_same N A.fr.fr hlt lay A.lb (x:=(k:Int)) (y:=hdF fs f) ⋯ ⋯ h0 ⋯ (by rw[ef,h2]);have r:=tm_in hts (i:=(k:Int)) ⋯ ⋯;have r2:=tm_in ok.2.1 (i:=(k:Int)) ⋯ (by have:=ok.1;lia)
  constructor
  ·intro z
   exact qp.mpr ⟨- c3,by rw[Int.mul_neg];lia⟩
  ·intro z
   obtain⟨c4,e4⟩:=qp.mp z;exact md_eq (k:=c4+c3) r.1 r.2 r2.1 r2.2 (by rw[jx];lia)
 show(aG ts.length).countP (λk:Nat=>decide (tm ts k=tm T k) && decide (tm fs k=f))≤(aG ts.length).countP (λk:Nat=>decide (tm ts k=tm Ys[i].2 k) && decide (tm fs k=f));rw[c1,c2]
 by_cases z:(tm T (hdF fs f) - tm Ts[i] (hdF fs f)) % b∈(kI fs f).map (tm (shM b ts Ts[i]))
 ·exact cm.2 _ z
 ·rw[List.count_eq_zero.mpr z];exact bu _
theorem FewA.mvd {m n:Int}{fs o:List Int}(N:jb b m sp)(lb:Lbl m.toNat sp fs)(h:kN b m sp o):kN b m sp (qo b n o):=by
 apply Mvd.ok (fs:=fs) (g:=λ_=>n) ⟨by unfold qo;rw[aa],λk k0 k1=>?_⟩ N lb h;have hk:k.toNat<o.length:=by lia
 unfold tm qo;rw[ae,ae,az,gE hk];rfl
end
def pinS (b:Int)(ts:List Int)(i j:Int):Sn:=⟨i,j,(tm ts j - tm ts i) % b,(tm ts j - tm ts i) % b,0⟩
def mQ (b:Int)(ts ks:List Int):List Sn:=(ks.zip ks.tail).map λp=>pinS b ts p.1 p.2
theorem p8 (b:Int)(ts ks:List Int):(mQ b ts ks).length=ks.length - 1:=by
 unfold mQ;rw[aa,List.length_zip,List.length_tail];lia
def pinsM_at {ks:List Int}{x:Int}(hx:ks[i]? =some x)(hy:ks[i+1]? =some y):(mQ b ts ks)[i]? =some (pinS b ts x y):=by
 unfold mQ;have h:(ks.zip ks.tail)[i]? =some (x,y):=List.getElem?_zip_eq_some.mpr ⟨hx,by rw[List.getElem?_tail];exact hy⟩;rw[az,h];rfl
inductive spPin (vs:List V)(H:Hp)(Q:VK)(_:XK):Prop
 | mk (v:V)(u:aq)(b m:Int)(sp:List Sn)(ts:List Int)(i j:Int)(_:vs=[v,.ref u,.int i,.int j])(_:IsD H v (jv b m sp))(_:H u=some (.tup (ts.map V.int)))(_:0<b)(_:0≤i)(_:i<ts.length)(_:0≤j)(_:j<ts.length)(_:∀p H',bD H H'→H' p=some (.tup ((pinS b ts i j).row.map V.int))→Q (.ref p) H')
inductive spPinned (vs:List V)(H:Hp)(Q:VK)(_:XK):Prop
 | mk (v:V)(u r:aq)(b m:Int)(sp:List Sn)(ts ks:List Int)(_:vs=[v,.ref u,.ref r])(_:IsD H v (jv b m sp))(_:H u=some (.tup (ts.map V.int)))(_:H r=some (.tup (ks.map V.int)))(_:0<b)(_:(∀k∈ks,0≤k∧k<ts.length))(_:sp.length+ks.length≤40)(_:∀v' H',bD H H'→IsD H' v' (jv b m (sp++mQ b ts ks))→Q v' H')
def pin_kept {os:List Int}{i j:Int}(hb:0<b):brk b os (pinS b ts i j)=false↔(tm os i - tm ts i) % b=(tm os j - tm ts j) % b:=by
 have e:brk b os (pinS b ts i j)=decide (0<(tm os j - tm os i - (tm ts j - tm ts i) % b) % b):=by
  show decide ((tm ts j - tm ts i) % b - (tm ts j - tm ts i) % b<(tm os j - tm os i - (tm ts j - tm ts i) % b) % b)=_;rw[Int.sub_self]
 rw[e,decide_eq_false_iff_not];have h0:=dh (tm os j - tm os i - (tm ts j - tm ts i) % b) (by lia:b≠0);have e2:(tm os j - tm os i - (tm ts j - tm ts i) % b) % b=((tm os j - tm ts j) - (tm os i - tm ts i)) % b:=by
  rw[Int.sub_emod,Int.emod_emod_of_dvd _ (Int.dvd_refl b),←Int.sub_emod];congr 1;lia
 rw[e2] at h0 ⊢
 constructor
 ·intro h
  have hz:((tm os j - tm ts j) - (tm os i - tm ts i)) % b=0:=by lia
  exact(Int.emod_eq_emod_iff_emod_sub_eq_zero.mpr hz).symm
 ·intro h
  have hz:=Int.emod_eq_emod_iff_emod_sub_eq_zero.mp h.symm;lia
theorem chain_all {f:Int→Int}:∀(ks:List Int),(∀p∈ks.zip ks.tail,f p.1=f p.2)↔∀x∈ks.map f,∀y∈ks.map f,x=y
 | []=>by simp
 | [a]=>by simp
 | a::b::ks=>by
  have ih:=chain_all (f:=f) (b::ks);have e:(a::b::ks).zip (a::b::ks).tail=(a,b)::(b::ks).zip (b::ks).tail:=rfl;rw[e]
  constructor
  ·intro h
   have h1:f a=f b:=h (a,b) ∅;have h2:=ih.mp λp hp=>h p (aA _ hp)
   have hb:f b∈(b::ks).map f:=by simp
   have all:∀x∈(a::b::ks).map f,x=f b:=λx hx=>by
    rw[bI] at hx
    rcases aH.mp hx with rfl | hx
    ·exact h1
    ·exact h2 x hx _ hb
   intro x hx y hy;rw[all x hx,all y hy]
  ·intro h p hp
   rcases aH.mp hp with rfl | hp
   ·exact h _ ∅ _ ∅
   ·exact ih.mpr (λx hx y hy=>h x (by rw[bI];exact aA _ hx) y (by rw[bI];exact aA _ hy)) p hp
structure StK (b m:Int)(sp:List Sn)(ts fs:List Int)(Ys:List AT)(n:Nat)(p:List Int×List AT):Prop where
 l1:∀y,y∈p.2↔y∈Ys∧∀j∈p.1,tm y.2 j=tm ts j
 rng:∀j∈p.1,0≤j∧j<n
 hds:∀j:Int,0≤j→j<n→hdF fs (tm fs j)=j→j∈p.1
 ne:p.2≠[]
 cnt:p.1.length=(aG n).countP λk:Nat=>decide ((k:Int)∈p.1)
 inc:p.1.Pairwise (· < ·)
 out:∀k:Int,0≤k→k<n→k ∉ p.1→∀(T:List Int) (c:Int),kN b m sp T→(∀j∈p.1,j<k→∃e,tm T j - tm ts j=c+b * e)→(∃e,tm T k - tm ts k=c+b * e)→False
section
variable {q0:aq}{m:Int}{fs:List Int}{rg:List (Nat×List Stp)}{Ys:List AT}{y0:AT}
def mR.yok (A:mR H q0 b m sp ts fs l rg Ts Ys qs y0)(N:jb b m sp):∀y∈Ys,kN b m sp y.2:=λy hy=>by
 obtain⟨i,hi,rfl⟩:=bK hy;have hj:i<Ts.length:=by have:=A.len;lia
 exact(A.mv i Ts[i] Ys[i] (gE hj) (gE hi)).ok N A.lb (A.ok _ (aY hj))
theorem mR.head (A:mR H q0 b m sp ts fs l rg Ts Ys qs y0)(lt:ts.length=m.toNat)(hts:∀x∈ts,0≤x∧x<b){j:Int}(j0:0≤j)(j1:j<m)(hj:hdF fs (tm fs j)=j):∀y∈Ys,tm y.2 j=tm ts j:=λy hy=>by
 obtain⟨i,hi,rfl⟩:=bK hy;have hk:i<Ts.length:=by have:=A.len;lia
 have M:=A.mv i Ts[i] Ys[i] (gE hk) (gE hi);have lT:=(A.ok _ (aY hk)).1;have r:=tm_in hts j0 ⋯;have ey:=M.tm j j0 ⋯;rw[hj] at ey;rw[ey];have a1:=cX (tm ts j - tm Ts[i] j) b;have:(tm Ts[i] j+(tm ts j - tm Ts[i] j) % b) % b=tm ts j % b:=qp.mpr ⟨- ((tm ts j - tm Ts[i] j) / b),by rw[Int.mul_neg];lia⟩;rw[this];exact fQ r.1 r.2
theorem mR.step (A:mR H q0 b m sp ts fs l rg Ts Ys qs y0)(N:jb b m sp)(lt:ts.length=m.toNat)(hts:∀x∈ts,0≤x∧x<b)(hn:n<m.toNat){p:List Int×List AT}(J:StK b m sp ts fs Ys n p):StK b m sp ts fs Ys (n+1) (stS ts p n):=by
 obtain⟨S,L⟩:=p;obtain⟨l1,rng,hds,ne,cnt,inc,out⟩:=J
 dsimp only at l1 rng hds ne cnt inc out
 have lfs:fs.length=m.toNat:=A.lb.len;have hlt:=(A.fr.ff N).acy.nodup.2;have rn:∀j∈S++[(n:Int)],0≤j∧j<((n+1:Nat):Int):=λj hj=>by
  rcases aI.mp hj with h | h
  ·have:=rng j h;lia
  ·rw[aw.mp h];lia
 have nn:(n:Int) ∉ S:=λz=>by have:=rng _ z;lia
 have F1:∀y,y∈L.filter (λy=>decide (tm y.2 n=tm ts n))↔y∈Ys∧∀j∈S++[(n:Int)],tm y.2 j=tm ts j:=λy=>by
  rw[bX,l1,decide_eq_true_eq]
  constructor
  ·rintro⟨⟨a,c⟩,d⟩
   exact⟨a,λj hj=>(aI.mp hj).elim (c j) λh=>by rw[aw.mp h];exact d⟩
  ·rintro⟨a,c⟩
   exact⟨⟨a,λj hj=>c j (aJ _ hj)⟩,c _ ∅⟩
 have H2:∀(o:List Int) (c:Int),kN b m sp o→(∀j∈S++[(n:Int)],∃e,tm o j - tm ts j=c+b * e)→L.filter (λy=>decide (tm y.2 n=tm ts n))≠[]:=λo c ok ag=>by
  obtain⟨t,ht,lay⟩:=A.hold o ok.2.2;obtain⟨i,hi,rfl⟩:=bK ht;have hk:i<Ys.length:=by have:=A.len;lia
  have M:=A.mv i Ts[i] Ys[i] (gE hi) (gE hk);have lT:=(A.ok _ (aY hi)).1;have yk:=A.yok N Ys[i] (aY hk);apply List.ne_nil_of_mem ((F1 Ys[i]).mpr ⟨aY hk,λj hj=>?_⟩);have rj:=rn j hj;obtain⟨h0,h1,h2⟩:=hdF_le (fs:=fs) rj.1 ⋯;have mh:hdF fs (tm fs j)∈S++[(n:Int)]:=by
   by_cases c:hdF fs (tm fs j)=n
   ·rw[c];simp
   ·exact aJ _ (hds _ h0 ⋯ (by rw[h2]))
  obtain⟨c1,e1⟩:=ag j hj;obtain⟨c2,e2⟩:=ag _ mh;obtain⟨c3,e3⟩:=part_same N A.fr.fr hlt lay A.lb (x:=j) (y:=hdF fs (tm fs j)) rj.1 ⋯ h0 ⋯ h2.symm;have ey:=M.tm j rj.1 ⋯;have a1:=cX (tm ts (hdF fs (tm fs j)) - tm Ts[i] (hdF fs (tm fs j))) b;have a2:=cX (tm Ts[i] j+(tm ts (hdF fs (tm fs j)) - tm Ts[i] (hdF fs (tm fs j))) % b) b;have r1:=tm_in yk.2.1 rj.1 (by have:=yk.1;lia);have r2:=tm_in hts rj.1 ⋯;apply md_eq (k:=c3+c1 - c2 - (tm ts (hdF fs (tm fs j)) - tm Ts[i] (hdF fs (tm fs j))) / b - (tm Ts[i] j+(tm ts (hdF fs (tm fs j)) - tm Ts[i] (hdF fs (tm fs j))) % b) / b) r1.1 r1.2 r2.1 r2.2 ?_;rw[jw,jw,jw,jx];lia
 have hd:hdF fs (tm fs (n:Int))=n→L.filter (λy=>decide (tm y.2 n=tm ts n))≠[]:=λh=>by
  obtain⟨y,hy⟩:=List.exists_mem_of_ne_nil _ ne;have hY:=((l1 y).mp hy).1;exact List.ne_nil_of_mem (bX.mpr ⟨hy,rT (A.head lt hts ⋯ ⋯ h y hY)⟩)
 have rg1:∀p:Nat→Bool,(aG (n+1)).countP p=(aG n).countP p+if p n=true then 1 else 0:=λp=>by
  rw[fj,List.countP_append,List.countP_singleton]
 by_cases c:L.filter (λy=>decide (tm y.2 n=tm ts n))=[]
 ·have s1:stS ts (S,L) n=(S,L):=by unfold stS;dsimp only;rw[c];rfl
  rw[s1];apply⟨l1,λj hj=>by have:=rng j hj;lia,λj j0 j1 hj=>?_,ne,?_,inc,λk k0 k1 kn T d ok ag ak=>?_⟩
  ·by_cases q:j=n
   ·subst q;exact rS c (hd hj)
   ·exact hds j j0 ⋯ hj
  ·rw[rg1,rV nn]
   exact cnt
  ·by_cases q:k=n
   ·subst q
    exact H2 T d ok (λj hj=>(aI.mp hj).elim (λh=>ag j h (rng j h).2) λh=>by rw[aw.mp h];exact ak) c
   ·exact out k k0 ⋯ kn T d ok ag ak
 ·have s1:stS ts (S,L) n=(S++[(n:Int)],L.filter λy=>decide (tm y.2 n=tm ts n)):=by unfold stS;dsimp only;rw[rR (om.mpr c)]
  rw[s1];apply⟨F1,rn,λj j0 j1 hj=>?_,c,?_,?_,λk k0 k1 kn T d ok ag ak=>?_⟩
  ·by_cases q:j=n
   ·rw[q];simp
   ·exact aJ _ (hds j j0 ⋯ hj)
  ·rw[rg1,rR (rT ∅),av,cnt]
   congr 1;apply iq λk hk=>?_
   have hk:=bS.mp hk;rw[decide_eq_true_eq,decide_eq_true_eq];exact⟨λh=>aJ _ h,λh=>(aI.mp h).elim id λz=>by have:=aw.mp z;lia⟩
  ·exact List.pairwise_append.mpr ⟨inc,List.pairwise_singleton ..,λx hx y hy=>by rw[aw.mp hy];exact(rng x hx).2⟩
  ·have q:k≠n:=λz=>kn (by rw[z];simp)
   exact out k k0 ⋯ (λz=>kn (aJ _ z)) T d ok (λj hj lj=>ag j (aJ _ hj) lj) ak
def mR.yne (A:mR H q0 b m sp ts fs l rg Ts Ys qs y0):Ys≠[]:=λz=>by
 have hy:=aL A.fst;have e:∀(l:List Nat) (s:List Int),(l.foldl (stS ts) (s,[])).2=[]:=λl=>by
  induction l with
  | nil=>intro _;rfl
  | cons k l ih=>intro s;exact ih s
 rw[z,e] at hy;cases hy
theorem mR.walk (A:mR H q0 b m sp ts fs l rg Ts Ys qs y0)(N:jb b m sp)(lt:ts.length=m.toNat)(hts:∀x∈ts,0≤x∧x<b):∀n,n≤m.toNat→StK b m sp ts fs Ys n ((aG n).foldl (stS ts) ([],Ys))
 | 0,_=>⟨λy=>⟨λh=>⟨h,λj hj=>rS hj (cz)⟩,λh=>h.1⟩,λj hj=>rS hj (cz),λj j0 j1=>by lia,A.yne,rfl,.nil,λk k0 k1=>by lia⟩
 | n+1,h=>by
  rw[fj,cG];exact A.step N lt hts ⋯ (mR.walk A N lt hts n ⋯)
structure Sty (b m:Int)(sp:List Sn)(ts S y:List Int):Prop where
 tab:kN b m sp y
 rng:∀j∈S,0≤j∧j<m∧tm y j=tm ts j
 zero:(0:Int)∈S
 inc:S.Pairwise (· < ·)
 cnt:S.length≤(aG ts.length).countP λk:Nat=>decide (tm ts k=tm y k)
 out:∀k:Int,0≤k→k<m→k ∉ S→∀(T:List Int) (c:Int),kN b m sp T→(∀j∈S,j<k→∃e,tm T j - tm ts j=c+b * e)→(∃e,tm T k - tm ts k=c+b * e)→False
def mR.sty (A:mR H q0 b m sp ts fs l rg Ts Ys qs y0)(N:jb b m sp)(lt:ts.length=m.toNat)(hts:∀x∈ts,0≤x∧x<b):Sty b m sp ts ((aG m.toNat).foldl (stS ts) ([],Ys)).1 y0.2:=by
 have J:=A.walk N lt hts m.toNat (aB _);have m1:=N.m1;have em:((m.toNat:Nat):Int)=m:=dv ⋯;have ag:=((J.l1 y0).mp (aL A.fst)).2;have lfs:fs.length=m.toNat:=A.lb.len;apply⟨A.tab N,λj hj=>⟨(J.rng j hj).1,by have:=(J.rng j hj).2;lia,ag j hj⟩,J.hds 0 (d8 0) ⋯ ?_,J.inc,?_,λk k0 k1=>J.out k k0 ⋯⟩
 ·obtain⟨h0,h1,_⟩:=hdF_le (fs:=fs) (j:=0) (d8 0) ⋯
  lia
 ·rw[J.cnt,lt]
  apply List.countP_mono_left λk _ h=>?_
  rw[decide_eq_true_eq] at h ⊢;exact(ag _ h).symm
end
def fits_app {T:List Int}{a c:List Sn}:kB b T (a++c)=true↔kB b T a=true∧kB b T c=true:=by
 unfold kB;rw[List.any_append,Bool.not_or,cI]
def pins_alike {os ks:List Int}(hb:0<b)(h:kB b os (mQ b ts ks)=true):∃c,∀k∈ks,∃e,tm os k - tm ts k=c+b * e:=by
 have all:=(chain_all (f:=λk=>(tm os k - tm ts k) % b) ks).mp λp hp=>by
  unfold kB mQ at h;rw[iA,ir] at h;exact(pin_kept hb).mp (jM.mpr (h (pinS b ts p.1 p.2) (ba.mpr ⟨p,hp,rfl⟩)))
 cases ks with
 | nil=>exact⟨0,λk hk=>rS hk cz⟩
 | cons a r =>
  apply⟨(tm os a - tm ts a) % b,λk hk=>?_⟩;have:=all _ (ba.mpr ⟨k,hk,rfl⟩) _ (ba.mpr ⟨a,∅,rfl⟩);have this:(tm os k - tm ts k) % b=(tm os a - tm ts a) % b:=this;rw[←this];exact⟨(tm os k - tm ts k) / b,by have:=cX (tm os k - tm ts k) b;lia⟩
theorem zip_lt:∀{ks:List Int},ks.Pairwise (· < ·)→∀p∈ks.zip ks.tail,p.1<p.2∧p.1∈ks∧p.2∈ks
 | [],_,_,h=>by cases h
 | [_],_,_,h=>by cases h
 | a::c::ks,w,p,h=>by
  have e:(a::c::ks).zip (a::c::ks).tail=(a,c)::(c::ks).zip (c::ks).tail:=rfl;rw[e] at h;obtain⟨w1,w2⟩:=jq.mp w
  rcases aH.mp h with rfl | h
  ·exact⟨w1 c ∅,∅,∅⟩
  ·obtain⟨x,y,z⟩:=zip_lt w2 p h
   exact⟨x,aA _ y,aA _ z⟩
theorem jb.pins {m:Int}{ks:List Int}(N:jb b m sp)(few:sp.length+ks.length≤40)(w:ks.Pairwise (· < ·))(rk:∀k∈ks,0≤k∧k<m):jb b m (sp++mQ b ts ks):=by
 have b1:=N.b1;have b2:=N.b2;apply⟨b1,b2,N.m1,N.m2,by rw[av,p8];lia,λx hx=>?_⟩
 rcases aI.mp hx with hx | hx
 ·exact N.all x hx
 ·obtain⟨p,hp,rfl⟩:=ba.mp hx
  obtain⟨a,c,d⟩:=zip_lt w p hp;have l0:0≤(tm ts p.2 - tm ts p.1) % b:=dh _ ⋯;have l1:(tm ts p.2 - tm ts p.1) % b<b:=df _ ⋯;exact⟨(rk _ c).1,(rk _ c).2,(rk _ d).1,(rk _ d).2,by show p.1≠p.2;lia,l0,d8 _,by show(tm ts p.2 - tm ts p.1) % b<(tm ts p.2 - tm ts p.1) % b+b;lia,by show(tm ts p.2 - tm ts p.1) % b<10 ^ 60;lia,by show(0:Int)≤0;decide,by show(0:Int)≤1000000000000;decide⟩
theorem few2 {m:Int}(N:jb b m sp)(m5:m≤5)(h:∀x∈sp,x.o - x.l≤2):∀l,jo m.toNat sp l→kd sp l≤4096:=λl F=>by
 apply(few_cn N (N.cn (.inl h)) (λk hk=>?_) F.2).2;have:k=0∨k=1∨k=2∨k=3∨k=4:=by lia
 rcases this with rfl | rfl | rfl | rfl | rfl <;> decide
theorem pins_few {m:Int}{ks:List Int}(N:jb b m (sp++mQ b ts ks))(m5:m≤5)(h:∀x∈sp,x.o - x.l≤2):∀l,jo m.toNat (sp++mQ b ts ks) l→kd (sp++mQ b ts ks) l≤4096:=few2 N m5 λx hx=>by
 rcases aI.mp hx with hx | hx
 ·exact h x hx
 ·obtain⟨p,_,rfl⟩:=ba.mp hx
  show(tm ts p.2 - tm ts p.1) % b - (tm ts p.2 - tm ts p.1) % b≤2;lia
def Sty.no {m:Int}{S y ks:List Int}(A:Sty b m sp ts S y)(hb:0<b){k:Int}(k0:0≤k)(k1:k<m)(kn:k ∉ S)(hk:k∈ks)(hs:∀j∈S,j<k→j∈ks)(T:List Int):¬kN b m (sp++mQ b ts ks) T:=λh=>by
 obtain⟨f1,f2⟩:=fits_app.mp h.2.2;obtain⟨c,al⟩:=pins_alike hb f2;exact A.out k k0 k1 kn T c ⟨h.1,h.2.1,f1⟩ (λj hj lj=>al j (hs j hj lj)) (al k hk)
def cntB (b:Int)(ts os:List Int)(k:Int):Nat:=(aG ts.length).countP λj:Nat=>decide ((tm os j+tm ts k - tm os k) % b=tm ts j)
theorem cnt_few {m:Int}{fs o x:List Int}(N:jb b m sp)(lb:Lbl m.toNat sp fs)(lt:ts.length=m.toNat)(best:∀T,kN b m sp T→(qg ts x).length≤(qg ts T).length)(ok:kN b m sp o)(k:Int):cntB b ts o k+(qg ts x).length≤ts.length:=by
 have t:=FewA.mvd (n:=tm ts k - tm o k) N lb ok;have h:=best _ t;have e:=qf (ts:=ts) (us:=qo b (tm ts k - tm o k) o);have:cntB b ts o k=(aG ts.length).countP (λj:Nat=>decide (tm ts j=tm (qo b (tm ts k - tm o k) o) j)):=iq λj hj=>by
  have hj:=bS.mp hj;rw[tm_moved ⋯ (by have:=ok.1;lia),decide_eq_true_eq,decide_eq_true_eq,show tm o j+tm ts k - tm o k=tm o j+(tm ts k - tm o k) by lia];exact⟨Eq.symm,Eq.symm⟩
 lia
abbrev sIsN:cF:=top 77
abbrev sFit9:cF:=top 78
abbrev sBst9:cF:=top 80
def NonT (H:Hp)(q:aq)(b:Int)(sp:List Sn):Prop:=∃(u:V) (t:Tq),H q=some (.tup [.str "none",u])∧IsD H u (jY t)∧pl (jY t)=true∧GoodT (RDead b sp) t (sp.map λz=>(z.l,z.o)) 21∧siz t≤8191
def NonT.kp {q:aq}(h:NonT H q b sp)(e:Kp H H'):NonT H' q b sp:=by
 obtain⟨u,t,a,c,d,g⟩:=h;exact⟨u,t,e.tup _ _ a,IsD.keepP e.tup c d,d,g⟩
inductive spIsN (vs:List V)(H:Hp)(Q:VK)(_:XK):Prop
 | mk (v:V)(q:aq)(b m:Int)(sp:List Sn)(_:vs=[v,.ref q])(_:IsD H v (jv b m sp))(_:jb b m sp)(_:NonT H q b sp)(_:∀H',bD H H'→Q (.bl true) H')
inductive spFit9 (vs:List V)(H:Hp)(Q:VK)(_:XK):Prop
 | mk (v:V)(u:aq)(b m:Int)(sp:List Sn)(ts:List Int)(_:vs=[v,.ref u])(_:IsD H v (jv b m sp))(_:jb b m sp)(_:H u=some (.tup (ts.map V.int)))(_:kN b m sp ts)(_:∀H',bD H H'→Q (.bl true) H')
inductive spBst9 (vs:List V)(H:Hp)(Q:VK)(_:XK):Prop
 | mk (v:V)(u o:aq)(b m:Int)(sp:List Sn)(ts os:List Int)(_:vs=[v,.ref u,.ref o])(_:IsD H v (jv b m sp))(_:jb b m sp)(_:H u=some (.tup (ts.map V.int)))(_:ts.length=m.toNat)(_:H o=some (.tup (os.map V.int)))(_:os.length=m.toNat)(_:∀(r:Int) (H':Hp),bD H H'→(∀D:Int,0≤D→(∀k:Int,(cntB b ts os k:Int)≤D)→r≤D)→Q (.int r) H')
theorem tm_mapF {f:Int→Int}{i:Int}(h0:0≤i)(h1:i<ts.length):tm (ts.map f) i=f (tm ts i):=by
 have hi:i.toNat<ts.length:=by lia
 unfold tm;rw[ae,ae,az,gE hi];rfl
def scIsN:bY pzm pzm (defScope sIsN):=by trivial
def ok_isN (F:Fun K "_law_is_none" "_law_is_none" sIsN f fd)(T:Nm mg)(G1:Fn K mg "shown_by" sShown pzb f1 fd1)(F1:‹0› 9 f1 fd1 pzb spShownD):‹0› 10 f fd pzm spIsN:=by
 specialize F.ok scIsN;obtain⟨v,q,b,m,sp,rfl,hv,N,⟨u,t,hq,du,_,gd,sz⟩,k⟩:=h;apply⟨_,PSl.h (cP ⟨(bZ (mm (nS T (pv 1)) (mm (jz jO (cp bR rfl T.len bC (ai (pv 1) aF)) bP (cL _)) (mm (jz jO (ixZ (pv 1)) jh (cL _)) (qc (jz (op_eqD hr.units) (pc1 G1 F1 hr (ai (pv 0) (ai (ixZ (pv 1)) aF))) (dG (ai jh aF)) (cL _)))))))⟩),?_⟩;apply⟨_,rfl,.ref q,"tuple",rfl,(by unfold tyn;dsimp only;rw[hq]),_,rfl,mr rfl ?_⟩;apply⟨_,rfl,q,_,rfl,.inr (SqT.of hq),rfl,_,rfl,mr (by rfl) ?_⟩;apply⟨_,rfl,q,_,_,_,rfl,rfl,SqT.of hq,aO (j:=0) rfl,rfl,_,rfl,mr (rT rfl) ?_⟩;apply⟨_,rfl,_,rfl,q,_,_,_,rfl,rfl,SqT.of hq,aO (j:=1) rfl,v,u,b,m,sp,t,rfl,hv,N,du,gd,sz,λr H5 S5 dr=>⟨szZ1,λq6 H6 S6 h6=>⟨[.str "none"],[.str "none"],dr.same S6,.tup h6 (.cons (.str _) .nil),↥0,↥0,↥0,?_⟩⟩⟩;exact k H6 (S5.trans S6)
def scFit9:bY pzA pzA (defScope sFit9):=by trivial
theorem ok_fit9 (F:Fun K "_law_fits" "_law_fits" sFit9 f fd)(T:Nm mg)(G1:Fn K mg "_law_all_kept" sAllK pzi f1 fd1)(F1:‹0› 2 f1 fd1 pzi spAllK):‹0› 3 f fd pzA spFit9:=by
 specialize F.ok scFit9;obtain ⟨v,u,b,m,sp,ts,rfl,hv,N,hu,tab,k⟩:=h;obtain ⟨t,pn,ys,rfl,ht,_⟩:=fe hv;have m1:=N.m1;have m2:=N.m2;have lt:=tab.1;apply ⟨_,PSl.h (aZ ⟨(gg (PW.pt (oW (jN (iB (nS T (pv 1)))) (nN (cy qS (cp bR rfl T.len bC (ai (pv 1) aF)) (ixZ (pv 0)) (cL _))))) (cE (bZ lW)) cY)⟩
  (aZ ⟨(gg (cy (op_neL0 hr.units0) (gi (fr:=["_law_net_here"]) (js:=[0]) rfl (lr (pv 1)) ⇑0 rfl ⇑0 rfl (by exists sFit9) ⇑0 rfl ⇑0 (fun _ _ _ _ _=>⟨(pv 0),(jZ (PW.pt (oW (jN (iB (pe_isInt T (pv 0)))) (oW (iB (pe_isBool T (pv 0))) (nN (jN (pt_chain op_le op_lt bP (pv 0) (dO (r:=pq K) dF (pv 1) bP (fun _ _=>rfl)))))))))⟩)) (oF aF) (cL _)) (cE (bZ lW)) cY)⟩
  (cP ⟨(bZ (pc1 G1 F1 hr (ai (pv 0) (ai (pv 1) aF))))⟩))),?_⟩
 apply⟨_,rfl,_,_,rfl,(IsD.tup hu (eM.ints ts)).tyn,_,rfl,j3 rfl ?_⟩;apply⟨_,rfl,u,_,rfl,.inr (SqT.of hu),_,rfl,t,_,_,_,rfl,rfl,SqT.of ht,aO (j:=1) rfl,rfl,_,rfl,j3 ?_ ?_⟩
 ·rw[aa,show((ts.length:Nat):Int)=m by lia,rT rfl];rfl
 apply⟨_,rfl,u,rfl,⟨_,SqT.of hu⟩,?_⟩;apply jF (K:=K) (a:=u) (xs:=ts.map V.int) (λi zs H2=>H2=H∧zs=[]) ⟨rfl,rfl⟩ (λi zs H2 hi q=>by obtain⟨e1,e2⟩:=q;subst e1 e2;exact⟨SqT.of hu,bu _⟩) (by rw[aa];exact de ⋯) (λi x zs H2 hx q=>?_) (λzs H2 q D hD=>?_)
 ·obtain⟨e1,e2⟩:=q
  subst e1 e2;obtain⟨y,hy,rfl⟩:=ba.mp (aL hx);obtain⟨y0,y1⟩:=tab.2.1 y hy;apply⟨_,rfl,_,_,rfl,(IsD.int y).tyn,_,rfl,j3 rfl ?_⟩;apply⟨_,rfl,_,_,rfl,(IsD.int y).tyn,_,rfl,j3 rfl ?_⟩;apply⟨_,rfl,_,_,rfl,rfl,_,rfl,mr (rT y0) ?_⟩;apply⟨_,rfl,t,_,_,_,rfl,rfl,SqT.of ht,aO (j:=0) rfl,_,_,rfl,rfl,_,rfl,j3 (by rw[rT y1];rfl) ?_⟩;exact⟨rfl,rfl⟩
 ·obtain⟨e1,e2⟩:=q
  subst e1 e2;have S1:bD H2 (upd H2 D (.lst [])):=(bD.refl H2).put hD;have h1:(upd H2 D (.lst [])) D=some (.lst []):=aR;generalize upd H2 D (.lst [])=H3 at S1 h1 ⊢;apply⟨bu _,λq4 H4 S4 h4=>⟨D,q4,_,rfl,rfl,SqL.of (S4 _ _ h1),SqL.of h4,_,rfl,j3 rfl ?_⟩⟩;have S14:=S1.trans S4;apply⟨_,rfl,_,rfl,.ref t,u,b,m,sp,ts,rfl,hv.same S14,S14 _ _ hu,N.rdy ⋯,λH5 S5=>?_⟩;rw[tab.2.2];exact k H5 (S14.trans S5)
def scBst9:bY ["_law_net_here","_law_table_here","_law_other","_law_best_here","_law_k","_law_moved"] pzL (defScope sBst9):=by trivial
theorem ok_bst9 (F:Fun K "_law_best" "_law_best" sBst9 f fd)(T:Nm mg)(T2:Nt mg):‹0› 1 f fd pzL spBst9:=by
 specialize F.ok scBst9;obtain ⟨v,u,o,b,m,sp,ts,os,rfl,hv,N,hu,lt,ho,lo,k⟩:=h;obtain ⟨t,pn,ys,rfl,ht,_⟩:=fe hv;have b1:=N.b1;have m1:=N.m1;have m2:=N.m2;apply ⟨_,PSl.h (aZ ⟨(psZ 3 scBst9.nd bP)⟩
  (aZ ⟨(ig bH rfl (gk rfl T2.range (ai (ixZ (pv 0)) aF)) (pgZ 4 scBst9.nd) (PSl.h (aZ ⟨(psZ 5 scBst9.nd (gi (fr:=["_law_net_here","_law_other","_law_k","_law_table_here"]) (js:=[0,2,4,1]) rfl (lr (pv 2)) ⇑0 rfl ⇑0 rfl (by exists sBst9) ⇑0 rfl ⇑0 (fun _ _ _ _ _=>⟨(dB mF (dB kz (dB i6 (pv 0) (dO (r:=pq K) dF (pv 4) (pv 3) (fun _ _=>rfl))) (dO (r:=pq K) dF (pv 2) (pv 3) (fun _ _=>rfl))) (dO (r:=pq K) dF (pv 1) bP (fun _ _=>rfl))),gC⟩)))⟩
  (cP ⟨(psZ 3 scBst9.nd (cp (call_max2 rfl) rfl T2.max boot_max (ai (pv 3) (ai (cp bR rfl T.len bC (ai (gi (fr:=["_law_moved","_law_table_here"]) (js:=[5,1]) rfl (gk rfl T2.range (ai (ixZ (pv 0)) aF)) ⇑0 rfl ⇑0 rfl (by exists sBst9) ⇑0 rfl ⇑0 (fun _ _ _ _ _=>⟨(pv 0),(jZ (cy jO (dO (r:=rIxL K) gG (pv 1) (pv 0) (fun _ _=>rfl)) (dO (r:=pq K) dF (pv 2) (pv 0) (fun _ _=>rfl)) (cL _)))⟩)) aF)) aF))))⟩))))⟩
  (cP ⟨(bZ (pv 3))⟩))),?_⟩
 apply⟨_,rfl,t,_,_,_,rfl,rfl,SqT.of ht,aO (j:=1) rfl,m,rfl,⋯,⋯,?_⟩;apply jP (n:=m.toNat) (λi σ H'=>bD H H'∧∃(r:Int) (v4 v5:Option V),σ=[some (.ref t),some (.ref u),some (.ref o),some (.int r),v4,v5]∧∀D:Int,0≤D→(∀k:Int,(cntB b ts os k:Int)≤D)→r≤D) ⟨bD.refl H,0,none,none,rfl,λD h _=>h⟩ ?_ ?_
 ·rintro i σ HE hi ⟨SE,r,v4,v5,rfl,hr0⟩
  have huE:=SE _ _ hu;have hoE:=SE _ _ ho;have htE:=SE _ _ ht;obtain⟨c,ec⟩:∃c:Int,c=0+(i:Int):=⟨_,rfl⟩;have c0:0≤c:=by lia
  have c1:c<ts.length:=by lia
  have c2:c<os.length:=by lia
  rw[←ec];apply⟨_,rfl,o,rfl,⟨_,SqT.of hoE⟩,?_⟩;apply jF (K:=K) (a:=o) (xs:=os.map V.int) (λn zs H6=>H6=HE∧zs=((os.take n).map λz=>(z+tm ts c - tm os c) % b).map V.int) ⟨rfl,rfl⟩ (λn zs H6 hn q=>by obtain⟨e1,e2⟩:=q;subst e1 e2;exact⟨SqT.of hoE,by rw[aa,aa,bM];lia⟩) (by rw[aa];exact de ⋯) (λn x zs H6 hx q=>?_) (λzs H6 q D hD=>?_)
  ·obtain⟨e1,e2⟩:=q
   subst e1;have hn:n<os.length:=by have:=(ar.mp hx).1;rw[aa] at this;exact this
   rw[az,gE hn] at hx;cases hx;apply fO ?_;apply⟨_,rfl,_,rfl,_,rfl,u,_,_,_,rfl,rfl,SqT.of huE,kr c0 c1,_,_,rfl,rfl,_,rfl,_,rfl,o,_,_,_,rfl,rfl,SqT.of hoE,kr c0 c2,_,_,rfl,rfl,_,rfl,t,_,_,_,rfl,rfl,SqT.of htE,aO (j:=0) rfl,_,_,rfl,rfl,(by show(0:Int)<b;lia),rfl,?_⟩;rw[e2,bj,gE hn,aD,aD];rfl
  obtain⟨e1,e2⟩:=q;subst e1;rw[aa,bo] at e2;subst e2;obtain⟨mv,emv⟩:∃mv,mv=os.map λz=>(z+tm ts c - tm os c) % b:=⟨_,rfl⟩
  rw[←emv];have SF:bD H6 (upd H6 D (.lst (mv.map V.int))):=(bD.refl H6).put hD;have hF:(upd H6 D (.lst (mv.map V.int))) D=some (.lst (mv.map V.int)):=aR;generalize upd H6 D (.lst (mv.map V.int))=HF at SF hF ⊢;have lm:mv.length=os.length:=by rw[emv,aa]
  apply⟨_,rfl,_,rfl,t,_,_,_,rfl,rfl,SqT.of (SF _ _ htE),aO (j:=1) rfl,m,rfl,⋯,⋯,?_⟩;apply ko (n:=m.toNat) (λj zs H7=>H7=HF∧zs.length=(aG j).countP λj:Nat=>decide ((tm os j+tm ts c - tm os c) % b=tm ts j)) ⟨rfl,rfl⟩ (λj zs H7 _ q=>by rw[q.2];exact aQ j5 (by rw[bb];exact aB _)) (de ⋯) (λj zs H7 hj q=>?_) (λzs H7 q D2 hD2=>?_)
  ·obtain⟨e1,e2⟩:=q
   subst e1;apply⟨_,rfl,_,rfl,D,_,_,_,rfl,rfl,SqL.of hF,kr ⋯ ⋯,_,rfl,_,rfl,u,_,_,_,rfl,rfl,SqT.of (SF _ _ huE),kr ⋯ ⋯,rfl,?_⟩;have e:tm mv (0+(j:Int))=(tm os j+tm ts c - tm os c) % b:=by rw[emv,tm_mapF ⋯ ⋯,fZ]
   have rg:(aG (j+1)).countP (λj:Nat=>decide ((tm os j+tm ts c - tm os c) % b=tm ts j))=(aG j).countP (λj:Nat=>decide ((tm os j+tm ts c - tm os c) % b=tm ts j))+if decide ((tm os j+tm ts c - tm os c) % b=tm ts j)=true then 1 else 0:=by rw[fj,List.countP_append,List.countP_singleton]
   apply⟨_,rfl,?_⟩;rw[e,fZ,rg]
   by_cases z:(tm os j+tm ts c - tm os c) % b=tm ts j
   ·apply mr (rT (by rw[z])) ⟨_,rfl,rfl,?_⟩
    rw[rR (rT z),av,e2];rfl
   ·apply j3 (rV λq=>z (by injection q)) ⟨rfl,?_⟩
    rw[rV z];exact e2
  ·obtain⟨e1,e2⟩:=q
   subst e1;have SG:bD H7 (upd H7 D2 (.lst zs)):=(bD.refl H7).put hD2;apply⟨D2,_,rfl,.inl (SqL.of aR),_,_,rfl,?_⟩;have ez:(zs.length:Int)=cntB b ts os c:=by
    rw[e2];unfold cntB;rw[lt]
   apply⟨SE.trans (SF.trans SG),_,_,_,rfl,λD3 d0 hd=>?_⟩;have h1:=hr0 D3 d0 hd;have h2:=hd c;split <;> lia
 ·rintro σ HE ⟨SE,r,v4,v5,rfl,hr0⟩
  exact⟨_,rfl,k r HE SE hr0⟩
abbrev sWithSp:cF:=top 9
def ps_notHere:PS X st (λ_ _ _=>False):=λ_ _ _ _ _ _ h=>h.elim
def scWithSp:bY ["net","more","spans"] ["net","more"] (defScope sWithSp):=by trivial
def ok_withSp (F:Fun K "with_spans" "with_spans" sWithSp f fd)(T:Nm mg)(CM:∃t,mg "MOST_SPANS" =some (.int 40 t)):‹0› 1 f fd ["net","more"] spWithSp:=by
 specialize F.ok scWithSp;obtain⟨v,L,b,m,sp,more,zs,rfl,hv,hL,dz,few,k⟩:=h;obtain⟨t,p,ys,rfl,ht,hp,dy⟩:=netP_rows hv;have ly:ys.length=sp.length:=by rw[dy.length];unfold fF;rw[aa]
 have lz:zs.length=more.length:=by rw[dz.length];unfold fF;rw[aa]
 apply ⟨_,PSl.h (aZ ⟨(psZ 2 scWithSp.nd (dB mG (ixZ (pv 0)) (dI gH rfl T.ttup fW (ai (pv 1) aF))))⟩
  (aZ ⟨(gg (cy qT (cp bR rfl T.len bC (ai (pv 2) aF)) (qd CM) (cL _)) (cE ps_notHere) cY)⟩
  (cP ⟨(bZ (dG (ai (ixZ (pv 0)) (ai (ixZ (pv 0)) (ai (pv 2) aF)))))⟩))),?_⟩
 apply⟨_,rfl,t,_,_,_,rfl,rfl,SqT.of ht,aO (j:=2) rfl,_,rfl,L,_,rfl,SqL.of hL,λq1 H1 S1 h1=>?_⟩;apply⟨p,q1,_,_,rfl,rfl,S1 _ _ hp,h1,aQ (by lia:ys.length+zs.length≤1000) ↥0,λq2 H2 S2 h2=>?_⟩;have S12:=S1.trans S2;have ht2:=S12 _ _ ht;apply⟨_,rfl,q2,_,rfl,.inr (SqT.of h2),_,_,rfl,rfl,_,rfl,j3 (by apply rV ?_;rw[av];lia) ?_⟩;apply⟨_,rfl,t,_,_,_,rfl,rfl,SqT.of ht2,aO (j:=0) rfl,_,rfl,t,_,_,_,rfl,rfl,SqT.of ht2,aO (j:=1) rfl,_,rfl,(by show 3≤bf;decide),λq3 H3 S3 h3=>?_⟩;have S13:=S12.trans S3;apply k (.ref q3) H3 S13 (.tup h3 (.cons (.int b) (.cons (.int m) (.cons (.tup (S3 _ _ h2) ?_) .nil))));rw[aD];exact(dy.same S13).append (dz.same S13)
abbrev sPin:cF:=top 58
abbrev sPinned:cF:=top 59
def scPin:bY ["net","table","one","other","length"] pzM (defScope sPin):=by trivial
def ok_pin (F:Fun K "pin_between" "pin_between" sPin f fd)(G1:Fn K mg "rest_by" sRest pzg f1 fd1):‹0› 2 f fd pzM spPin:=by
 have F1:‹0› 1 f1 fd1 pzg spRest:=ok_rest G1.F;specialize F.ok scPin;obtain ⟨v,u,b,m,sp,ts,i,j,rfl,hv,hu,hb,i0,i1,j0,j1,k⟩:=h;obtain ⟨t,pn,ys,rfl,ht,_⟩:=fe hv;apply ⟨_,PSl.h (aZ ⟨(psZ 4 scPin.nd (pc1 G1 F1 hr (ai (ixZ (pv 0)) (ai (dB kz (dO dF (pv 1) (pv 3) (fun _ _=>rfl)) (dO dF (pv 1) (pv 2) (fun _ _=>rfl))) aF))))⟩
  (cP ⟨(bZ (dG (ai (pv 2) (ai (pv 3) (ai (pv 4) (ai (pv 4) (ai bP aF)))))))⟩)),?_⟩
 apply⟨_,rfl,t,_,_,_,rfl,rfl,SqT.of ht,aO (j:=0) rfl,_,rfl,_,rfl,u,_,_,_,rfl,rfl,SqT.of hu,kr j0 j1,_,rfl,_,rfl,u,_,_,_,rfl,rfl,SqT.of hu,kr i0 i1,_,_,rfl,rfl,b,_,rfl,hb,?_⟩;exact⟨_,rfl,_,rfl,_,rfl,_,rfl,szZ5,λp H' S' h'=>k p H' S' h'⟩
def scPinned:bY pzB pzB (defScope sPinned):=by trivial
theorem ok_pinned (F:Fun K "pinned" "pinned" sPinned f fd)(T:Nm mg)(T2:Nt mg)(CM:∃t,mg "MOST_SPANS" =some (.int 40 t))(G1:Fn K mg "pin_between" sPin pzM f1 fd1)(G2:Fn K mg "rest_by" sRest pzg f2 fd2)(G3:Fn K mg "with_spans" sWithSp ["net","more"] f3 fd3):‹0› 3 f fd pzB spPinned:=by
 have F1:‹0› 2 f1 fd1 pzM spPin:=ok_pin G1.F G2;have F3:‹0› 1 f3 fd3 ["net","more"] spWithSp:=ok_withSp G3.F T CM;specialize F.ok scPinned;obtain⟨v,u,r,b,m,sp,ts,ks,rfl,hv,hu,hrr,hb,hks,few,k⟩:=h;obtain⟨t,pn,ys,rfl,ht,hpn,hl,hy⟩:=fe hv;have hr1:gP 1 _:=hr.mono ↥0;apply⟨_,PSl.h (cP ⟨(bZ (pc1 G3 F3 hr1 (ai (pv 0) (ai (pE (xs:=["one","other"]) (fr:=pzd) (js:=[0,1]) rfl (pi_zip2 rfl T2.zip (ai (pv 2) (ai (pA sl_tupN (pv 2) (po_some bP) po_none) aF))) ⇑0 rfl ⇑0 (by exists sPinned) rfl ⇑0 (λ_ _ _ _ _=>pg_two rfl ⇑0 rfl rfl) (λ_ _ _ _ _=>⟨(pc1 G1 F1 hr (ai (pv 2) (ai (pv 3) (ai (pv 0) (ai (pv 1) aF))))),gC⟩)) aF))))⟩),?_⟩;apply⟨_,rfl,_,rfl,_,rfl,_,rfl,r,_,rfl,hrr,λq1 H1 S1 h1=>⟨⟨false,r⟩,⟨false,q1⟩,_,_,rfl,S1 _ _ hrr,h1,?_⟩⟩;rw[cutF (i:=1) (n:=1) rfl] at h1;have lk:(ks.map V.int).length=ks.length:=aa ..;apply oJ (K:=K) (c1:=⟨false,r⟩) (c2:=⟨false,q1⟩) (xs:=ks.map V.int) (ys:=(ks.map V.int).drop 1) (λi zs H2=>bD H1 H2∧eM H2 zs (fF Sn.row ((mQ b ts ks).take i))) ⟨bD.refl H1,.nil⟩ (λi zs H2 hi ⟨e1,e2⟩=>?_) (by rw[dm];lia) (λi x y zs p H2 hx hy ⟨e1,e2⟩ hp=>?_) (by rw[dm,lk];exact de ⋯) (λzs H2 ⟨e1,e2⟩ D hD=>?_)
 ·apply⟨e1 _ _ (S1 _ _ hrr),e1 _ _ h1,?_⟩
  rw[e2.length,aa,bM];lia
 ·rw[az] at hx
  obtain⟨a,ha,rfl⟩:=aM.mp hx;rw[List.getElem?_drop,az] at hy;obtain⟨c,hc,rfl⟩:=aM.mp hy;obtain⟨a0,a1⟩:=hks a (aL ha);obtain⟨c0,c1⟩:=hks c (aL hc);have S2:bD H (upd H2 p (.tup [.int a,.int c])):=S1.trans (e1.put hp);apply fO ?_;apply⟨_,rfl,_,rfl,_,rfl,_,rfl,.ref t,u,b,m,sp,ts,a,c,rfl,hv.same S2,S2 _ _ hu,hb,a0,a1,c0,c1,λp3 H3 S3 h3=>⟨(e1.put hp).trans S3,?_⟩⟩;unfold fF;rw[bj,pinsM_at ha (by rw[Nat.add_comm];exact hc),aD];exact((e2.same (bD.put (bD.refl H2) hp)).same S3).append (.cons (.tup h3 (eM.ints (pinS b ts a c).row)) .nil)
 have lm:((ks.map V.int).drop 1).length=(mQ b ts ks).length:=by rw[p8,dm,lk]
 rw[lm,bo] at e2;have S2:bD H (upd H2 D (.lst zs)):=S1.trans (e1.put hD);have lp:=p8 b ts ks;exact⟨.ref t,D,b,m,sp,mQ b ts ks,zs,rfl,hv.same S2,aR,e2.same (bD.put (bD.refl H2) hD),⋯,λu' H' S' h'=>k u' H' (S2.trans S') h'⟩
end HN
variable {Ys:List HN.AT}
namespace L2
open PySem PySem.W PyProof.Rows
def sorted_tup {l:aq}(hl:IsTup s.heap l vs.toArray)(hI:IntsAre vs ns)(h64:vs.length<64)
  (h:∀(g:bO) (out:Array af) (ns':List Int),(∀b o,s.heap.get? b=some o→g.get? b=some o)→IntsAre out.toList ns'→ns'.Perm ns→ns'.Pairwise (· ≤ ·)→Q (.ref g.objs.size) { s with heap:=sortedHeap (g.push (bJ "list" vs.toArray 0)) g.objs.size vs out }) :
  aW (br prog w) A (call (.builtin "sorted") [.ref l]) Q E s:=by
 obtain⟨ob,ho,hc,n,hd⟩:=hl;apply Calls.call_function_entry kind_sorted plain_sorted entry_sorted (args_sorted1 _) ?_;unfold cO.«sorted»;apply ao (m:=checkCount "sorted" 1 1 _) (aP ?_);apply ao (wpAny_collect_seq l (.inr rfl) ho hc hd (λg hk=>?_) (by rw[aK,fu];lia));rw[show vs.toArray.toList=vs by simp];apply ao (wpAny_newList ?_ (by rw[fu];lia));have hoL:(g.push (bJ "list" vs.toArray 0)).get? g.objs.size=some (bJ "list" vs.toArray 0):=aU _ rfl;show aW _ _ _ _ _ { s with heap:=g.push (bJ "list" vs.toArray 0) };apply ao (dU (fJ slot_list_sort ⟨_,hoL,rfl⟩ entry_list_sort (list_sort_tree hoL hI h64 λout ns' a1 a2 a3=>⟨_,rfl,?_⟩) (args_list_sort _)));exact aP ⟨_,rfl,h g out ns' hk a1 a2 a3⟩
def call_sortedT:jV X (.builtin "sorted") (λxs H Q=>∃(p:aq) (ns:List Int),xs=[.ref p]∧SqT X.K H p (ns.map V.int)∧ns.length<64∧∀(l:aq) (ns':List Int),H l=none→ns'.Perm ns→ns'.Pairwise (· ≤ ·)→Q (.ref l) (upd H l (.lst (ns'.map V.int)))):=by
 intro pins s σ H xs us Q I r h;obtain⟨p,ns,rfl,hq,hn,q⟩:=h;obtain⟨u,rfl,ru⟩:=oo r;cases(show u=af.ref p from ru);obtain⟨its,rv,pl,hz⟩:=I.tuple hq;have hl:its.length=ns.length:=by rw[←rv.length,aa]
 apply sorted_tup pl (pG rv) ⋯ λg out ns' hk a1 a2 a3=>?_
 have I1:Inv X pins σ H { s with heap:=g }:=I.kept (t':=s.toks) hk;obtain⟨c,hc⟩:=nJ (h:=g.push (bJ "list" its.toArray 0)) (a:=g.objs.size) (vs:=its) (out:=out) (n:=0) (aU _ rfl);apply⟨.ref g.objs.size,_,I1.laid (o:= .lst (ns'.map V.int)) (t':=s.toks) (λb u e=>mw (bG (aN e)) (ax _ e)) (aB _) ⟨?_,out.toList,c,nF a1,?_⟩,rfl,q _ ns' (I1.hok.fresh (aB _)) a2 a3⟩
 ·rw[aa,a2.length_eq];exact aQ (by lia:ns.length≤1000) ↥0
 ·rw[km];exact hc
end L2
namespace HN
open PySem L2 PyProof.Rows
abbrev sOthN:cF:=top 79
structure L3 (T0:aq)(p0:Pos)(q0:Str)(T1:aq)(p1:Pos)(q1:Str)(T2:aq)(H:Hp):Prop where
 a:L2.LamT T0 p0 q0 H
 b:L2.LamT T1 p1 q1 H
 c:L2.LamT T2 lpT lqT H
def L3.same (h:L3 T0 p0 q0 T1 p1 q1 T2 H)(S:bD H H'):L3 T0 p0 q0 T1 p1 q1 T2 H':=⟨LamT.same S h.a,LamT.same S h.b,LamT.same S h.c⟩
def St3 (T0 T1 T2:aq)(H H':Hp):Prop:=∀a o,a≠T0→a≠T1→a≠T2→H a=some o→H' a=some o
def St3.of (S:bD H H'):St3 T0 T1 T2 H H':=λa o _ _ _ e=>S a o e
def St3.trans (a:St3 T0 T1 T2 H H1)(c:St3 T0 T1 T2 H1 H2):St3 T0 T1 T2 H H2:=λx o n0 n1 n2 e=>c x o n0 n1 n2 (a x o n0 n1 n2 e)
structure PinK (m:Int)(S:List Int)(c:Int)(ks:List Int):Prop where
 inc:ks.Pairwise (· < ·)
 rng:∀k∈ks,0≤k∧k<m
 few:ks.length≤6
 at_:c∈ks
 low:∀j∈S,j<c→j∈ks
def pin_ahead {m:Int}{S y:List Int}{c:Int}(A:Sty b m sp ts S y)(c0:0≤c)(c1:c<m)(lS:S.length≤5):PinK m S c ((S.filter λz=>decide (z<c))++[c]):=by
 apply⟨List.pairwise_append.mpr ⟨A.inc.filter _,List.pairwise_singleton ..,λx hx z hz=>?_⟩,λk hk=>?_,?_,∅,λj hj lj=>aJ _ (bX.mpr ⟨hj,rT lj⟩)⟩
 ·rw[aw.mp hz]
  exact rW (bX.mp hx).2
 ·rcases aI.mp hk with h | h
  ·have:=A.rng k (bX.mp h).1
   exact⟨this.1,this.2.1⟩
  ·rw[aw.mp h];exact⟨c0,c1⟩
 ·rw[av]
  have:=cw (λz=>decide (z<c)) S;show _+1≤6;lia
def pin_both {m:Int}{S y ks:List Int}{c:Int}(A:Sty b m sp ts S y)(c0:0≤c)(c1:c<m)(lS:S.length≤5)(kn:c ∉ S)(p:ks.Perm (S++[c]))(w:ks.Pairwise (· ≤ ·)):PinK m S c ks:=by
 have nd:(S++[c]).Nodup:=il.mpr ⟨A.inc.imp λh=>by lia,∅,λx hx z hz=>by rw[aw.mp hz];exact λe=>kn (e ▸ hx)⟩;apply⟨(List.pairwise_and_iff.mpr ⟨w,p.nodup_iff.mpr nd⟩).imp λh=>Int.lt_iff_le_and_ne.mpr h,λk hk=>?_,?_,p.mem_iff.mpr ∅,λj hj _=>p.mem_iff.mpr (aJ _ hj)⟩
 ·rcases aI.mp (p.mem_iff.mp hk) with h | h
  ·have:=A.rng k h
   exact⟨this.1,this.2.1⟩
  ·rw[aw.mp h];exact⟨c0,c1⟩
 ·rw[p.length_eq,av]
  show _+1≤6;lia
inductive spOthN (T0:aq)(p0:Pos)(q0:Str)(T1:aq)(p1:Pos)(q1:Str)(T2:aq)(vs:List V)(H:Hp)(Q:VK)(_:XK):Prop
 | mk (v:V)(u r:aq)(b m:Int)(sp:List Sn)(ts S y:List Int)(_:vs=[v,.ref u,.ref r])(_:IsD H v (jv b m sp))(_:jb b m sp)(_:m≤5)(_:sp.length≤10)(_:(∀x∈sp,x.o - x.l≤2))(_:H u=some (.tup (ts.map V.int)))(_:ts.length=m.toNat)(_:H r=some (.tup (S.map V.int)))(_:Sty b m sp ts S y)(_:L3 T0 p0 q0 T1 p1 q1 T2 H)(_:∀H',Kp H H'→St3 T0 T1 T2 H H'→L3 T0 p0 q0 T1 p1 q1 T2 H'→Q (.bl true) H')
def rp:bY ["_law_net_here","_law_table_here","_law_some","_law_k","_law_ahead","_law_both","_law_pins","_law_more"] pzC (defScope sOthN):=by trivial
theorem ok_othN {TT:aq}(F:Fun K "_law_others_not" "_law_others_not" sOthN f fd)(T:Nm mg)(T2:Nt mg)(TS:mg "sorted" =none)(G1:Fn K mg "pinned" sPinned pzB f1 fd1)(F1:‹0› 3 f1 fd1 pzB spPinned)
  (G2:Fn K mg "_law_is_none" sIsN pzm f2 fd2) (F2:‹0› 10 f2 fd2 pzm spIsN)
  (G3:Fn K mg "table_for" jf pza f3 fd3) (F3:‹0› 12 f3 fd3 pza (k7 T0 p0 q0 T1 p1 q1 TT)):‹0› 13 f fd pzC (spOthN T0 p0 q0 T1 p1 q1 TT):=by
 specialize F.ok rp;obtain⟨v,u,r,b,m,sp,ts,S,y,rfl,hv,N,m5,few,wid,hu,lt,hrr,ST,L,k⟩:=h;obtain⟨t,pn,ys,rfl,ht,_⟩:=fe hv;have b1:=N.b1;have m1:=N.m1;have hr3:gP 3 _:=hr.mono ↥0;have hr10:gP 10 _:=hr.mono ↥0;have hr12:gP 12 _:=hr.mono ↥0;have lS:S.length≤5:=by
  have:=ST.cnt;have e:(aG ts.length).countP (λk:Nat=>decide (tm ts k=tm y k))≤(aG ts.length).length:=j5;rw[bb] at e;lia
 apply ⟨_,PSl.h (aZ ⟨(ig bH rfl (gk rfl T2.range (ai (ixZ (pv 0)) aF)) (pgZ 3 rp.nd) (cE (gg (cy oR (pv 3) (pv 2) rfl) (PSl.h (aZ ⟨(psZ 4 rp.nd (dB mG (dI gH rfl T.ttup fW (ai (gi (fr:=["_law_k"]) (js:=[3]) rfl (lr (pv 2)) ⇑0 rfl ⇑0 rfl (by exists sOthN) ⇑0 rfl ⇑0 (fun _ _ _ _ _=>⟨(pv 0),(jZ (cy op_lt (pv 0) (pv 1) (cL _)))⟩)) aF)) (dG (ai (pv 3) aF))))⟩
  (aZ ⟨(psZ 5 rp.nd (dI gH rfl T.ttup fW (ai (cp call_sortedT rfl TS boot_sorted (ai (dB mG (pv 2) (dG (ai (pv 3) aF))) aF)) aF)))⟩
  (cP ⟨(ig bH rfl (gh (oF (ai (pv 4) (ai (pv 5) aF)))) (pgZ 6 rp.nd) (PSl.h (aZ ⟨(psZ 7 rp.nd (pc1 G1 F1 hr3 (ai (pv 0) (ai (pv 1) (ai (pv 6) aF)))))⟩
  (cP ⟨(gg (jN (iB (pc1 G2 F2 hr10 (ai (pv 7) (ai (pc1 G3 F3 hr12 (ai (pv 7) aF)) aF))))) (cE (bZ lW)) cY)⟩))))⟩)))) cY)))⟩
  (cP ⟨(bZ lW)⟩)),?_⟩
 apply⟨_,rfl,t,_,_,_,rfl,rfl,SqT.of ht,aO (j:=1) rfl,m,rfl,⋯,⋯,?_⟩;apply jP (n:=m.toNat) (λi σ H'=>Kp H H'∧St3 T0 T1 TT H H'∧L3 T0 p0 q0 T1 p1 q1 TT H'∧∃(v3 v4 v5 v6 v7:Option V),σ=[some (.ref t),some (.ref u),some (.ref r),v3,v4,v5,v6,v7]) ⟨bD.kp (bD.refl H),St3.of (bD.refl H),L,none,none,none,none,none,rfl⟩ ?_ ?_
 ·rintro i σ HE hi ⟨kE,sE,LE,v3,v4,v5,v6,v7,rfl⟩
  obtain⟨c,ec⟩:∃c:Int,c=0+(i:Int):=⟨_,rfl⟩;have c0:0≤c:=by lia
  have c1:c<m:=by lia
  rw[←ec];have hrE:=kE.tup _ _ hrr;have fl:(S.map V.int).all flatV=true:=gf.mpr λx hx=>by obtain⟨z,_,rfl⟩:=ba.mp hx;rfl
  apply⟨_,rfl,_,rfl,r,_,rfl,.inr (SqT.of hrE),rfl,fl,_,rfl,?_⟩;apply ite2 (λhc=>?_) (λ_=>⟨kE,sE,LE,_,_,_,_,_,rfl⟩);have hc:(!inV (.int c) (S.map V.int))=true:=hc;have kn:c ∉ S:=λz=>by rw[inV_intsF,rT z] at hc;cases hc
  apply⟨_,rfl,r,rfl,⟨_,SqT.of hrE⟩,?_⟩;apply jF (K:=K) (a:=r) (xs:=S.map V.int) (λn zs H6=>H6=HE∧zs=((S.take n).filter λz=>decide (z<c)).map V.int) ⟨rfl,rfl⟩ (λn zs H6 hn q=>by obtain⟨e1,e2⟩:=q;subst e1 e2;exact⟨SqT.of hrE,by rw[aa];exact aQ (cw _ _) (by rw[bM];lia)⟩) (by rw[aa];exact de ⋯) (λn x zs H6 hx q=>?_) (λzs H6 q D hD=>?_)
  ·obtain⟨e1,e2⟩:=q
   subst e1;have hn:n<S.length:=by have:=(ar.mp hx).1;rw[aa] at this;exact this
   rw[az,gE hn] at hx;cases hx;apply⟨_,rfl,_,rfl,_,_,rfl,rfl,_,rfl,?_⟩;rw[bj,gE hn,eK]
   by_cases z:S[n]<c
   ·apply mr (rT z) ⟨_,rfl,rfl,?_⟩
    rw[e2,aD];congr 1;show _=((([S[n]]:List Int).filter λz=>decide (z<c)).map V.int);rw[List.filter_cons_of_pos (by exact rT z)];rfl
   ·apply j3 (rV z) ⟨rfl,?_⟩
    rw[e2];show _=((List.filter _ (S.take n)++([S[n]]:List Int).filter λz=>decide (z<c)).map V.int);rw[List.filter_cons_of_neg (by rw[rV z];decide),kL,c5]
  obtain⟨e1,e2⟩:=q;subst e1;rw[aa,bo] at e2;subst e2;have S7:bD H6 (upd H6 D (.lst ((S.filter λz=>decide (z<c)).map V.int))):=(bD.refl H6).put hD;apply⟨D,_,rfl,SqL.of aR,λqa H7 S8 h8=>?_⟩;have S8:=S7.trans S8;have lf:=cw (λz=>decide (z<c)) S;apply⟨_,rfl,szZ1,λqb H9 S9 h9=>⟨qa,qb,_,_,rfl,rfl,S9 _ _ h8,h9,(by rw[aa];exact de (by show _+1≤1000;lia)),λq3 HA SA hA=>?_⟩⟩;have S69:=S8.trans (S9.trans SA);have hA:HA q3=some (.tup (((S.filter λz=>decide (z<c))++[c]).map V.int)):=by rw[aD];exact hA
  apply⟨_,rfl,_,rfl,szZ1,λq4 HB SB hB=>⟨r,q4,_,_,rfl,rfl,(S69.trans SB) _ _ hrE,hB,(by rw[aa];exact de (by show _+1≤1000;lia)),λq5 HC SC hC=>?_⟩⟩;have hC:HC q5=some (.tup ((S++[c]).map V.int)):=by rw[aD];exact hC
  apply⟨q5,_,rfl,SqT.of hC,(by rw[av];show _+1<64;lia),λl ks hl pm so=>⟨l,_,rfl,SqL.of aR,λq6 HD SD hD'=>?_⟩⟩;have SAD:bD HA HD:=SB.trans (SC.trans (((bD.refl HC).put hl).trans SD));apply⟨_,rfl,_,rfl,o6,λLp HF SF hF=>⟨Lp,rfl,⟨_,SqL.of hF⟩,?_⟩⟩;have S6F:=S69.trans (SAD.trans SF);have kF:=kE.trans (bD.kp S6F);have LF:=LE.same S6F;have pins:∀x∈([.ref q3,.ref q6]:List V),∃q ks,x= .ref q∧HF q=some (.tup (ks.map V.int))∧PinK m S c ks:=λx hx=>by
   rcases aH.mp hx with rfl | hx
   ·exact⟨q3,_,rfl,(SAD.trans SF) _ _ hA,pin_ahead ST c0 c1 lS⟩
   ·rw[aw.mp hx]
    exact⟨q6,_,rfl,SF _ _ hD',pin_both ST c0 c1 lS kn pm so⟩
  apply jE (K:=K) (a:=Lp) (xs:=[.ref q3,.ref q6]) (λn σ H'=>Kp HF H'∧St3 T0 T1 TT HF H'∧L3 T0 p0 q0 T1 p1 q1 TT H'∧∃(v6 v7:Option V),σ=[some (.ref t),some (.ref u),some (.ref r),some (.int c),some (.ref q3),some (.ref q6),v6,v7]) ⟨bD.kp (bD.refl HF),St3.of (bD.refl HF),LF,_,_,rfl⟩ (λn σ H' _ q=>SqL.of (q.1.lst _ _ hF)) ?_ ?_
  ·rintro n x σ HG hx ⟨kG,sG,LG,v6,v7,rfl⟩
   obtain⟨q,ks,rfl,hq,PK⟩:=pins x (aL hx);have kHG:=kF.trans kG;have hvG:=cg kHG.tup hv;have huG:=kHG.tup _ _ hu;have pf:=PK.few;apply⟨_,rfl,_,rfl,_,rfl,.ref t,u,q,b,m,sp,ts,ks,rfl,hvG,huG,kG.tup _ _ hq,⋯,λk hk=>by have:=PK.rng k hk;lia,⋯,λw' HI SI hI=>?_⟩;have N':jb b m (sp++mQ b ts ks):=N.pins ⋯ PK.inc PK.rng;apply⟨_,rfl,_,rfl,w',b,m,_,rfl,hI,N',pins_few N' m5 wid,(LG.same SI).a,(LG.same SI).b,(LG.same SI).c,λqj HJ sJ kJ j0 j1 j2 ans=>?_⟩
   rcases ans with ⟨_,tt,_,_,tok⟩ | ⟨uj,tj,hqj,dj,plj,_,gj,sj⟩
   ·exact rS tok (ST.no ⋯ c0 c1 kn PK.at_ PK.low tt)
   apply⟨w',qj,b,m,_,rfl,cg kJ.tup hI,N',⟨uj,tj,hqj,dj,plj,gj,sj⟩,λHM SM=>⟨_,rfl,j3 rfl ?_⟩⟩;exact⟨(kG.trans (bD.kp SI)).trans (kJ.trans (bD.kp SM)),(sG.trans (St3.of SI)).trans (St3.trans sJ (St3.of SM)),L3.same ⟨j0,j1,j2⟩ SM,_,_,rfl⟩
  ·rintro σ HG ⟨kG,sG,LG,v6,v7,rfl⟩
   exact⟨kF.trans kG,(sE.trans (St3.of S6F)).trans sG,LG,_,_,_,_,_,rfl⟩
 ·rintro σ HE ⟨kE,sE,LE,v3,v4,v5,v6,v7,rfl⟩
  exact k HE kE sE LE
abbrev sCell:cF:=top 70
abbrev sBox:cF:=top 71
abbrev sDraw:cF:=top 72
def scCell:bY pzh pzh (defScope sCell):=by trivial
def ok_cell (F:Fun K "_law_cell_at" "_law_cell_at" sCell f fd)(T:Nm mg):‹0› 1 f fd pzh (spCell K):=by
 specialize F.ok scCell;obtain⟨a,ns,j,rfl,ha,hj,k⟩:=h;apply⟨_,pss_cons (gg (cy op_lt (pv 1) (cp bR rfl T.len bC (ai (pv 0) aF)) (cL _)) (cE (bZ (dO gG (pv 0) (pv 1) (λ_ _=>rfl)))) cY) (cE (bZ bP)),?_⟩;apply⟨_,rfl,_,rfl,a,_,rfl,.inl ha,_,_,rfl,rfl,_,rfl,?_⟩;apply ite2 (λh1=>?_) (λh1=>?_)
 ·have h1:j<((ns.map V.int).length:Int):=rW h1
  obtain⟨v,e1,e2⟩:=atI_in hj h1;obtain⟨c,_,rfl⟩:=ba.mp e2;exact⟨_,rfl,_,rfl,a,_,_,_,rfl,rfl,ha,e1,k c⟩
 ·exact k 0
def scBox:bY ["_law_script","_law_k","_law_cell","_law_number","_law_j","_law_mixed"] pzh (defScope sBox):=by trivial
def ok_box (F:Fun K "_law_box" "_law_box" sBox f fd)(T:Nm mg)(T2:Nt mg)(G1:Fn K mg "_law_cell_at" sCell pzh f1 fd1):‹0› 2 f fd pzh (spBox K):=by
 have F1:‹0› 1 f1 fd1 pzh (spCell K):=ok_cell G1.F T;specialize F.ok scBox;obtain ⟨a,ns,j,rfl,ha,hj,k⟩:=h;apply ⟨_,PSl.h (aZ ⟨(psZ 2 scBox.nd (pc1 G1 F1 hr (ai (pv 0) (ai (pv 1) aF))))⟩
  (aZ ⟨(psZ 3 scBox.nd bP)⟩
  (aZ ⟨(ig bH rfl (gk rfl T2.range (ai bP aF)) (pgZ 4 scBox.nd) (PSl.h (aZ ⟨(psZ 5 scBox.nd (dB mF (dB nW (dB i6 (dB i6 (dB mF (dB op_fdiv (pv 2) bP) bP) (dB nW bP (pv 4))) bP) bP) bP))⟩
  (aZ ⟨(psZ 5 scBox.nd (dB mF (dB i6 (dB i6 (dB nW (pv 5) (pv 5)) (dB nW bP (pv 4))) (pv 1)) bP))⟩
  (cP ⟨(psZ 3 scBox.nd (dB i6 (dB nW (pv 3) bP) (dB mF (dB nW (pv 5) bP) bP)))⟩)))))⟩
  (aZ ⟨(gg (cy jO (dB mF (pv 2) bP) bP (cL _)) (cE (bZ (ji (ai (dB op_fdiv (pv 2) bP) (ai (pv 3) aF))))) cY)⟩
  (cP ⟨(bZ (ji (ai (pv 3) (ai bP aF))))⟩))))),?_⟩
 apply⟨_,rfl,_,rfl,a,ns,j,rfl,ha,hj,λc=>?_⟩;apply⟨60,rfl,↥0,↥0,jP (n:=60) (λi σ H2=>H2=H∧∃n vj vm,σ=[some (.ref a),some (.int j),some (.int c),some (.int n),vj,vm]) ⟨rfl,0,none,none,rfl⟩ ?_ ?_⟩
 ·rintro i σ H2 hi ⟨rfl,n,vj,vm,rfl⟩
  apply⟨_,rfl,_,_,rfl,rfl,⟨↥0,↥0⟩,_,_,rfl,rfl,(by show(0:Int)<2147483647;decide),_,rfl,_,_,rfl,rfl,.inl ⟨↥0,↥0⟩,_,_,rfl,rfl,_,_,rfl,rfl,_,_,rfl,rfl,.inr ⟨↥0,↥0⟩,_,_,rfl,rfl,(by show(0:Int)<2147483647;decide),?_⟩;apply⟨_,rfl,_,rfl,_,_,rfl,rfl,.inl ?_,_,rfl,_,_,rfl,rfl,.inl ⟨↥0,↥0⟩,_,_,rfl,rfl,_,rfl,_,_,rfl,rfl,_,_,rfl,rfl,(by show(0:Int)<2147483629;decide),?_⟩
  ·have h1:=dh ((c / 2 % 2147483647+7919 * (0+(i:Int))+1) * 48271) (by decide:(2147483647:Int)≠0)
   have h2:=df ((c / 2 % 2147483647+7919 * (0+(i:Int))+1) * 48271) (by decide:(0:Int)<2147483647);exact⟨⋯,⋯⟩
  ·apply⟨_,rfl,_,_,rfl,rfl,.inr ⟨↥0,↥0⟩,_,rfl,_,_,rfl,rfl,.inr ⟨↥0,↥0⟩,_,_,rfl,rfl,(by show(0:Int)<2147483629;decide),_,_,rfl,rfl,?_⟩
   exact⟨rfl,_,_,_,rfl⟩
 ·rintro σ H2 ⟨rfl,n,vj,vm,rfl⟩
  apply⟨_,rfl,_,_,rfl,rfl,(by show(0:Int)<2;decide),rfl,_,rfl,?_⟩;apply ite2 (λ_=>?_) (λ_=>?_)
  ·exact⟨_,rfl,_,_,rfl,rfl,⟨↥0,↥0⟩,_,rfl,o6,λp hp=>k _ _ p hp⟩
  ·exact⟨_,rfl,o6,λp hp=>k _ _ p hp⟩
def scDraw:bY ["_law_box_here","_law_most","_law_number"] pzw (defScope sDraw):=by trivial
def ok_draw (F:Fun K "_law_draw" "_law_draw" sDraw f fd):‹0› 1 f fd pzw spDraw:=by
 specialize F.ok scDraw;obtain ⟨p,x,y,m,rfl,hp,h0,h1,k⟩:=h;apply ⟨_,PSl.h (aZ ⟨(ps_cutK (gg (cy jO (dO gG (pv 0) bP (fun _ _=>rfl)) bP (cL _)) (PSl.h (aZ ⟨(oP (dO gG (pv 0) bP (fun _ _=>rfl)) (p9 (pv 0) bP lQ))⟩
  (cP ⟨(oP bP (p9 (pv 0) bP lQ))⟩))) cY))⟩
  (aZ ⟨(psZ 2 scDraw.nd (dO gG (pv 0) bP (fun _ _=>rfl)))⟩
  (aZ ⟨(oP (dB op_fdivB (pv 2) (pv 1)) (p9 (pv 0) bP lQ))⟩
  (cP ⟨(bZ (dB mF (pv 2) (pv 1)))⟩)))),?_⟩
 apply⟨λσ' H'=>σ'=[some (.ref p),some (.int m),none]∧Mb p H H',?_,?_⟩
 rotate_left
 ·apply⟨_,rfl,p,_,_,_,rfl,rfl,SqL.of hp,aO (j:=0) rfl,rfl,_,rfl,?_⟩
  apply ite2 (λ_=>?_) (λ_=>?_)
  ·apply⟨_,rfl,p,_,_,_,rfl,rfl,SqL.of hp,aO (j:=1) rfl,_,rfl,p,_,_,0,rfl,rfl,hp,rfl,?_⟩
   apply⟨_,rfl,p,_,_,1,rfl,rfl,aR,rfl,rfl,λb o hb e=>by rw[bt hb,bt hb];exact e,y,0,?_⟩;rw[aR];rfl
  ·exact⟨rfl,Mb.refl hp⟩
 rintro σ' H1 ⟨rfl,M1⟩;obtain⟨x1,y1,hp1⟩:=M1.2;apply⟨_,rfl,p,_,_,_,rfl,rfl,SqL.of hp1,aO (j:=0) rfl,?_⟩;apply⟨_,rfl,_,rfl,_,_,rfl,rfl,log_ok h0 h1,_,rfl,p,_,_,0,rfl,rfl,hp1,rfl,?_⟩;apply⟨_,rfl,_,rfl,_,_,rfl,rfl,h0,k _ _ (dh _ ⋯) (df _ h0) ⟨λb o hb e=>by rw[bt hb];exact M1.1 b o hb e,x1 / m,y1,?_⟩⟩;rw[aR];rfl
abbrev sNet9:cF:=top 75
abbrev sTab9:cF:=top 76
inductive spNet9 (vs:List V)(H:Hp)(Q:VK)(_:XK):Prop
 | mk (p:aq)(x y:Int)(_:vs=[.ref p])(_:H p=some (.lst [.int x,.int y]))(_:∀(t:aq) (v:V) (h:aq) (b m:Int) (sp:List Sn) (hs:List Int) (H':Hp),Mb p H H'→H' t=some (.tup [v,.ref h])→IsD H' v (jv b m sp)→jb b m sp→m≤5→sp.length≤10→(∀x∈sp,x.o - x.l≤2)→H' h=some (.tup (hs.map V.int))→(hs.length:Int)=m→(∀z∈hs,0≤z∧z<b)→Q (.ref t) H')
inductive spTab9 (vs:List V)(H:Hp)(Q:VK)(_:XK):Prop
 | mk (p h:aq)(x y:Int)(v:V)(b m:Int)(sp:List Sn)(hs:List Int)(_:vs=[.ref p,v,.ref h])(_:H p=some (.lst [.int x,.int y]))(_:IsD H v (jv b m sp))(_:jb b m sp)(_:H h=some (.tup (hs.map V.int)))(_:(hs.length:Int)=m)(_:(∀z∈hs,0≤z∧z<b))(_:∀(q:aq) (ts:List Int) (H':Hp),Mb p H H'→H' q=some (.tup (ts.map V.int))→(ts.length:Int)=m→(∀z∈ts,0≤z∧z<b)→Q (.ref q) H')
def md:bY ["_law_box_here","_law_beat","_law_many","_law_hidden","_law_spans","_law_k","_law_start","_law_goal","_law_wide","_law_least"] pzN (defScope sNet9):=by trivial
theorem ok_net9 (F:Fun K "_law_net" "_law_net" sNet9 f fd)(T:Nm mg)(T2:Nt mg)(G1:Fn K mg "_law_draw" sDraw pzw f1 fd1):‹0› 2 f fd pzN spNet9:=by
 have F1:‹0› 1 f1 fd1 pzw spDraw:=ok_draw G1.F;specialize F.ok md;obtain ⟨p,x,y,rfl,hp,k⟩:=h;apply ⟨_,PSl.h (aZ ⟨(psZ 1 md.nd (dB i6 bP (pc1 G1 F1 hr (ai (pv 0) (ai bP aF)))))⟩
  (aZ ⟨(ps_cutK (gg (cy jO (pc1 G1 F1 hr (ai (pv 0) (ai bP aF))) bP (cL _)) (cE (psZ 1 md.nd (dB nW (pv 1) (dB i6 bP (pc1 G1 F1 hr (ai (pv 0) (ai (dB op_pow bP bP) aF))))))) cY))⟩
  (aZ ⟨(psZ 2 md.nd (dB i6 bP (pc1 G1 F1 hr (ai (pv 0) (ai bP aF)))))⟩
  (aZ ⟨(pY (iy:=3) (fr:=["_law_box_here","_law_beat"]) (js:=[0,1]) md.nd rfl (.inl rfl) rfl (gk rfl T2.range (ai (pv 2) aF)) ⇑0 rfl ⇑0 rfl (by exists sNet9) ⇑0 rfl ⇑0 (fun _ _ _ _ _=>⟨(pc1 G1 F1 hr (ai (pv 1) (ai (pv 2) aF))),gC⟩))⟩
  (aZ ⟨(psZ 4 md.nd (ji aF))⟩
  (aZ ⟨(ig bH rfl (gk rfl T2.range (ai (pc1 G1 F1 hr (ai (pv 0) (ai bP aF))) aF)) (pgZ 5 md.nd) (PSl.h (aZ ⟨(psZ 6 md.nd (pc1 G1 F1 hr (ai (pv 0) (ai (pv 2) aF))))⟩
  (aZ ⟨(psZ 7 md.nd (dB mF (dB i6 (dB i6 (pv 6) bP) (pc1 G1 F1 hr (ai (pv 0) (ai (dB kz (pv 2) bP) aF)))) (pv 2)))⟩
  (aZ ⟨(psZ 8 md.nd (pc1 G1 F1 hr (ai (pv 0) (ai (cp (call_min2 rfl) rfl T.min boot_min (ai bP (ai (pv 1) aF))) aF))))⟩
  (aZ ⟨(psZ 9 md.nd (pc1 G1 F1 hr (ai (pv 0) (ai (dB nW bP (pv 1)) aF))))⟩
  (aZ ⟨(ps_cutK (gg (cy jO (pc1 G1 F1 hr (ai (pv 0) (ai bP aF))) bP (cL _)) (cE (psZ 9 md.nd (dB mF (dB kz (dB kz (dO gG (pv 3) (pv 7) (fun _ _=>rfl)) (dO gG (pv 3) (pv 6) (fun _ _=>rfl))) (pc1 G1 F1 hr (ai (pv 0) (ai (dB i6 (pv 8) bP) aF)))) (pv 1)))) cY))⟩
  (cP ⟨(iK (mE bh bV bU gm (pv 4) (ai (dG (ai (pv 6) (ai (pv 7) (ai (pv 9) (ai (dB i6 (pv 9) (pv 8)) (ai (pc1 G1 F1 hr (ai (pv 0) (ai bP aF))) aF)))))) aF)))⟩))))))))⟩
  (cP ⟨(bZ (dG (ai (dG (ai (pv 1) (ai (pv 2) (ai (dI gH rfl T.ttup fW (ai (pv 4) aF)) aF)))) (ai (dI gH rfl T.ttup fW (ai (pv 3) aF)) aF))))⟩))))))),?_⟩
 apply⟨_,rfl,p,x,y,60,rfl,hp,↥0,↥0,λrb H1 rb0 rb1 M1=>⟨_,_,rfl,rfl,?_⟩⟩;obtain⟨x1,y1,hp1⟩:=M1.2;apply⟨λσ' H'=>Mb p H H'∧∃b:Int,1≤b∧b≤10 ^ 32∧σ'=[some (.ref p),some (.int b),none,none,none,none,none,none,none,none],?_,?_⟩
 rotate_left
 ·apply⟨_,rfl,p,x1,y1,4,rfl,hp1,↥0,↥0,λr2 H2 _ _ M2=>⟨rfl,_,rfl,?_⟩⟩
  have M2:=M1.trans M2;apply ite2 (λ_=>?_) (λ_=>⟨M2,_,⋯,⋯,rfl⟩);obtain⟨x2,y2,hp2⟩:=M2.2;apply⟨_,rfl,_,rfl,_,_,rfl,rfl,⟨↥0,↥0,↥0⟩,p,x2,y2,_,rfl,hp2,↥0,↥0,λr3 H3 r0 r1 M3=>⟨_,_,rfl,rfl,_,_,rfl,rfl,.inl ⟨⋯,⋯⟩,?_⟩⟩;have r1:r3<10 ^ 30:=r1;apply⟨M2.trans M3,_,?_,?_,rfl⟩
  ·have:1 * 1≤(1+rb) * (1+r3):=Int.mul_le_mul ⋯ ⋯ ↥0 ⋯
   lia
  ·exact Int.le_trans (Int.mul_le_mul (show 1+rb≤60 by lia) (show 1+r3≤10 ^ 30 by lia) ⋯ ↥0) ↥0
 rintro σ' H2 ⟨M2,b,b1,b2,rfl⟩;obtain⟨x2,y2,hp2⟩:=M2.2;apply⟨_,rfl,p,x2,y2,4,rfl,hp2,↥0,↥0,λrm H3 rm0 rm1 M3=>⟨_,_,rfl,rfl,?_⟩⟩;have M3:=M2.trans M3;obtain⟨m,em⟩:∃m,m=2+rm:=⟨_,rfl⟩;have m1:2≤m:=by lia
 have m5:m≤5:=by lia
 have e3:(λi j=>V.int (i+j)) 2 rm=V.int m:=by rw[em]
 first | rw[e3] | rw[←em]
 clear em e3 M2 M1;apply⟨_,rfl,m,rfl,⋯,⋯,?_⟩;apply ko (n:=m.toNat) (λi zs H4=>Mb p H H4∧∃hs:List Int,zs=hs.map V.int∧hs.length=i∧∀z∈hs,0≤z∧z<b) ⟨M3,[],rfl,rfl,λ_ h=>by cases h⟩ (λi zs H4 _ q=>by obtain⟨_,hs,e,hl,_⟩:=q;rw[e,aa,hl];exact aB _) (de ⋯) (λi zs H4 hi q=>?_) (λzs H4 q D hD=>?_)
 ·obtain⟨M4,hs,e4,hl4,hin4⟩:=q
  apply fO ?_;obtain⟨x4,y4,hp4⟩:=M4.2;exact⟨_,rfl,_,rfl,p,x4,y4,b,rfl,hp4,⋯,⋯,λr5 H5 q5 q6 M5=>⟨M4.trans M5,hs++[r5],by rw[e4,aD];rfl,by rw[av,hl4];rfl,λz hz=>(aI.mp hz).elim (hin4 z) λh=>by rw[aw.mp h];exact⟨q5,q6⟩⟩⟩
 obtain⟨M4,hs,rfl,hl4,hin4⟩:=q;have hlh:(hs.length:Int)=m:=by lia
 have nDp:D≠p:=λz=>by obtain⟨x4,y4,hp4⟩:=M4.2;rw[z,hp4] at hD;cases hD
 have S5:bD H4 (upd H4 D (.lst (hs.map V.int))):=bD.put (bD.refl H4) hD;have hD5:(upd H4 D (.lst (hs.map V.int))) D=some (.lst (hs.map V.int)):=aR;generalize upd H4 D (.lst (hs.map V.int))=H5 at S5 hD5 ⊢;have M5:=M4.then S5;clear M4 S5 hD M3;apply⟨bu _,λLs hLs=>?_⟩;have nLp:Ls≠p:=λz=>by obtain⟨x4,y4,hp4⟩:=M5.2;rw[z,hp4] at hLs;cases hLs
 have nLD:Ls≠D:=λz=>by rw[z,hD5] at hLs;cases hLs
 have hLH:H Ls=none:=by
  cases z:H Ls with
  | none=>rfl
  | some o=>rw[M5.1 Ls o nLp z] at hLs;cases hLs
 have S6:bD H5 (upd H5 Ls (.lst [])):=bD.put (bD.refl H5) hLs;have hL6:(upd H5 Ls (.lst [])) Ls=some (.lst []):=aR;generalize upd H5 Ls (.lst [])=H6 at S6 hL6 ⊢;have M6:=M5.then S6;have hD6:=S6 _ _ hD5;clear M5 S6 hLs hD5;obtain⟨x6,y6,hp6⟩:=M6.2;apply⟨_,rfl,p,x6,y6,11,rfl,hp6,↥0,↥0,λr7 H7 r70 r71 M7=>⟨r7,rfl,⋯,⋯,?_⟩⟩;have hD7:=M7.at hD6 nDp;have hL7:=M7.at hL6 nLp;have M7:=M6.trans M7;apply jP (n:=r7.toNat) (λi σ H'=>Mb p H H'∧H' D=some (.lst (hs.map V.int))∧∃(v6 v7 v8 v9 v10:Option V) (zs:List V) (sp:List Sn),σ=[some (.ref p),some (.int b),some (.int m),some (.ref D),some (.ref Ls),v6,v7,v8,v9,v10]∧H' Ls=some (.lst zs)∧eM H' zs (fF Sn.row sp)∧sp.length=i∧∀x∈sp,SnOk b m x∧x.o - x.l≤2) ⟨M7,hD7,none,none,none,none,none,[],[],rfl,hL7,.nil,rfl,λ_ h=>rS h ∅⟩ ?_ ?_
 ·rintro i σ HA hi ⟨MA,hDA,v6,v7,v8,v9,v10,zs,sp,rfl,hLA,dA,lA,allA⟩
  obtain⟨xA,yA,hpA⟩:=MA.2;apply⟨_,rfl,_,rfl,p,xA,yA,m,rfl,hpA,⋯,⋯,λr1 H1 a1 c1 N1=>?_⟩;obtain⟨x1,y1,hp1⟩:=N1.2;apply⟨_,rfl,_,_,rfl,rfl,_,rfl,_,rfl,_,_,rfl,rfl,p,x1,y1,_,rfl,hp1,⋯,⋯,λr2 H2 a2 c2 M2=>?_⟩;have N2:=N1.trans M2;obtain⟨x2,y2,hp2⟩:=N2.2;apply⟨_,_,rfl,rfl,_,rfl,_,_,rfl,rfl,(by show(0:Int)<m;lia),?_⟩;obtain⟨g0,g1,g2⟩:=goal_ok a1 c1 a2 c2;apply⟨_,rfl,_,rfl,_,_,rfl,p,x2,y2,_,rfl,hp2,by split <;> lia,by split <;> lia,λwd H7 w0 c7 M7=>?_⟩;have N7:=N2.trans M7;obtain⟨x7,y7,hp7⟩:=N7.2;have w1:wd<b∧wd≤2:=by
   split at c7 <;> lia
  apply⟨_,rfl,_,rfl,_,_,rfl,rfl,.inl ⟨↥0,↥0⟩,p,x7,y7,_,rfl,hp7,⋯,⋯,λrC HC aC cC MC=>?_⟩;have NC:=N7.trans MC;obtain⟨xC,yC,hpC⟩:=NC.2;apply⟨λσ' H'=>Mb p HA H'∧∃l:Int,0≤l∧l<2 * b∧σ'=[some (.ref p),some (.int b),some (.int m),some (.ref D),some (.ref Ls),some (.int ((0:Int)+(i:Nat))),some (.int r1),some (.int ((r1+1+r2) % m)),some (.int wd),some (.int l)],?_,?_⟩
  rotate_left
  ·apply⟨_,rfl,p,xC,yC,2,rfl,hpC,↥0,↥0,λrD HD _ _ MD=>⟨rfl,_,rfl,?_⟩⟩
   have ND:=NC.trans MD;obtain⟨xD,yD,hpD⟩:=ND.2;apply ite2 (λ_=>?_) (λ_=>⟨ND,_,aC,cC,rfl⟩);have hDD:=ND.at hDA nDp;apply⟨_,rfl,_,rfl,D,_,_,_,rfl,rfl,SqL.of hDD,kr g0 ⋯,_,rfl,_,rfl,D,_,_,_,rfl,rfl,SqL.of hDD,kr a1 ⋯,_,_,rfl,rfl,_,rfl,_,rfl,_,_,rfl,rfl,p,xD,yD,_,rfl,hpD,⋯,⋯,λrE HE _ _ ME=>⟨_,_,rfl,rfl,_,rfl,_,_,rfl,rfl,(by show(0:Int)<b;lia),?_⟩⟩;exact⟨ND.trans ME,_,dh _ ⋯,Int.lt_of_lt_of_le (df _ ⋯) ⋯,rfl⟩
  rintro σ' HD ⟨ND,l,l0,l1,rfl⟩;obtain⟨xD,yD,hpD⟩:=ND.2;have hLD:=ND.at hLA nLp;apply⟨_,rfl,.inl ⟨rfl,_,SqL.of hLD⟩,_,rfl,_,rfl,_,rfl,_,rfl,_,rfl,_,_,rfl,rfl,_,rfl,p,xD,yD,5,rfl,hpD,↥0,↥0,λrE HE f0 f1 ME=>⟨szZ5,λtq HF SF hF=>?_⟩⟩;have KF:kK HA HF:=(Mb.tupK hpA (ND.trans ME)).trans (bD.tupK SF);have NF:=(ND.trans ME).then SF;have hLF:=NF.at hLA nLp;have hDF:=NF.at hDA nDp;have lz:zs.length=sp.length:=by rw[dA.length,aa]
  apply⟨Ls,zs,_,rfl,rfl,hLF,(aS (by lia:zs.length<1000) (by decide:1000≤bf)),?_⟩;have KG:kK HF (upd HF Ls (.lst (zs++[.ref tq]))):=fm hLF;have MF:=MA.trans NF;apply⟨⟨λq o hq e=>?_,?_⟩,by rw[bt nLD.symm];exact hDF,_,_,_,_,_,zs++[.ref tq],sp++[⟨r1,(r1+1+r2) % m,l,l+wd,rE⟩],rfl,aR,?_,by rw[av,lA];rfl,λz hz=>?_⟩
  ·rw[bt (λz=>by rw[z,hLH] at e;cases e)]
   exact MF.1 q o hq e
  ·obtain⟨x1,y1,e1⟩:=MF.2
   exact⟨x1,y1,by rw[bt nLp.symm];exact e1⟩
  ·unfold fF
   rw[aD];exact(eO (KF.trans KG) dA).append (.cons (.tup (KG _ _ hF) (eM.ints (Sn.row ⟨r1,(r1+1+r2) % m,l,l+wd,rE⟩))) .nil)
  ·rcases aI.mp hz with hz | hz
   ·exact allA z hz
   ·rw[aw.mp hz]
    have f1:rE<5:=f1;exact⟨⟨a1,c1,g0,g1,g2,l0,by show l≤l+wd;lia,by show l+wd<l+b;lia,by show l+wd<10 ^ 60;lia,f0,by show rE≤1000000000000;lia⟩,by show l+wd - l≤2;lia⟩
 rintro σ HA ⟨MA,hDA,v6,v7,v8,v9,v10,zs,sp,rfl,hLA,dA,lA,allA⟩;apply⟨_,rfl,_,rfl,_,rfl,Ls,_,rfl,SqL.of hLA,λqB HB SB hB=>⟨(by show 3≤bf;decide),λtC HC SC hC=>⟨_,rfl,D,_,rfl,SqL.of (SC _ _ (SB _ _ hDA)),λqD HD SD hD=>⟨o6,λtF HF SF hF=>?_⟩⟩⟩⟩;have SBF:=SB.trans (SC.trans (SD.trans SF));exact k tF (.ref tC) qD b m sp hs HF (MA.then SBF) hF (.tup (SF _ _ (SD _ _ hC)) (.cons (.int b) (.cons (.int _) (.cons (.tup (SF _ _ (SD _ _ (SC _ _ hB))) (dA.same SBF)) .nil)))) ⟨b1,⋯,⋯,⋯,⋯,λx hx=>(allA x hx).1⟩ m5 ⋯ (λx hx=>(allA x hx).2) (SF _ _ hD) hlh hin4
def scTab9:bY ["_law_box_here","_law_net_here","_law_hidden","_law_table_here","_law_k"] pzO (defScope sTab9):=by trivial
theorem ok_tab9 (F:Fun K "_law_table" "_law_table" sTab9 f fd)(T:Nm mg)(T2:Nt mg)(G1:Fn K mg "_law_draw" sDraw pzw f1 fd1):‹0› 2 f fd pzO spTab9:=by
 have F1:‹0› 1 f1 fd1 pzw spDraw:=ok_draw G1.F;specialize F.ok scTab9;obtain ⟨p,h,x,y,v,b,m,sp,hs,rfl,hp,hv,N,hh,lh,ih,k⟩:=h;obtain ⟨t,pn,ys,rfl,ht,_⟩:=fe hv;have b1:=N.b1;have b2:=N.b2;have m1:=N.m1;have m2:=N.m2;apply ⟨_,PSl.h (aZ ⟨(psZ 3 scTab9.nd (dI oT rfl T2.tlist boot_list (ai (pv 2) aF)))⟩
  (aZ ⟨(ig bH rfl (gk rfl T2.range (ai (ixZ (pv 1)) aF)) (pgZ 4 scTab9.nd) (cE (gg (cy jO (pc1 G1 F1 hr (ai (pv 0) (ai bP aF))) bP (cL _)) (cE (oP (pc1 G1 F1 hr (ai (pv 0) (ai (ixZ (pv 1)) aF))) (p9 (pv 3) (pv 4) lQ))) cY)))⟩
  (cP ⟨(bZ (dI gH rfl T.ttup fW (ai (pv 3) aF)))⟩))),?_⟩
 apply⟨_,rfl,h,_,rfl,.inr (SqT.of hh),λLt hLt=>?_⟩;have nLp:Lt≠p:=λz=>by rw[z,hp] at hLt;cases hLt
 have hLtH:=hLt;have S1:bD H (upd H Lt (.lst (hs.map V.int))):=(bD.refl H).put hLt;have h1:(upd H Lt (.lst (hs.map V.int))) Lt=some (.lst (hs.map V.int)):=aR;generalize upd H Lt (.lst (hs.map V.int))=H1 at S1 h1 ⊢;have M1:Mb p H H1:=⟨λ_ _ _ e=>S1 _ _ e,x,y,S1 _ _ hp⟩;apply⟨_,rfl,t,_,_,_,rfl,rfl,SqT.of (S1 _ _ ht),aO (j:=1) rfl,m,rfl,⋯,⋯,?_⟩;apply jP (n:=m.toNat) (λi σ H'=>Mb p H H'∧∃(v4:Option V) (ts:List Int),σ=[some (.ref p),some (.ref t),some (.ref h),some (.ref Lt),v4]∧H' Lt=some (.lst (ts.map V.int))∧ts.length=hs.length∧∀z∈ts,0≤z∧z<b) ⟨M1,none,hs,rfl,h1,rfl,ih⟩ ?_ ?_
 ·rintro i σ HA hi ⟨MA,v4,ts,rfl,hL,lt,it⟩
  obtain⟨xA,yA,hpA⟩:=MA.2;apply⟨_,rfl,p,xA,yA,3,rfl,hpA,↥0,↥0,λr1 HB _ _ MB=>⟨rfl,_,rfl,?_⟩⟩;have hLB:=MB.at hL nLp;have MB:=MA.trans MB;apply ite2 (λ_=>?_) (λ_=>⟨MB,_,ts,rfl,hLB,lt,it⟩);obtain⟨xB,yB,hpB⟩:=MB.2;apply⟨_,rfl,_,rfl,t,_,_,_,rfl,rfl,SqT.of (Mb.tupK hp MB _ _ ht),aO (j:=0) rfl,p,xB,yB,b,rfl,hpB,⋯,⋯,λr2 HC r0 rb MC=>?_⟩;have hLC:=MC.at hLB nLp;have MC:=MB.trans MC;apply⟨_,rfl,_,rfl,Lt,_,_,_,rfl,rfl,hLC,qz ⋯ (by rw[aa];lia),?_⟩;apply⟨⟨λq o hq e=>?_,?_⟩,_,ts.set (0+(i:Int)).toNat r2,rfl,by rw[aR,List.map_set],by rw[eI];exact lt,λz hz=>?_⟩
  ·rw[bt (λz=>by rw[z,hLtH] at e;cases e)]
   exact MC.1 q o hq e
  ·obtain⟨x1,y1,e1⟩:=MC.2
   exact⟨x1,y1,by rw[bt nLp.symm];exact e1⟩
  ·rcases List.mem_or_eq_of_mem_set hz with hz | rfl
   ·exact it z hz
   ·exact⟨r0,rb⟩
 ·rintro σ HA ⟨MA,v4,ts,rfl,hL,lt,it⟩
  exact⟨_,rfl,Lt,_,rfl,SqL.of hL,λq HB SB hB=>k q ts HB (MA.then SB) hB ⋯ it⟩
abbrev sRgt9:cF:=top 81
abbrev sLaw:cF:=top 82
inductive spLawTs (Ts:List aq)(K:au)(vs:List V)(H:Hp)(Q:VK)(_:XK):Prop
 | mk (a:aq)(ns:List Int)(_:vs=[.ref a])(_:SqL K H a (ns.map V.int))(_:(∀T∈Ts,H T=some (.tbl #[])))(_:∀H',Q (.bl true) H')
structure L5 (T0:aq)(p0:Pos)(q0:Str)(T1:aq)(p1:Pos)(q1:Str)(T2 T4 T5:aq)(H:Hp):Prop where
 l:L3 T0 p0 q0 T1 p1 q1 T2 H
 d:L2.LamG T4 lqCm H
 e:L2.LamG T5 lqFw H
def LamG.st3 {T:aq}(h:L2.LamG T lq H)(n0:T≠T0)(n1:T≠T1)(n2:T≠T2)(l:L3 T0 p0 q0 T1 p1 q1 T2 H)(s:St3 T0 T1 T2 H H'):L2.LamG T lq H':=by
 obtain⟨ps0,et0⟩:=LamT.tbl l.a;obtain⟨ps1,et1⟩:=LamT.tbl l.b;obtain⟨ps2,et2⟩:=LamT.tbl l.c;exact h.stay (λps e=>s _ _ n0 n1 n2 e) λa o u e=>s _ _ (fM e et0 nofun) (fM e et1 nofun) (fM e et2 nofun) e
def L5.same {T4 T5:aq}(h:L5 T0 p0 q0 T1 p1 q1 T2 T4 T5 H)(S:bD H H'):L5 T0 p0 q0 T1 p1 q1 T2 T4 T5 H':=⟨h.l.same S,h.d.same S,h.e.same S⟩
inductive spRgt9 (T0:aq)(p0:Pos)(q0:Str)(T1:aq)(p1:Pos)(q1:Str)(T2 T4 T5:aq)(vs:List V)(H:Hp)(Q:VK)(_:XK):Prop
 | mk (v:V)(u h:aq)(b m:Int)(sp:List Sn)(ts hs:List Int)(_:vs=[v,.ref u,.ref h])(_:IsD H v (jv b m sp))(_:jb b m sp)(_:m≤5)(_:sp.length≤10)(_:(∀x∈sp,x.o - x.l≤2))(_:H u=some (.tup (ts.map V.int)))(_:ts.length=m.toNat)(_:(∀x∈ts,0≤x∧x<b))(_:H h=some (.tup (hs.map V.int)))(_:hs.length=m.toNat)(_:(∀x∈hs,0≤x∧x<b))(_:L5 T0 p0 q0 T1 p1 q1 T2 T4 T5 H)(_:∀H',Kp H H'→L5 T0 p0 q0 T1 p1 q1 T2 T4 T5 H'→Q (.bl true) H')
def rh:bY ["_law_net_here","_law_table_here","_law_hidden","_law_told","_law_moved","_law_found","_law_some","_law_other"] pzD (defScope sRgt9):=by trivial
theorem ok_rgt9 {f5 f6 f7 f8 TT T4 T5:aq}{fd5 fd6 fd7 fd8:bg}(F0:Fun K "_law_right" "_law_right" sRgt9 f fd)(T:Nm mg)(T2:Nt mg)(a0:T4≠T0)(a1:T4≠T1)(a2:T4≠TT)(c0:T5≠T0)(c1:T5≠T1)(c2:T5≠TT)
  (G1:Fn K mg "staying" sStay pzd f1 fd1) (F1:‹0› 13 f1 fd1 pzd (spStay T0 p0 q0 T1 p1 q1 TT))
  (G2:Fn K mg "fewest_moved" sFew pzd f2 fd2) (F2:‹0› 13 f2 fd2 pzd (spFew T0 p0 q0 T1 p1 q1 TT T4 T5))
  (G3:Fn K mg "table_for" jf pza f3 fd3) (F3:‹0› 12 f3 fd3 pza (k7 T0 p0 q0 T1 p1 q1 TT))
  (G4:Fn K mg "_law_is_none" sIsN pzm f4 fd4) (F4:‹0› 10 f4 fd4 pzm spIsN)
  (G5:Fn K mg "_law_fits" sFit9 pzA f5 fd5) (F5:‹0› 3 f5 fd5 pzA spFit9)
  (G6:Fn K mg "_law_others_not" sOthN pzC f6 fd6) (F6:‹0› 13 f6 fd6 pzC (spOthN T0 p0 q0 T1 p1 q1 TT))
  (G7:Fn K mg "_law_all_kept" sAllK pzi f7 fd7) (F7:‹0› 2 f7 fd7 pzi spAllK)
  (G8:Fn K mg "_law_best" sBst9 pzL f8 fd8) (F8:‹0› 1 f8 fd8 pzL spBst9):‹0› 14 f fd pzD (spRgt9 T0 p0 q0 T1 p1 q1 TT T4 T5):=by
 specialize F0.ok rh;obtain ⟨v,u,h,b,m,sp,ts,hs,rfl,hv,N,m5,few,wid,hu,lt,its,hh,lh,ihs,L,k⟩:=h;have hr1:gP 1 _:=hr.mono ↥0;have hr2:gP 2 _:=hr.mono ↥0;have hr3:gP 3 _:=hr.mono ↥0;have hr10:gP 10 _:=hr.mono ↥0;have hr12:gP 12 _:=hr.mono ↥0;have hr13:gP 13 _:=hr;have b1:=N.b1;have m1:=N.m1;have cas:=few2 N m5 wid;apply ⟨_,PSl.h (aZ ⟨(psZ 3 rh.nd (pc1 G1 F1 hr13 (ai (pv 0) (ai (pv 1) aF))))⟩
  (aZ ⟨(psZ 4 rh.nd (pc1 G2 F2 hr13 (ai (pv 0) (ai (pv 1) aF))))⟩
  (aZ ⟨(psZ 5 rh.nd (pc1 G3 F3 hr12 (ai (pv 0) aF)))⟩
  (aZ ⟨(gg (cy jO (ixZ (pv 5)) jh (cL _)) (cE (bZ (mm (pc1 G4 F4 hr10 (ai (pv 0) (ai (pv 5) aF))) (mm (pc1 G4 F4 hr10 (ai (pv 0) (ai (pv 3) aF))) (qc (pc1 G4 F4 hr10 (ai (pv 0) (ai (pv 4) aF)))))))) cY)⟩
  (aZ ⟨(gg (PW.pt (oW (cy qS (ixZ (pv 3)) jh (cL _)) (oW (cy qS (ixZ (pv 4)) jh (cL _)) (oW (jN (iB (pc1 G5 F5 hr3 (ai (pv 0) (ai (ixZ (pv 3)) aF))))) (nN (jN (iB (pc1 G5 F5 hr3 (ai (pv 0) (ai (ixZ (pv 4)) aF)))))))))) (cE (bZ lW)) cY)⟩
  (aZ ⟨(psZ 6 rh.nd (ixZ (pv 3)))⟩
  (aZ ⟨(gg (PW.pt (oW (cy (op_neL0 hr.units0) (gi (fr:=["_law_table_here","_law_told"]) (js:=[1,3]) rfl (lr (pv 6)) ⇑0 rfl ⇑0 rfl (by exists sRgt9) ⇑0 rfl ⇑0 (fun _ _ _ _ _=>⟨(pv 0),(jZ (cy qS (dO (r:=pq K) dF (dO (r:=pq K) dF (pv 2) bP (fun _ _=>rfl)) (pv 0) (fun _ _=>rfl)) (dO (r:=pq K) dF (pv 1) (pv 0) (fun _ _=>rfl)) (cL _)))⟩)) (oF aF) (cL _)) (nN (jN (iB (pc1 G6 F6 hr13 (ai (pv 0) (ai (pv 1) (ai (pv 6) aF))))))))) (cE (bZ lW)) cY)⟩
  (aZ ⟨(gg (cy (op_neD hr.units) (ixZ (pv 4)) (dI gH rfl T.ttup fW (ai (gi (fr:=["_law_table_here","_law_moved"]) (js:=[1,4]) rfl (gk rfl T2.range (ai (ixZ (pv 0)) aF)) ⇑0 rfl ⇑0 rfl (by exists sRgt9) ⇑0 rfl ⇑0 (fun _ _ _ _ _=>⟨(pv 0),(jZ (cy qS (dO (r:=pq K) dF (dO (r:=pq K) dF (pv 2) bP (fun _ _=>rfl)) (pv 0) (fun _ _=>rfl)) (dO (r:=pq K) dF (pv 1) (pv 0) (fun _ _=>rfl)) (cL _)))⟩)) aF)) (cL _)) (cE (bZ lW)) cY)⟩
  (aZ ⟨(ig bH rfl (gh (oF (ai (ixZ (pv 3)) (ai (ixZ (pv 5)) (ai (pv 2) aF))))) (pgZ 7 rh.nd) (cE (gg (PW.pt (pw_and (iB (pc1 G7 F7 hr2 (ai (pv 0) (ai (pv 7) aF)))) (pw_and1 (cy op_lt (dB kz (ixZ (pv 0)) (cp bR rfl T.len bC (ai (ixZ (pv 4)) aF))) (pc1 G8 F8 hr1 (ai (pv 0) (ai (pv 1) (ai (pv 7) aF)))) (cL _))))) (cE (bZ lW)) cY)))⟩
  (cP ⟨(bZ (mm (jz qT (cp bR rfl T.len bC (ai (pv 6) aF)) bP (cL _)) (qc (jz op_ge (dB kz (ixZ (pv 0)) (cp bR rfl T.len bC (ai (ixZ (pv 4)) aF))) (cp bR rfl T.len bC (ai (pv 6) aF)) (cL _)))))⟩)))))))))),?_⟩
 apply⟨_,rfl,_,rfl,v,u,b,m,sp,ts,rfl,hv,N,cas,hu,lt,L.l.a,L.l.b,L.l.c,λq3 H1 k1 s1 l0 l1 l2 an1=>?_⟩;have L1:L5 T0 p0 q0 T1 p1 q1 TT T4 T5 H1:=⟨⟨l0,l1,l2⟩,LamG.st3 L.d a0 a1 a2 L.l s1,LamG.st3 L.e c0 c1 c2 L.l s1⟩;apply⟨_,rfl,_,rfl,v,u,b,m,sp,ts,rfl,cg k1.tup hv,N,cas,k1.tup _ _ hu,lt,l0,l1,l2,L1.d,L1.e,λq4 H2 k2 _ r0 r1 r2 r4 r5 an2=>?_⟩;have k12:=k1.trans k2;apply⟨_,rfl,v,b,m,sp,rfl,cg k12.tup hv,N,cas,r0,r1,r2,λq5 H3 s3 k3 t0 t1 t2 an3=>?_⟩;have k13:=k12.trans k3;have k23:=k2.trans k3;have L33:L3 T0 p0 q0 T1 p1 q1 TT H3:=⟨t0,t1,t2⟩;have L2':L3 T0 p0 q0 T1 p1 q1 TT H2:=⟨r0,r1,r2⟩;have L53:L5 T0 p0 q0 T1 p1 q1 TT T4 T5 H3:=⟨L33,LamG.st3 r4 a0 a1 a2 L2' s3,LamG.st3 r5 c0 c1 c2 L2' s3⟩;have hv3:=cg k13.tup hv;have hu3:=k13.tup _ _ hu;have hh3:=k13.tup _ _ hh;clear hv hu hh L1 L l0 l1 l2 r0 r1 r2 r4 r5 L2'
 rcases an3 with ⟨qt,tt,hq5,hqt,tok⟩ | ⟨u5,t5,hq5,d5,pl5,no5,g5,z5⟩
 rotate_left
 ·have n5:NonT H3 q5 b sp:=⟨u5,t5,hq5,d5,pl5,g5,z5⟩
  rcases an1 with ⟨u1,w1,C1⟩ | ⟨fs,l,rg,Ts,Ys,qs,y,A⟩
  rotate_left
  ·exact rS (A.tab N).2.2 (no5 _)
  rcases an2 with ⟨u2,w2,C2⟩ | ⟨fs,l,rg,Ts,Ys,qs,y,A⟩
  rotate_left
  ·exact rS (A.tab N).2.2 (no5 _)
  have n1:NonT H3 q3 b sp:=NonT.kp ⟨u1,w1,C1.q,C1.tree,C1.pl,C1.good.1,C1.good.2⟩ k23;have n2:NonT H3 q4 b sp:=NonT.kp ⟨u2,w2,C2.q,C2.tree,C2.pl,C2.good.1,C2.good.2⟩ k3;apply⟨_,rfl,q5,_,_,_,rfl,rfl,SqT.of hq5,aO (j:=0) rfl,rfl,_,rfl,mr (rT rfl) ?_⟩;apply⟨_,rfl,_,rfl,v,q5,b,m,sp,rfl,hv3,N,n5,λH4 S4=>⟨_,rfl,mr rfl ?_⟩⟩;apply⟨_,rfl,_,rfl,v,q3,b,m,sp,rfl,hv3.same S4,N,n1.kp (bD.kp S4),λH5 S5=>⟨_,rfl,mr rfl ?_⟩⟩;have S45:=S4.trans S5;apply⟨_,rfl,_,rfl,v,q4,b,m,sp,rfl,hv3.same S45,N,n2.kp (bD.kp S45),λH6 S6=>?_⟩;exact k H6 (k13.trans (bD.kp (S45.trans S6))) (L53.same (S45.trans S6))
 rcases an1 with ⟨_,_,C1⟩ | ⟨fs1,l1,rg1,Ts1,Ys1,qs1,y1,A1⟩
 ·exact rS tok.2.2 (C1.no _)
 rcases an2 with ⟨_,_,C2⟩ | ⟨fs,l,rg,Ts,Ys,qs,y,A⟩
 ·exact rS tok.2.2 (C2.no _)
 have ST:=A1.sty N lt its;have hq3:=k23.tup _ _ A1.q;have hqs:=k23.tup _ _ A1.qs;have hy1:=k23.tup _ _ A1.qy;generalize ((aG m.toNat).foldl (stS ts) ([],Ys1)).1=S at ST hqs;have hq4:=k3.tup _ _ A.q;have hqo:=k3.tup _ _ A.qs;have hy:=k3.tup _ _ A.qy;have toky:=A.tab N;have best:=λT ok=>A.best N lt its (T:=T) ok
 have lb:=A.lb;clear A1 A s1 s3 k1 k2 k12 k23 k3;obtain⟨t,pn,ys,rfl,ht,_⟩:=fe hv3;have ly1:=ST.tab.1;have ly:=toky.1;apply⟨_,rfl,q5,_,_,_,rfl,rfl,SqT.of hq5,aO (j:=0) rfl,rfl,_,rfl,j3 rfl ?_⟩;apply⟨_,rfl,q3,_,_,_,rfl,rfl,SqT.of hq3,aO (j:=0) rfl,rfl,_,rfl,j3 (by rw[rT rfl];rfl) ?_⟩;apply⟨_,rfl,q4,_,_,_,rfl,rfl,SqT.of hq4,aO (j:=0) rfl,rfl,_,rfl,j3 (by rw[rT rfl];rfl) ?_⟩;apply⟨_,rfl,_,rfl,q3,_,_,_,rfl,rfl,SqT.of hq3,aO (j:=2) rfl,.ref t,y1.1,b,m,sp,y1.2,rfl,hv3,N,hy1,ST.tab,λH4 S4=>⟨_,rfl,j3 rfl ?_⟩⟩;apply⟨_,rfl,_,rfl,q4,_,_,_,rfl,rfl,SqT.of (S4 _ _ hq4),aO (j:=2) rfl,.ref t,y.1,b,m,sp,y.2,rfl,hv3.same S4,N,S4 _ _ hy,toky,λH5 S5=>⟨_,rfl,j3 rfl ?_⟩⟩;have S45:=S4.trans S5;apply⟨_,rfl,q3,_,_,_,rfl,rfl,SqT.of (S45 _ _ hq3),aO (j:=1) rfl,?_⟩;have lS:S.length≤5:=by
  have:=ST.cnt;have e:(aG ts.length).countP (λk:Nat=>decide (tm ts k=tm y1.2 k))≤(aG ts.length).length:=j5;rw[bb] at e;lia
 apply⟨_,rfl,qs1,rfl,⟨_,SqT.of (S45 _ _ hqs)⟩,?_⟩;apply jF (K:=K) (a:=qs1) (xs:=S.map V.int) (λn zs H6=>H6=H5∧zs=[]) ⟨rfl,rfl⟩ (λn zs H6 hn q=>by obtain⟨e1,e2⟩:=q;subst e1 e2;exact⟨SqT.of (S45 _ _ hqs),bu _⟩) (by rw[aa];exact de ⋯) (λn x zs H6 hx q=>?_) (λzs H6 q D hD=>?_)
 ·obtain⟨e1,e2⟩:=q
  subst e1 e2;obtain⟨j,hj,rfl⟩:=ba.mp (aL hx);obtain⟨j0,j1,ej⟩:=ST.rng j hj;apply⟨_,rfl,q3,_,_,_,rfl,rfl,SqT.of (S45 _ _ hq3),aO (j:=2) rfl,_,rfl,y1.1,_,_,_,rfl,rfl,SqT.of (S45 _ _ hy1),kr j0 ⋯,_,rfl,_,rfl,u,_,_,_,rfl,rfl,SqT.of (S45 _ _ hu3),kr j0 ⋯,rfl,_,rfl,j3 (by rw[ej,rT rfl];rfl) ?_⟩;exact⟨rfl,rfl⟩
 obtain⟨e1,e2⟩:=q;subst e1 e2;have S6:bD H6 (upd H6 D (.lst [])):=(bD.refl H6).put hD;have h6:(upd H6 D (.lst [])) D=some (.lst []):=aR;generalize upd H6 D (.lst [])=H7 at S6 h6 ⊢;apply⟨bu _,λq8 H8 S8 h8=>⟨D,q8,_,rfl,rfl,SqL.of (S8 _ _ h6),SqL.of h8,_,rfl,j3 rfl ?_⟩⟩;have S38:=S45.trans (S6.trans S8);apply⟨_,rfl,_,rfl,_,rfl,.ref t,u,qs1,b,m,sp,ts,S,y1.2,rfl,hv3.same S38,N,m5,few,wid,S38 _ _ hu3,lt,S38 _ _ hqs,ST,L33.same S38,λH9 k9 s9 l9=>⟨_,rfl,j3 rfl ?_⟩⟩;have k39:=(bD.kp S38).trans k9;have L9:L5 T0 p0 q0 T1 p1 q1 TT T4 T5 H9:=⟨l9,LamG.st3 (L53.d.same S38) a0 a1 a2 (L33.same S38) s9,LamG.st3 (L53.e.same S38) c0 c1 c2 (L33.same S38) s9⟩;have K9:=k13.trans k39;have hq3:=k39.tup _ _ hq3;have hqs:=k39.tup _ _ hqs;have hy1:=k39.tup _ _ hy1;have hq4:=k39.tup _ _ hq4;have hqo:=k39.tup _ _ hqo;have hy:=k39.tup _ _ hy;have hq5:=k39.tup _ _ hq5;have hqt:=k39.tup _ _ hqt;have hu9:=k39.tup _ _ hu3;have hh9:=k39.tup _ _ hh3;have ht9:=k39.tup _ _ ht;have hv9:=cg k39.tup hv3;clear k39 S38 S45 S4 S5 S6 S8 h6 h8 L53 L33 l9 s9 k9 hv3 hu3 hh3 k13 ht;apply⟨_,rfl,q4,_,_,_,rfl,rfl,SqT.of hq4,aO (j:=1) rfl,?_⟩;apply⟨_,rfl,t,_,_,_,rfl,rfl,SqT.of ht9,aO (j:=1) rfl,m,rfl,⋯,⋯,?_⟩;apply ko (n:=m.toNat) (λn zs H6=>H6=H9∧zs=(((aG n).filter λk:Nat=> !decide (tm ts k=tm y.2 k)).map λk:Nat=>(k:Int)).map V.int) ⟨rfl,rfl⟩ (λn zs H6 _ q=>by rw[q.2,aa,aa];exact aQ (cw _ _) (by rw[bb];exact aB _)) (de ⋯) (λn zs H6 hn q=>?_) (λzs H6 q D hD=>?_)
 ·obtain⟨e1,e2⟩:=q
  subst e1;apply⟨_,rfl,q4,_,_,_,rfl,rfl,SqT.of hq4,aO (j:=2) rfl,_,rfl,y.1,_,_,_,rfl,rfl,SqT.of hy,kr ⋯ ⋯,_,rfl,_,rfl,u,_,_,_,rfl,rfl,SqT.of hu9,kr ⋯ ⋯,rfl,_,rfl,?_⟩;rw[fZ,fj,eK,aD,aD]
  by_cases z:tm ts n=tm y.2 n
  ·apply j3 (by rw[z,rT rfl];rfl) ⟨rfl,?_⟩
   rw[e2,List.filter_cons_of_neg (by rw[rT z];decide),kL,jJ,jJ,c5]
  ·apply mr (by rw[rV λq=>z (by injection q with q;exact q.symm)];rfl) ⟨_,rfl,rfl,?_⟩
   rw[e2,List.filter_cons_of_pos (by rw[rV z];rfl)];rfl
 obtain⟨e1,e2⟩:=q;subst e1;have eo:zs=(qg ts y.2).map V.int:=by unfold qg;rw[e2,lt]
 rw[eo];clear eo e2;have SA:bD H6 (upd H6 D (.lst ((qg ts y.2).map V.int))):=(bD.refl H6).put hD;apply⟨D,_,rfl,SqL.of aR,λqA HA SA' hA=>?_⟩;have SA:=SA.trans SA';apply⟨_,_,.tup (SA _ _ hqo) (eM.ints _),.tup hA (eM.ints _),pls_ints _,pls_ints _,by rw[deps_ints];decide,_,rfl,j3 (by rw[eqDs_ints,rT rfl];rfl) ?_⟩;apply⟨_,rfl,q3,_,_,_,rfl,rfl,SqT.of (SA _ _ hq3),aO (j:=2) rfl,_,rfl,q5,_,_,_,rfl,rfl,SqT.of (SA _ _ hq5),aO (j:=1) rfl,_,rfl,(by show 3≤bf;decide),λLo HB SB hB=>⟨Lo,rfl,⟨_,SqL.of hB⟩,?_⟩⟩;have S6B:=SA.trans SB;have tabs:∀x∈([.ref y1.1,.ref qt,.ref h]:List V),∃(q:aq) (os:List Int),x= .ref q∧HB q=some (.tup (os.map V.int))∧os.length=m.toNat∧∀z∈os,0≤z∧z<b:=λx hx=>by
  rcases aH.mp hx with rfl | hx
  ·exact⟨_,_,rfl,S6B _ _ hy1,ly1,ST.tab.2.1⟩
  ·rcases aH.mp hx with rfl | hx
   ·exact⟨_,_,rfl,S6B _ _ hqt,tok.1,tok.2.1⟩
   ·rw[aw.mp hx]
    exact⟨_,_,rfl,S6B _ _ hh9,lh,ihs⟩
 have ol:=qf (ts:=ts) (us:=y.2);apply jE (K:=K) (a:=Lo) (xs:=[.ref y1.1,.ref qt,.ref h]) (λn σ H'=>bD HB H'∧∃(v7:Option V),σ=[some (.ref t),some (.ref u),some (.ref h),some (.ref q3),some (.ref q4),some (.ref q5),some (.ref qs1),v7]) ⟨bD.refl HB,_,rfl⟩ (λn σ H' _ q=>SqL.of (q.1 _ _ hB)) ?_ ?_
 ·rintro n x σ HC hx ⟨SC,v7,rfl⟩
  obtain⟨q,os,rfl,hq,lo,ios⟩:=tabs x (aL hx);have S6C:=S6B.trans SC;apply⟨_,rfl,_,rfl,.ref t,q,b,m,sp,os,rfl,hv9.same S6C,SC _ _ hq,N.rdy ⋯,λHD SD=>⟨_,rfl,?_⟩⟩;have S6D:=S6C.trans SD;apply ite2 (λfit=>?_) (λ_=>⟨SC.trans SD,_,rfl⟩);apply⟨_,rfl,t,_,_,_,rfl,rfl,SqT.of (S6D _ _ ht9),aO (j:=1) rfl,_,rfl,q4,_,_,_,rfl,rfl,SqT.of (S6D _ _ hq4),aO (j:=1) rfl,qs,_,rfl,.inr (SqT.of (S6D _ _ hqo)),_,_,rfl,rfl,?_⟩;apply⟨_,rfl,_,rfl,_,rfl,.ref t,u,q,b,m,sp,ts,os,rfl,hv9.same S6D,N,S6D _ _ hu9,lt,(SC.trans SD) _ _ hq,lo,λr HE SE hd=>⟨_,_,rfl,rfl,_,rfl,j3 (rV ?_) ⟨(SC.trans SD).trans SE,_,rfl⟩⟩⟩;have:=hd (m - (qg ts y.2).length) ⋯ λk=>by
   have:=cnt_few N lb lt best ⟨lo,ios,fit⟩ k;lia
  rw[aa];lia
 rintro σ HC ⟨SC,v7,rfl⟩;have S6C:=S6B.trans SC;apply⟨_,rfl,qs1,_,rfl,.inr (SqT.of (S6C _ _ hqs)),_,_,rfl,rfl,_,rfl,mr (rT ?_) ?_⟩
 ·rw[aa]
  have:=List.length_pos_of_mem ST.zero;lia
 apply⟨_,rfl,t,_,_,_,rfl,rfl,SqT.of (S6C _ _ ht9),aO (j:=1) rfl,_,rfl,q4,_,_,_,rfl,rfl,SqT.of (S6C _ _ hq4),aO (j:=1) rfl,qs,_,rfl,.inr (SqT.of (S6C _ _ hqo)),_,_,rfl,rfl,_,rfl,qs1,_,rfl,.inr (SqT.of (S6C _ _ hqs)),_,_,rfl,rfl,?_⟩;rw[aa,aa];have fin:(S.length:Int)≤m - (qg ts y.2).length:=by
  have o1:=qf (ts:=ts) (us:=y1.2);have:=best _ ST.tab;have:=ST.cnt;lia
 show Q (V.bl (decide ((S.length:Int)≤m - (qg ts y.2).length))) HC;rw[rT fin];exact k HC (K9.trans (bD.kp S6C)) (L9.same S6C)
def scLaw:bY ["_law_script","_law_k","_law_box_here","_law_net_here","_law_hidden","_law_table_here"] ["_law_script"] (defScope sLaw):=by trivial
theorem ok_law {TT T4 T5:aq}(F:Fun K "law" "law" sLaw f fd)(T:Nm mg)(T2:Nt mg)
  (G1:Fn K mg "_law_box" sBox pzh f1 fd1) (F1:‹0› 2 f1 fd1 pzh (spBox K))
  (G2:Fn K mg "_law_net" sNet9 pzN f2 fd2) (F2:‹0› 2 f2 fd2 pzN spNet9)
  (G3:Fn K mg "_law_table" sTab9 pzO f3 fd3) (F3:‹0› 2 f3 fd3 pzO spTab9)
  (G4:Fn K mg "_law_right" sRgt9 pzD f4 fd4) (F4:‹0› 14 f4 fd4 pzD (spRgt9 T0 p0 q0 T1 p1 q1 TT T4 T5)):‹0› 15 f fd ["_law_script"] (spLawTs [T0,T1,TT,T4,T5] K):=by
 specialize F.ok scLaw;obtain ⟨a,ns,rfl,ha,hT,k⟩:=h;have hr2:gP 2 _:=hr.mono ↥0;apply ⟨_,PSl.h (aZ ⟨(ig bH rfl (gk rfl T2.range (ai (cp (call_max2 rfl) rfl T2.max boot_max (ai bP (ai (cp (call_min2 rfl) rfl T.min boot_min (ai (cp bR rfl T.len bC (ai (pv 0) aF)) (ai bP aF))) aF))) aF)) (pgZ 1 scLaw.nd) (PSl.h (aZ ⟨(psZ 2 scLaw.nd (pc1 G1 F1 hr2 (ai (pv 0) (ai (pv 1) aF))))⟩
  (aZ ⟨(oP (pc1 G2 F2 hr2 (ai (pv 2) aF)) (pg_tup rfl (kR (pgZ 3 scLaw.nd) (kR (pgZ 4 scLaw.nd) pgs_nil))))⟩
  (aZ ⟨(psZ 5 scLaw.nd (pc1 G3 F3 hr2 (ai (pv 2) (ai (pv 3) (ai (pv 4) aF)))))⟩
  (cP ⟨(gg (jN (iB (pc1 G4 F4 hr (ai (pv 3) (ai (pv 5) (ai (pv 4) aF)))))) (cE (bZ lW)) cY)⟩))))))⟩
  (cP ⟨(bZ lW)⟩)),?_⟩
 apply⟨_,rfl,a,_,rfl,.inl ha,_,_,rfl,_,_,rfl,_,rfl,?_,?_,?_⟩
 ·rw[aa];split <;> split <;> lia
 ·rw[aa];split <;> split <;> lia
 have L0:L5 T0 p0 q0 T1 p1 q1 TT T4 T5 H:=⟨⟨LamG.nil (hT T0 ∅),LamG.nil (hT T1 ∅),LamG.nil (hT TT ∅)⟩,LamG.nil (hT T4 ∅),LamG.nil (hT T5 ∅)⟩;apply jP (λi σ H5=>SqL K H5 a (ns.map V.int)∧L5 T0 p0 q0 T1 p1 q1 TT T4 T5 H5∧∃v1 v2 v3 v4 v5,σ=[some (.ref a),v1,v2,v3,v4,v5]) ⟨ha,L0,none,none,none,none,none,rfl⟩ ?_ ?_
 ·rintro i σ H5 hi ⟨ha5,L5',v1,v2,v3,v4,v5,rfl⟩
  clear hi;apply⟨_,rfl,_,rfl,a,ns,_,rfl,ha5,⋯,λx6 y6 p hp6=>?_⟩;have P6:bD H5 (upd H5 p (.lst [.int x6,.int y6])):=bD.put (bD.refl H5) hp6;have P6':(upd H5 p (.lst [.int x6,.int y6])) p=some (.lst [.int x6,.int y6]):=aR;generalize upd H5 p (.lst [.int x6,.int y6])=H6 at P6 P6' ⊢;apply⟨_,rfl,p,x6,y6,rfl,P6',λt v h b m sp hs H7 M7 h7 hv N m5 few wid hh hlh hin=>?_⟩;obtain⟨x7,y7,hp7⟩:=M7.2;apply⟨t,_,rfl,SqT.of h7,rfl,_,_,rfl,_,_,rfl,rfl,?_⟩;apply⟨_,rfl,_,rfl,_,rfl,p,h,x7,y7,v,b,m,sp,hs,rfl,hp7,hv,N,hh,hlh,hin,λq ts H8 M8 h8 lts its=>?_⟩;have m1:=N.m1;have S8:bD H5 H8:=bD.mb P6 hp6 (M7.trans M8);apply⟨_,rfl,_,rfl,_,rfl,v,q,h,b,m,sp,ts,hs,rfl,netP_mb hv hp7 M8,N,m5,few,wid,h8,⋯,its,Mb.tupK hp7 M8 _ _ hh,⋯,hin,L5'.same S8,λH9 k9 L9=>⟨_,rfl,j3 rfl ?_⟩⟩;exact⟨k9.seq (S8.seq ha5),L9,_,_,_,_,_,rfl⟩
 ·rintro σ H5 ⟨_,_,v1,v2,v3,v4,v5,rfl⟩
  exact k H5
def args1 {P:List af→Prop}(h:∀x0,P [x0]):∀us:List af,us.length=1→P us:=by
 intro us hl;obtain _ | ⟨x0,us⟩:=us <;> try (cases hl;done)
 obtain _ | ⟨y,us⟩:=us
 ·exact h x0
 ·exact rS hl (by simp only[aV];lia)
def args2 {P:List af→Prop}(h:∀x0 x1,P [x0,x1]):∀us:List af,us.length=2→P us:=by
 intro us hl;obtain _ | ⟨x0,us⟩:=us <;> try (cases hl;done)
 obtain _ | ⟨x1,us⟩:=us <;> try (cases hl;done)
 obtain _ | ⟨y,us⟩:=us
 ·exact h x0 x1
 ·exact rS hl (by simp only[aV];lia)
def args3 {P:List af→Prop}(h:∀x0 x1 x2,P [x0,x1,x2]):∀us:List af,us.length=3→P us:=by
 intro us hl;obtain _ | ⟨x0,us⟩:=us <;> try (cases hl;done)
 obtain _ | ⟨x1,us⟩:=us <;> try (cases hl;done)
 obtain _ | ⟨x2,us⟩:=us <;> try (cases hl;done)
 obtain _ | ⟨y,us⟩:=us
 ·exact h x0 x1 x2
 ·exact rS hl (by simp only[aV];lia)
def args4 {P:List af→Prop}(h:∀x0 x1 x2 x3,P [x0,x1,x2,x3]):∀us:List af,us.length=4→P us:=by
 intro us hl;obtain _ | ⟨x0,us⟩:=us <;> try (cases hl;done)
 obtain _ | ⟨x1,us⟩:=us <;> try (cases hl;done)
 obtain _ | ⟨x2,us⟩:=us <;> try (cases hl;done)
 obtain _ | ⟨x3,us⟩:=us <;> try (cases hl;done)
 obtain _ | ⟨y,us⟩:=us
 ·exact h x0 x1 x2 x3
 ·exact rS hl (by simp only[aV];lia)
def Df.fn (a:Df K x st f)(X:K.In h)(G:h.Ns bL mg)
  (hb:∀(kV dc pm:af) (an:Option aq) (cd ct:af) (us:List af),us.length=ps.length→bindArgs (eR x x (kD st) (gW st) (defScope st) .none kV dc pm an cd ct) ⟨us,[]⟩=fV (ps.zip us):=by intro _ _ _ _ _ _;first  | exact args1 λ_=>rfl | exact args2 λ_ _=>rfl | exact args3 λ_ _ _=>rfl | exact args4 λ_ _ _ _=>rfl):∃fd,Fn K mg x st ps f fd:=by
 obtain⟨n,oc,od,an,sl,kV,dc,pm,cd,ct,l,c,k⟩:=a;have F:=og (st:=st) l c k;exact⟨_,F,fS X G n,F.binds hb⟩
theorem all_mk {l:PySem.W.OpenLaw}{fa:aq}(X:K.In h)(G:h.Ns bL mg)(hfa:mg "law" =some (.ref fa))(Fc:Facts K)
  : ∃fd:bg,(∀(s:ay) (v:af),BindsTo s fd ⟨[v],[]⟩ [("_law_script",v)])∧∀base:bO,K.In base→base.Ns bL mg→BM mg base→‹_› 15 fa fd ["_law_script"] (spLawTs [140,278,344,387,409] K):=by
 apply Fc _ ?_;intro f1 a1 f2 a2 f3 a3 f4 a4 f5 a5 f6 a6 f7 a7 f8 a8 f9 a9 f10 a10 f11 a11 f12 a12 f13 a13 f14 a14 f15 a15 f16 a16 f17 a17 f18 a18 f19 a19 f20 a20 f21 a21 f22 a22 f23 a23 f24 a24 f25 a25 f26 a26 f27 a27 f28 a28 f29 a29 f30 a30 f31 a31 f32 a32 f33 a33 f34 a34 f35 a35 f36 a36 f37 a37 f38 a38 f39 a39 f40 a40 f41 a41 f42 a42 f43 a43 f44 a44 f45 a45 f46 a46 f47 a47 f48 a48 f49 a49 f50 a50 f51 a51 f52 a52 f53 a53 f54 a54 f55 a55 f56 a56 f57 a57 f58 a58 f59 a59 f60 a60 f61 a61 f62 a62 t1 t2 t3 xC xi xs xt odI anI odS anS odT anT slI slS slT ocI kVI dcI pmI ctI ocS kVS dcS pmS cdS ctS ocT kVT dcT pmT cdT ctT y1 y2 y3 z1 z2 z3 z4 z5 z6 z7 z8 z9 z10 z11 z12 z13 z14 z15 z16 z17 w1 w2 w3 w4 w5 w6 w7 w8 w9 w10 w11 w12 w13 w14 w15 w16 w17 w18 w19 w20 w21 w22 w23 w24 w25 wc0 wh0 wh1 wc2 wh2 wc3 wh3 wc4 wh4;have e:=hfa.symm.trans (fS X G a62.n);cases e;erw[G1,a1,pzf];erw[G2,a2,pzc];erw[G3,a3,pzc];erw[G4,a4,pza];erw[G5,a5,pzG];erw[G6,a6,pze];erw[G7,a7,pze];obtain⟨_,oc,od,an,sl,kV,dc,pm,cd,ct,l8,c8,k8⟩:=id a8;have wc0:cd=af.ref 144:=(rX cdO l8).symm.trans wc0;have F8:=og (st:=sSpW) l8 c8 k8;have b8:=F8.binds (ps:=pza) λ_ _ _ _ _ _=>args1 λ_=>rfl
 have G8:Fn K mg "spans_by_width" sSpW pza f8 _:=⟨F8,fS X G a8.n,b8⟩;erw[G9,a9,pza];erw[G10,a10,pzq];erw[G11,a11,pzI];erw[G12,a12,pzf];erw[G13,a13,pza];erw[G14,a14,pza];erw[G15,a15,pza];erw[G16,a16,pzg];erw[G17,a17,pzp];erw[G18,a18,pzy];erw[G19,a19,pzu];erw[G20,a20,pzs];erw[G21,a21,pzJ];erw[G22,a22,pzk];erw[G23,a23,["marks"]];erw[G24,a24,pzz];obtain⟨_,oc,od,an,sl,kV,dc,pm,cd,ct,l25,c25,k25⟩:=id a25;have wc2:cd=af.ref 348:=(rX cdO l25).symm.trans wc2;have F25:=og (st:=jf) l25 c25 k25;have b25:=F25.binds (ps:=pza) λ_ _ _ _ _ _=>args1 λ_=>rfl
 have G25:Fn K mg "table_for" jf pza f25 _:=⟨F25,fS X G a25.n,b25⟩;erw[G26,a26,["net","more"]];erw[G27,a27,["thing"]];erw[G28,a28,pzn];erw[G29,a29,pzb];erw[G30,a30,pzb];erw[G31,a31,pzb];erw[G32,a32,pzo];erw[G33,a33,pzE];erw[G34,a34,pzb];erw[G35,a35,pzF];erw[G36,a36,pzb];erw[G37,a37,pzx];erw[G38,a38,pzb];erw[G39,a39,pza];erw[G40,a40,pzl];erw[G41,a41,pzr];erw[G42,a42,pzj];erw[G43,a43,pzd];obtain⟨_,oc,od,an,sl,kV,dc,pm,cd,ct,l44,c44,k44⟩:=id a44;have wc3:cd=af.ref 391:=(rX cdO l44).symm.trans wc3;have F44:=og (st:=oy) l44 c44 k44;have b44:=F44.binds (ps:=pzt) λ_ _ _ _ _ _=>args1 λ_=>rfl
 have G44:Fn K mg "commonest" oy pzt f44 _:=⟨F44,fS X G a44.n,b44⟩;erw[G45,a45,pzj];erw[G46,a46,pzv];obtain⟨_,oc,od,an,sl,kV,dc,pm,cd,ct,l47,c47,k47⟩:=id a47;have wc4:cd=af.ref 411:=(rX cdO l47).symm.trans wc4;have F47:=og (st:=sFew) l47 c47 k47;have b47:=F47.binds (ps:=pzd) λ_ _ _ _ _ _=>args2 λ_ _=>rfl
 have G47:Fn K mg "fewest_moved" sFew pzd f47 _:=⟨F47,fS X G a47.n,b47⟩;erw[G48,a48,pzM];erw[G49,a49,pzB];erw[G50,a50,pzh];erw[G51,a51,pzh];erw[G52,a52,pzw];erw[G53,a53,pzH];erw[G54,a54,pzi];erw[G55,a55,pzN];erw[G56,a56,pzO];erw[G57,a57,pzm];erw[G58,a58,pzA];erw[G59,a59,pzC];erw[G60,a60,pzL];erw[G61,a61,pzD];obtain⟨_,oc,od,an,sl,kV,dc,pm,cd,ct,l62,c62,k62⟩:=a62;have F62:=og (st:=sLaw) l62 c62 k62;have m1:=cb X G z1;have m2:=cb X G z2;have m3:=cb X G z3;have m4:=cb X G z4;have m5:=cb X G z5;have m6:=cb X G z6;have m7:=cb X G z7;have m8:=cb X G z8;have m9:=cb X G z9;have m10:=cb X G z10;have m11:=cb X G z11;have m12:=cb X G z12;have m13:=cb X G z13;have m14:=cb X G z14;have m15:=cb X G z15;have m16:=cb X G z16;have m17:=cb X G z17;have i1:=fS X G y1;have i2:=fS X G y2;have i3:=fS X G y3;apply⟨eR "law" "law" (kD sLaw) (gW sLaw) (defScope sLaw) .none kV dc pm an cd ct,λs v=> .of_eq rfl,λbase _ _ hB=>?_⟩;have T:Nm mg:=⟨m1,m2,m3,m4,m5,m6,m7⟩;have T2:Nt mg:=⟨m8,m9,m10,m11,m12,m13⟩;have T3:N3 mg:=⟨m14⟩;have SW:‹_› 5 f8 _ pza (spSpW 140 lpW lqW):=ok_spW F8 wc0 wh0 hB T T2 m15 G1;have FO:‹_› 6 f9 _ pza (lP 140 lpW lqW):=ok_forest G9.F T T2 m15 G8 SW;have ST:‹_› 2 f10 _ pzq spSteps:=ok_steps G10.F G2;have RB:‹_› 7 f12 _ pzf (spRingBy 140 lpW lqW):=ok_ringBy G12.F G11 (ok_wayBt G11.F G10 ST G3) G9 FO;have RO:‹_› 8 f14 _ pza (spRingsO 140 lpW lqW):=ok_ringsO G14.F T T2 G9 FO G12 RB;have CC:CutC K xC:=⟨⟨w2,w3,w4,w5⟩,w6,w7,w8⟩;have CI:=og (st:=rA) w13 w14 w15;have CS:=og (st:=sSpanC) w19 w20 w18;have CT:=og (st:=sSidesC) w24 w25 w23;have CK:CutK l.prog w K mg base 140 lpW lqW 278 lpC lqC xC xi xs xt _ _ _:=⟨CC,⟨w9,w10,w11,w12⟩,fS X G w1,ok_initC CI rfl wh1 hB ↥0 T T2 m15 CC G14 RO G18 G4 G9 FO,CI.binds (ps:=["self","net"]) λ_ _ _ _ _ _=>args2 λ_ _=>rfl,⟨w16,w17,w18⟩,ok_spanC CS CC,CS.binds (ps:=["self","case"]) λ_ _ _ _ _ _=>args2 λ_ _=>rfl,⟨w21,w22,w23⟩,ok_sidesC CT CC G17,CT.binds (ps:=pzK) λ_ _ _ _ _ _=>args4 λ_ _ _ _=>rfl⟩;have BO:‹_› 2 f6 _ pze spBeats:=ok_beats G6.F G5;have DL:‹_› 4 f20 _ pzs spDeadL:=ok_deadL G20.F G7 (ok_dead G7.F G6 BO);have TF:‹_› 11 f22 _ pzk (spTabF 140 lpW lqW 278 lpC lqC):=ok_tabF G22.F T ↥0 CK G15 (ok_spread G15.F T T2 G9 FO G10 ST G3) G20 DL G21 (ok_tabBy G21.F T G3 G2 G16) G19;have TY:‹_› 11 f24 _ pzz (spTreeBy l.prog w K mg base 140 lpW lqW 278 lpC lqC):=ok_treeBy G24.F T CK G19 G23 (ok_treeF G23.F m16);have TN:‹_› 12 f25 _ pza (k7 140 lpW lqW 278 lpC lqC 344):=ok_tabForN F25 wc2 wh2 hB T ⟨_,i1⟩ ↥0 ↥0 ↥0 G13 (ok_cases G13.F G9 FO G1) G22 TF G24 TY G20 DL;have W:‹_› 4 f30 _ pzb spRgT:=ok_wyT G30.F T T2 G29 (ok_stT G29.F T G28 G27) G2 G3;have R:‹_› 5 f31 _ pzb spRgT:=ok_rgT G31.F T T3 G30 W G2 G3;have LI:‹_› 8 f36 _ pzb pQ:=ok_leavesIn G36.F T ⟨_,i2⟩ G4 (ok_first G4.F T) G33 (ok_ctT G33.F T m17 G32 G28 G27) G35 (ok_sides G35.F G17) G34 (ok_lfT G34.F T m17 G32 G31 R);have SH:‹_› 9 f38 _ pzb spShownD:=ok_shownD G38.F T G36 LI G37 (ok_isRightD G37.F G7 (ok_dead G7.F G6 BO));have SB:‹_› 2 f40 _ pzl ph:=ok_shifts G40.F T2 G16;have MP:‹_› 2 f41 _ pzr spMvP:=ok_mvP G41.F T T2 G16;have PA:‹_› 8 f39 _ pza (spParts 140 lpW lqW):=ok_parts G39.F T T2 G15 (ok_spread G15.F T T2 G9 FO G10 ST G3) G3 G2;have SY:‹_› 13 f43 _ pzd (spStay 140 lpW lqW 278 lpC lqC 344):=ok_stay G43.F T T2 ⟨_,i1⟩ ↥0 ↥0 ↥0 G25 TN G39 PA G42 (ok_heldF G42.F G40 SB G41 MP) G22 TF;have FW:‹_› 13 f47 _ pzd (spFew 140 lpW lqW 278 lpC lqC 344 387 409):=ok_few F47 wc4 wh4 hB T ⟨_,i1⟩ ↥0 ↥0 ↥0 ↥0 ↥0 ↥0 ↥0 ↥0 ↥0 ↥0 G25 TN G39 PA G45 (ok_heldM G45.F G40 SB G41 MP G44 (ok_common F44 wc3 wh3 hB T2)) G22 TF G46 (ok_othI G46.F T T2);have AK:‹_› 2 f54 _ pzi spAllK:=ok_allK G54.F G53;have IN:‹_› 10 f57 _ pzm spIsN:=ok_isN G57.F T G38 SH;have ON:‹_› 13 f59 _ pzC (spOthN 140 lpW lqW 278 lpC lqC 344):=ok_othN G59.F T T2 m15 G49 (ok_pinned G49.F T T2 ⟨_,i3⟩ G48 G16 G26) G57 IN G25 TN;have RG:‹_› 14 f61 _ pzD (spRgt9 140 lpW lqW 278 lpC lqC 344 387 409):=ok_rgt9 G61.F T T2 ↥0 ↥0 ↥0 ↥0 ↥0 ↥0 G43 SY G47 FW G25 TN G57 IN G58 (ok_fit9 G58.F T G54 AK) G59 ON G54 AK G60 (ok_bst9 G60.F T T2);exact ok_law F62 T T2 G51 (ok_box G51.F T T2 G50) G55 (ok_net9 G55.F T T2 G52) G56 (ok_tab9 G56.F T T2 G52) G61 RG
def walk {l:PySem.W.OpenLaw}{q:aX}{d:DefRec}{K:Params→au}(hn:l.most=some 63)(hdf:d.params.defaults=[])
  (hY:∀(w:bz) (h:bO),YP w h→(K w.params).In h∧∀T∈([140,278,344,387,409]:List aq),h.get? T=some (PySem.W.tabObj #[])) (hC:∀w:bz,∀T∈([140,278,344,387,409]:List aq),∃c,dg (K w.params) c T=true) (hN:∀w:bz,PySem.W.noTabs (K w.params)=true)
  (F:∀ (w:bz) (mg:Str→Option af) (fa:aq) (h:bO),(K w.params).In h→h.Ns bL mg→mg d.name=some (.ref fa) →
   ∃ fd:bg,(∀ (s:ay) (u:af),BindsTo s fd ⟨[u],[]⟩ [("_law_script",u)])∧∀ base:bO,(K w.params).In base→base.Ns bL mg→BM mg base→cJ l.prog w (K w.params) mg base CX0 15 fa fd ["_law_script"] (spLawTs [140,278,344,387,409] (K w.params))) :
  PySem.W.WalkO q loose XP YP l.row.toRowW d [] (λf vs=>PySem.call f vs) :=
 L2.walk_ofTs (n:=63) (k:=15) (x := "_law_script") (Ts:=[140,278,344,387,409]) (CX:=λ_=>CX0) (sp:=λw=>spLawTs [140,278,344,387,409] (K w.params)) hn ↥0 hdf ⟨rfl,↥0,↥0⟩ hY hC hN F (λ_ _ a ns hl hT hS=>⟨a,ns,rfl,hS,hT,λ_=>rfl⟩) λ_ _ _ _ _ z=>z
end HN
set_option maxHeartbeats 0 in
theorem PySem.Challenge.cw_hourtable_k92_whole_changes_holds : PySem.Challenge.rw_hourtable_k92_whole_changes.Holds := by
 apply HN.head0 ?_ HN.leftA;intro q loose XP YP d K hdf hd h0 h1 h2 Fc;exact HN.walk (l:=fX) rfl hdf h0 h1 h2 fun w mg fa h KX G hmg=>HN.all_mk KX G (by rw [hd] at hmg;exact hmg) (Fc w)
