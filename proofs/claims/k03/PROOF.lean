import PyProof.Rows.All
import KE.KIsAll
import OpenK.KMore
import KE.LcSums
import KE.KBools
import KE.KxBytes
import KE.RegKIsAll
import Lean
import PyProof.EqAt
import PyProof.EqKinds
import PyProof.TupleCall
import KE.KIntText
import OpenK.KOwn
import PyProof.NsDelKeeps
import PyProof.StrLawsTight
import PyProof.StrLawsChain
import PyProof.StrLawsReplace
import PyProof.MeetsStr3
import PyProof.StrLawsFirst
import PyProof.StrLawsIn
import PyProof.StrOps2
import PyProof.ExcArgs
import KE.RegKIsAll
import Wide.FinOn
import KE.KLam
import KE.KNestM
import PySem.Challenge.RW_hourtable_k03_texts_of_no_net
set_option Elab.async false
set_option linter.all false
set_option maxRecDepth 100000
set_option bootstrap.genMatcherCode false
open PySem renaming Value → aa, Shared → ai, Addr → aj, sizeLine → ax, mainGlobals → aF, wpAny_bind → aJ, Program → aP, starEach → aQ, model → aX, FuncData → aY, wpAny → ba, Heap → bg, World → bj, mem_of_lookup → bt, NameKind → bA, boot_len → bK, wpAny_mono → bN, Around → bO, wpAny_pure → cg, Stmt → cE, Str → cO, wpAny_truthy_bool → cS, Spec → cZ, binaryOp → dJ, compareOp → dQ, eval → dW, intText? → dZ, wpAny_Call_Name_kw → d4, foldedSetIterable → eo, bootBuiltins → er, wpAny_holding → eO, sliceBounds → eS, lookup_relabel_local → eV, wpAny_passesOwn → eX, letOwnedTupleGo → fc, importedModules → fe, Builtin → fu
open List renaming length_map → af, length_singleton → ao, length_append → aq, mem_cons → aw, mem_singleton → ay, mem_append → az, size_toArray → aC, mem_append_right → aE, map_append → aK, not_mem_nil → aL, length_cons → aN, getElem?_map → aS, mem_cons_of_mem → aT, mem_of_getElem? → aZ, getElem?_eq_some_iff → bh, length_take → bq, mem_of_mem_take → bD, lookup_cons → bX, length → bY, take_length → ck, mem_cons_self → cm, mem_of_mem_drop → cu, map_cons → cH, all_eq_true → cK, mem_map → cQ, mem_append_left → cR, mem_filterMap → c9, getElem?_eq_none → df, getElem?_of_mem → dv, getElem?_append_right → dw, getD_eq_getElem?_getD → dz, length_drop → dE, take_add_one → d0, map_map → d2, getElem_mem → eg, getElem_toArray → eD, filterMap_cons → eM, getElem?_append_left → fi, nodup_cons → fW
open PySem.W renaming Frag → ah, kitOne → aO, nsIn → aV, mg_none_of → bz, mg_of → bF, kia_one → bT, hideAll → cv, fnOf → cW, keepIn → dY, mroIn → d7
open PySem.Heap renaming get?_push_of_some → ar, lt_size → au, get?_push_size → aW, get?_update_other → cF
open PySem.Txt renaming split → aD, join → bV
open Option.some renaming inj → aG
open Nat renaming lt_of_lt_of_le → aH, le_refl → aI, le_trans → aR, ne_of_lt → bu, lt_irrefl → bW, zero_le → cc, le_succ → eJ
open Bool renaming false_ne_true → aM, and_eq_true → bf, eq_false_iff → bI, eq_iff_iff → dU
open PySem.F renaming plainAttrs_str → bb, type_str_join → cI, slot_str_join → cJ, type_str_split → cX, slot_str_split → cY
open PySem.Builtin.Str renaming occurrences → bo, partsBetween → cb
open PySem.Str renaming empty → bp, join → bw, length → dD
open List.cons renaming inj → bJ, injEq → dF
open Int renaming emod_lt_of_pos → bL, emod_nonneg → cf, eq_ofNat_of_zero_le → fO
open PyProof.Rows renaming boot_isinstance → bP, callWith_type1 → d9
open PySem.StrLaws renaming glued_eq_join → bR, join_split → dN, join_length_le → dX
open Option renaming map_eq_some_iff → b9
open False renaming elim → cw
open PySem.Challenge renaming rw_hourtable_k03_texts_of_no_net → cA
open PySem.W.Fast renaming te14364793385576792824 → dh, te14289696077712309145 → di, te14082659384304107361 → dj, te10274390034422433532 → dk, te1435165496053646825 → du, te4187177175401517315 → fU
open Array renaming getElem?_eq_some_iff → dt, toList_append → eK
open PySem.Obj renaming mapFields → dR
open PySem.Calls renaming spliced_cons → dS
noncomputable section
abbrev iE:=@if_neg
abbrev iF:=@if_pos
abbrev iG:=@absurd
abbrev iH:=@decide_eq_true
abbrev iI:=@decide_eq_false
abbrev iJ:=@of_decide_eq_true
abbrev iK:=@congrArg
set_option maxHeartbeats 4000000
theorem gE {α:Type}{l:List α}{i:Nat}(h:i<l.length):l[i]? =some l[i]:=List.getElem?_eq_getElem h
variable {A:bO}{B base h h':bg}{C a f f1 f2:aj}{E W:aa→ai→Prop}{K:ah}{M:PySem.Model}{N fr loose ps rs ws zs:List PySem.Str}{P prog q:aP}{Q:Unit→ai→Prop}{T:String}{XP:(PySem.Str→Option aa)→bg→Prop}{YP:bj→bg→Prop}{ak more pins':List (aj×PySem.Obj)}{apos cpos p p2 pos pos':PySem.Pos}{b i lo m:Int}{body:List cE}{c j k t':Nat}{ch ex fp:List aj}{d':PySem.Drawn}{dct:Option aj}{e elt iter l tg:PySem.Expr}{env:PySem.Env}{es ifs:List PySem.Expr}{fd fd1 fd2:aY}{g':Array PySem.GenState}{its us:List aa}{js:List Nat}{mA mg:PySem.Str→Option aa}{name qual x y z:PySem.Str}{ns:List Int}{od:Option PySem.Obj}{op:PySem.CmpOp}{osl:Array (Option aa)}{outer:List PySem.Env}{ox:PySem.Obj}{s s':ai}{scope:PySem.Scope}{sp sp':List (List Int)}{st:cE}{u:aa}{w:bj}{α:Type}
namespace L2
open PySem PySem.Spec PyProof.Rows
def gc (s:cE):Arguments:=match s with
 | .FunctionDef _ a _ _ _ _ _ _ _ _=>a
 | _=>{ posonlyargs:=[],args:=[],vararg:=none,kwonlyargs:=[],kw_defaults:=[],kwarg:=none,defaults:=[] }
def fq (s:cE):List cE:=match s with
 | .FunctionDef _ _ b _ _ _ _ _ _ _=>b
 | _=>[]
def defScope (s:cE):Scope:=match s with
 | .FunctionDef _ _ _ _ _ _ sc _ _ _=>sc
 | _=>{ kind:= .function,names:=[],isGenerator:=false,isCoroutine:=false }
end L2
namespace HN
open PySem L2 PyProof.Rows
def top (i:Nat):cE:=PySem.Challenge.pw_hourtable_k03_texts_of_no_net.main.body.getD i (.Pass ⟨0,0,0,0⟩)
structure Df (K:ah)(x:Str)(st:cE)(f:aj):Prop where
 n:aV K aF x=some (some (.ref f))
 l:∃ (oc:aa) (od an:Option aj) (sl:Array (Option aa)) (kV dc pm cd ct:aa),K.lookup f=some ⟨oc,od,.func (cW x x (gc st) (fq st) (defScope st) .none kV dc pm an cd ct),sl⟩∧PySem.W.codeIn K cd x=true∧dY K (.ref f)=true
def Facts (K:ah):Prop:=∀ C:Prop,(∀ {f1 f2 f3 f4 f5 f6 f7 f8 f9 f10 f11 f12 f13 f14 f15 f16 f17 f18 f19 f20 f21 f22:aj} {t1 t2 t3 t4 t5:Tok} {x1 x2 xa xb xd xe xf xg:aj},(Df K "greatest_whole" (top 12) f1) →
 (Df K "is_whole" (top 13) f2) →
 (Df K "is_within" (top 14) f3) →
 (Df K "are_ends" (top 21) f4) →
 (Df K "are_lengths" (top 22) f5) →
 (Df K "is_span" (top 23) f6) →
 (Df K "is_net" (top 24) f7) →
 (Df K "_law_cell_at" (top 31) f8) →
 (Df K "_law_pot" (top 32) f9) →
 (Df K "_law_take" (top 33) f10) →
 (Df K "_law_span" (top 34) f11) →
 (Df K "_law_net" (top 35) f12) →
 (Df K "is_numeral" (top 15) f13) →
 (Df K "read_whole" (top 16) f14) →
 (Df K "show_net" (top 26) f15) →
 (Df K "read_head" (top 27) f16) →
 (Df K "read_span" (top 28) f17) →
 (Df K "read_net" (top 29) f18) →
 (Df K "_law_bent_row" (top 36) f19) →
 (Df K "_law_bent" (top 37) f20) →
 (Df K "_law_refused" (top 38) f21) →
 (Df K "law" (top 39) f22) →
 (aV K aF "MOST_HAPPENINGS" =some (some (.int 16 t1))) →
 (aV K aF "MOST_SPANS" =some (some (.int 40 t2))) →
 (aV K aF "MOST_WEIGHT" =some (some (.int 1000000000000 t3))) →
 (aV K aF "FIGURES" =some (some (.str "0123456789" t4))) →
 (aV K aF "MOST_FIGURES" =some (some (.int 60 t5))) →
 (aV K aF "isinstance" =some none) →
 (aV K aF "int" =some none) →
 (aV K aF "bool" =some none) →
 (aV K aF "tuple" =some none) →
 (aV K aF "len" =some none) →
 (aV K aF "min" =some none) →
 (aV K aF "all" =some none) →
 (aV K aF "range" =some none) →
 (aV K aF "str" =some none) →
 (aV K aF "list" =some none) →
 (aV K aF "ValueError" =some none) →
 (aV K aF "HourError" =some (some (.ref x1))) →
 (PySem.W.excIn K x1 [.type "ValueError",.type "Exception",.type "BaseException",.type "object"] "ValueError.__new__" =true) →
 (aV K aF "NoText" =some (some (.ref x2))) →
 (PySem.W.excIn K x2 [.type "ValueError",.type "Exception",.type "BaseException",.type "object"] "ValueError.__new__" =true) →
 (PySem.W.findIn K (.ref x2) "__getattribute__" =some (some (.builtin "BaseException.__getattribute__"))) →
 (PySem.W.findIn K (.ref x2) "__getattr__" =some none) →
 (PySem.W.findIn K (.ref x2) "__class__" =some (some (.builtin "object.__class__"))) →
 (PySem.W.specialIn K (.builtin "object.__class__") "__get__" =some (some (.builtin "getset_descriptor.__get__"))) →
 (PySem.W.takesIn K (.builtin "object.__class__")=some true) →
 (d7 K x2 (.type "object")=some true) →
 (d7 K x2 (.type "BaseException")=some true) →
 (PySem.W.hasDictIn K x2=true) →
 (d7 K x2 (.ref x1)=some true) →
 (aV K aF "NoOrder" =some (some (.ref xa))) →
 (aV K aF "NoPlan" =some (some (.ref xb))) →
 (aV K aF "NoWay" =some (some (.ref xd))) →
 (aV K aF "OtherBeats" =some (some (.ref xe))) →
 (aV K aF "TooGreat" =some (some (.ref xf))) →
 (aV K aF "TooWide" =some (some (.ref xg))) →
 (aO K (.ref x2) (.type "ValueError")=some true) →
 (aO K (.ref x2) (.ref xa)=some false) →
 (aO K (.ref x2) (.ref xb)=some false) →
 (aO K (.ref x2) (.ref xd)=some false) →
 (aO K (.ref x2) (.ref xe)=some false) →
 (aO K (.ref x2) (.ref xf)=some false) →
 (aO K (.ref x2) (.ref xg)=some false)→C)→C
def Wp:Prop:=∀ {q:aP} {loose:List Str} {XP:(Str→Option aa)→bg→Prop} {YP:bj→bg→Prop} {d:DefRec} {K:Params→ah},d.params.defaults=[]→d.name = "law" →(∀ (w:bj) (h:bg),YP w h→(K w.params).In h)→(∀ w:bj,Facts (K w.params))→PySem.W.WalkO q loose XP YP (cA).row.toRowW d [] (fun f vs=>PySem.call f vs)
end HN
section
open PySem PySem.W PyProof.Rows
def HN.seenOf:aP:={ PySem.Challenge.pw_hourtable_k03_texts_of_no_net with main:={ PySem.Challenge.pw_hourtable_k03_texts_of_no_net.main with body:=[1,2,3,4,5,6,7,8,10,11,12,13,14,15,16,18,19,20,21,22,23,24,26,27,28,29,31,32,33,34,35,36,37,38,39].map HN.top } }
def HN.isSeen (s:ai):Bool:=xlAt HN.seenOf [] s && recOk (RowW.records (OpenRow.toRowW (OpenLaw.row cA))) s
local macro_rules
 | `(tactic| o_head $H:term) => `(tactic| (refine holds_open (q := HN.seenOf) (loose := []) (XP := XL HN.seenOf []) (Xt := HN.isSeen) (Yf := Hook.obs $H) (Ya := Hook.val $H) (YP := Hook.says $H) (N := 5132) ?_ (Hook.of $H) (Hook.keeps $H) (fun s e => xl_of s (Bool.and_eq_true_iff.mp e).1) XL.keeps (by rfl) (by rfl) (by rfl) (fun s e => recFacts_of (Bool.and_eq_true_iff.mp e).2) ?_ ?_ ?_ ?_ ?_ ?_))
theorem HN.left_two {σ β:Type}{e:Option σ}{f:σ→α}{g:σ→β}{a:α}{b:β}(h1:e.map f=some a)(h2:e.map g=some b):e.map (fun s=>(f s,g s))=some (a,b):=by
 cases e with
 | none=>cases h1
 | some s=>injection h1 with h1;injection h2 with h2;show some (f s,g s)=_;rw [h1,h2]
theorem HN.left_pr {σ β:Type}{e:Option σ}{f:σ→α×β}{a:α×β}(h1:e.map (fun s=>(f s).1)=some a.1)(h2:e.map (fun s=>(f s).2)=some a.2):e.map f=some a:=by
 cases e with
 | none=>cases h1
 | some s=>injection h1 with h1;injection h2 with h2;exact iK some (Prod.ext h1 h2)
set_option maxRecDepth 100000 in
set_option maxHeartbeats 0 in
theorem HN.head0 (W:HN.Wp)(Lf:∀ w:bj,(openEnds treeTable PySem.Challenge.rw_hourtable_k03_texts_of_no_net.row.prog w 5132).map (openSeen HN.seenOf [] (fe PySem.Challenge.rw_hourtable_k03_texts_of_no_net.row.prog.main.body) HN.isSeen true)=some (openGood HN.seenOf [])):PySem.Challenge.rw_hourtable_k03_texts_of_no_net.Holds:=by
 w_on;refine holds_law (by decide +kernel) fun said=>?_;k_head
 ·exact fun w=>HN.left_two (Lf w) (by unfold openEnds fencedOpening topFrom;rewrite [dk,di,dh,du,dj];kernel_rfl)
 ·rfl
 ·assumption
 ·decide +kernel
 ·exact ⟨rfl,rfl,rfl,rfl,rfl,by decide +kernel⟩
 ·w_witness2
 k_fill
 refine W rfl rfl (fun w h Y=>PySem.W.kIn_of Y) ?F
 case F =>
  intro w C k;refine' k ?_ ?_ ?_ ?_ ?_ ?_ ?_ ?_ ?_ ?_ ?_ ?_ ?_ ?_ ?_ ?_ ?_ ?_ ?_ ?_ ?_ ?_ ?y1 ?y2 ?y3 ?y4 ?y5 ?z1 ?z2 ?z3 ?z4 ?z5 ?z6 ?z7 ?z8 ?z9 ?z10 ?z11 ?w1 ?w2 ?w3 ?w4 ?w5 ?w6 ?w7 ?w8 ?w9 ?w10 ?w11 ?w12 ?w13 ?w14 ?w15 ?w16 ?w17 ?w18 ?w19 ?w20 ?w21 ?w22 ?w23 ?w24 ?w25 ?w26
  all_goals first | exact ⟨by k_is,_,_,_,_,_,_,_,_,_,by k_is,by k_is,by k_is⟩ | skip
  (case y1=>k_is);(case y2=>k_is);(case y3=>k_is);(case y4=>k_is);(case y5=>k_is);(case z1=>k_is);(case z2=>k_is);(case z3=>k_is);(case z4=>k_is);(case z5=>k_is);(case z6=>k_is);(case z7=>k_is);(case z8=>k_is);(case z9=>k_is);(case z10=>k_is);(case z11=>k_is)
  (case w1=>k_is)
  (case w2=>k_exc)
  (case w3=>k_is)
  (case w4=>k_exc)
  (case w5=>k_is)
  (case w6=>k_is)
  (case w7=>k_is)
  (case w8=>k_is)
  (case w9=>k_is)
  (case w10=>k_is)
  (case w11=>k_is)
  (case w12=>k_is)
  (case w13=>k_is)
  (case w14=>k_is)
  (case w15=>k_is)
  (case w16=>k_is)
  (case w17=>k_is)
  (case w18=>k_is)
  (case w19=>k_is)
  (case w20=>kit_is)
  (case w21=>kit_is)
  (case w22=>kit_is)
  (case w23=>kit_is)
  (case w24=>kit_is)
  (case w25=>kit_is)
  (case w26=>kit_is)
set_option maxHeartbeats 0 in
theorem HN.left1 (w:bj):(openEnds treeTable PySem.Challenge.rw_hourtable_k03_texts_of_no_net.row.prog w 5132).map (fun s=>(openSeen HN.seenOf [] (fe PySem.Challenge.rw_hourtable_k03_texts_of_no_net.row.prog.main.body) HN.isSeen true s).1)=some (openGood HN.seenOf []).1:=by
 unfold openEnds fencedOpening topFrom;rewrite [dk,di,dh,du,dj,fU];kernel_rfl
set_option maxHeartbeats 0 in
theorem HN.left2 (w:bj):(openEnds treeTable PySem.Challenge.rw_hourtable_k03_texts_of_no_net.row.prog w 5132).map (fun s=>(openSeen HN.seenOf [] (fe PySem.Challenge.rw_hourtable_k03_texts_of_no_net.row.prog.main.body) HN.isSeen true s).2)=some (openGood HN.seenOf []).2:=by
 unfold openEnds fencedOpening topFrom;rewrite [dk,di,dh,du,dj,fU];kernel_rfl
theorem HN.leftA (w:bj):(openEnds treeTable PySem.Challenge.rw_hourtable_k03_texts_of_no_net.row.prog w 5132).map (openSeen HN.seenOf [] (fe PySem.Challenge.rw_hourtable_k03_texts_of_no_net.row.prog.main.body) HN.isSeen true)=some (openGood HN.seenOf []):=HN.left_pr (f:=openSeen HN.seenOf [] (fe PySem.Challenge.rw_hourtable_k03_texts_of_no_net.row.prog.main.body) HN.isSeen true) (HN.left1 w) (HN.left2 w)
end
namespace L2
open PySem PySem.Spec PyProof.Rows
abbrev Key:=Sum Int Str
def keyIs:Key→aa→Bool
 | .inl k,v=>aa.isInt k v
 | .inr x,v=>aa.isStrOf x v
def keyH (w:bj):Key→Int
 | .inl k=>hashInt k
 | .inr x=>hashStr w x
theorem cV:∀ {k:Key} {v:aa},keyIs k v=true→(∃ i t,k=Sum.inl i∧v=aa.int i t)∨(∃ x t,k=Sum.inr x∧v=aa.str x t)
 | .inl i,v,h=>by
  obtain ⟨t,e⟩:=aa.isInt_shape (k:=i) (v:=v) h;exact .inl ⟨i,t,rfl,e⟩
 | .inr x,v,h=>by
  obtain ⟨t,e⟩:=aa.isStrOf_shape (x:=x) (v:=v) h;exact .inr ⟨x,t,rfl,e⟩
theorem key_ll (a b:Int):decide ((Sum.inl a:Key)=Sum.inl b)=(a == b):=by
 by_cases e:a=b
 ·subst e;simp
 ·have h:¬ (Sum.inl a:Key)=Sum.inl b:=fun q=>e (Sum.inl.inj q)
  rw [iI h];exact (beq_eq_false_iff_ne.mpr e).symm
theorem key_rr (a b:Str):decide ((Sum.inr a:Key)=Sum.inr b)=decide (a=b):=by
 by_cases e:a=b
 ·subst e;simp
 ·have h:¬ (Sum.inr a:Key)=Sum.inr b:=fun q=>e (Sum.inr.inj q)
  rw [iI h,iI e]
theorem key_lr (a:Int)(b:Str):decide ((Sum.inl a:Key)=Sum.inr b)=false:=iI (fun q=>nomatch q)
theorem key_rl (a:Str)(b:Int):decide ((Sum.inr a:Key)=Sum.inl b)=false:=iI (fun q=>nomatch q)
def mixKind (prog:aP)(w:bj):PySem.KeyKind prog w Key where
 is:=keyIs
 hash:=keyH w
 inj:=fun v a b ha hb=>by
  rcases cV ha with ⟨i,t,rfl,rfl⟩ | ⟨x,t,rfl,rfl⟩
  ·rcases cV hb with ⟨j,u,rfl,e⟩ | ⟨y,u,rfl,e⟩
   ·injection e with e1 _;rw [e1]
   ·exact nomatch e
  ·rcases cV hb with ⟨j,u,rfl,e⟩ | ⟨y,u,rfl,e⟩
   ·exact nomatch e
   ·injection e with e1 _;rw [e1]
 byValue:=fun k v h=>by
  rcases cV h with ⟨i,t,rfl,rfl⟩ | ⟨x,t,rfl,rfl⟩ <;> rfl
 pyHash:=fun hv h=>by
  rcases cV hv with ⟨i,t,rfl,rfl⟩ | ⟨x,t,rfl,rfl⟩
  ·exact wpAny_pyHash_int h
  ·exact wpAny_pyHash_str h
 eqBool:=fun hu hv h=>by
  rcases cV hu with ⟨i,t,rfl,rfl⟩ | ⟨x,t,rfl,rfl⟩
  ·rcases cV hv with ⟨j,u,rfl,rfl⟩ | ⟨y,u,rfl,rfl⟩
   ·rw [key_ll] at h;exact wpAny_eqBool_int h
   ·rw [key_lr] at h;exact SeqAt.EqAt.int_str i t y u _ _ _ _ h
  ·rcases cV hv with ⟨j,u,rfl,rfl⟩ | ⟨y,u,rfl,rfl⟩
   ·rw [key_rl] at h;exact SeqAt.EqAt.str_int x t j u _ _ _ _ h
   ·rw [key_rr] at h;exact wpAny_eqBool_str h
 «strs» := fun k x t v h=>by
  rcases cV h with ⟨i,u,rfl,e⟩ | ⟨y,u,rfl,e⟩
  ·exact nomatch e
  ·injection e with e1 _
   subst e1;cases v <;> rfl
inductive V where
 | non | bl (b:Bool) | int (i:Int) | str (x:Str) | byt (b:Array UInt8) | flt (b:UInt64) | ref (a:aj) | ty (n:String)
 deriving DecidableEq
def eC:V→aa→Prop
 | .non,u=>u=aa.none
 | .bl b,u=>u=aa.bool b
 | .int i,u=>∃ t,u=aa.int i t
 | .str x,u=>∃ t,u=aa.str x t
 | .byt b,u=>∃ t,u=aa.bytes b t
 | .flt b,u=>∃ t,u=aa.float b t
 | .ref a,u=>u=aa.ref a
 | .ty n,u=>u=aa.type n
abbrev dM:List V→List aa→Prop:=Paired eC
theorem dM.length {xs:List V}(r:dM xs us):xs.length=us.length:=Paired.length r
theorem dM.get:∀ {xs:List V} {us:List aa} {i:Nat} {x:V},dM xs us→xs[i]? =some x→∃ u,us[i]? =some u∧eC x u
 | _,_,_,_,.nil,e=>by simp at e
 | _,_,0,_,.cons r _,e=>by simp at e;subst e;exact ⟨_,rfl,r⟩
 | _,_,i+1,x,.cons _ t,e=>by
  obtain ⟨u,h1,h2⟩:=dM.get (i:=i) (x:=x) t (by simpa using e);exact ⟨u,by simpa using h1,h2⟩
theorem dM.set {x:V}{u:aa}(r:eC x u):∀ {xs:List V} {us:List aa} (i:Nat),dM xs us→dM (xs.set i x) (us.set i u)
 | _,_,_,.nil=> .nil
 | _,_,0,.cons _ t=> .cons r t
 | _,_,i+1,.cons q t=> .cons q (dM.set r i t)
theorem dM.append:∀ {xs ys:List V} {us ws:List aa},dM xs us→dM ys ws→dM (xs++ys) (us++ws)
 | _,_,_,_,.nil,s=>s
 | _,_,_,_,.cons r t,s=> .cons r (dM.append t s)
theorem dM.take:∀ {xs:List V} {us:List aa} (n:Nat),dM xs us→dM (xs.take n) (us.take n)
 | _,_,0,_=> .nil
 | _,_,_+1,.nil=> .nil
 | _,_,n+1,.cons r t=> .cons r (dM.take n t)
theorem dM.drop:∀ {xs:List V} {us:List aa} (n:Nat),dM xs us→dM (xs.drop n) (us.drop n)
 | _,_,0,r=>r
 | _,_,_+1,.nil=> .nil
 | _,_,n+1,.cons _ t=>dM.drop n t
def RelO:Option V→Option aa→Prop
 | some v,some u=>eC v u
 | none,none=>True
 | _,_=>False
def KV {κ:Type}:List (κ×V)→List (κ×aa)→Prop:=Paired fun (p:κ×V) (q:κ×aa)=>p.1=q.1∧eC p.2 q.2
def kV:Key→V
 | .inl i=> .int i
 | .inr x=> .str x
inductive HO where
 | lst (xs:List V)
 | tup (xs:List V)
 | dK (kvs:List (Key×V)) | dT (kvs:List (List Key×V))
 | set (S:Int→Bool) (n:Nat)
 | ins (C dx:aj) (fs:List (Str×V))
 | own (x:aj)
 | xd (fs:List (Str×V))
 | met (f x:aj)
 | rng (lo hi:Int)
 | frz (o:Obj) (u:HO)
 | tbl (ps:Array aa)
 | ext (φ:bg→Prop)
abbrev Hp:=aj→Option HO
def upd (H:Hp)(a:aj)(o:HO):Hp:=fun b=>if b=a then some o else H b
theorem bG {H:Hp}{o:HO}:upd H a o a=some o:=by unfold upd;rw [iF rfl]
theorem bU {H:Hp}{b:aj}{o:HO}(h:b≠a):upd H a o b=H b:=by unfold upd;rw [iE h]
theorem ne_of {H:Hp}{b:aj}{o u:HO}(h:H a=some o)(h':H b=some u)(d:o≠u):a≠b:=by
 intro e;subst e;rw [h] at h';exact d (aG h')
theorem br {H:Hp}{b:aj}{o:HO}(h:H a=some o)(h':H b=none):a≠b:=by
 intro e;subst e;rw [h] at h';cases h'
def gH (h:bg)(a:aj)(items:Array aa):Prop:=∃ o,h.get? a=some o∧o.cls= .type "tuple" ∧o.dict=none∧∃ n,o.data= .seq items n
theorem gH.tup {h:bg}{a:aj}{items:Array aa}(p:gH h a items):IsTup h a items:=let ⟨o,e,c,_,n,d⟩:=p;⟨o,e,c,n,d⟩
theorem gH.lt {items:Array aa}(p:gH h a items):a<h.objs.size:=p.tup.lt
theorem gH.new (h:bg)(items:Array aa):gH (h.push { cls:= .type "tuple",data:= .seq items }) h.objs.size items:=⟨_,aW _ rfl,rfl,rfl,_,rfl⟩
section
variable (P:aP) (w:bj)
def ee (H:Hp)(h:bg)(a:aj):HO→Prop
 | .lst xs=>xs.length≤ax∧∃ (its:List aa) (n:Nat),dM xs its∧h.get? a=some { cls:= .type "list",data:= .seq its.toArray n }
 | .tup xs=>xs.length≤ax∧∃ its:List aa,dM xs its∧gH h a its.toArray
 | .dK kvs=>kvs.length≤ax∧(a == sysModules)=false∧∃ vs,KV kvs vs∧h.DictOf (mixKind P w) a vs
 | .dT kvs=>kvs.length≤ax∧(a == sysModules)=false∧∃ xs:List (List Key×aj×aa),
   Paired (fun (p:List Key×V) (q:List Key×aj×aa)=>p.1=q.1∧H q.2.1=some (.tup (p.1.map kV))∧eC p.2 q.2.2) kvs xs ∧
   ∃ o es ep,h.get? a=some o∧o.ExactDict∧o.data= .dict es ep∧es.toList=xs.map (entryOfKey (tupleKind (mixKind P w)))∧(xs.map (·.1)).Nodup
 | .set S n=>h.SetOf (intKind P w) a S n
 | .ins C dx fs=>H dx=some (.own a)∧fs.length≤1000∧dx≠a∧h.get? a=some (PySem.W.instObj C dx) ∧
   ∃ mA,h.Ns1 dx mA∧(∀ f,RelO (fs.lookup f) (mA f))∧PySem.Within mA (fs.map (·.1))
 | .own _=>∃ o,h.get? a=some o
 | .xd fs=>∃ mA,h.Ns1 a mA∧∀ f,RelO (fs.lookup f) (mA f)
 | .rng lo hi=>∃ t u v,h.get? a=some { cls:= .type "range",data:= .fields #[.int lo t,.int hi u,.int 1 v] }
 | .frz o u=>h.get? a=some o∧ee H h a u
 | .tbl ps=>h.get? a=some { cls:= .none,data:= .fields ps }
 | .met f x=>h.get? a=some (PySem.W.methodObj (.ref f) (.ref x))
 | .ext φ=>φ h∧(∃ o,h.get? a=some o)∧∀ h1 h2:bg,φ h1→(∀ o,h1.get? a=some o→h2.get? a=some o)→φ h2
def HOk (H:Hp)(h:bg):Prop:=∀ a o,H a=some o→ee P w H h a o
end
section
variable {H H':Hp}{o:HO}
theorem ee.lt (x:ee P w H h a o):a<h.objs.size:=by
 cases o with
 | lst xs=>obtain ⟨_,_,_,_,e⟩:=x;exact au e
 | tup xs=>obtain ⟨_,_,_,p⟩:=x;exact p.lt
 | dK kvs=>obtain ⟨_,_,_,_,o,_,_,e,_⟩:=x;exact au e
 | dT kvs=>obtain ⟨_,_,_,_,o,_,_,e,_⟩:=x;exact au e
 | set S n=>obtain ⟨o,_,_,_,e,_⟩:=x;exact au e
 | ins C dx fs=>obtain ⟨_,_,_,e,_⟩:=x;exact au e
 | own y=>obtain ⟨_,e⟩:=x;exact au e
 | xd fs=>obtain ⟨_,⟨_,_,_,e,_⟩,_⟩:=x;exact au e
 | rng lo hi=>obtain ⟨_,_,_,e⟩:=x;exact au e
 | frz ob u=>obtain ⟨e,_⟩:=x;exact au e
 | tbl ps=>exact au (show h.get? a=some _ from x)
 | met f y=>exact au (show h.get? a=some _ from x)
 | ext φ=>obtain ⟨_,⟨_,e⟩,_⟩:=x;exact au e
theorem Paired.mapP {α β:Type}{F G:α→β→Prop}:∀ {l₁:List α} {l₂:List β},Paired F l₁ l₂→(∀ a b,F a b→G a b)→Paired G l₁ l₂
 | _,_,.nil,_=> .nil
 | _,_,.cons r t,f=> .cons (f _ _ r) (Paired.mapP t f)
theorem ee.stay (x:ee P w H h a o)(k:∀ b u,(b=a∨H b=some (.own a))→h.get? b=some u→h'.get? b=some u)
  (ho:∀ b,H b=some (.own a)→H' b=some (.own a)) (ht:∀ b xs,H b=some (.tup xs)→H' b=some (.tup xs)):ee P w H' h' a o:=by
 induction o with
 | lst xs=>obtain ⟨z,its,n,r,e⟩:=x;exact ⟨z,its,n,r,k _ _ (.inl rfl) e⟩
 | tup xs=>obtain ⟨z,its,r,ob,e,c⟩:=x;exact ⟨z,its,r,ob,k _ _ (.inl rfl) e,c⟩
 | dK kvs=>obtain ⟨z,y,vs,r,ob,es,ep,e,c⟩:=x;exact ⟨z,y,vs,r,ob,es,ep,k _ _ (.inl rfl) e,c⟩
 | dT kvs =>
  obtain ⟨z,y,xs,r,ob,es,ep,e,c⟩:=x;exact ⟨z,y,xs,Paired.mapP r fun p q z=>⟨z.1,ht _ _ z.2.1,z.2.2⟩,ob,es,ep,k _ _ (.inl rfl) e,c⟩
 | set S n=>obtain ⟨ob,es,ep,t,e,c⟩:=x;exact ⟨ob,es,ep,t,k _ _ (.inl rfl) e,c⟩
 | ins C dx fs =>
  obtain ⟨d,z,ne,e,mA,⟨od,es,ep,e2,c⟩,r⟩:=x;exact ⟨ho _ d,z,ne,k _ _ (.inl rfl) e,mA,⟨od,es,ep,k _ _ (.inr d) e2,c⟩,r⟩
 | own y=>obtain ⟨ob,e⟩:=x;exact ⟨ob,k _ _ (.inl rfl) e⟩
 | xd fs=>obtain ⟨mA,⟨od,es,ep,e,c⟩,r⟩:=x;exact ⟨mA,⟨od,es,ep,k _ _ (.inl rfl) e,c⟩,r⟩
 | rng lo hi=>obtain ⟨t,u,v,e⟩:=x;exact ⟨t,u,v,k _ _ (.inl rfl) e⟩
 | frz ob u ih=>obtain ⟨e,q⟩:=x;exact ⟨k _ _ (.inl rfl) e,ih q⟩
 | tbl ps =>
  have e:h.get? a=some { cls:= .none,data:= .fields ps }:=x;show h'.get? a=some { cls:= .none,data:= .fields ps };exact k a _ (.inl rfl) e
 | met f y =>
  have e:h.get? a=some (PySem.W.methodObj (.ref f) (.ref y)):=x;show h'.get? a=some (PySem.W.methodObj (.ref f) (.ref y));exact k a _ (.inl rfl) e
 | ext φ=>obtain ⟨p,⟨o,e⟩,st⟩:=x;exact ⟨st _ _ p fun o q=>k _ _ (.inl rfl) q,⟨o,k _ _ (.inl rfl) e⟩,st⟩
theorem HOk.lt (x:HOk P w H h)(e:H a=some o):a<h.objs.size:=(x a o e).lt
theorem HOk.fresh (x:HOk P w H h)(e:h.objs.size≤a):H a=none:=by
 cases q:H a with
 | none=>rfl
 | some u=>exact iG (aH (x.lt q) e) (bW _)
theorem HOk.kept (x:HOk P w H h)(k:∀ b u,h.get? b=some u→h'.get? b=some u):HOk P w H h':=fun a o e =>
 (x a o e).stay (fun b u _ q=>k b u q) (fun _ q=>q) fun _ _ q=>q
theorem HOk.laid (x:HOk P w H h)(k:∀ b u,h.get? b=some u→h'.get? b=some u)(hp:h.objs.size≤a)(new:ee P w (upd H a o) h' a o):HOk P w (upd H a o) h':=fun b u e=>by
 have hn:=x.fresh hp
 by_cases hb:b=a
 ·subst hb;rw [bG] at e;cases e;exact new
 ·rw [bU hb] at e
  exact (x b u e).stay (fun c v _ q=>k c v q) (fun c q=>by rw [bU (br q hn)];exact q) fun c xs q=>by rw [bU (br q hn)];exact q
end
def Rd (H:Hp)(a:aj)(u:HO):Prop:=H a=some u∨∃ o,H a=some (.frz o u)
theorem Rd.ok {H:Hp}{u:HO}(r:Rd H a u)(x:HOk P w H h):ee P w H h a u:=by
 rcases r with r | ⟨o,r⟩
 ·exact x a u r
 ·obtain ⟨_,q⟩:=x a _ r
  exact q
def Mut:Option HO→Prop
 | some (.lst _)=>True
 | some (.dK _)=>True
 | some (.dT _)=>True
 | some (.set _ _)=>True
 | some (.ins _ _ _)=>True
 | some (.ext _)=>True
 | _=>False
section
variable {H:Hp}{x e:aj}{o':HO}
theorem HOk.write (ok:HOk P w H h)(mu:Mut (H x))(he:e=x∨H e=some (.own x))(k:∀ b u,b≠e→h.get? b=some u→h'.get? b=some u)(heo:∃ u,h'.get? e=some u)
  (new:ee P w (upd H x o') h' x o'):HOk P w (upd H x o') h':=fun b u q=>by
 have nown:∀ c y,H c=some (.own y)→c≠x:=fun c y r z=>by subst z;rw [r] at mu;exact mu
 have ntup:∀ c xs,H c=some (.tup xs)→c≠x:=fun c xs r z=>by subst z;rw [r] at mu;exact mu
 by_cases hb:b=x
 ·subst hb;rw [bG] at q;cases q;exact new
 ·rw [bU hb] at q
  by_cases hbe:b=e
  ·have q':H b=some (.own x):=by
    rcases he with z | z
    ·exact iG (hbe.trans z) hb
    ·rw [hbe];exact z
   rw [q] at q';cases q';obtain ⟨v,hv⟩:=heo;exact ⟨v,by rw [hbe];exact hv⟩
  ·refine (ok b u q).stay (fun c v hc r=>k c v ?_ r) (fun c r=>by rw [bU (nown c b r)];exact r) fun c xs r=>by rw [bU (ntup c xs r)];exact r
   rcases hc with rfl | hc
   ·exact hbe
   ·rintro rfl
    rcases he with z | z
    ·exact nown c b hc z
    ·rw [hc] at z;cases z;exact hb rfl
end
structure Un (fs ex:List aj)(H H':Hp)(h h':bg):Prop where
 keep:∀ b o,h.get? b=some o→H b=none→b ∉ fs→b ∉ ex→h'.get? b=some o
 slot:∀ b o,h.get? b=some o→H b=none→b∈fs→b ∉ ex→∃ sl,h'.get? b=some { o with slots:=sl }
 free:∀ b o,h.get? b=some o→H b=none→b ∉ ex→H' b=none
 there:∀ b o,h.get? b=some o→b ∉ ex→∃ o',h'.get? b=some o'
 tups:∀ b xs,H b=some (.tup xs)→H' b=some (.tup xs)
 frzs:∀ b o u,H b=some (.frz o u)→H' b=some (.frz o u)
 tbls:∀ b ps,H b=some (.tbl ps)→∃ more,H' b=some (.tbl (ps++more))
section
variable {fs fs' ex':List aj}{H H1 H2:Hp}{h1 h2:bg}{x e:aj}{o:HO}
theorem Un.any (u:Un fs ex H H1 h h1){b:aj}{ob:Obj}(q:h.get? b=some ob)(n:H b=none)(hx:b ∉ ex):∃ sl,h1.get? b=some { ob with slots:=sl }:=by
 by_cases hb:b∈fs
 ·exact u.slot b ob q n hb hx
 ·exact ⟨ob.slots,u.keep b ob q n hb hx⟩
theorem Un.kept (k:∀ b u,h.get? b=some u→h'.get? b=some u):Un fs ex H H h h' :=
 ⟨fun b ob q _ _ _=>k b ob q,fun b ob q _ _ _=>⟨ob.slots,k b ob q⟩,fun _ _ _ n _=>n,fun b ob q _=>⟨ob,k b ob q⟩,fun _ _ q=>q,fun _ _ _ q=>q,fun _ ps q=>⟨#[],by rw [q];simp⟩⟩
theorem Un.refl:Un fs ex H H h h:=Un.kept fun _ _ q=>q
theorem Un.laid (k:∀ b u,h.get? b=some u→h'.get? b=some u)(hp:h.objs.size≤a)(hn:H a=none):Un fs ex H (upd H a o) h h' where
 keep:=fun b u q _ _ _=>k b u q
 slot:=fun b u q _ _ _=>⟨u.slots,k b u q⟩
 free:=fun b u q n _=>by rw [bU (bu (aH (au q) hp))];exact n
 there:=fun b u q _=>⟨u,k b u q⟩
 tups:=fun b xs q=>by rw [bU (br q hn)];exact q
 frzs:=fun b u xs q=>by rw [bU (br q hn)];exact q
 tbls:=fun b ps q=>⟨#[],by rw [bU (br q hn),q];simp⟩
theorem Un.write (mu:Mut (H x))(he:e=x∨H e=some (.own x))(k:∀ b u,b≠e→h.get? b=some u→h'.get? b=some u)(heo:∃ u,h'.get? e=some u):Un fs ex H (upd H x o) h h':=by
 have hx:∀ b,H b=none→b≠x:=fun b n z=>by subst z;rw [n] at mu;exact mu
 have hb:∀ b,H b=none→b≠e:=fun b n z=>by
  subst z
  rcases he with r | r
  ·exact hx b n r
  ·rw [n] at r;cases r
 have hm:∀ b u,H b=some u→¬ Mut (some u)→b≠x:=fun b u q nm z=>by subst z;rw [q] at mu;exact nm mu
 refine ⟨fun b u q n _ _=>k b u (hb b n) q,fun b u q n _ _=>⟨u.slots,k b u (hb b n) q⟩,fun b u q n _=>by rw [bU (hx b n)];exact n,fun b u q _=>?_,
  fun b xs q=>by rw [bU (hm b _ q fun z=>z)];exact q,fun b u xs q=>by rw [bU (hm b _ q fun z=>z)];exact q,fun b ps q=>⟨#[],by rw [bU (hm b _ q fun z=>z),q];simp⟩⟩
 by_cases hbe:b=e
 ·subst hbe;exact heo
 ·exact ⟨u,k b u hbe q⟩
end
def trk (h:bg)(H:Hp):List aj:=(List.range h.objs.size).filter fun a=>(H a).isSome
def hidT (h:bg)(H:Hp):bg:=cv h (trk h H)
theorem hidT_size (h:bg)(H:Hp):(hidT h H).objs.size=h.objs.size:=PySem.W.hideAll_size _ _
theorem hidT_get {H:Hp}{b:aj}{o:Obj}(e:h.get? b=some o)(n:H b=none):(hidT h H).get? b=some o :=
 PySem.W.hideAll_get _ e fun hm=>by
  have q:(H b).isSome=true:=(List.mem_filter.mp hm).2;rw [n] at q;simp at q
theorem of_hidT {H:Hp}{b:aj}{o:Obj}(e:(hidT h H).get? b=some o):h.get? b=some o∧H b=none:=by
 have e':h.get? b=some o:=PySem.W.of_hideAll (trk h H) e;refine ⟨e',?_⟩;cases q:H b with
 | none=>rfl
 | some x =>
  have hm:b∈trk h H:=List.mem_filter.mpr ⟨List.mem_range.mpr (au e'),by simp [q]⟩;have z:(hidT h H).get? b=none:=PySem.W.hideAll_none (trk h H) hm;rw [z] at e;cases e
structure Mod (K:ah)(mg:Str→Option aa)(base:bg):Prop where
 kin:K.In base
 glob:base.Ns aF mg
 blt:∃ mb,base.Ns builtinsNs mb∧∀ x:Str,x ≠ "__name__" →mb x=er x
 nolimit:base.NoLimit
structure Cx where
 prog:aP
 w:bj
 K:ah
 mg:Str→Option aa
 base:bg
 A:bO
 N:List Str
 s₀:ai
 H₀:Hp
 env:Env
 outer:List Env
 stack:List Env
 ex:List aj
 fn:Str→Bool
 calm:Bool
 pn:List (aj×Obj)
 xe:aa→ai→Prop
end L2
variable {H H' H1 H2:L2.Hp}{X:L2.Cx}{dvs vs xs ys:List L2.V}{o:L2.HO}{v:L2.V}
namespace L2
open PySem PySem.Spec PyProof.Rows
def frs (l:List Env):List aj:=l.filterMap (·.frame)
abbrev Cx.fs (X:Cx):List aj:=frs X.outer
def Vis (sc:Scope)(x:Str):Prop:=sc.names.lookup x=some .local∨sc.names.lookup x=some .cell∨sc.names.lookup x=some .free
def Loc (sc:Scope)(x:Str):Prop:=sc.names.lookup x=some .local∨sc.names.lookup x=some .cell
def Look (env:Env)(h:bg)(m:Str→Option aa)(x:Str)(u:aa):Prop :=
 (env.kindOf x=some .local∧m x=some u)∨((env.kindOf x=some .cell∨env.kindOf x=some .free)∧∃ c,env.cells.lookup x=some c∧h.IsCell c (some u))
structure Cx.Ok (X:Cx):Prop where
 mod:Mod X.K X.mg X.base
 kind:X.env.scope.kind= .function
 glob:X.env.globals=aF
 blt:X.env.builtins=builtinsNs
 above:X.s₀.heap.objs.size≤X.env.locals
 inj:∀ x y c,X.env.cells.lookup x=some c→X.env.cells.lookup y=some c→x=y
 has:∀ x,(X.env.kindOf x=some .cell∨X.env.kindOf x=some .free)→∃ c,X.env.cells.lookup x=some c
 cab:∀ x c,X.fn x=true→X.env.cells.lookup x=some c→X.s₀.heap.objs.size≤c
 hd:X.calm=true→X.A.handled=none
 frames:X.A.frames=some X.stack
 stk:X.stack=X.outer∨(X.stack=X.env::X.outer∧X.env.frame=some X.env.locals)
 exf:∀ b∈X.ex,b≠X.env.locals∧∀ x c,X.env.cells.lookup x=some c→c≠b
 bs:∀ b o,X.base.get? b=some o→X.s₀.heap.get? b=some o∧X.H₀ b=none
 bsz:X.base.objs.size≤X.s₀.heap.objs.size
 noex:∀ b o,X.base.get? b=some o→b ∉ X.ex
 exfs:∀ b∈X.ex,b ∉ X.fs
 funs:X.s₀.heap.FunFrames X.base X.outer
 frf:∀ b∈X.fs,X.H₀ b=none
structure Inv (X:Cx)(ak:List (aj×Obj))(σ:List (Option V))(H:Hp)(s:ai):Prop where
 ok:X.Ok
 os:s.os=X.s₀.os
 bare:AllBare s.gens
 base:Un X.fs X.ex X.H₀ H X.s₀.heap s.heap
 loc:∃ m,s.heap.Ns X.env.locals m∧∀ (i:Nat) (x:Str) (v:V),X.N[i]? =some x→σ[i]? =some (some v)→Vis X.env.scope x→∃ u,eC v u∧Look X.env s.heap m x u
 cell:∀ x c,X.env.cells.lookup x=some c→∃ v,s.heap.IsCell c v
 free:H X.env.locals=none
 freeC:∀ x c,X.env.cells.lookup x=some c→H c=none
 pin:∀ p∈X.pn++ak,s.heap.get? p.1=some p.2∧H p.1=none∧p.1≠X.env.locals∧p.1 ∉ X.fs∧∀ v,p.2.data≠ .cell v
 hok:HOk X.prog X.w H s.heap
 len:σ.length=X.N.length
section
variable {σ:List (Option V)}
theorem Cx.Ok.nofr (ok:X.Ok){b:aj}{o:Obj}(e:X.base.get? b=some o):b ∉ X.fs:=fun hb=>by
 have:=(ok.funs.mem hb).1;rw [e] at this;cases this
theorem Inv.bs (I:Inv X ak σ H s):∀ b o,X.base.get? b=some o→s.heap.get? b=some o∧H b=none:=fun b o e =>
 ⟨I.base.keep b o (I.ok.bs b o e).1 (I.ok.bs b o e).2 (I.ok.nofr e) (I.ok.noex b o e),I.base.free b o (I.ok.bs b o e).1 (I.ok.bs b o e).2 (I.ok.noex b o e)⟩
theorem Inv.bk (I:Inv X ak σ H s):∀ b o,X.base.get? b=some o→s.heap.get? b=some o:=fun b o e=>(I.bs b o e).1
theorem Inv.mod (I:Inv X ak σ H s):Mod X.K X.mg X.base:=I.ok.mod
theorem Inv.kIn (I:Inv X ak σ H s):X.K.In s.heap:=I.ok.mod.kin.keeps I.bk
theorem Inv.lt (I:Inv X ak σ H s):X.env.locals<s.heap.objs.size:=let ⟨_,hn,_⟩:=I.loc;hn.lt
theorem Inv.sz (I:Inv X ak σ H s):X.s₀.heap.objs.size≤s.heap.objs.size:=aR I.ok.above (Nat.le_of_lt I.lt)
theorem Inv.nofs (I:Inv X ak σ H s)(h:s.heap.objs.size≤a):a ∉ X.fs:=fun hb=>by
 obtain ⟨_,o,ho,_⟩:=I.ok.funs.mem hb;exact iG (aH (au ho) (aR I.sz h)) (bW _)
theorem Inv.cne (I:Inv X ak σ H s):∀ x c,X.env.cells.lookup x=some c→c≠X.env.locals:=fun x c e z=>by
 obtain ⟨v,o,ho,hd⟩:=I.cell x c e;obtain ⟨m,⟨o',es,ep,ho',hd',_⟩,_⟩:=I.loc;rw [z,ho'] at ho;cases ho;rw [hd'] at hd;cases hd
theorem Inv.funs (I:Inv X ak σ H s):s.heap.FunFrames X.base X.outer:=by
 have all:∀ (l:List Env),(∀ b∈frs l,b∈X.fs)→X.s₀.heap.FunFrames X.base l→s.heap.FunFrames X.base l:=by
  intro l
  induction l with
  | nil=>intro _ _;trivial
  | cons env r ih =>
   intro hs hl;obtain ⟨hk,⟨L,o,hf,hn,ho,hd⟩,hr⟩:=hl;have hL:L∈X.fs:=hs L (by unfold frs;rw [eM,hf];exact cm);obtain ⟨sl,e⟩:=I.base.slot L o ho (I.ok.frf L hL) hL fun z=>I.ok.exfs L z hL
   exact ⟨hk,⟨L,_,hf,hn,e,hd⟩,ih (fun b hb=>hs b (by unfold frs;rw [eM,hf];exact aT _ hb)) hr⟩
 exact all X.outer (fun _ hb=>hb) I.ok.funs
theorem Inv.stack (I:Inv X ak σ H s):s.heap.FunFrames X.base X.stack:=by
 rcases I.ok.stk with e | ⟨e,hf⟩
 ·rw [e];exact I.funs
 ·rw [e]
  obtain ⟨m,hn,_⟩:=I.loc;refine .cons (by rw [I.ok.kind];decide) hf hn ?_ I.funs;exact bg.get?_none_of_le (aR I.ok.bsz I.ok.above)
theorem Inv.stkSub (I:Inv X ak σ H s):∀ b∈frs X.stack,b∈X.env.locals::X.fs:=fun b hb=>by
 rcases I.ok.stk with e | ⟨e,hf⟩
 ·rw [e] at hb;exact aT _ hb
 ·rw [e] at hb
  unfold frs at hb;rw [eM,hf] at hb;exact hb
theorem Inv.stkFree (I:Inv X ak σ H s):∀ b∈frs X.stack,H b=none:=fun b hb=>by
 rcases aw.mp (I.stkSub b hb) with e | hb
 ·rw [e];exact I.free
 ·obtain ⟨_,o,ho,_⟩:=I.ok.funs.mem hb
  exact I.base.free b o ho (I.ok.frf b hb) fun z=>I.ok.exfs b z hb
theorem Inv.step (I:Inv X ak σ H s)
  (hch:∀ b∈ch,(b∈X.ex∨X.s₀.heap.objs.size≤b)∧b≠X.env.locals∧(∀ x c,X.env.cells.lookup x=some c→c≠b)∧∀ p∈X.pn++ak,p.1≠b)
  (keep:∀ b o,b≠X.env.locals→b ∉ X.fs→b ∉ ch→s.heap.get? b=some o→H b=none→h'.get? b=some o)
  (slot:∀ b o,b≠X.env.locals→b∈X.fs→b ∉ ch→s.heap.get? b=some o→H b=none→∃ sl,h'.get? b=some { o with slots:=sl }) (free:∀ b o,b ∉ ch→s.heap.get? b=some o→H b=none→H' b=none)
  (there:∀ b o,b ∉ ch→s.heap.get? b=some o→∃ o',h'.get? b=some o')
  (tups:∀ b xs,H b=some (.tup xs)→H' b=some (.tup xs)) (frzs:∀ b o u,H b=some (.frz o u)→H' b=some (.frz o u)) (tbls:∀ b ps,H b=some (.tbl ps)→∃ more,H' b=some (.tbl (ps++more)))
  (ns:∀ m,s.heap.Ns X.env.locals m→h'.Ns X.env.locals m) (hok:HOk X.prog X.w H' h') (hg:AllBare g') :
  Inv X ak σ H' { s with heap:=h',gens:=g',drawn:=d',toks:=t' }:=by
 have neL:∀ b o,X.s₀.heap.get? b=some o→b≠X.env.locals:=fun b o e=>bu (aH (au e) I.ok.above)
 have neC:∀ b o,X.s₀.heap.get? b=some o→b ∉ X.ex→b ∉ ch:=fun b o e hx hb=>by
  rcases (hch b hb).1 with z | z
  ·exact hx z
  ·exact iG (aH (au e) z) (bW _)
 have cellK:∀ x c,X.env.cells.lookup x=some c→∀ v,s.heap.IsCell c v→h'.IsCell c v:=fun x c e v ⟨o,ho,hd⟩=>by
  have nch:c ∉ ch:=fun z=>(hch c z).2.2.1 x c e rfl
  by_cases hc:c∈X.fs
  ·obtain ⟨sl,q⟩:=slot c o (I.cne x c e) hc nch ho (I.freeC x c e)
   exact ⟨_,q,hd⟩
  ·exact ⟨o,keep c o (I.cne x c e) hc nch ho (I.freeC x c e),hd⟩
 refine ⟨I.ok,I.os,hg,⟨fun b o e n hb hx=>?_,fun b o e n hb hx=>?_,fun b o e n hx=>?_,fun b o e hx=>?_,fun b xs e=>tups b xs (I.base.tups b xs e),fun b o xs e=>frzs b o xs (I.base.frzs b o xs e),fun b ps e=>?_⟩,?_,fun x c e=>?_,?_,fun x c e=>?_,fun p hp=>?_,hok,I.len⟩
 ·exact keep b o (neL b o e) hb (neC b o e hx) (I.base.keep b o e n hb hx) (I.base.free b o e n hx)
 ·obtain ⟨sl,e1⟩:=I.base.slot b o e n hb hx
  obtain ⟨sl',e2⟩:=slot b _ (neL b o e) hb (neC b o e hx) e1 (I.base.free b o e n hx);exact ⟨sl',e2⟩
 ·obtain ⟨o',e1⟩:=I.base.there b o e hx
  exact free b o' (neC b o e hx) e1 (I.base.free b o e n hx)
 ·obtain ⟨o',e1⟩:=I.base.there b o e hx
  exact there b o' (neC b o e hx) e1
 ·obtain ⟨m1,e1⟩:=I.base.tbls b ps e
  obtain ⟨m2,e2⟩:=tbls b _ e1;exact ⟨m1++m2,by rw [e2,Array.append_assoc]⟩
 ·obtain ⟨m,hn,hl⟩:=I.loc
  refine ⟨m,ns m hn,fun i x v e1 e2 e3=>?_⟩;obtain ⟨u,r,l⟩:=hl i x v e1 e2 e3;refine ⟨u,r,?_⟩
  rcases l with l | ⟨k,c,e,z⟩
  ·exact .inl l
  ·exact .inr ⟨k,c,e,cellK x c e _ z⟩
 ·obtain ⟨v,z⟩:=I.cell x c e
  exact ⟨v,cellK x c e v z⟩
 ·obtain ⟨m,⟨o,_,_,ho,_⟩,_⟩:=I.loc
  exact free _ o (fun z=>(hch _ z).2.1 rfl) ho I.free
 ·obtain ⟨v,o,ho,hd⟩:=I.cell x c e
  exact free c o (fun z=>(hch c z).2.2.1 x c e rfl) ho (I.freeC x c e)
 ·obtain ⟨e,n,ne,nf,d⟩:=I.pin p hp
  have nch:p.1 ∉ ch:=fun z=>(hch p.1 z).2.2.2 p hp rfl
  exact ⟨keep p.1 p.2 ne nf nch e n,free p.1 p.2 nch e n,ne,nf,d⟩
theorem Inv.un (I:Inv X ak σ H s)(u:Un X.fs [] H H' s.heap h')(hok:HOk X.prog X.w H' h'):Inv X ak σ H' { s with heap:=h',toks:=t' }:=by
 obtain ⟨m,⟨o,es,ep,ho,r⟩,_⟩:=id I.loc;obtain ⟨sl,hL⟩:=u.any ho I.free (by simp);exact I.step (g':=s.gens) (d':=s.drawn) (ch:=[]) (fun _ z=>nomatch z) (fun b o _ hb _ e n=>u.keep b o e n hb (by simp)) (fun b o _ hb _ e n=>u.slot b o e n hb (by simp)) (fun b o _ e n=>u.free b o e n (by simp)) (fun b o _ e=>u.there b o e (by simp)) u.tups u.frzs u.tbls (fun m' hm=>by
  obtain ⟨o',es',ep',ho',r'⟩:=hm;rw [ho] at ho';cases ho';exact ⟨_,es',ep',hL,r'⟩) hok I.bare
theorem Inv.call (I:Inv X ak σ H s)(u:Un (frs X.stack) ch H H' s.heap h')(hok:HOk X.prog X.w H' h')(hg:AllBare g')
  (hch:∀ b∈ch,(b∈X.ex∨X.s₀.heap.objs.size≤b)∧b≠X.env.locals∧(∀ x c,X.env.cells.lookup x=some c→c≠b)∧∀ p∈X.pn++ak,p.1≠b) :
  Inv X ak σ H' { s with heap:=h',gens:=g',drawn:=d',toks:=t' }:=by
 obtain ⟨m,⟨o,es,ep,ho,r⟩,_⟩:=id I.loc;obtain ⟨sl,hL⟩:=u.any ho I.free fun z=>(hch _ z).2.1 rfl
 exact I.step (ch:=ch) hch (fun b o hL hb hc e n=>u.keep b o e n (fun z=>(aw.mp (I.stkSub b z)).elim hL hb) hc) (fun b o _ _ hc e n=>u.any e n hc) (fun b o hc e n=>u.free b o e n hc) (fun b o hc e=>u.there b o e hc) u.tups u.frzs u.tbls (fun m' hm=>by
  obtain ⟨o',es',ep',ho',r'⟩:=hm;rw [ho] at ho';cases ho';exact ⟨_,es',ep',hL,r'⟩) hok hg
theorem Inv.turned {it:aj}(I:Inv X ak σ H s)(k:∀ b o,b≠it→s.heap.get? b=some o→h'.get? b=some o)(hn:H it=none)(hL:it≠X.env.locals)
  (h1:it∈X.ex∨X.s₀.heap.objs.size≤it) (h2:∀ x c,X.env.cells.lookup x=some c→c≠it) (h3:∀ p∈X.pn++ak,p.1≠it):Inv X ak σ H { s with heap:=h',toks:=t' }:=by
 have nit:∀ b u,H b=some u→b≠it:=fun b u e z=>by rw [z,hn] at e;cases e
 refine I.step (g':=s.gens) (d':=s.drawn) (ch:=[it]) (fun b hb=>?_) (fun b o _ _ hc e _=>k b o (fun z=>hc (by simp [z])) e) (fun b o _ _ hc e _=>⟨o.slots,k b o (fun z=>hc (by simp [z])) e⟩) (fun _ _ _ _ n=>n)
  (fun b o hc e=>⟨o,k b o (fun z=>hc (by simp [z])) e⟩) (fun _ _ e=>e) (fun _ _ _ e=>e) (fun b ps e=>⟨#[],by rw [e];simp⟩) (fun m hm=>?_) (fun b u e=>?_) I.bare
 ·have e:b=it:=by simpa using hb
  subst e;exact ⟨h1,hL,h2,h3⟩
 ·obtain ⟨o,es,ep,ho,r⟩:=hm
  exact ⟨o,es,ep,k _ o (Ne.symm hL) ho,r⟩
 ·refine (I.hok b u e).stay (fun c v hc q=>k c v ?_ q) (fun _ q=>q) fun _ _ q=>q
  rcases hc with z | z
  ·rw [z];exact nit b u e
  ·exact nit c _ z
theorem Inv.tok (I:Inv X ak σ H s)(t:Nat):Inv X ak σ H { s with toks:=t }:=I.un (h':=s.heap) (t':=t) Un.refl I.hok
theorem Inv.kept (I:Inv X ak σ H s)(k:∀ b u,s.heap.get? b=some u→h'.get? b=some u):Inv X ak σ H { s with heap:=h',toks:=t' }:=I.un (Un.kept k) (I.hok.kept k)
theorem Inv.laid (I:Inv X ak σ H s)(k:∀ b u,s.heap.get? b=some u→h'.get? b=some u)(hp:s.heap.objs.size≤a)(new:ee X.prog X.w (upd H a o) h' a o) :
  Inv X ak σ (upd H a o) { s with heap:=h',toks:=t' }:=I.un (Un.laid k hp (I.hok.fresh hp)) (I.hok.laid k hp new)
theorem Inv.write {x e:aj}(I:Inv X ak σ H s)(mu:Mut (H x))(he:e=x∨H e=some (.own x))(k:∀ b u,b≠e→s.heap.get? b=some u→h'.get? b=some u)(heo:∃ u,h'.get? e=some u)
  (new:ee X.prog X.w (upd H x o) h' x o):Inv X ak σ (upd H x o) { s with heap:=h',toks:=t' }:=I.un (Un.write mu he k heo) (I.hok.write mu he k heo new)
theorem Inv.pins_of (I:Inv X ak σ H s)(h:∀ p∈pins',s.heap.get? p.1=some p.2∧H p.1=none∧p.1≠X.env.locals∧p.1 ∉ X.fs∧∀ v,p.2.data≠ .cell v):Inv X pins' σ H s :=
 ⟨I.ok,I.os,I.bare,I.base,I.loc,I.cell,I.free,I.freeC,fun p hp=>(az.mp hp).elim (fun z=>I.pin p (cR _ z)) (h p),I.hok,I.len⟩
theorem nodup_ix (hN:N.Nodup){i:Nat}(a:N[i]? =some x)(b:N[j]? =some x):i=j:=by
 obtain ⟨h1,e1⟩:=bh.mp a;obtain ⟨h2,e2⟩:=bh.mp b;exact (List.getElem_inj hN).mp (e1.trans e2.symm)
theorem store_ok2 {i:Nat}(I:Inv X ak σ H s)(hN:X.N.Nodup)(hi:X.N[i]? =some x)(hx:Loc X.env.scope x)(r:eC v u)
  (h:∀ s',Inv X ak (σ.set i (some v)) H s'→(∃ a,bg.SameBut a s.heap s'.heap∧(a=X.env.locals∨X.env.cells.lookup x=some a))→Q () s') (hf:X.fn x=true∨X.env.scope.names.lookup x=some .local:=by first | exact .inl rfl | exact .inr rfl | assumption):ba M A (storeName X.env x u) Q E s:=by
 obtain ⟨m,hn,hl⟩:=id I.loc;have hcls:(X.env.scope.kind == .class || (X.env.scope.kind == .module && X.env.locals != X.env.globals))=false:=by rw [I.ok.kind];rfl
 have hiσ:i<σ.length:=by rw [I.len];exact (bh.mp hi).1
 have cne:=I.cne;have tracked:∀ {a:aj} {h':bg},(∃ o,s.heap.get? a=some o∧H a=none)→bg.SameBut a s.heap h'→HOk X.prog X.w H h':=fun {a h'} ha hs b ob e=>by
  obtain ⟨_,_,hfree⟩:=ha;refine (I.hok b ob e).stay (fun c w' hc q=>(hs.2 c ?_).trans q) (fun _ q=>q) fun _ _ q=>q
  rintro rfl
  rcases hc with rfl | hc
  ·rw [hfree] at e;cases e
  ·rw [hfree] at hc;cases hc
 rcases hx with hk | hk
 ·refine wpAny_storeName_local hk hn (fun h' hn' hs=>?_) hcls
  obtain ⟨oL,_,_,hoL,_⟩:=id hn;refine h _ ⟨I.ok,I.os,I.bare,⟨fun b o e n hb hx=>?_,fun b o e n hb hx=>?_,I.base.free,fun b o e hx=>?_,I.base.tups,I.base.frzs,I.base.tbls⟩,⟨_,hn',fun j y v' e1 e2 e3=>?_⟩,fun y c e=>?_,I.free,I.freeC,fun p hp=>?_,tracked ⟨oL,hoL,I.free⟩ hs,by simpa using I.len⟩ ⟨_,hs,.inl rfl⟩
  ·exact (hs.2 b (bu (aH (au e) I.ok.above))).trans (I.base.keep b o e n hb hx)
  ·obtain ⟨sl,e1⟩:=I.base.slot b o e n hb hx
   exact ⟨sl,(hs.2 b (bu (aH (au e) I.ok.above))).trans e1⟩
  ·obtain ⟨o',e1⟩:=I.base.there b o e hx
   exact ⟨o',(hs.2 b (bu (aH (au e) I.ok.above))).trans e1⟩
  ·by_cases hj:j=i
   ·subst hj
    rw [hi] at e1;cases e1;rw [List.getElem?_set_self hiσ] at e2;cases e2;exact ⟨u,r,.inl ⟨hk,by simp⟩⟩
   ·rw [List.getElem?_set_ne (Ne.symm hj)] at e2
    obtain ⟨u',r',q⟩:=hl j y v' e1 e2 e3;refine ⟨u',r',?_⟩
    rcases q with ⟨k,e⟩ | ⟨k,c,e,z⟩
    ·refine .inl ⟨k,?_⟩
     have:y≠x:=fun e=>hj (nodup_ix hN e1 (e ▸ hi))
     simp [this,e]
    ·exact .inr ⟨k,c,e,z.sameBut hs (cne y c e)⟩
  ·obtain ⟨w',z⟩:=I.cell y c e
   exact ⟨w',z.sameBut hs (cne y c e)⟩
  ·obtain ⟨e,n,ne,nf,d⟩:=I.pin p hp
   exact ⟨(hs.2 p.1 ne).trans e,n,ne,nf,d⟩
 ·have hfn:X.fn x=true:=by
   rcases hf with z | z
   ·exact z
   ·rw [z] at hk;cases hk
  obtain ⟨c,hc⟩:=I.ok.has x (.inl hk);obtain ⟨w',z⟩:=I.cell x c hc;refine wpAny_storeName_cell I.ok.kind hk hc z (fun h' hc' hs=>?_);obtain ⟨oc,hoc,hocd⟩:=id z;refine h { s with heap:=h' } ⟨I.ok,I.os,I.bare,⟨fun b o e n hb hx=>?_,fun b o e n hb hx=>?_,I.base.free,fun b o e hx=>?_,I.base.tups,I.base.frzs,I.base.tbls⟩,⟨m,hn.sameBut hs (Ne.symm (cne x c hc)),fun j y v' e1 e2 e3=>?_⟩,fun y c' e=>?_,I.free,I.freeC,fun p hp=>?_,tracked ⟨oc,hoc,I.freeC x c hc⟩ hs,by simpa using I.len⟩ ⟨c,hs,.inr hc⟩
  ·exact (hs.2 b (bu (aH (au e) (I.ok.cab x c hfn hc)))).trans (I.base.keep b o e n hb hx)
  ·obtain ⟨sl,e1⟩:=I.base.slot b o e n hb hx
   exact ⟨sl,(hs.2 b (bu (aH (au e) (I.ok.cab x c hfn hc)))).trans e1⟩
  ·obtain ⟨o',e1⟩:=I.base.there b o e hx
   exact ⟨o',(hs.2 b (bu (aH (au e) (I.ok.cab x c hfn hc)))).trans e1⟩
  ·by_cases hj:j=i
   ·subst hj
    rw [hi] at e1;cases e1;rw [List.getElem?_set_self hiσ] at e2;cases e2;exact ⟨u,r,.inr ⟨.inl hk,c,hc,hc'⟩⟩
   ·rw [List.getElem?_set_ne (Ne.symm hj)] at e2
    obtain ⟨u',r',q⟩:=hl j y v' e1 e2 e3;refine ⟨u',r',?_⟩
    rcases q with q | ⟨k,c',e,z'⟩
    ·exact .inl q
    ·refine .inr ⟨k,c',e,z'.sameBut hs ?_⟩
     rintro rfl;exact hj (nodup_ix hN e1 (I.ok.inj _ _ _ e hc ▸ hi))
  ·by_cases hcc:c'=c
   ·subst hcc;exact ⟨_,hc'⟩
   ·obtain ⟨w2,z2⟩:=I.cell y c' e
    exact ⟨w2,z2.sameBut hs hcc⟩
  ·obtain ⟨e,n,ne,nf,d⟩:=I.pin p hp
   refine ⟨(hs.2 p.1 ?_).trans e,n,ne,nf,d⟩;intro q;rw [q,hoc] at e;have q':oc=p.2:=aG e;exact d w' (by rw [←q'];exact hocd)
theorem store_ok {i:Nat}(I:Inv X ak σ H s)(hN:X.N.Nodup)(hi:X.N[i]? =some x)(hx:Loc X.env.scope x)(r:eC v u)
  (h:∀ s',Inv X ak (σ.set i (some v)) H s'→Q () s') (hf:X.fn x=true∨X.env.scope.names.lookup x=some .local:=by first | exact .inl rfl | exact .inr rfl | assumption):ba M A (storeName X.env x u) Q E s :=
 store_ok2 I hN hi hx r (fun s' I' _=>h s' I') hf
theorem Inv.call' (I:Inv X ak σ H s)(ho:s'.os=s.os)(u:Un (frs X.stack) ch H H' s.heap s'.heap)(hok:HOk X.prog X.w H' s'.heap)(hg:AllBare s'.gens)
  (hch:∀ b∈ch,(b∈X.ex∨X.s₀.heap.objs.size≤b)∧b≠X.env.locals∧(∀ x c,X.env.cells.lookup x=some c→c≠b)∧∀ p∈X.pn++ak,p.1≠b):Inv X ak σ H' s':=by
 obtain ⟨h',g',d',t',o'⟩:=s';have e:o'=s.os:=ho;subst e;exact I.call (g':=g') (t':=t') (d':=d') u hok hg hch
end
abbrev XK:=aa→Option aj→Hp→Prop
abbrev St:=List (Option V)
abbrev VK:=V→Hp→Prop
abbrev TE:=St→Hp→VK→Prop
abbrev TT:=St→Hp→(Bool→Hp→Prop)→Prop
abbrev TA:=St→Hp→(List V→Hp→Prop)→Prop
structure Ends where
 nx:St→Hp→Prop
 rt:VK
 bk:St→Hp→Prop:=fun _ _=>False
 ct:St→Hp→Prop:=fun _ _=>False
abbrev TS:=Ends→St→Hp→Prop
def EP (X:Cx)(ak:List (aj×Obj))(σ:St)(Q:VK)(u:aa)(s':ai):Prop:=∃ v H',Inv X ak σ H' s'∧eC v u∧Q v H'
def TP (X:Cx)(ak:List (aj×Obj))(σ:St)(Q:Bool→Hp→Prop)(b:Bool)(s':ai):Prop:=∃ H',Inv X ak σ H' s'∧Q b H'
def AP (X:Cx)(ak:List (aj×Obj))(σ:St)(Q:List V→Hp→Prop)(us:List aa)(s':ai):Prop:=∃ vs H',Inv X ak σ H' s'∧dM vs us∧Q vs H'
def SP (X:Cx)(ak:List (aj×Obj))(D:Ends)(f:Flow)(s':ai):Prop :=
 match f with
 | .next=>∃ σ' H',Inv X ak σ' H' s'∧D.nx σ' H'
 | .brk=>∃ σ' H',Inv X ak σ' H' s'∧D.bk σ' H'
 | .cont=>∃ σ' H',Inv X ak σ' H' s'∧D.ct σ' H'
 | .ret u=>∃ v σ' H',Inv X ak σ' H' s'∧eC v u∧D.rt v H'
def PE (X:Cx)(e:Expr)(t:TE):Prop :=
 ∀ (ak:List (aj×Obj)) (s:ai) (σ:St) (H:Hp) (Q:VK),Inv X ak σ H s→t σ H Q→ba (aX X.prog X.w) X.A (dW e X.env) (EP X ak σ Q) X.xe s
def PT (X:Cx)(e:Expr)(t:TT):Prop :=
 ∀ (ak:List (aj×Obj)) (s:ai) (σ:St) (H:Hp) (Q:Bool→Hp→Prop),Inv X ak σ H s→t σ H Q→ba (aX X.prog X.w) X.A (isTrue e X.env (dW e X.env)) (TP X ak σ Q) X.xe s
def PW (X:Cx)(e:Expr)(t:TT):Prop :=
 ∀ (whole:Sem aa) (ak:List (aj×Obj)) (s:ai) (σ:St) (H:Hp) (Q:Bool→Hp→Prop),Inv X ak σ H s→t σ H Q→ba (aX X.prog X.w) X.A (isTrue e X.env whole) (TP X ak σ Q) X.xe s
theorem PW.pt {t:TT}(h:PW X e t):PT X e t:=h _
def PA (X:Cx)(es:List Expr)(t:TA):Prop :=
 ∀ (pos:Pos) (ak:List (aj×Obj)) (s:ai) (σ:St) (H:Hp) (Q:List V→Hp→Prop),Inv X ak σ H s→t σ H Q→ba (aX X.prog X.w) X.A (spliced (backTo pos (aQ es X.env))) (AP X ak σ Q) X.xe s
def PS (X:Cx)(st:cE)(t:TS):Prop :=
 ∀ (ak:List (aj×Obj)) (s:ai) (σ:St) (H:Hp) (D:Ends),Inv X ak σ H s→t D σ H→ba (aX X.prog X.w) X.A (exec st X.env) (SP X ak D) X.xe s
def PSs (X:Cx)(st:List cE)(t:TS):Prop :=
 ∀ (ak:List (aj×Obj)) (s:ai) (σ:St) (H:Hp) (D:Ends),Inv X ak σ H s→t D σ H→ba (aX X.prog X.w) X.A (execs st X.env) (SP X ak D) X.xe s
theorem thn {t:Sem α}{Q Q':α→ai→Prop}(h:ba M A t Q E s)(hQ:∀ a s,Q a s→Q' a s):ba M A t Q' E s:=bN h hQ fun _ _ x=>x
section
inductive HasV (o:Option (Option V))(k:V→Prop):Prop
 | mk (v:V)(h:o=some (some v))(q:k v):HasV o k
inductive IsBl (x:V)(k:Bool→Prop):Prop
 | mk (c:Bool)(h:x= .bl c)(q:k c):IsBl x k
def tVar (i:Nat):TE:=fun σ H Q=>HasV σ[i]? fun v=>Q v H
def tC (v:V):TE:=fun _ H Q=>Q v H
theorem pe_var {i:Nat}(hN:X.N[i]? =some x)(hv:Vis X.env.scope x)(hd:(x == ("__debug__" :Str))=false:=by decide)(hcd:(x == ("__classdict__" :Str))=false:=by decide):PE X (.Name x pos) (tVar i):=by
 intro ak s σ H Q I h;obtain ⟨v,e,h⟩:=h;obtain ⟨m,hn,hl⟩:=I.loc;obtain ⟨u,r,l⟩:=hl i x v hN e hv;have fin:EP X ak σ Q u s:=⟨v,H,I,r,h⟩
 rcases l with ⟨hk,hm⟩ | ⟨hk,c,hc,fJ⟩
 ·exact wpAny_Name (wpAny_loadName_local I.ok.kind hk hn hm fin) hd
 ·rcases hk with hk | hk
  ·exact wpAny_Name (wpAny_loadName_cell I.ok.kind hk hc fJ fin) hd
  ·exact wpAny_Name (wpAny_loadName_free I.ok.kind hk hc fJ fin hcd) hd
theorem aA {i j pos}:PE X (.Constant (.int i) j pos) (tC (.int i)):=fun _ _ _ H _ I h=>wpAny_Constant_int ⟨.int i,H,I.tok _,⟨_,rfl⟩,h⟩
theorem gJ {b j pos}:PE X (.Constant (.bool b) j pos) (tC (.bl b)):=fun _ _ _ H _ I h=>Constant_bool ⟨.bl b,H,I,rfl,h⟩
theorem pe_non {j pos}:PE X (.Constant .none j pos) (tC .non):=fun _ _ _ H _ I h=>Constant_none ⟨.non,H,I,rfl,h⟩
theorem bQ {x j pos}:PE X (.Constant (.str x) j pos) (tC (.str x)):=fun _ _ _ H _ I h=>Calls.Constant_str ⟨.str x,H,I.tok _,⟨_,rfl⟩,h⟩
def Gl (X:Cx)(x:Str):Prop:=X.env.kindOf x=some .globalImplicit
theorem gy {σ:St}{Q:aa→ai→Prop}(I:Inv X ak σ H s)(hg:Gl X x)(hm:X.mg x=some u)(h:Q u s)
  (hd:(x == ("__debug__" :Str))=false:=by decide):ba (aX X.prog X.w) X.A (dW (.Name x pos) X.env) Q E s :=
 Calls.Name_function_global I.ok.kind hg (Calls.loadGlobal_global (by rw [I.ok.glob];exact I.mod.glob.keeps I.bk) hm h) hd
theorem ld_blt {σ:St}{Q:aa→ai→Prop}(I:Inv X ak σ H s)(hg:Gl X x)(hm:X.mg x=none)(hv:er x=some u)(h:Q u s)
  (hn:x ≠ "__name__" := by decide) (hd:(x == ("__debug__" :Str))=false:=by decide):ba (aX X.prog X.w) X.A (dW (.Name x pos) X.env) Q E s:=by
 obtain ⟨mb,h1,h2⟩:=I.mod.blt;exact Calls.Name_function_global I.ok.kind hg (Calls.loadGlobal_builtin (by rw [I.ok.glob];exact I.mod.glob.keeps I.bk) hm (by rw [I.ok.blt];exact h1.keeps I.bk) ((h2 x hn).trans hv) h) hd
theorem fm (hg:Gl X x)(hm:X.mg x=some u)(r:eC v u)(hd:(x == ("__debug__" :Str))=false:=by decide):PE X (.Name x pos) (tC v) :=
 fun _ _ _ H _ I h=>gy I hg hm ⟨v,H,I,r,h⟩ hd
theorem gZ (hg:Gl X x)(hm:X.mg x=none)(hv:er x=some u)(r:eC v u)(hn:x ≠ "__name__" := by decide)(hd:(x == ("__debug__" :Str))=false:=by decide):PE X (.Name x pos) (tC v) :=
 fun _ _ _ H _ I h=>ld_blt I hg hm hv ⟨v,H,I,r,h⟩ hn hd
variable {a b:Expr}{ta tb:TE}
def tB (t:TE):TT:=fun σ H Q=>t σ H fun x H1=>IsBl x fun c=>Q c H1
theorem d5 {t:TE}(h:PE X e t)(he:∀ whole,isTrue e X.env whole=(do let v ← whole;standAt e.pos;holding [v] (truthy v)):=by intro _;rfl):PT X e (tB t):=by
 intro ak s σ H Q I hw;refine isTrue_plain (thn (h ak s σ H _ I hw) fun v s1 ⟨x,H1,I1,r1,q1⟩=>?_) (he _);obtain ⟨d,rfl,q⟩:=q1;cases r1;exact cS ⟨H1,I1,q⟩
variable {tA tB':TT} {rest:List Expr}
def tAnd (t u:TT):TT:=fun σ H Q=>t σ H fun c H1=>if c=true then u σ H1 Q else Q false H1
def tOr (t u:TT):TT:=fun σ H Q=>t σ H fun c H1=>if c=true then Q true H1 else u σ H1 Q
def tNot (t:TT):TT:=fun σ H Q=>t σ H fun c H1=>Q (!c) H1
theorem pw_and1 (ha:PT X a tA):PW X (.BoolOp .And [a] pos) tA:=by
 intro wh ak s σ H Q I h;refine isTrue_and (thn (ha ak s σ H Q I h) fun c s1 e=>?_);cases c with
 | true=>exact isTrue_and_nil e
 | false=>exact e
theorem gj (ha:PT X a tA):PW X (.BoolOp .Or [a] pos) tA:=by
 intro wh ak s σ H Q I h;refine isTrue_or (thn (ha ak s σ H Q I h) fun c s1 e=>?_);cases c with
 | false=>exact isTrue_or_nil e
 | true=>exact e
theorem pw_and (ha:PT X a tA)(hb:PW X (.BoolOp .And (b::rest) pos) tB'):PW X (.BoolOp .And (a::b::rest) pos) (tAnd tA tB'):=by
 intro wh ak s σ H Q I h;refine isTrue_and (thn (ha ak s σ H _ I h) fun c s1 ⟨H1,I1,q1⟩=>?_);cases c with
 | true=>exact hb wh ak s1 σ H1 Q I1 q1
 | false=>exact ⟨H1,I1,q1⟩
theorem gW (ha:PT X a tA)(hb:PW X (.BoolOp .Or (b::rest) pos) tB'):PW X (.BoolOp .Or (a::b::rest) pos) (tOr tA tB'):=by
 intro wh ak s σ H Q I h;refine isTrue_or (thn (ha ak s σ H _ I h) fun c s1 ⟨H1,I1,q1⟩=>?_);cases c with
 | true=>exact ⟨H1,I1,q1⟩
 | false=>exact hb wh ak s1 σ H1 Q I1 q1
theorem eP (ha:PT X a tA):PT X (.UnaryOp .Not a pos) (tNot tA):=by
 intro ak s σ H Q I h;exact isTrue_not (ha ak s σ H (fun c H1=>Q (!c) H1) I h)
def tAndV (ta tb:TE):TE:=fun σ H Q=>ta σ H fun x H1=>IsBl x fun c=>if c=true then tb σ H1 Q else Q (.bl false) H1
def tNotV (ta:TE):TE:=fun σ H Q=>ta σ H fun x H1=>IsBl x fun c=>Q (.bl (!c)) H1
theorem pe_one {op}{t:TE}(h:PE X a t):PE X (.BoolOp op [a] pos) t:=fun ak s σ H Q I hw=>BoolOp_one (h ak s σ H Q I hw)
theorem g6 (ha:PE X a ta)(hb:PE X (.BoolOp .And (b::rest) pos) tb):PE X (.BoolOp .And (a::b::rest) pos) (tAndV ta tb):=by
 intro ak s σ H Q I h;refine BoolOp_and (thn (ha ak s σ H _ I h) fun v s1 ⟨x,H1,I1,r1,q1⟩=>?_);obtain ⟨c,rfl,q1⟩:=q1;cases r1;refine cS ?_;cases c with
 | true=>exact hb ak s1 σ H1 Q I1 q1
 | false=>exact ⟨.bl false,H1,I1,rfl,q1⟩
theorem pe_not (ha:PE X a ta):PE X (.UnaryOp .Not a pos) (tNotV ta):=by
 intro ak s σ H Q I h;refine UnaryOp_ (thn (ha ak s σ H _ I h) fun v s1 ⟨x,H1,I1,r1,q1⟩=>?_);obtain ⟨c,rfl,q1⟩:=q1;cases r1;exact not_of (cS ⟨.bl (!c),H1,I1,rfl,q1⟩)
end
def SqL (K:ah)(H:Hp)(a:aj)(xs:List V):Prop :=
 Rd H a (.lst xs) ∨
  ∃ (o:Obj) (its:Array aa) (n:Nat),K.lookup a=some o∧o.cls= .type "list" ∧o.dict=none∧o.data= .seq its n∧its.size≤ax∧dM xs its.toList
def SqT (K:ah)(H:Hp)(a:aj)(xs:List V):Prop :=
 Rd H a (.tup xs) ∨
  ∃ (o:Obj) (its:Array aa) (n:Nat),K.lookup a=some o∧o.cls= .type "tuple" ∧o.data= .seq its n∧its.size≤ax∧dM xs its.toList
def absV:aa→Option V
 | .none=>some .non
 | .bool b=>some (.bl b)
 | .int i _=>some (.int i)
 | .str x _=>some (.str x)
 | .bytes b _=>some (.byt b)
 | .float b _=>some (.flt b)
 | .ref a=>some (.ref a)
 | .type n=>some (.ty n)
 | _=>none
theorem eC.abs {x:V}(r:eC x u):absV u=some x:=by
 cases x with
 | non=>cases r;rfl
 | bl _=>cases r;rfl
 | int _=>obtain ⟨t,rfl⟩:=r;rfl
 | str _=>obtain ⟨t,rfl⟩:=r;rfl
 | byt _=>obtain ⟨t,rfl⟩:=r;rfl
 | flt _=>obtain ⟨t,rfl⟩:=r;rfl
 | ref _=>cases r;rfl
 | ty _=>cases r;rfl
theorem eC.inj {x y:V}(r:eC x u)(q:eC y u):x=y:=aG (r.abs.symm.trans q.abs)
theorem dM.inj:∀ {xs ys:List V} {us:List aa},dM xs us→dM ys us→xs=ys
 | _,_,_,.nil,.nil=>rfl
 | _,_,_,.cons r t,.cons r' t'=>by rw [r.inj r',dM.inj t t']
section
variable {σ:St}
theorem SqL.of (h:H a=some (.lst xs)):SqL K H a xs:= .inl (.inl h)
theorem SqT.of (h:H a=some (.tup xs)):SqT K H a xs:= .inl (.inl h)
theorem Inv.list (I:Inv X ak σ H s)(h:SqL X.K H a xs):∃ its:List aa,dM xs its∧PlainL s.heap a its.toArray∧xs.length≤ax:=by
 rcases h with h | ⟨o,its,n,hk,hc,hd,hs,hz,r⟩
 ·obtain ⟨z,its,n,r,e⟩:=h.ok I.hok
  exact ⟨its,r,⟨_,n,e,rfl,rfl,rfl⟩,z⟩
 ·refine ⟨its.toList,r,⟨o,n,I.kIn a o hk,hc,hd,by simpa using hs⟩,?_⟩
  have e:=r.length;simp only [Array.length_toList] at e;lia
theorem Inv.tuple (I:Inv X ak σ H s)(h:SqT X.K H a xs):∃ its:List aa,dM xs its∧IsTup s.heap a its.toArray∧xs.length≤ax:=by
 rcases h with h | ⟨o,its,n,hk,hc,hs,hz,r⟩
 ·obtain ⟨z,its,r,p⟩:=h.ok I.hok
  exact ⟨its,r,p.tup,z⟩
 ·refine ⟨its.toList,r,⟨o,I.kIn a o hk,hc,n,by simpa using hs⟩,?_⟩
  have e:=r.length;simp only [Array.length_toList] at e;lia
theorem Inv.list_inj (I:Inv X ak σ H s)(h:SqL X.K H a xs)(h':SqL X.K H a ys):xs=ys:=by
 obtain ⟨its,r,⟨o,n,e,_,_,d⟩,_⟩:=I.list h;obtain ⟨its',r',⟨o',n',e',_,_,d'⟩,_⟩:=I.list h';rw [e] at e';cases e';rw [d] at d';injection d' with d1 _
 have:its=its':=by simpa using iK Array.toList d1
 subst this;exact r.inj r'
theorem Inv.tuple_inj (I:Inv X ak σ H s)(h:SqT X.K H a xs)(h':SqT X.K H a ys):xs=ys:=by
 obtain ⟨its,r,⟨o,e,_,n,d⟩,_⟩:=I.tuple h;obtain ⟨its',r',⟨o',e',_,n',d'⟩,_⟩:=I.tuple h';rw [e] at e';cases e';rw [d] at d';injection d' with d1 _
 have:its=its':=by simpa using iK Array.toList d1
 subst this;exact r.inj r'
end
abbrev Cx.wish (X:Cx)(E:aa→ai→Prop):Cx:={ X with xe:=E }
abbrev Cx.nox (X:Cx):Cx:=X.wish fun _ _=>False
theorem Cx.Ok.wish (ok:X.Ok)(E:aa→ai→Prop):(X.wish E).Ok :=
 ⟨ok.mod,ok.kind,ok.glob,ok.blt,ok.above,ok.inj,ok.has,ok.cab,ok.hd,ok.frames,ok.stk,ok.exf,ok.bs,ok.bsz,ok.noex,ok.exfs,ok.funs,ok.frf⟩
theorem Cx.Ok.unwish (ok:(X.wish E).Ok):X.Ok :=
 ⟨ok.mod,ok.kind,ok.glob,ok.blt,ok.above,ok.inj,ok.has,ok.cab,ok.hd,ok.frames,ok.stk,ok.exf,ok.bs,ok.bsz,ok.noex,ok.exfs,ok.funs,ok.frf⟩
section
variable {σ:St}
theorem Inv.wish (I:Inv X ak σ H s)(E:aa→ai→Prop):Inv (X.wish E) ak σ H s:=⟨I.ok.wish E,I.os,I.bare,I.base,I.loc,I.cell,I.free,I.freeC,I.pin,I.hok,I.len⟩
theorem Inv.unwish (I:Inv (X.wish E) ak σ H s):Inv X ak σ H s:=⟨I.ok.unwish,I.os,I.bare,I.base,I.loc,I.cell,I.free,I.freeC,I.pin,I.hok,I.len⟩
theorem SP.unwish {D:Ends}{f:Flow}(h:SP (X.wish E) ak D f s'):SP X ak D f s':=by
 cases f with
 | next=>obtain ⟨σ',H',I,q⟩:=h;exact ⟨σ',H',I.unwish,q⟩
 | brk=>obtain ⟨σ',H',I,q⟩:=h;exact ⟨σ',H',I.unwish,q⟩
 | cont=>obtain ⟨σ',H',I,q⟩:=h;exact ⟨σ',H',I.unwish,q⟩
 | ret u=>obtain ⟨v,σ',H',I,r,q⟩:=h;exact ⟨v,σ',H',I.unwish,r,q⟩
theorem PSs.nox {st:List cE}{t:TS}(h:PSs X.nox st t):PSs X st t:=fun ak s σ H D I hw =>
 bN (h ak s σ H D (I.wish _) hw) (fun _ _ q=>q.unwish) fun _ _ z=>cw z
end
section
variable {rest:List cE}{t u:TS}{te:TE}
def tNext:TS:=fun D σ H=>D.nx σ H
def tSeq (t u:TS):TS:=fun D σ H=>t { D with nx:=u D } σ H
theorem bZ:PSs X [] tNext:=fun _ _ σ H _ I h=>wpAny_execs_nil ⟨σ,H,I,h⟩
theorem aU (h1:PS X st t)(h2:PSs X rest u):PSs X (st::rest) (tSeq t u):=by
 intro ak s σ H D I h;refine wpAny_execs_cons (thn (h1 ak s σ H { D with nx:=u D } I h) fun f s1 q=>?_);cases f with
 | next =>
  obtain ⟨σ',H',I',q⟩:=q;exact h2 ak s1 σ' H' D I' q
 | ret v=>exact q
 | brk=>exact q
 | cont=>exact q
theorem bc (h1:PS X st t):PSs X [st] t:=by
 intro ak s σ H D I h;refine wpAny_execs_cons (thn (h1 ak s σ H D I h) fun f s1 q=>?_);cases f with
 | next=>exact wpAny_execs_nil q
 | ret v=>exact q
 | brk=>exact q
 | cont=>exact q
theorem Inv.quiet {σ:St}(I:Inv X ak σ H s):interactive X.env=false:=by simp [interactive,I.ok.kind]
def tDrop (te:TE):TS:=fun D σ H=>te σ H fun _ H1=>D.nx σ H1
theorem ps_expr (he:PE X e te)(hs:swapsWith e none pos.line X.env=pure false:=by rfl):PS X (.Expr e pos) (tDrop te):=by
 intro ak s σ H D I h;exact wpAny_Expr_any (thn (he ak s σ H _ I h) fun v s1 ⟨x,H1,I1,r1,q1⟩=>⟨σ,H1,I1,q1⟩) I.quiet hs
def tRet (te:TE):TS:=fun D σ H=>te σ H D.rt
theorem bM (he:PE X e te):PS X (.Return (some e) pos) (tRet te):=by
 intro ak s σ H D I h;exact wpAny_Return_some (thn (he ak s σ H _ I h) fun v s1 ⟨x,H1,I1,r1,q1⟩=>⟨x,σ,H1,I1,r1,q1⟩)
def tIfS (c:TT)(t u:TS):TS:=fun D σ H=>c σ H fun b H1=>if b=true then t D σ H1 else u D σ H1
theorem dO {c:Expr}{a b:List cE}{tc:TT}(hc:PT X c tc)(ha:PSs X a t)(hb:PSs X b u):PS X (.If c a b pos) (tIfS tc t u):=by
 intro ak s σ H D I h;refine wpAny_If (thn (hc ak s σ H _ I h) fun d s1 ⟨H1,I1,q1⟩=>?_);cases d with
 | true=>exact ha ak s1 σ H1 D I1 q1
 | false=>exact hb ak s1 σ H1 D I1 q1
end
abbrev TG:=V→St→Hp→(St→Hp→Prop)→Prop
abbrev TGs:=List V→St→Hp→(St→Hp→Prop)→Prop
def PG (X:Cx)(target:Expr)(t:TG):Prop :=
 ∀ (ak:List (aj×Obj)) (s:ai) (σ:St) (H:Hp) (v:V) (u:aa) (Q:St→Hp→Prop),Inv X ak σ H s→eC v u→t v σ H Q →
  ba (aX X.prog X.w) X.A (assign target X.env u) (fun _ s'=>∃ σ' H',Inv X ak σ' H' s'∧Q σ' H') X.xe s
def PGs (X:Cx)(ts:List Expr)(t:TGs):Prop :=
 ∀ (ak:List (aj×Obj)) (s:ai) (σ:St) (H:Hp) (vs:List V) (us:List aa) (Q:St→Hp→Prop),Inv X ak σ H s→dM vs us→t vs σ H Q →
  ba (aX X.prog X.w) X.A (assignInOrder ((assignEach ts X.env).map (·.2)) us) (fun _ s'=>∃ σ' H',Inv X ak σ' H' s'∧Q σ' H') X.xe s
abbrev TSet:=V→V→V→Hp→(Hp→Prop)→Prop
def PSet (X:Cx)(t:TSet):Prop :=
 ∀ (ak:List (aj×Obj)) (s:ai) (σ:St) (H:Hp) (o i v:V) (ov iv u:aa) (Q:Hp→Prop),Inv X ak σ H s→eC o ov→eC i iv→eC v u→t o i v H Q →
  ba (aX X.prog X.w) X.A (setItem ov iv u) (fun _ s'=>∃ H',Inv X ak σ H' s'∧Q H') X.xe s
def gName (i:Nat):TG:=fun v σ H Q=>Q (σ.set i (some v)) H
theorem pg_name {i:Nat}(hN:X.N.Nodup)(hi:X.N[i]? =some x)(hx:Loc X.env.scope x)(hf:X.fn x=true∨X.env.scope.names.lookup x=some .local:=by first | exact .inl rfl | exact .inr rfl | assumption):PG X (.Name x pos) (gName i):=by
 intro ak s σ H v u Q I r h;exact wpAny_assign_Name (store_ok I hN hi hx r (fun s' I'=>⟨_,H,I',h⟩) hf)
def gNil:TGs:=fun vs σ H Q=>vs=[]∧Q σ H
def gCons (t:TG)(u:TGs):TGs:=fun vs σ H Q=>∃ v r,vs=v::r∧t v σ H fun σ' H'=>u r σ' H' Q
theorem pgs_nil:PGs X [] gNil:=by
 intro ak s σ H vs us Q I r h;obtain ⟨e,h⟩:=h;subst e;cases r;exact assignInOrder_nil ⟨σ,H,I,h⟩
theorem pgs_cons {t:TG}{u:TGs}(h1:PG X e t)(h2:PGs X es u)
  (hs:(assignEach (e::es) X.env).map (·.2)=assign e X.env::(assignEach es X.env).map (·.2):=by rfl):PGs X (e::es) (gCons t u):=by
 intro ak s σ H vs us Q I r h;obtain ⟨v,vr,e1,h⟩:=h;subst e1;cases r with
 | cons r rr =>
  rw [hs];refine assignInOrder_cons (thn (h1 ak s σ H _ _ _ I r h) fun _ s1 ⟨σ1,H1,I1,q1⟩=>?_);exact h2 ak s1 σ1 H1 _ _ Q I1 rr q1
def gTup (K:ah)(n:Nat)(t:TGs):TG:=fun v σ H Q=>∃ a xs,v= .ref a∧SqT K H a xs∧xs.length=n∧t xs σ H Q
theorem pg_tup {t:TGs}{n:Nat}(hc:X.calm=true)(h:PGs X es t)
  (hn:(assignEach es X.env).length=n:=by rfl) (hst:(assignEach es X.env).findIdx? (·.1)=none:=by rfl):PG X (.Tuple es k pos) (gTup X.K n t):=by
 intro ak s σ H v u Q I r hw;obtain ⟨a,xs,e1,hq,hl,hw⟩:=hw;subst e1;cases r;obtain ⟨its,rv,ht,hz⟩:=I.tuple hq;refine assign_Tuple_tuple (I.ok.hd hc) ht (by simp [hn,←hl,rv.length]) hst fun h' hx=>?_
 have I1:Inv X ak σ H { s with heap:=h' }:=I.kept (t':=s.toks) fun b o e=>hx b o (bu (au e)) e
 exact h ak _ σ H xs _ Q I1 (by simpa using rv) hw
def gSub (to ti:TE)(t:TSet):TG:=fun v σ H Q=>to σ H fun o H1=>ti σ H1 fun i H2=>t o i v H2 fun H3=>Q σ H3
theorem pg_sub {o i:Expr}{to ti:TE}{t:TSet}(ho:PE X o to)(hi:PE X i ti)(hs:PSet X t)
  (ha:∀ v,assign (.Subscript o i pos) X.env v=(do
   let ov ← holding [v] (dW o X.env)
   let iv ← holding [v,ov] (dW i X.env)
   standAt pos
   holding [v,ov,iv] (setItem ov iv v)
   release [v,ov,iv] []):=by intro _;rfl):PG X (.Subscript o i pos) (gSub to ti t):=by
 intro ak s σ H v u Q I r h;rw [ha];refine aJ (eO (thn (ho ak s σ H _ I h) fun ov s1 ⟨x,H1,I1,r1,q1⟩=>?_));refine aJ (eO (thn (hi ak s1 σ H1 _ I1 q1) fun iv s2 ⟨y,H2,I2,r2,q2⟩=>?_));refine aJ (wpAny_standAt (aJ (eO (thn (hs ak s2 σ H2 x y v ov iv u _ I2 r1 r2 r q2) fun _ s3 ⟨H3,I3,q3⟩=>?_))));exact wpAny_release ⟨σ,H3,I3,q3⟩
def tAsg (te:TE)(g:TG):TS:=fun D σ H=>te σ H fun x H1=>g x σ H1 D.nx
theorem ps_asg {te:TE}{g:TG}(he:PE X e te)(hg:PG X tg g)(hs:swapsWithSole [tg] e pos.line X.env=pure false:=by rfl)(hw:swappedStores [tg] e X.env=pure none:=by rfl)
  (h1:(assignEach [tg] X.env).map (·.2)=[assign tg X.env]:=by rfl):PS X (.Assign [tg] e pos) (tAsg te g):=by
 intro ak s σ H D I h;refine wpAny_Assign_stores (thn (he ak s σ H _ I h) fun v s1 ⟨x,H1,I1,r1,q1⟩=>?_) hs hw;rw [h1];exact thn (hg ak s1 σ H1 x v _ I1 r1 q1) fun _ s2 q=>q
theorem ps_set {i:Nat}{te:TE}(hN:X.N.Nodup)(hi:X.N[i]? =some x)(hx:Loc X.env.scope x)(he:PE X e te)(hs:swapsWith e (some (.Name x pos')) pos.line X.env=pure false:=by rfl)(hf:X.fn x=true∨X.env.scope.names.lookup x=some .local:=by first | exact .inl rfl | exact .inr rfl | assumption) :
  PS X (.Assign [.Name x pos'] e pos) (tAsg te (gName i)):=by
 intro ak s σ H D I h;refine wpAny_Assign_Name (thn (he ak s σ H _ I h) fun v s1 ⟨y,H1,I1,r1,q1⟩=>?_) hs;exact store_ok I1 hN hi hx r1 (fun s2 I2=>⟨_,H1,I2,q1⟩) hf
structure It where
 go:Nat→Hp→Prop
 yld:Nat→Hp→V→Hp→Prop
 stop:Nat→Hp→Prop
def FpOk (X:Cx)(ak:List (aj×Obj))(H:Hp)(b:aj):Prop :=
 H b=none∧b≠X.env.locals∧b ∉ X.fs∧(b∈X.ex∨X.s₀.heap.objs.size≤b)∧(∀ x c,X.env.cells.lookup x=some c→c≠b)∧∀ p∈X.pn++ak,p.1≠b
theorem Inv.fpOk {σ:St}{b:aj}(I:Inv X ak σ H s)(hb:s.heap.objs.size≤b)(hn:H' b=none):FpOk X ak H' b:=by
 refine ⟨hn,Nat.ne_of_gt (aH I.lt hb),I.nofs hb,.inr (aR I.sz hb),fun x c e z=>?_,fun p hp z=>?_⟩
 ·obtain ⟨v,q⟩:=I.cell x c e
  exact iG (aH q.lt (by rw [z];exact hb)) (bW _)
 ·exact iG (aH (au (I.pin p hp).1) (by rw [z];exact hb)) (bW _)
structure Turn (P:aP)(w:bj)(K:ah)(tg:Expr)(J:It)(fp:List aj)(it:aj)(tn:Nat→bg→Prop):Prop where
 mem:it∈fp
 obj:∀ i h,tn i h→∀ b∈fp,∃ o,h.get? b=some o∧∀ v,o.data≠ .cell v
 keep:∀ i h h',tn i h→(∀ b∈fp,∀ o,h.get? b=some o→h'.get? b=some o)→tn i h'
 item:∀ (X:Cx),X.prog=P→X.w=w→X.K=K→X.calm=true→∀ (i:Nat) (ak:List (aj×Obj)) (s:ai) (σ:St) (H:Hp) (E:aa→ai→Prop),Inv X ak σ H s→(∀ b∈fp,FpOk X ak H b)→tn i s.heap→J.go i H →
  ba (aX P w) X.A (pyNext (.ref it)) (fun r s1=>∃ u,r=some u ∧
   ba (aX P w) X.A (fc tg (.ref it) u) (fun _ s2=>∃ x H',Inv X ak σ H' s2∧eC x u∧J.yld i H x H'∧tn (i+1) s2.heap∧∀ b∈fp,H' b=none) E s1) E s
 done:∀ (X:Cx),X.prog=P→X.w=w→X.K=K→X.calm=true→∀ (i:Nat) (ak:List (aj×Obj)) (s:ai) (σ:St) (H:Hp) (E:aa→ai→Prop),Inv X ak σ H s→(∀ b∈fp,FpOk X ak H b)→tn i s.heap→J.stop i H →
  ba (aX P w) X.A (pyNext (.ref it)) (fun r s1=>r=none∧Inv X ak σ H s1) E s
 self:∀ (A:bO) (i:Nat) (s:ai) (Q:aa→ai→Prop) (E:aa→ai→Prop),tn i s.heap→Q (.ref it) s→ba (aX P w) A (pyIter (.ref it)) Q E s
abbrev TI:=St→Hp→(It→Hp→Prop)→Prop
def PIE (X:Cx)(ak:List (aj×Obj))(σ:St)(tg:Expr)(R:It→Hp→Prop)(itv:aa)(s2:ai):Prop :=
 ∃ (it:aj) (fp:List aj) (tn:Nat→bg→Prop) (J:It) (H':Hp),itv= .ref it∧Inv X ak σ H' s2∧Turn X.prog X.w X.K tg J fp it tn∧tn 0 s2.heap∧(∀ b∈fp,FpOk X ak H' b)∧R J H'
def PI (X:Cx)(tg iter:Expr)(wi:TI):Prop :=
 ∀ (ak:List (aj×Obj)) (s:ai) (σ:St) (H:Hp) (R:It→Hp→Prop),Inv X ak σ H s→wi σ H R →
  ba (aX X.prog X.w) X.A (dW iter X.env) (fun v s1=>ba (aX X.prog X.w) X.A (pyIter v) (PIE X ak σ tg R) X.xe s1) X.xe s
theorem go_of {it:aj}{o:Obj}{n:String}{vs:Array aa}(ho:s.heap.get? it=some o)(hc:o.cls= .type n)(hd:o.data= .fields vs)
  (hn:["enumerate","zip","dict_itemiterator","dict_reverseitemiterator","odict_iterator","itertools.zip_longest","itertools.pairwise"].contains n=false) (hQ:Q () s):ba M A (fc tg (.ref it) u) Q E s:=by
 unfold fc;cases tg <;> first
  | exact cg hQ
  | (cases u <;> first
    | exact cg hQ
    | (refine aJ (wpAny_load ho ?_)
       rw [hc,hd];show ba M A (if (["enumerate","zip","dict_itemiterator","dict_reverseitemiterator","odict_iterator","itertools.zip_longest","itertools.pairwise"].contains n && vs[0]? == some (rawInt _))=true then _ else _) Q E s;rw [iE (by intro h;rw [hn,Bool.false_and] at h;cases h)];exact cg hQ))
def Itl (K:ah)(a:aj):It :=
 ⟨fun i H=>∃ xs x,SqL K H a xs∧xs[i]? =some x,fun i H x H'=>H'=H∧∀ xs,SqL K H a xs→xs[i]? =some x,fun i H=>∃ xs,SqL K H a xs∧xs.length≤i⟩
def Itt (K:ah)(a:aj):It :=
 ⟨fun i H=>∃ xs x,SqT K H a xs∧xs[i]? =some x,fun i H x H'=>H'=H∧∀ xs,SqT K H a xs→xs[i]? =some x,fun i H=>∃ xs,SqT K H a xs∧xs.length≤i⟩
def Itr (lo:Int)(n:Nat):It:=⟨fun i _=>i<n,fun i H x H'=>H'=H∧x= .int (lo+i),fun i _=>n≤i⟩
theorem turn_list (a it:aj):Turn P w K tg (Itl K a) [it] it (fun i h=>h.IsListIter it a i) where
 mem:=by simp
 obj:=fun i h st b hb=>by
  have e:b=it:=by simpa using hb
  subst e;obtain ⟨o,e,c,d⟩:=st;exact ⟨o,e,fun v z=>by rw [d] at z;cases z⟩
 keep:=fun i h h' st k=>st.at fun o e=>k it (by simp) o e
 item:=by
  intro X hP hw hK hc i ak s σ H E I hf st hg;subst hP hw hK;obtain ⟨xs,x,hq,hx⟩:=hg;obtain ⟨its,rv,p,hz⟩:=I.list hq;obtain ⟨u,hu,ru⟩:=rv.get hx;obtain ⟨f0,f1,f2,f3,f4,f5⟩:=hf it (by simp);refine wpAny_pyNext_list_item st p.isList (x:=u) (by simpa using hu) fun h' st' sb=>?_
  have I1:Inv X ak σ H { s with heap:=h' }:=I.turned (t':=s.toks) (fun b o hb e=>(sb.2 b hb).trans e) f0 f1 f3 f4 f5;obtain ⟨o,e,c,d⟩:=id st';exact ⟨u,rfl,go_of (s:={ s with heap:=h' }) e c d (by decide) ⟨x,H,I1,ru,⟨rfl,fun ys hy=>by rw [I.list_inj hy hq];exact hx⟩,st',fun b hb=>(hf b hb).1⟩⟩
 done:=by
  intro X hP hw hK hc i ak s σ H E I hf st hg;subst hP hw hK;obtain ⟨xs,hq,hx⟩:=hg;obtain ⟨its,rv,p,hz⟩:=I.list hq;obtain ⟨f0,f1,f2,f3,f4,f5⟩:=hf it (by simp);have hl:=rv.length;exact wpAny_pyNext_list_end (I.ok.hd hc) st p.isList (by simp;lia) fun h' eb=>⟨rfl,I.turned (t':=s.toks) (fun b o hb e=>eb b o hb e) f0 f1 f3 f4 f5⟩
 self:=fun _ _ _ _ _ st h=>wpAny_pyIter_listiter st h
theorem turn_tuple (a it:aj):Turn P w K tg (Itt K a) [it] it (fun i h=>h.IsTupleIter it a i) where
 mem:=by simp
 obj:=fun i h st b hb=>by
  have e:b=it:=by simpa using hb
  subst e;obtain ⟨o,e,c,d⟩:=st;exact ⟨o,e,fun v z=>by rw [d] at z;cases z⟩
 keep:=fun i h h' st k=>st.at fun o e=>k it (by simp) o e
 item:=by
  intro X hP hw hK hc i ak s σ H E I hf st hg;subst hP hw hK;obtain ⟨xs,x,hq,hx⟩:=hg;obtain ⟨its,rv,p,hz⟩:=I.tuple hq;obtain ⟨u,hu,ru⟩:=rv.get hx;obtain ⟨f0,f1,f2,f3,f4,f5⟩:=hf it (by simp);refine wpAny_pyNext_tuple_item st (show s.heap.IsTuple a its.toArray from p) (x:=u) (by simpa using hu) fun h' st' sb=>?_
  have I1:Inv X ak σ H { s with heap:=h' }:=I.turned (t':=s.toks) (fun b o hb e=>(sb.2 b hb).trans e) f0 f1 f3 f4 f5;obtain ⟨o,e,c,d⟩:=id st';exact ⟨u,rfl,go_of (s:={ s with heap:=h' }) e c d (by decide) ⟨x,H,I1,ru,⟨rfl,fun ys hy=>by rw [I.tuple_inj hy hq];exact hx⟩,st',fun b hb=>(hf b hb).1⟩⟩
 done:=by
  intro X hP hw hK hc i ak s σ H E I hf st hg;subst hP hw hK;obtain ⟨xs,hq,hx⟩:=hg;obtain ⟨its,rv,p,hz⟩:=I.tuple hq;obtain ⟨f0,f1,f2,f3,f4,f5⟩:=hf it (by simp);have hl:=rv.length;exact wpAny_pyNext_tuple_end (I.ok.hd hc) st (show s.heap.IsTuple a its.toArray from p) (by simp;lia) fun h' eb=>⟨rfl,I.turned (t':=s.toks) (fun b o hb e=>eb b o hb e) f0 f1 f3 f4 f5⟩
 self:=fun _ _ _ _ _ st h=>wpAny_pyIter_tupleiter st h
theorem turn_range (it:aj)(lo:Int)(n:Nat):Turn P w K tg (Itr lo n) [it] it (fun i h=>IsRangeIter h it (lo+(i:Nat) * 1) ((n:Int) - (i:Nat)) 1) where
 mem:=by simp
 obj:=fun i h st b hb=>by
  have e:b=it:=by simpa using hb
  subst e;exact ⟨_,st,fun v z=>by
   have z':Data.fields _=Data.cell v:=z;cases z'⟩
 keep:=fun i h h' st k=>k it (by simp) _ st
 item:=by
  intro X hP hw hK hc i ak s σ H E I hf st hg;subst hP hw hK;obtain ⟨f0,f1,f2,f3,f4,f5⟩:=hf it (by simp);have W:=Walks.range (prog:=X.prog) (w:=X.w) (I.ok.hd hc) it lo 1 n;refine W.item i s _ _ hg st fun v h' tk hv st' kk=>?_
  obtain ⟨t,rfl⟩:=hv;have I1:Inv X ak σ H { s with heap:=h',toks:=tk }:=I.turned (fun b o hb e=>kk b o (by simpa using hb) e) f0 f1 f3 f4 f5;refine ⟨_,rfl,go_of (s:={ s with heap:=h',toks:=tk }) (n := "range_iterator") st' rfl rfl (by decide) ⟨.int (lo+i),H,I1,⟨t,?_⟩,⟨rfl,rfl⟩,st',fun b hb=>(hf b hb).1⟩⟩;rw [Int.mul_one]
 done:=by
  intro X hP hw hK hc i ak s σ H E I hf st hg;subst hP hw hK;obtain ⟨f0,f1,f2,f3,f4,f5⟩:=hf it (by simp);exact wpAny_pyNext_range_end (I.ok.hd hc) st (by have:n≤i:=hg;lia) fun h' eb=>⟨rfl,I.turned (t':=s.toks) (fun b o hb e=>eb b o hb e) f0 f1 f3 f4 f5⟩
 self:=fun _ _ _ _ _ st h=>wpAny_pyIter_rangeiter st h
def iList (K:ah)(tl:TE):TI:=fun σ H R=>tl σ H fun x H1=>∃ a,x= .ref a∧(∃ xs,SqL K H1 a xs)∧R (Itl K a) H1
def iTup (K:ah)(tl:TE):TI:=fun σ H R=>tl σ H fun x H1=>∃ a,x= .ref a∧(∃ xs,SqT K H1 a xs)∧R (Itt K a) H1
theorem pi_list {tl:TE}(hl:PE X l tl):PI X tg l (iList X.K tl):=by
 intro ak s σ H R I h;refine thn (hl ak s σ H _ I h) fun v s1 ⟨x,H1,I1,r1,q1⟩=>?_
 obtain ⟨a,e,⟨xs,hq⟩,q⟩:=q1;subst e;cases r1;obtain ⟨its,rv,p,hz⟩:=I1.list hq;refine wpAny_pyIter_list p.isList ?_;refine ⟨s1.heap.objs.size,[s1.heap.objs.size],_,_,H1,rfl,I1.kept (t':=s1.toks) fun b o e=>ar _ e,turn_list a _,⟨_,aW _ rfl,rfl,rfl⟩,fun b hb=>?_,q⟩;have e:b=s1.heap.objs.size:=by simpa using hb
 subst e;exact I1.fpOk (aI _) (I1.hok.fresh (aI _))
theorem pi_tup {tl:TE}(hl:PE X l tl):PI X tg l (iTup X.K tl):=by
 intro ak s σ H R I h;refine thn (hl ak s σ H _ I h) fun v s1 ⟨x,H1,I1,r1,q1⟩=>?_
 obtain ⟨a,e,⟨xs,hq⟩,q⟩:=q1;subst e;cases r1;obtain ⟨its,rv,p,hz⟩:=I1.tuple hq;refine wpAny_pyIter_tuple (show s1.heap.IsTuple a its.toArray from p) ?_;refine ⟨s1.heap.objs.size,[s1.heap.objs.size],_,_,H1,rfl,I1.kept (t':=s1.toks) fun b o e=>ar _ e,turn_tuple a _,⟨_,aW _ rfl,rfl,rfl⟩,fun b hb=>?_,q⟩;have e:b=s1.heap.objs.size:=by simpa using hb
 subst e;exact I1.fpOk (aI _) (I1.hok.fresh (aI _))
theorem range_it {σ:St}{R:It→Hp→Prop}{hi:Int}{t u v:Tok}{tk:Nat}(I:Inv X ak σ H s)(h1: -(2 ^ 62)≤lo)(h2:lo<2 ^ 62)(h3: -(2 ^ 62)≤hi)(h4:hi<2 ^ 62)
  (q:R (Itr lo (hi - lo).toNat) H):ba (aX X.prog X.w) X.A (pyIter (.ref s.heap.objs.size)) (PIE X ak σ tg R) E { s with heap:=s.heap.push { cls:= .type "range",data:= .fields #[.int lo t,.int hi u,.int 1 v] },toks:=tk }:=by
 refine wpAny_pyIter_range (IsRange.new ..) (small_one h1 h2 h3 h4) ?_;have I1:Inv X ak σ H { s with heap:=s.heap.push { cls:= .type "range",data:= .fields #[.int lo t,.int hi u,.int 1 v] },toks:=tk }:=I.kept fun b o e=>ar _ e
 refine ⟨(s.heap.push { cls:= .type "range",data:= .fields #[.int lo t,.int hi u,.int 1 v] }).objs.size,[(s.heap.push { cls:= .type "range",data:= .fields #[.int lo t,.int hi u,.int 1 v] }).objs.size],_,_,H,rfl,
  I1.kept (t':=tk) fun b o e=>ar _ e,turn_range _ lo (hi - lo).toNat,?_,fun b hb=>?_,q⟩
 ·have e1:lo+((0:Nat):Int) * 1=lo:=by simp
  have e2:(((hi - lo).toNat:Nat):Int) - ((0:Nat):Int)=fu.Range.rangeSize lo hi 1:=by rw [rangeSize_one];split <;> lia
  show IsRangeIter _ _ (lo+((0:Nat):Int) * 1) ((((hi - lo).toNat:Nat):Int) - ((0:Nat):Int)) 1;rw [e1,e2];exact aW _ rfl
 ·have e:b=(s.heap.push { cls:= .type "range",data:= .fields #[.int lo t,.int hi u,.int 1 v] }).objs.size:=by simpa using hb
  subst e;exact I1.fpOk (aI _) (I1.hok.fresh (aI _))
def iRng1 (ta:TA):TI:=fun σ H R=>ta σ H fun vs H1=>∃ j:Int,vs=[.int j]∧ -(2 ^ 62)≤j∧j<2 ^ 62∧R (Itr 0 j.toNat) H1
def iRng2 (ta:TA):TI:=fun σ H R=>ta σ H fun vs H1=>∃ i j:Int,vs=[.int i,.int j]∧(-(2 ^ 62)≤i∧i<2 ^ 62∧ -(2 ^ 62)≤j∧j<2 ^ 62)∧R (Itr i (j - i).toNat) H1
theorem pi_range1 {a:Expr}{ta:TA}(hg:Gl X "range")(hm:X.mg "range" =none)(ha:PA X [a] ta)(hs:aQ [a] X.env=[(false,dW a X.env)]:=by rfl):PI X tg (.Call (.Name "range" p) [a] [] pos) (iRng1 ta):=by
 intro ak s σ H R I h;refine Call_ (ld_blt I hg hm boot_range (d9 (thn (ha pos ak s σ H _ I h) fun us s1 ⟨vs,H1,I1,r1,q1⟩=>?_) hs rfl));obtain ⟨j,e,q1,q2,q⟩:=q1;subst e;cases r1 with
 | cons r rr =>
  cases rr;obtain ⟨t,rfl⟩:=r;exact call_range_1 (range_it I1 (by lia) (by lia) q1 q2 (by simpa using q))
theorem pi_range2 {a b:Expr}{ta:TA}(hg:Gl X "range")(hm:X.mg "range" =none)(ha:PA X [a,b] ta)(hs:aQ [a,b] X.env=[(false,dW a X.env),(false,dW b X.env)]:=by rfl)(hs2:aQ [b] X.env=[(false,dW b X.env)]:=by rfl) :
  PI X tg (.Call (.Name "range" p) [a,b] [] pos) (iRng2 ta):=by
 intro ak s σ H R I h;refine Call_ (ld_blt I hg hm boot_range (d9 (thn (ha pos ak s σ H _ I h) fun us s1 ⟨vs,H1,I1,r1,q1⟩=>?_) (by rw [hs,hs2]) (by rw [hs2];rfl)));obtain ⟨i,j,e,⟨q1,q2,q3,q4⟩,q⟩:=q1;subst e;cases r1 with
 | cons r rr =>
  cases rr with
  | cons r' rr =>
   cases rr;obtain ⟨t,rfl⟩:=r;obtain ⟨t',rfl⟩:=r';exact call_range_2 (range_it I1 q1 q2 q3 q4 q)
def tFor (wi:TI)(g:TG)(tb:TS):TS:=fun D σ H=>wi σ H fun J H1=>∃ W:Nat→Nat→St→Hp→Prop,(∃ m,W 0 m σ H1)∧∀ i m σ H,W i m σ H →
 (J.stop i H∧D.nx σ H)∨(J.go i H∧∃ N:St→Hp→Prop,(∀ σ' H',N σ' H'→∃ m',m'<m∧W (i+1) m' σ' H')∧∀ x H',J.yld i H x H'→g x σ H' fun σ2 H2=>tb { D with nx:=N,ct:=N,bk:=D.nx } σ2 H2)
def iu (fp:List aj)(h:bg):List (aj×Obj):=fp.filterMap fun b=>(h.get? b).map fun o=>(b,o)
theorem et {b:aj}{o:Obj}(hb:b∈fp)(e:h.get? b=some o):(b,o)∈iu fp h:=c9.mpr ⟨b,hb,by rw [e];rfl⟩
theorem of_pinsAt {p:aj×Obj}(hp:p∈iu fp h):p.1∈fp∧h.get? p.1=some p.2:=by
 obtain ⟨b,hb,e⟩:=c9.mp hp;cases q:h.get? b with
 | none=>rw [q] at e;cases e
 | some o =>
  rw [q] at e;have e':(b,o)=p:=aG e;subst e';exact ⟨hb,q⟩
theorem Inv.pinned {σ:St}(I:Inv X ak σ H s)(hf:∀ b∈fp,FpOk X ak H b)(ho:∀ b∈fp,∃ o,s.heap.get? b=some o∧∀ v,o.data≠ .cell v):Inv X (ak++iu fp s.heap) σ H s :=
 I.pins_of fun p hp=>(az.mp hp).elim (fun z=>I.pin p (aE _ z)) fun z=>by
  obtain ⟨hb,e⟩:=of_pinsAt z;obtain ⟨f0,f1,f2,_⟩:=hf p.1 hb;obtain ⟨o,e',d⟩:=ho p.1 hb;rw [e] at e';cases e';exact ⟨e,f0,f1,f2,d⟩
theorem Inv.unpinned {pl:List (aj×Obj)}{σ:St}(I:Inv X (ak++pl) σ H s):Inv X ak σ H s:=I.pins_of fun p hp=>I.pin p (aE _ (cR _ hp))
theorem ps_for {wi:TI}{g:TG}{tb:TS}(hp:PassesOwn (aX X.prog X.w) X.A X.env X.xe)(hc:X.calm=true)(hi:PI X tg iter wi)(hg:PG X tg g)(hb:PSs X body tb)
  (hs:∀ x,eo iter X.env x=pure x:=by intro _;rfl):PS X (.For tg iter body [] pos) (tFor wi g tb):=by
 intro ak s σ H D I h;refine wpAny_For (thn (hi ak s σ H _ I h) fun v s1 h1=>thn h1 fun itv s2 h2=>?_) hs;obtain ⟨it,fp,tn,J,H2,e,I2,T,st2,f2,W,⟨m0,w0⟩,turn⟩:=h2;subst e;have stat:∀ {H':Hp},(∀ b∈fp,H' b=none)→∀ b∈fp,FpOk X ak H' b:=fun hn b hb=>⟨hn b hb,(f2 b hb).2⟩
 refine codeAny_forLoop_any (fun n s'=>∃ i σ' H',Inv X ak σ' H' s'∧tn i s'.heap∧(∀ b∈fp,H' b=none)∧W i n σ' H') ?_ m0 ⟨0,σ,H2,I2,st2,fun b hb=>(f2 b hb).1,w0⟩;rintro n s3 ⟨i,σ3,H3,I3,st3,fr3,w3⟩
 rcases turn i n σ3 H3 w3 with ⟨stop,qn⟩ | ⟨go,N,hN,step⟩
 ·refine eX hp (thn (T.done X rfl rfl rfl hc i ak s3 σ3 H3 X.xe I3 (stat fr3) st3 stop) fun r s4 ⟨hr,I4⟩=>?_)
  subst hr;exact wpAny_execs_nil ⟨σ3,H3,I4,qn⟩
 ·refine eX hp (thn (T.item X rfl rfl rfl hc i ak s3 σ3 H3 X.xe I3 (stat fr3) st3 go) fun r s4 ⟨u,hr,h4⟩=>?_)
  subst hr;refine eX hp (thn h4 fun _ s5 ⟨x,H5,I5,r5,y5,st5,fr5⟩=>?_);have I5':=I5.pinned (stat fr5) (T.obj _ _ st5);refine eX hp (thn (hg _ s5 σ3 H5 x u _ I5' r5 (step x H5 y5)) fun _ s6 ⟨σ6,H6,I6,q6⟩=>?_);refine eX hp (thn (hb _ s6 σ6 H6 _ I6 q6) fun f s7 q7=>?_);have again:∀ {σ7:St} {H7:Hp},Inv X (ak++iu fp s5.heap) σ7 H7 s7→N σ7 H7→∃ m,m<n∧∃ i σ' H',Inv X ak σ' H' s7∧tn i s7.heap∧(∀ b∈fp,H' b=none)∧W i m σ' H':=fun {σ7 H7} I7 n7=>by
   obtain ⟨m',hm,w7⟩:=hN σ7 H7 n7;refine ⟨m',hm,i+1,σ7,H7,I7.unpinned,T.keep _ _ _ st5 fun b hb o e=>(I7.pin (b,o) (aE _ (aE _ (et hb e)))).1,fun b hb=>?_,w7⟩;obtain ⟨o,e,d⟩:=T.obj _ _ st5 b hb;exact (I7.pin (b,o) (aE _ (aE _ (et hb e)))).2.1
  cases f with
  | next=>obtain ⟨σ7,H7,I7,n7⟩:=q7;exact again I7 n7
  | cont=>obtain ⟨σ7,H7,I7,n7⟩:=q7;exact again I7 n7
  | brk=>obtain ⟨σ7,H7,I7,q7⟩:=q7;exact ⟨σ7,H7,I7.unpinned,q7⟩
  | ret v=>obtain ⟨x7,σ7,H7,I7,r7,q7⟩:=q7;exact ⟨x7,σ7,H7,I7.unpinned,r7,q7⟩
theorem for_tup {g:TG}{tb:TS}{D:Ends}{σ:St}(Pv:Nat→St→Hp→Prop)(h0:Pv 0 σ H)(hl:∀ i σ H,i≤xs.length→Pv i σ H→SqT K H a xs)
  (hs:∀ i x σ H,xs[i]? =some x→Pv i σ H→g x σ H fun σ2 H2=>tb { D with nx:=Pv (i+1),ct:=Pv (i+1),bk:=D.nx } σ2 H2) (hd:∀ σ H,Pv xs.length σ H→D.nx σ H) :
  ∃ W:Nat→Nat→St→Hp→Prop,(∃ m,W 0 m σ H)∧∀ i m σ H,W i m σ H →
   ((Itt K a).stop i H∧D.nx σ H)∨((Itt K a).go i H∧∃ N:St→Hp→Prop,(∀ σ' H',N σ' H'→∃ m',m'<m∧W (i+1) m' σ' H')∧∀ x H',(Itt K a).yld i H x H'→g x σ H' fun σ2 H2=>tb { D with nx:=N,ct:=N,bk:=D.nx } σ2 H2):=by
 refine ⟨fun i m σ H=>m=xs.length - i∧i≤xs.length∧Pv i σ H,⟨xs.length,by simp,cc _,h0⟩,?_⟩;rintro i m σ H ⟨rfl,hi,p⟩;have q:=hl i σ H hi p
 by_cases hlt:i<xs.length
 ·refine .inr ⟨⟨xs,xs[i],q,by simp [hlt]⟩,Pv (i+1),fun σ' H' p'=>⟨xs.length - (i+1),by lia,rfl,hlt,p'⟩,fun x H' y=>?_⟩
  obtain ⟨e,y⟩:=y;subst e;exact hs i x σ _ (y xs q) p
 ·have e:i=xs.length:=by lia
  subst e;exact .inl ⟨⟨xs,q,aI _⟩,hd σ H p⟩
theorem for_range {n:Nat}{g:TG}{tb:TS}{D:Ends}{σ:St}(Pv:Nat→St→Hp→Prop)(h0:Pv 0 σ H)
  (hs:∀ i σ H,i<n→Pv i σ H→g (.int (lo+i)) σ H fun σ2 H2=>tb { D with nx:=Pv (i+1),ct:=Pv (i+1),bk:=D.nx } σ2 H2) (hd:∀ σ H,Pv n σ H→D.nx σ H) :
  ∃ W:Nat→Nat→St→Hp→Prop,(∃ m,W 0 m σ H)∧∀ i m σ H,W i m σ H →
   ((Itr lo n).stop i H∧D.nx σ H)∨((Itr lo n).go i H∧∃ N:St→Hp→Prop,(∀ σ' H',N σ' H'→∃ m',m'<m∧W (i+1) m' σ' H')∧∀ x H',(Itr lo n).yld i H x H'→g x σ H' fun σ2 H2=>tb { D with nx:=N,ct:=N,bk:=D.nx } σ2 H2):=by
 refine ⟨fun i m σ H=>m=n - i∧i≤n∧Pv i σ H,⟨n,by simp,cc _,h0⟩,?_⟩;rintro i m σ H ⟨rfl,hi,p⟩
 by_cases hlt:i<n
 ·refine .inr ⟨hlt,Pv (i+1),fun σ' H' p'=>⟨n - (i+1),by lia,rfl,hlt,p'⟩,fun x H' y=>?_⟩
  obtain ⟨e,y⟩:=y;subst e y;exact hs i σ _ hlt p
 ·have e:i=n:=by lia
  subst e;exact .inl ⟨aI _,hd σ H p⟩
abbrev R2:=V→V→Hp→VK→Prop
def OpR (X:Cx)(f:aa→aa→Sem aa)(r:R2):Prop :=
 ∀ (ak:List (aj×Obj)) (s:ai) (σ:St) (H:Hp) (x y:V) (v u:aa) (Q:VK),Inv X ak σ H s→eC x v→eC y u→r x y H Q →
  ba (aX X.prog X.w) X.A (f v u) (EP X ak σ Q) X.xe s
def UnR (X:Cx)(f:aa→Sem aa)(r:V→Hp→VK→Prop):Prop :=
 ∀ (ak:List (aj×Obj)) (s:ai) (σ:St) (H:Hp) (x:V) (v:aa) (Q:VK),Inv X ak σ H s→eC x v→r x H Q →
  ba (aX X.prog X.w) X.A (f v) (EP X ak σ Q) X.xe s
def eN (X:Cx)(f:aa)(r:List V→Hp→VK→Prop):Prop :=
 ∀ (ak:List (aj×Obj)) (s:ai) (σ:St) (H:Hp) (xs:List V) (us:List aa) (Q:VK),Inv X ak σ H s→dM xs us→r xs H Q →
  ba (aX X.prog X.w) X.A (call f us) (EP X ak σ Q) X.xe s
def tOp (r:R2)(ta tb:TE):TE:=fun σ H Q=>ta σ H fun x H1=>tb σ H1 fun y H2=>r x y H2 Q
def tUn (r:V→Hp→VK→Prop)(ta:TE):TE:=fun σ H Q=>ta σ H fun x H1=>r x H1 Q
inductive rI (C:Int→Int→Prop)(g:Int→Int→V)(x:V)(y:V)(H:Hp)(Q:VK):Prop
 | mk (i j:_)(_:x= .int i)(_:y= .int j)(_:C i j)(_:Q (g i j) H)
inductive rI0 (g:Int→Int→V)(x:V)(y:V)(H:Hp)(Q:VK):Prop
 | mk (i j:_)(_:x= .int i)(_:y= .int j)(_:Q (g i j) H)
inductive rU (g:Int→V)(x:V)(H:Hp)(Q:VK):Prop
 | mk (i:_)(_:x= .int i)(_:Q (g i) H)
section
variable {a b c:Expr}{ta tb tc:TE}
theorem binT (ha:PE X a ta)(hb:PE X b tb){σ:St}{R:V→V→Hp→Prop}(I:Inv X ak σ H s)
  (h:ta σ H fun x H1=>tb σ H1 fun y H2=>R x y H2) {Q:aa→ai→Prop} {f:aa→aa→Sem aa}
  (hf:∀ v u s2 x y H2,Inv X ak σ H2 s2→eC x v→eC y u→R x y H2→ba (aX X.prog X.w) X.A (f v u) Q X.xe s2) :
  ba (aX X.prog X.w) X.A (dW a X.env) (fun v s₁=>ba (aX X.prog X.w) X.A (dW b X.env) (fun u s₂=>ba (aX X.prog X.w) X.A (f v u) Q X.xe s₂) X.xe s₁) X.xe s:=by
 refine thn (ha ak s σ H _ I h) fun v s1 ⟨x,H1,I1,r1,q1⟩=>?_
 refine thn (hb ak s1 σ H1 _ I1 q1) fun u s2 ⟨y,H2,I2,r2,q2⟩=>?_
 exact hf v u s2 x y H2 I2 r1 r2 q2
theorem bE {op:Operator}{r:R2}(ho:OpR X (dJ op) r)(ha:PE X a ta)(hb:PE X b tb):PE X (.BinOp a op b pos) (tOp r ta tb):=by
 intro ak s σ H Q I h;exact wpAny_BinOp (binT ha hb I h fun v u s2 x y H2 I2 rx ry q=>ho ak s2 σ H2 x y v u Q I2 rx ry q)
theorem pe_un {op:UnaryOp}{r:V→Hp→VK→Prop}(ho:UnR X (unaryOp op) r)(ha:PE X a ta):PE X (.UnaryOp op a pos) (tUn r ta):=by
 intro ak s σ H Q I h;exact UnaryOp_ (thn (ha ak s σ H _ I h) fun v s1 ⟨x,H1,I1,r1,q1⟩=>ho ak s1 σ H1 x v Q I1 r1 q1)
theorem opI {f:aa→aa→Sem aa}{C:Int→Int→Prop}{g:Int→Int→Int}
  (rule:∀ (i j:Int) (t u:Tok) (s:ai) (Q:aa→ai→Prop) (E:aa→ai→Prop),C i j→Q (.int (g i j) s.toks) { s with toks:=s.toks+1 }→ba (aX X.prog X.w) X.A (f (.int i t) (.int j u)) Q E s) :
  OpR X f (rI C fun i j=> .int (g i j)):=by
 intro ak s σ H x y v u Q I rx ry h;obtain ⟨i,j,rfl,rfl,hc,q⟩:=h;obtain ⟨t,rfl⟩:=rx;obtain ⟨t',rfl⟩:=ry;exact rule i j t t' s _ _ hc ⟨.int (g i j),H,I.tok _,⟨_,rfl⟩,q⟩
theorem opI0 {f:aa→aa→Sem aa}{g:Int→Int→Int}
  (rule:∀ (i j:Int) (t u:Tok) (s:ai) (Q:aa→ai→Prop) (E:aa→ai→Prop),Q (.int (g i j) s.toks) { s with toks:=s.toks+1 }→ba (aX X.prog X.w) X.A (f (.int i t) (.int j u)) Q E s) :
  OpR X f (rI0 fun i j=> .int (g i j)):=by
 intro ak s σ H x y v u Q I rx ry h;obtain ⟨i,j,rfl,rfl,q⟩:=h;obtain ⟨t,rfl⟩:=rx;obtain ⟨t',rfl⟩:=ry;exact rule i j t t' s _ _ ⟨.int (g i j),H,I.tok _,⟨_,rfl⟩,q⟩
theorem opB0 {f:aa→aa→Sem aa}{g:Int→Int→Bool}
  (rule:∀ (i j:Int) (t u:Tok) (s:ai) (Q:aa→ai→Prop) (E:aa→ai→Prop),Q (.bool (g i j)) s→ba (aX X.prog X.w) X.A (f (.int i t) (.int j u)) Q E s) :
  OpR X f (rI0 fun i j=> .bl (g i j)):=by
 intro ak s σ H x y v u Q I rx ry h;obtain ⟨i,j,rfl,rfl,q⟩:=h;obtain ⟨t,rfl⟩:=rx;obtain ⟨t',rfl⟩:=ry;exact rule i j t t' s _ _ ⟨.bl (g i j),H,I,rfl,q⟩
def CDiv (i j:Int):Prop:=0<j∧j<1073741824
def CPow (i j:Int):Prop:=0≤j∧j≤1000000∧i.natAbs<2 ^ 64
def CMul (i j:Int):Prop:=(-(2 ^ 64)<i∧i<2 ^ 64)∨(-(2 ^ 64)<j∧j<2 ^ 64)
theorem CMul.ok {j:Int}(h:CMul i j):IntMulOk i j:=by
 rcases h with ⟨h1,h2⟩ | ⟨h1,h2⟩
 ·exact .of_left (intBits_le_64 h1 h2)
 ·exact .of_right (intBits_le_64 h1 h2)
theorem eG:OpR X (dJ .Add) (rI0 fun i j=> .int (i+j)):=opI0 fun _ _ _ _ _ _ _ q=>add_int q
theorem fX:OpR X (dJ .Sub) (rI0 fun i j=> .int (i - j)):=opI0 fun _ _ _ _ _ _ _ q=>sub_int q
theorem g8:OpR X (dJ .Mult) (rI CMul fun i j=> .int (i * j)):=opI fun _ _ _ _ _ _ _ hc q=>mul_int q hc.ok
theorem fG:OpR X (dJ .FloorDiv) (rI CDiv fun i j=> .int (i / j)):=opI fun i j _ _ _ _ _ hc q=>by
 have h1:(0:Int)<j:=hc.1;have h2:j<1073741824:=hc.2;exact floordiv_int (by lia) (by rw [Int.fdiv_eq_ediv_of_nonneg i (by lia)];exact q) (.inl (PyProof.noPylong_small (by lia)))
theorem eF:OpR X (dJ .Mod) (rI (fun _ j=>0<j) fun i j=> .int (i % j)):=opI fun i j _ _ _ _ _ hc q=>by
 have h1:(0:Int)<j:=hc;exact mod_int' (by lia) (by rw [Int.fmod_eq_emod_of_nonneg i (by lia)];exact q)
theorem op_pow:OpR X (dJ .Pow) (rI CPow fun i j=> .int (i ^ j.toNat)):=opI fun _ _ _ _ _ _ _ hc q=>pow_int_small hc.1 hc.2.1 hc.2.2 q
theorem unI {f:aa→Sem aa}{g:Int→Int}
  (rule:∀ (i:Int) (t:Tok) (s:ai) (Q:aa→ai→Prop) (E:aa→ai→Prop),Q (.int (g i) s.toks) { s with toks:=s.toks+1 }→ba (aX X.prog X.w) X.A (f (.int i t)) Q E s) :
  UnR X f (rU fun i=> .int (g i)):=by
 intro ak s σ H x v Q I rx h;obtain ⟨i,rfl,q⟩:=h;obtain ⟨t,rfl⟩:=rx;exact rule i t s _ _ ⟨.int (g i),H,I.tok _,⟨_,rfl⟩,q⟩
theorem un_neg:UnR X (unaryOp .USub) (rU fun i=> .int (-i)):=unI fun _ _ _ _ _ q=>neg_int q
end
def scal:V→V→Bool
 | .non,.non=>true | .non,.int _=>true | .int _,.non=>true | .non,.bl _=>true | .bl _,.non=>true | .non,.str _=>true | .str _,.non=>true
 | .int _,.int _=>true | .bl _,.bl _=>true | .str _,.str _=>true | .byt _,.byt _=>true
 | .int _,.str _=>true | .str _,.int _=>true | .bl _,.str _=>true | .str _,.bl _=>true
 | _,_=>false
def rEq:R2:=fun x y H Q=>scal x y=true∧Q (.bl (decide (x=y))) H
def rNe:R2:=fun x y H Q=>scal x y=true∧Q (.bl (!decide (x=y))) H
theorem dec_int {j:Int}:decide (V.int i=V.int j)=(i == j):=by
 rw [dU];simp
theorem dec_bl {i j:Bool}:decide (V.bl i=V.bl j)=(i == j):=by
 rw [dU];simp
theorem dec_str {i j:Str}:decide (V.str i=V.str j)=(i == j):=by
 rw [dU];simp
theorem dec_byt {i j:Array UInt8}:decide (V.byt i=V.byt j)=(i.toList == j.toList):=by
 rw [dU];cases i;cases j;simp
section
variable {a b c:Expr}{ta tb tc:TE}
theorem cx {σ:St}{Q:VK}{k k':Bool}(I:Inv X ak σ H s)(q:Q (.bl k) H)(e:k=k'):EP X ak σ Q (.bool k') s:=by
 subst e;exact ⟨.bl k,H,I,rfl,q⟩
theorem g9:OpR X (dQ .Eq) rEq:=by
 intro ak s σ H x y v u Q I rx ry h;obtain ⟨hs,q⟩:=h;cases x with
 | non =>
  cases rx;cases y with
  | non=>cases ry;exact PySem.EqNone.eq_none_none (cx I q (by simp))
  | bl j=>cases ry;exact PySem.EqNone.eq_none_bool (cx I q (by simp))
  | int j=>obtain ⟨t',rfl⟩:=ry;exact PySem.EqNone.eq_none_int (cx I q (by simp))
  | str j=>obtain ⟨t',rfl⟩:=ry;exact PySem.EqNone.eq_none_str (cx I q (by simp))
  | _=>exact iG (show false=true from hs) aM
 | bl i =>
  cases rx;cases y with
  | non=>cases ry;exact PySem.EqNone.eq_bool_none (cx I q (by simp))
  | bl j=>cases ry;exact eq_bool (cx I q dec_bl)
  | str j=>obtain ⟨t',rfl⟩:=ry;exact PySem.EqMixed.eq_bool_str (cx I q (by simp))
  | _=>exact iG (show false=true from hs) aM
 | int i =>
  obtain ⟨t,rfl⟩:=rx;cases y with
  | non=>cases ry;exact PySem.EqNone.eq_int_none (cx I q (by simp))
  | int j=>obtain ⟨t',rfl⟩:=ry;exact eq_int (cx I q dec_int)
  | str j=>obtain ⟨t',rfl⟩:=ry;exact PySem.EqMixed.eq_int_str (cx I q (by simp))
  | _=>exact iG (show false=true from hs) aM
 | str i =>
  obtain ⟨t,rfl⟩:=rx;cases y with
  | non=>cases ry;exact PySem.EqNone.eq_str_none (cx I q (by simp))
  | bl j=>cases ry;exact PySem.EqMixed.eq_str_bool (cx I q (by simp))
  | int j=>obtain ⟨t',rfl⟩:=ry;exact PySem.EqMixed.eq_str_int (cx I q (by simp))
  | str j=>obtain ⟨t',rfl⟩:=ry;exact eq_str (cx I q dec_str)
  | _=>exact iG (show false=true from hs) aM
 | byt i =>
  obtain ⟨t,rfl⟩:=rx;cases y with
  | byt j=>obtain ⟨t',rfl⟩:=ry;exact PySem.W.eq_bytes (cx I q dec_byt)
  | _=>exact iG (show false=true from hs) aM
 | _=>cases y <;> exact iG (show false=true from hs) aM
theorem op_ne:OpR X (dQ .NotEq) rNe:=by
 intro ak s σ H x y v u Q I rx ry h;obtain ⟨hs,q⟩:=h;cases x with
 | non =>
  cases rx;cases y with
  | non=>cases ry;exact PySem.EqNone.ne_none_none (cx I q (by simp))
  | bl j=>cases ry;exact PySem.EqNone.ne_none_bool (cx I q (by simp))
  | int j=>obtain ⟨t',rfl⟩:=ry;exact PySem.EqNone.ne_none_int (cx I q (by simp))
  | str j=>obtain ⟨t',rfl⟩:=ry;exact PySem.EqNone.ne_none_str (cx I q (by simp))
  | _=>exact iG (show false=true from hs) aM
 | bl i =>
  cases rx;cases y with
  | non=>cases ry;exact PySem.EqNone.ne_bool_none (cx I q (by simp))
  | bl j=>cases ry;exact ne_bool (cx I q (iK not dec_bl))
  | str j=>obtain ⟨t',rfl⟩:=ry;exact PySem.EqMixed.ne_bool_str (cx I q (by simp))
  | _=>exact iG (show false=true from hs) aM
 | int i =>
  obtain ⟨t,rfl⟩:=rx;cases y with
  | non=>cases ry;exact PySem.EqNone.ne_int_none (cx I q (by simp))
  | int j=>obtain ⟨t',rfl⟩:=ry;exact ne_int (cx I q (iK not dec_int))
  | str j=>obtain ⟨t',rfl⟩:=ry;exact PySem.EqMixed.ne_int_str (cx I q (by simp))
  | _=>exact iG (show false=true from hs) aM
 | str i =>
  obtain ⟨t,rfl⟩:=rx;cases y with
  | non=>cases ry;exact PySem.EqNone.ne_str_none (cx I q (by simp))
  | bl j=>cases ry;exact PySem.EqMixed.ne_str_bool (cx I q (by simp))
  | int j=>obtain ⟨t',rfl⟩:=ry;exact PySem.EqMixed.ne_str_int (cx I q (by simp))
  | str j=>obtain ⟨t',rfl⟩:=ry;exact ne_str (cx I q (iK not dec_str))
  | _=>exact iG (show false=true from hs) aM
 | byt i =>
  obtain ⟨t,rfl⟩:=rx;cases y with
  | byt j=>obtain ⟨t',rfl⟩:=ry;exact PySem.W.ne_bytes (cx I q (iK not dec_byt))
  | _=>exact iG (show false=true from hs) aM
 | _=>cases y <;> exact iG (show false=true from hs) aM
theorem op_lt:OpR X (dQ .Lt) (rI0 fun i j=> .bl (decide (i<j))):=opB0 fun _ _ _ _ _ _ _ q=>lt_int q
theorem op_le:OpR X (dQ .LtE) (rI0 fun i j=> .bl (decide (i≤j))):=opB0 fun _ _ _ _ _ _ _ q=>le_int q
theorem op_gt:OpR X (dQ .Gt) (rI0 fun i j=> .bl (decide (j<i))):=opB0 fun _ _ _ _ _ _ _ q=>gt_int q
theorem op_in_str:OpR X (dQ .In) (fun x y H Q=>∃ i j,x= .str i∧y= .str j∧Q (.bl (!(bo j i 0 j.length 1).isEmpty)) H):=by
 intro ak s σ H x y v u Q I rx ry h;obtain ⟨i,j,rfl,rfl,q⟩:=h;obtain ⟨t,rfl⟩:=rx;obtain ⟨t',rfl⟩:=ry;exact in_str (cx I q rfl)
theorem cM (b:Expr)(h:op≠ .In:=by decide)(h2:op≠ .NotIn:=by decide):behindInMarks op b=false:=by
 have e1:(op == CmpOp.In)=false:=by cases op <;> first | rfl | exact iG rfl h
 have e2:(op == CmpOp.NotIn)=false:=by cases op <;> first | rfl | exact iG rfl h2
 cases b <;> simp [behindInMarks,e1,e2]
theorem pe_cmpR {r:R2}(ho:OpR X (dQ op) r)(ha:PE X a ta)(hb:PE X b tb)(hm:behindInMarks op b=false):PE X (.Compare a [op] [b] pos) (tOp r ta tb):=by
 intro ak s σ H Q I h;exact wpAny_Compare1 (binT ha hb I h fun v u s2 x y H2 I2 rx ry q=>ho ak s2 σ H2 x y v u Q I2 rx ry q) hm
def tTest (t:TE):TT:=fun σ H Q=>t σ H fun x H'=>IsBl x fun k=>Q k H'
theorem cn {r:R2}(ho:OpR X (dQ op) r)(ha:PE X a ta)(hb:PE X b tb)(hm:behindInMarks op b=false):PT X (.Compare a [op] [b] pos) (tTest (tOp r ta tb)):=by
 intro ak s σ H Q I h;refine wpAny_isTrue_Compare1 (thn (ha ak s σ H _ I h) fun v s1 ⟨x,H1,I1,r1,q1⟩=>thn (hb ak s1 σ H1 _ I1 q1) fun u s2 ⟨y,H2,I2,r2,q2⟩ =>
  thn (ho ak s2 σ H2 x y v u _ I2 r1 r2 q2) fun c s3 ⟨z,H3,I3,r3,k,e,q3⟩=>?_) hm
 subst e;cases r3;exact cS ⟨H3,I3,q3⟩
def tChain (r r':R2)(ta tb tc:TE):TE:=fun σ H Q=>ta σ H fun x H1=>tb σ H1 fun y H2=>r x y H2 fun z H3=>∃ k,z= .bl k ∧
 (if k=true then tc σ H3 fun w' H4=>r' y w' H4 Q else Q (.bl false) H3)
theorem pe_chain {op':CmpOp}{r r':R2}(ho:OpR X (dQ op) r)(ho':OpR X (dQ op') r')(ha:PE X a ta)(hb:PE X b tb)(hc:PE X c tc)
  (hm:lastMarks [op,op'] [b,c]=false:=by with_unfolding_all rfl):PE X (.Compare a [op,op'] [b,c] pos) (tChain r r' ta tb tc):=by
 intro ak s σ H Q I h;refine Compare_chain (thn (ha ak s σ H _ I h) fun v s1 ⟨x,H1,I1,r1,q1⟩=>chain_link (thn (hb ak s1 σ H1 _ I1 q1) fun u s2 ⟨y,H2,I2,r2,q2⟩ =>
  thn (ho ak s2 σ H2 x y v u _ I2 r1 r2 q2) fun d s3 ⟨z,H3,I3,r3,k,e,q3⟩=>?_)) hm
 subst e;cases r3;refine cS ?_;cases k with
 | false=>exact ite_ff ⟨.bl false,H3,I3,rfl,q3⟩
 | true=>exact ite_tt (chain_last (thn (hc ak s3 σ H3 _ I3 q3) fun w' s4 ⟨z',H4,I4,r4,q4⟩=>ho' ak s4 σ H4 y z' u w' Q I4 r2 r4 q4))
theorem iz:(ax:Nat)<2 ^ 63:=by rw [sizeLine_eq];decide
theorem cz:OpR X (dJ .Add) (fun x y H Q=>∃ i j,x= .str i∧y= .str j∧i.length+j.length≤ax∧Q (.str (i++j)) H):=by
 intro ak s σ H x y v u Q I rx ry h;obtain ⟨i,j,rfl,rfl,hz,q⟩:=h;obtain ⟨t,rfl⟩:=rx;obtain ⟨t',rfl⟩:=ry;exact add_str (fun t' tk=>⟨.str (i++j),H,I.tok _,⟨_,rfl⟩,q⟩) hz
theorem vals1 {x:V}(r:dM [x] us):∃ u,us=[u]∧eC x u:=by
 cases r with
 | cons r1 r2=>cases r2;exact ⟨_,rfl,r1⟩
theorem vals2 {x y:V}(r:dM [x,y] us):∃ u w',us=[u,w']∧eC x u∧eC y w':=by
 cases r with
 | cons r1 r2 =>
  cases r2 with
  | cons r3 r4=>cases r4;exact ⟨_,_,rfl,r1,r3⟩
theorem call_min2 (hc:X.calm=true):eN X (.builtin "min") (fun xs H Q=>∃ i j,xs=[.int i,.int j]∧Q (.int (if j<i then j else i)) H):=by
 intro ak s σ H xs us Q I r h;obtain ⟨i,j,rfl,q⟩:=h;obtain ⟨u,w',rfl,⟨t,rfl⟩,⟨t',rfl⟩⟩:=vals2 r;refine min_two_ints (I.ok.hd hc) fun h' tk k=>⟨_,H,I.kept k,?_,q⟩
 by_cases hj:j<i
 ·rw [iF hj,iF hj];exact ⟨_,rfl⟩
 ·rw [iE hj,iE hj];exact ⟨_,rfl⟩
theorem dH:eN X (.type "str") (fun xs H Q=>∃ i,xs=[.int i]∧i.natAbs.log2<1920∧Q (.str (toString i)) H):=by
 intro ak s σ H xs us Q I r h;obtain ⟨i,rfl,hz,q⟩:=h;obtain ⟨u,rfl,t,rfl⟩:=vals1 r;exact PySem.P.str_of_int hz ⟨.str _,H,I.tok _,⟨_,rfl⟩,q⟩
end
structure ObjM (h:bg)(x dx C:aj)(mA:Str→Option aa):Prop where
 obj:h.get? x=some (PySem.W.instObj C dx)
 ns:h.Ns1 dx mA
 ne:dx≠x
theorem lookIn_ns {dx:aj}(n:h.Ns1 dx mA):∃ od,h.get? dx=some od∧∀ name,PySem.W.lookIn name od=some (mA name):=by
 obtain ⟨o,es,ep,ho,hd,hk,_,hm⟩:=n;refine ⟨o,ho,fun name=>?_⟩;have e:=hm name;unfold nsFind findBy at e;rw [←Array.find?_toList] at e;unfold PySem.W.lookIn;rw [hd]
 dsimp only
 split
 ·rename_i y q
  rw [q] at e;exact iK some e
 ·rename_i q
  rw [q] at e;have a:es.toList.any (·.refKey)=false:=by
   rw [List.any_eq_false];intro y hy;obtain ⟨z,t,hkey⟩:=hk y (Array.mem_toList_iff.mp hy);simp [DictEntry.refKey,hkey]
  have a':¬ es.toList.any (·.refKey)=true:=by rw [a];exact aM
  rw [iE a'];exact iK some e
theorem ObjM.look {x dx:aj}(I:ObjM h x dx C mA):∃ od,PySem.W.InstAt h x (PySem.W.instObj C dx) C (some od)∧∀ name,PySem.W.lookIn name od=some (mA name) :=
 let ⟨od,ho,hl⟩:=lookIn_ns I.ns
 ⟨od,⟨I.obj,rfl,rfl,ho⟩,hl⟩
section
variable {dx:aj}{fs fs':List (Str×V)}
theorem ins_get (hok:HOk P w H h)(e:H a=some (.ins C dx fs)):∃ mA,ObjM h a dx C mA∧(∀ f,RelO (fs.lookup f) (mA f))∧PySem.Within mA (fs.map (·.1))∧fs.length≤1000∧H dx=some (.own a):=by
 obtain ⟨d,z,ne,ob,mA,n,r,q⟩:=(show ee P w H h a (.ins C dx fs) from hok a _ e);exact ⟨mA,⟨ob,n,ne⟩,r,q,z,d⟩
end
structure Cls (K:ah)(C:aj):Prop where
 pg:PySem.W.plainGet K C bp=true
 hd:PySem.W.hasDictIn K C=true
 po:PySem.W.plainOver K C=true
 sa:PySem.W.findIn K (.ref C) "__setattr__" =some (some (.builtin "object.__setattr__"))
theorem Cls.get (c:Cls K C)(f:Str):PySem.W.plainGet K C f=true:=c.pg
section
variable {σ:St}{Q:aa→ai→Prop}{c:aa}{b:Bool}
inductive TyOf (K:ah)(H:Hp):V→aa→Prop where
 | non:TyOf K H .non (.type "NoneType")
 | bl (x:Bool):TyOf K H (.bl x) (.type "bool")
 | int (i:Int):TyOf K H (.int i) (.type "int")
 | str (x:Str):TyOf K H (.str x) (.type "str")
 | flt (x:UInt64):TyOf K H (.flt x) (.type "float")
 | lst {a:aj} {xs:List V} (e:H a=some (.lst xs)):TyOf K H (.ref a) (.type "list")
 | frz {a:aj} {o:Obj} {xs:List V} (e:H a=some (.frz o (.lst xs))):TyOf K H (.ref a) (.type "list")
 | tup {a:aj} {xs:List V} (e:H a=some (.tup xs)):TyOf K H (.ref a) (.type "tuple")
 | dK {a:aj} {kvs:List (Key×V)} (e:H a=some (.dK kvs)):TyOf K H (.ref a) (.type "dict")
 | dT {a:aj} {kvs:List (List Key×V)} (e:H a=some (.dT kvs)):TyOf K H (.ref a) (.type "dict")
 | ins {a C dx:aj} {fs:List (Str×V)} (e:H a=some (.ins C dx fs)) (cl:Cls K C) (ha:PySem.W.findIn K (.ref C) "__class__" =some (some (.builtin "object.__class__")))
   (hn:PySem.W.specialIn K (.builtin "object.__class__") "__get__" =some (some (.builtin "getset_descriptor.__get__"))) (htk:PySem.W.takesIn K (.builtin "object.__class__")=some true)
   (hm:d7 K C (.type "object")=some true):TyOf K H (.ref a) (.ref C)
theorem isinst_ok {x:V}{t:aa}(I:Inv X ak σ H s)(rx:eC x u)(ty:TyOf X.K H x t)(e:aO X.K t c=some b)(h:∀ tk,Q (.bool b) { s with toks:=tk }) :
  ba (aX X.prog X.w) A (call (.builtin "isinstance") [u,c]) Q E s:=by
 cases ty with
 | non=>cases (show u=aa.none from rx);exact bT PySem.W.kitx_none I.kIn True.intro e (fun z=>nomatch z) h
 | bl y=>cases (show u=aa.bool y from rx);exact bT PySem.W.kitx_bool I.kIn True.intro e (fun z=>nomatch z) h
 | int i=>obtain ⟨t,q⟩:=(show ∃ t,u=aa.int i t from rx);cases q;exact bT PySem.W.kitx_int I.kIn True.intro e (fun z=>nomatch z) h
 | str y=>obtain ⟨t,q⟩:=(show ∃ t,u=aa.str y t from rx);cases q;exact bT PySem.W.kitx_str I.kIn True.intro e (fun z=>nomatch z) h
 | flt y=>obtain ⟨t,q⟩:=(show ∃ t,u=aa.float y t from rx);cases q;exact bT PySem.W.kitx_float I.kIn True.intro e (fun z=>nomatch z) h
 | @lst a xs ea =>
  cases (show u=aa.ref a from rx);obtain ⟨_,_,n,_,h1⟩:=(show ee X.prog X.w H s.heap a (.lst xs) from I.hok a _ ea);exact bT PySem.W.kitx_list I.kIn ⟨_,h1,rfl⟩ e (fun z=>nomatch z) h
 | @frz a ob xs ea =>
  cases (show u=aa.ref a from rx);obtain ⟨_,_,_,n,_,h1⟩:=(show ee X.prog X.w H s.heap a (.frz ob (.lst xs)) from I.hok a _ ea);exact bT PySem.W.kitx_list I.kIn ⟨_,h1,rfl⟩ e (fun z=>nomatch z) h
 | @tup a xs ea =>
  cases (show u=aa.ref a from rx);obtain ⟨_,_,_,p⟩:=(show ee X.prog X.w H s.heap a (.tup xs) from I.hok a _ ea);obtain ⟨o,h1,h2,_⟩:=p;exact bT PySem.W.kitx_tuple I.kIn ⟨o,h1,h2⟩ e (fun z=>nomatch z) h
 | @dK a kvs ea =>
  cases (show u=aa.ref a from rx);obtain ⟨_,_,vs,_,p⟩:=(show ee X.prog X.w H s.heap a (.dK kvs) from I.hok a _ ea);obtain ⟨o,es,ep,h1,h2,_⟩:=p;exact bT PySem.W.kitx_dict I.kIn ⟨o,h1,h2.1⟩ e (fun z=>nomatch z) h
 | @dT a kvs ea =>
  cases (show u=aa.ref a from rx);obtain ⟨_,_,xs,_,o,es,ep,h1,h2,_⟩:=(show ee X.prog X.w H s.heap a (.dT kvs) from I.hok a _ ea);exact bT PySem.W.kitx_dict I.kIn ⟨o,h1,h2.1⟩ e (fun z=>nomatch z) h
 | @ins a C dx fs ea cl ha hn htk hm =>
  cases (show u=aa.ref a from rx);obtain ⟨mA,O,_⟩:=ins_get I.hok ea;obtain ⟨od,J,_⟩:=O.look;exact bT (PySem.W.kitx_own (cl.get _) cl.hd ha hn htk hm) I.kIn J e (fun z=>nomatch z) h
end
structure fM (k:Nat)(A:bO):Prop where
 hd:A.handled=none
 dp:A.depth+3 * k+5<recursionLimit
 un:A.units+16 * k+200<cLine
theorem fM.mono (r:fM k A)(h:j≤k):fM j A:=⟨r.hd,by have:=r.dp;lia,by have:=r.un;lia⟩
theorem fM.deeper (r:fM (k+1) A)(env:Env):fM k (A.deeper env) :=
 ⟨r.hd,by have:=r.dp;show A.depth+1+3 * k+5<_;lia,by have:=r.un;show A.units+3+16 * k+200<_;lia⟩
theorem fM.depth (r:fM k A):A.depth<recursionLimit:=by have:=r.dp;lia
theorem fM.units (r:fM k A):A.units+64<cLine:=by have:=r.un;lia
def tNil:TA:=fun _ H Q=>Q [] H
def gR (ta:TE)(tr:TA):TA:=fun σ H Q=>ta σ H fun x H1=>tr σ H1 fun xs H2=>Q (x::xs) H2
section
variable {te:TE}{t:TA}
theorem av:PA X [] tNil:=fun _ _ _ _ H Q I h=>Calls.spliced_nil ⟨[],H,I,.nil,h⟩
theorem ae (ha:PE X e te)(hr:PA X es t)(hs:aQ (e::es) X.env=(false,dW e X.env)::aQ es X.env:=by rfl):PA X (e::es) (gR te t):=by
 intro pos ak s σ H Q I h;rw [hs];show ba _ _ (spliced ((false,dW e X.env)::backTo pos (aQ es X.env))) _ _ s;refine dS (thn (ha ak s σ H _ I h) fun u s1 ⟨x,H1,I1,r1,q1⟩=>?_);exact thn (hr pos ak s1 σ H1 _ I1 q1) fun us s2 ⟨xs,H2,I2,r2,q2⟩=>⟨x::xs,H2,I2,.cons r1 r2,q2⟩
def tTup (t:TA):TE:=fun σ H Q=>t σ H fun xs H1=>xs.length≤ax∧∀ p,H1 p=none→Q (.ref p) (upd H1 p (.tup xs))
def tLst (t:TA):TE:=fun σ H Q=>t σ H fun xs H1=>xs.length≤ax∧∀ p,H1 p=none→Q (.ref p) (upd H1 p (.lst xs))
theorem pe_tup {x1}(h:PA X es t):PE X (.Tuple es x1 pos) (tTup t):=by
 intro ak s σ H Q I hq;refine wpAny_Tuple_spliced (thn (h pos ak s σ H _ I hq) fun us s1 ⟨xs,H1,I1,r,z,q⟩=>⟨by rw [←r.length];exact z,?_⟩);have hf:H1 s1.heap.objs.size=none:=I1.hok.fresh (aI _);refine ⟨.ref s1.heap.objs.size,upd H1 s1.heap.objs.size (.tup xs),I1.laid (t':=s1.toks) (fun b u e=>ar _ e) (aI _) ?_,rfl,q _ hf⟩;exact ⟨z,us,r,⟨_,aW _ rfl,rfl,rfl,_,rfl⟩⟩
theorem gm (h:PA X es t):PE X (.List es pos) (tLst t):=by
 intro ak s σ H Q I hq;refine wpAny_List_spliced (thn (h pos ak s σ H _ I hq) fun us s1 ⟨xs,H1,I1,r,z,q⟩=>⟨by rw [←r.length];exact z,?_⟩);have hf:H1 s1.heap.objs.size=none:=I1.hok.fresh (aI _);refine ⟨.ref s1.heap.objs.size,upd H1 s1.heap.objs.size (.lst xs),I1.laid (t':=s1.toks) (fun b u e=>ar _ e) (aI _) ?_,rfl,q _ hf⟩;exact ⟨z,us,0,r,aW _ rfl⟩
end
abbrev Sp:=List V→Hp→VK→XK→Prop
abbrev CXT:=List Env→Hp→ai→XK→aa→ai→Prop
structure Env0 (P:aP)(w:bj)(K:ah)(mg:Str→Option aa)(base:bg)(A:bO)(outer:List Env)(s:ai)(H:Hp):Prop where
 frames:A.frames=some outer
 mod:Mod K mg base
 bs:∀ b o,base.get? b=some o→s.heap.get? b=some o∧H b=none
 bsz:base.objs.size≤s.heap.objs.size
 funs:s.heap.FunFrames base outer
 frf:∀ b∈frs outer,H b=none
 hok:HOk P w H s.heap
 bare:AllBare s.gens
def CE (outer:List Env)(P:aP)(w:bj)(H:Hp)(s:ai)(Q:VK)(u:aa)(s':ai):Prop :=
 ∃ v H',s'.os=s.os∧AllBare s'.gens∧Un (frs outer) [] H H' s.heap s'.heap∧HOk P w H' s'.heap∧eC v u∧Q v H'
def CR (CX:CXT)(outer:List Env)(P:aP)(w:bj)(H:Hp)(s:ai)(Q:VK)(E:XK)(r:Result)(s':ai):Prop :=
 match r with
 | .ok (.ret u)=>CE outer P w H s Q u s'
 | .ok _=>False
 | .error e=>CX outer H s E e s'
structure da (P:aP)(w:bj)(K:ah)(mg:Str→Option aa)(base:bg)(CX:CXT)(k:Nat)(f:aj)(fd:aY)(ps:List Str)(sp:Sp):Prop where
 len:∀ vs H Q E,sp vs H Q E→vs.length=ps.length
 run:∀ (A:bO) (outer:List Env) (s:ai) (H:Hp) (args:Args) (us:List aa) (vs:List V) (Q:VK) (E:XK),fM k A→Env0 P w K mg base A outer s H→BindsTo s fd args (ps.zip us)→dM vs us→sp vs H Q E →
  codeAny (aX P w) A (.call (.ref f) args) (CR CX outer P w H s Q E) s
section
variable {σ:St}
theorem Inv.env0 (I:Inv X ak σ H s):Env0 X.prog X.w X.K X.mg X.base X.A X.stack s H :=
 ⟨I.ok.frames,I.ok.mod,I.bs,aR I.ok.bsz I.sz,I.stack,I.stkFree,I.hok,I.bare⟩
theorem Inv.after {Q:VK}(I:Inv X ak σ H s)(h:CE X.stack X.prog X.w H s Q u s'):EP X ak σ Q u s':=by
 obtain ⟨v,H',os,bare,un,hok,r,q⟩:=h;obtain ⟨hh,g,d,t,os'⟩:=s';obtain rfl:os'=s.os:=os;exact ⟨v,H',I.call (h':=hh) (g':=g) (d':=d) (t':=t) (ch:=[]) un hok bare (fun b z=>iG z (by simp)),r,q⟩
end
def tCall (sp:Sp)(dvs:List V)(E:XK)(t:TA):TE:=fun σ H Q=>t σ H fun vs H1=>sp (vs++dvs) H1 Q E
def Binds (K:ah)(fd:aY)(ps:List Str)(ds:List aa):Prop :=
 ∀ (s:ai) (us:List aa),K.In s.heap→(us++ds).length=ps.length→BindsTo s fd ⟨us,[]⟩ (ps.zip (us++ds))
theorem Binds.all (h:∀ us:List aa,us.length=ps.length→bindArgs fd ⟨us,[]⟩=pure (ps.zip us)):Binds K fd ps []:=fun s us _ hl=>by
 rw [List.append_nil] at hl ⊢;exact .of_eq (h us hl)
def gs (CX:CXT)(X:Cx)(E:XK):Prop:=∀ (ak:List (aj×Obj)) (σ:St) (H:Hp) (s:ai) (e:aa) (s':ai),Inv X ak σ H s→CX X.stack H s E e s'→X.xe e s'
section
variable {CX:CXT}{sp:Sp}{ds:List aa}{E:XK}{m:Str}{o:Expr}{ta:TE}{t:TA}
theorem run_fn {σ:St}{Q:VK}(F:da X.prog X.w X.K X.mg X.base CX k f fd ps sp)(hr:fM k X.A)(hb:Binds X.K fd ps ds)(hd:dM dvs ds)(hx:gs CX X E)
  (I:Inv X ak σ H s) (r:dM vs us) (h:sp (vs++dvs) H Q E):ba (aX X.prog X.w) X.A (call (.ref f) us) (EP X ak σ Q) X.xe s:=by
 have r2:dM (vs++dvs) (us++ds):=r.append hd;have hl:(us++ds).length=ps.length:=by rw [←r2.length];exact F.len _ _ _ _ h
 refine wpAny_call (codeAny_mono (F.run X.A X.stack s H ⟨us,[]⟩ (us++ds) (vs++dvs) Q E hr I.env0 (hb s us I.kIn hl) r2 h) fun r s' hq=>?_);cases r with
 | error e=>exact hx ak σ H s e s' I hq
 | ok fl =>
  cases fl with
  | ret u=>exact I.after hq
  | next=>exact cw hq
  | brk=>exact cw hq
  | cont=>exact cw hq
theorem pe_call (F:da X.prog X.w X.K X.mg X.base CX k f fd ps sp)(hr:fM k X.A)(hg:Gl X x)(hm:X.mg x=some (.ref f))(hk:dY X.K (.ref f)=true)(hb:Binds X.K fd ps ds)(hd:dM dvs ds)(hx:gs CX X E)
  (ha:PA X (e::es) t) (hdb:(x == ("__debug__" :Str))=false:=by decide) (he:aQ (e::es) X.env=(false,dW e X.env)::aQ es X.env:=by rfl) (hpl:(backTo pos (aQ es X.env)).any (·.1)=false:=by rfl) :
  PE X (.Call (.Name x p) (e::es) [] pos) (tCall sp dvs E t):=by
 intro ak s σ H Q I h;refine d4 (gy I hg hm ?_ hdb);refine PySem.W.callWith_K (h₀:=X.base) I.ok.mod.kin hk (thn (ha pos ak s σ H _ I h) fun us s1 ⟨vs,H1,I1,r,q⟩=>⟨I1.kIn,?_⟩) he hpl;exact run_fn F hr hb hd hx I1 r q
theorem pe_call0 (F:da X.prog X.w X.K X.mg X.base CX k f fd ps sp)(hr:fM k X.A)(hg:Gl X x)(hm:X.mg x=some (.ref f))(hk:dY X.K (.ref f)=true)(hb:Binds X.K fd ps ds)(hd:dM dvs ds)(hx:gs CX X E)
  (hdb:(x == ("__debug__" :Str))=false:=by decide):PE X (.Call (.Name x p) [] [] pos) (tCall sp dvs E tNil):=by
 intro ak s σ H Q I h;refine d4 (gy I hg hm ?_ hdb);exact PySem.W.callWith_K0 I.kIn hk (run_fn (us:=[]) F hr hb hd hx I .nil h)
end
structure cj (N P:List Str)(sc:Scope):Prop where
 kind:sc.kind= .function
 co:sc.isCoroutine=false
 gen:sc.isGenerator=false
 nd:N.Nodup
 pre:N.take P.length=P
 par:∀ x∈P,sc.names.lookup x=some .local∨sc.names.lookup x=some .cell
 nofree:∀ y∈sc.names,y.2≠ .free
theorem bindL_out {kindOf:Str→Option bA}{x:Str}:∀ {binds:List (Str×aa)} {m:Str→Option aa},(∀ v,(x,v) ∉ binds)→bindL kindOf binds m x=m x
 | [],_,_=>rfl
 | (n,v)::r,m,h=>by
  unfold bindL;rw [bindL_out fun w hw=>h w (aT _ hw)];split
  ·have:x≠n:=by rintro rfl;exact h v cm
   simp [this]
  ·rfl
theorem bindC_out {kindOf:Str→Option bA}{x:Str}:∀ {binds:List (Str×aa)} {m:Str→Option aa},(∀ v,(x,v) ∉ binds)→bindC kindOf binds m x=m x
 | [],_,_=>rfl
 | (n,v)::r,m,h=>by
  unfold bindC;rw [bindC_out fun w hw=>h w (aT _ hw)];split
  ·rfl
  ·have:x≠n:=by rintro rfl;exact h v cm
   simp [this]
theorem bindL_get {kindOf:Str→Option bA}{x:Str}{v:aa}:∀ {P:List Str} {vs:List aa} {i:Nat} {m:Str→Option aa},P.Nodup→P[i]? =some x→vs[i]? =some v→kindOf x=some .local →
  bindL kindOf (P.zip vs) m x=some v
 | [],_,_,_,_,h,_,_=>by simp at h
 | _::_,[],_,_,_,_,h,_=>by simp at h
 | p::P,w::vs,0,m,nd,h1,h2,hk=>by
  simp at h1 h2;subst h1;subst h2;show bindL kindOf ((p,w)::P.zip vs) m p=_;unfold bindL;rw [bindL_out fun v hv=>(fW.mp nd).1 (List.of_mem_zip hv).1,iF hk];simp
 | p::P,w::vs,i+1,m,nd,h1,h2,hk=>by
  show bindL kindOf ((p,w)::P.zip vs) m x=_;unfold bindL;exact bindL_get (i:=i) (fW.mp nd).2 (by simpa using h1) (by simpa using h2) hk
theorem bindC_get {kindOf:Str→Option bA}{x:Str}{v:aa}:∀ {P:List Str} {vs:List aa} {i:Nat} {m:Str→Option aa},P.Nodup→P[i]? =some x→vs[i]? =some v→kindOf x≠some .local →
  bindC kindOf (P.zip vs) m x=some v
 | [],_,_,_,_,h,_,_=>by simp at h
 | _::_,[],_,_,_,_,h,_=>by simp at h
 | p::P,w::vs,0,m,nd,h1,h2,hk=>by
  simp at h1 h2;subst h1;subst h2;show bindC kindOf ((p,w)::P.zip vs) m p=_;unfold bindC;rw [bindC_out fun v hv=>(fW.mp nd).1 (List.of_mem_zip hv).1,iE hk];simp
 | p::P,w::vs,i+1,m,nd,h1,h2,hk=>by
  show bindC kindOf ((p,w)::P.zip vs) m x=_;unfold bindC;exact bindC_get (i:=i) (fW.mp nd).2 (by simpa using h1) (by simpa using h2) hk
def start (N:List Str)(vs:List V):St:=vs.map some++List.replicate (N.length - vs.length) none
def cxOf (CX:CXT)(P:aP)(w:bj)(K:ah)(mg:Str→Option aa)(base:bg)(N:List Str)(qual:Str)(scope:Scope)(f:aj)(cd:aa)(A:bO)(outer:List Env)(s:ai)(H:Hp)(E:XK):Cx where
 prog:=P
 w:=w
 K:=K
 mg:=mg
 base:=base
 A:=A.deeper (envOfC qual scope s.heap.objs.size f cd)
 N:=N
 s₀:=s
 H₀:=H
 env:=envOfC qual scope s.heap.objs.size f cd
 outer:=outer
 stack:=envOfC qual scope s.heap.objs.size f cd::outer
 ex:=[]
 calm:=true
 fn:=fun _=>true
 pn:=[]
 xe:=fun e s'=>ba (aX P w) (A.deeper (envOfC qual scope s.heap.objs.size f cd)) (leaving (envOfC qual scope s.heap.objs.size f cd) e) (fun _ s''=>CX outer H s E e s'') (fun e' s''=>CX outer H s E e' s'') s'
theorem cell_has {sc:Scope}{n:Nat}(h:sc.names.lookup x=some .cell):∃ c,(cellsFrom n sc.names []).lookup x=some c:=by
 have q:=PySem.W.cellsFrom_some sc.names n [] (.inl h);exact Option.isSome_iff_exists.mp q
theorem inv_start {CX:CXT}{cd:aa}{s1:ai}{E:XK}
  (S:cj N ps scope) (hd:A.handled=none) (e0:Env0 P w K mg base A outer s H) (hl:vs.length=ps.length) (r:dM vs us)
  (x:InCallC s s.heap.objs.size (bindL (envOfC qual scope s.heap.objs.size f cd).kindOf (ps.zip us) fun _=>none) (cellsFrom (s.heap.objs.size+1) scope.names []) (bindC (envOfC qual scope s.heap.objs.size f cd).kindOf (ps.zip us) fun _=>none) s1) :
  Inv (cxOf CX P w K mg base N qual scope f cd A outer s H E) [] (start N vs) H s1:=by
 have hpl:ps.length≤N.length:=by have:=iK bY S.pre;rw [bq] at this;lia
 obtain ⟨h1,tk,rfl,hk⟩:=x.done;have noA:∀ b:aj,b ∉ (cxOf CX P w K mg base N qual scope f cd A outer s H E).ex:=fun b z=>iG (show b∈([]:List aj) from z) (by simp)
 refine ⟨⟨e0.mod,S.kind,rfl,rfl,aI _,fun y z c h1 h2=>?_,fun y hy=>?_,fun y c _ h=>?_,fun _=>hd,bO.frames_deeper e0.frames,.inr ⟨rfl,rfl⟩,fun b z=>iG z (noA b),e0.bs,e0.bsz,fun b _ _=>noA b,fun b z=>iG z (noA b),e0.funs,e0.frf⟩,
  rfl,e0.bare,Un.kept hk,⟨_,x.toInCall.ns,fun i y v h1 h2 h3=>?_⟩,fun y c h=>⟨_,x.cell y c h⟩,e0.hok.fresh (aI _),fun y c h=>?_,fun p hp=>iG (show p∈([]:List (aj×Obj)) from hp) (by simp),e0.hok.kept hk,?_⟩
 ·exact name_of_addr x.apart (bt h1) (bt h2)
 ·have hy:scope.names.lookup y=some .cell∨scope.names.lookup y=some .free:=hy
  rcases hy with hy | hy
  ·exact cell_has hy
  ·exact iG rfl (S.nofree _ (bt hy))
 ·exact Nat.le_of_lt (x.above y c (bt h))
 ·have hi:i<vs.length:=by
   unfold start at h2
   by_cases hi:i<vs.length
   ·exact hi
   ·rw [dw (by simpa using hi)] at h2
    rw [List.getElem?_replicate] at h2;split at h2 <;> cases h2
  have ha:vs[i]? =some v:=by
   unfold start at h2;rw [fi (by simpa using hi),aS] at h2;cases e:vs[i]? with
   | none=>rw [e] at h2;cases h2
   | some a=>rw [e] at h2;cases h2;rfl
  obtain ⟨u,hu,rv⟩:=r.get ha;have hp:ps[i]? =some y:=by
   rw [←S.pre,List.getElem?_take_of_lt (by lia)];exact h1
  have ndP:ps.Nodup:=by rw [←S.pre];exact S.nd.sublist (List.take_sublist _ _)
  refine ⟨u,rv,?_⟩
  rcases S.par y (aZ hp) with k | k
  ·exact .inl ⟨k,bindL_get ndP hp hu k⟩
  ·obtain ⟨c,e⟩:=cell_has (n:=s.heap.objs.size+1) k
   refine .inr ⟨.inl k,c,e,?_⟩;have q:=x.cell y c e;rw [bindC_get ndP hp hu (by show scope.names.lookup y≠_;rw [k];decide)] at q;exact q
 ·exact e0.hok.fresh (Nat.le_of_lt (x.above y c (bt h)))
 ·unfold start
  show _=N.length;rw [aq,af,List.length_replicate];lia
theorem fn_of {CX:CXT}{params:Arguments}{dV kV doc pm cdv ct oc:aa}{an od:Option aj}
  {sp:Sp} (lk:K.lookup f=some ⟨oc,od,.func (cW name qual params body scope dV kV doc pm an cdv ct),osl⟩) (hcd:PySem.W.codeIn K cdv qual=true) (S:cj N ps scope)
  (len:∀ vs H Q E,sp vs H Q E→vs.length=ps.length)
  (hbody:∀ (A:bO) (outer:List Env) (s:ai) (H:Hp) (vs:List V) (Q:VK) (E:XK),fM k (A.deeper (envOfC qual scope s.heap.objs.size f cdv))→sp vs H Q E →
   ∃ t,PSs (cxOf CX P w K mg base N qual scope f cdv A outer s H E) body t∧t { nx:=fun _ H'=>Q .non H',rt:=Q } (start N vs) H) :
  da P w K mg base CX (k+1) f (cW name qual params body scope dV kV doc pm an cdv ct) ps sp:=by
 refine ⟨len,fun A outer s H args us vs Q E hr e0 hb r hsp=>?_⟩;have hl:=len _ _ _ _ hsp;have KX:K.In s.heap:=e0.mod.kin.keeps fun b o e=>(e0.bs b o e).1
 have lim:s.heap.NoLimit:=e0.mod.nolimit.keeps fun b o e=>(e0.bs b o e).1
 have gA:∀ y∈ps.zip us,scope.names.lookup y.1=some .local∨(scope.names.lookup y.1=some .cell∧((cellsFrom (s.heap.objs.size+1) scope.names []).lookup y.1).isSome=true):=fun ⟨n,v⟩ hy=>by
  rcases S.par n (List.of_mem_zip hy).1 with q | q
  ·exact .inl q
  ·exact .inr ⟨q,PySem.W.cellsFrom_some _ _ _ (.inl q)⟩
 refine codeAny_call_function hr.depth (KX _ _ lk) rfl S.co S.gen rfl (PySem.W.codeRec_of KX hcd) (hb _ _ _ _ ?_);refine wpAny_newFunctionEnv_cells S.kind gA fun env he s1 x=>?_
 subst he;refine ⟨lim.keeps x.toInCall.keep,codeAny_func ?_⟩;obtain ⟨t,ht,hq⟩:=hbody A outer s H vs Q E (hr.deeper _) hsp;have I:Inv (cxOf CX P w K mg base N qual scope f cdv A outer s H E) [] (start N vs) H s1:=inv_start S hr.hd e0 hl r x;refine bN (ht [] s1 (start N vs) H _ I hq) (fun fl s' hs=>?_) fun e s' hs=>hs
 have fin:∀ {σ':St} {H':Hp} {v:V} {u:aa},Inv (cxOf CX P w K mg base N qual scope f cdv A outer s H E) [] σ' H' s'→eC v u→Q v H'→CE outer P w H s Q u s' :=
  fun {σ' H' v u} J rv q=>⟨v,H',J.os,J.bare,J.base,J.hok,rv,q⟩
 cases fl with
 | ret u =>
  obtain ⟨v,σ',H',J,rv,q⟩:=hs;exact fin J rv q
 | next =>
  obtain ⟨σ',H',J,q⟩:=hs;exact fin (v:=V.non) (u:=aa.none) J rfl q
 | brk =>
  obtain ⟨_,_,_,q⟩:=hs;exact cw q
 | cont =>
  obtain ⟨_,_,_,q⟩:=hs;exact cw q
section
variable {t:TA}{id:String}{r:List V→Hp→VK→Prop}
def tCB (r:List V→Hp→VK→Prop)(t:TA):TE:=fun σ H Q=>t σ H fun vs H1=>r vs H1 Q
theorem bH (hc:eN X (.builtin id) r)(hg:Gl X x)(hm:X.mg x=none)(hv:er x=some (.builtin id))(ha:PA X (e::es) t)(hn:x ≠ "__name__" := by decide)(hdb:(x == ("__debug__" :Str))=false:=by decide)
  (he:aQ (e::es) X.env=(false,dW e X.env)::aQ es X.env:=by rfl) (hpl:(backTo pos (aQ es X.env)).any (·.1)=false:=by rfl):PE X (.Call (.Name x p) (e::es) [] pos) (tCB r t):=by
 intro ak s σ H Q I h;refine d4 (ld_blt I hg hm hv ?_ hn hdb);exact PyProof.Rows.callWith_builtin1 (thn (ha pos ak s σ H _ I h) fun us s1 ⟨vs,H1,I1,r1,q1⟩=>hc ak s1 σ H1 vs us Q I1 r1 q1) he hpl
theorem dC (hc:eN X (.type T) r)(hg:Gl X x)(hm:X.mg x=none)(hv:er x=some (.type T))(ha:PA X (e::es) t)(hn:x ≠ "__name__" := by decide)(hdb:(x == ("__debug__" :Str))=false:=by decide)
  (he:aQ (e::es) X.env=(false,dW e X.env)::aQ es X.env:=by rfl) (hpl:(backTo pos (aQ es X.env)).any (·.1)=false:=by rfl):PE X (.Call (.Name x p) (e::es) [] pos) (tCB r t):=by
 intro ak s σ H Q I h;refine d4 (ld_blt I hg hm hv ?_ hn hdb);exact d9 (thn (ha pos ak s σ H _ I h) fun us s1 ⟨vs,H1,I1,r1,q1⟩=>hc ak s1 σ H1 vs us Q I1 r1 q1) he hpl
end
end L2
variable {CW:L2.St→L2.VK→L2.It→L2.Hp→Prop}{CX:L2.CXT}{D:L2.Ends}{g:L2.TG}{r r':L2.V→Option Int→Option Int→L2.Hp→L2.VK→Prop}{t:L2.TA}{ta tb te tl:L2.TE}{tt:L2.TT}{wi:L2.TI}{σ:L2.St}
namespace HT
open PySem PyProof.Rows
def sIx (n d:Nat):Option Int→Nat
 | none=>d
 | some v=>if v<0 then (v+(n:Int)).toNat else min v.toNat n
theorem sIx_none (n d:Nat):sIx n d none=d:=rfl
theorem sIx_nat (n d k:Nat):sIx n d (some (k:Int))=min k n:=by
 show (if (k:Int)<0 then ((k:Int)+(n:Int)).toNat else min (k:Int).toNat n)=min k n;rw [iE (by lia),Int.toNat_natCast]
end HT
namespace L2
open PySem PySem.Spec PyProof.Rows
abbrev TO:=St→Hp→(Option Int→Hp→Prop)→Prop
def PO (X:Cx)(e:Option Expr)(t:TO):Prop :=
 ∀ (ak:List (aj×Obj)) (s:ai) (σ:St) (H:Hp) (Q:Option Int→Hp→Prop),Inv X ak σ H s→t σ H Q →
  ba (aX X.prog X.w) X.A (evalPart e X.env) (fun u s'=>∃ o H',Inv X ak σ H' s'∧IsPart u o∧Q o H') X.xe s
def tNoPart:TO:=fun _ H Q=>Q none H
def tPart (t:TE):TO:=fun σ H Q=>t σ H fun x H1=>∃ i,x= .int i∧Q (some i) H1
section
variable {lo hi:Option Expr}{tl th:TO}
theorem dn:PO X none tNoPart:=by
 intro ak s σ H Q I h;rw [evalPart_none];exact cg ⟨none,H,I,.none,h⟩
theorem dm (h:PE X e te):PO X (some e) (tPart te):=by
 intro ak s σ H Q I hw;rw [evalPart_some];refine thn (h ak s σ H _ I hw) fun u s1 ⟨x,H1,I1,r1,q1⟩=>?_
 obtain ⟨i,rfl,q⟩:=q1;obtain ⟨t,rfl⟩:=r1;exact ⟨some i,H1,I1,.int i t,q⟩
def SlR (X:Cx)(r:V→Option Int→Option Int→Hp→VK→Prop):Prop :=
 ∀ (ak:List (aj×Obj)) (s:ai) (σ:St) (H:Hp) (x:V) (v vl vu:aa) (lo hi:Option Int) (sl:aj) (Q:VK),Inv X ak σ H s→eC x v→s.heap.IsSliceOf sl vl vu .none→IsPart vl lo→IsPart vu hi→r x lo hi H Q →
  ∃ T id,typeLookup (.type T) "__getitem__" =pure (some (.builtin id))∧s.TypeIs v T∧ba (aX X.prog X.w) X.A (getItem v (.ref sl)) (EP X ak σ Q) X.xe s
def tSl (r:V→Option Int→Option Int→Hp→VK→Prop)(te:TE)(tl th:TO):TE:=fun σ H Q=>te σ H fun x H1=>tl σ H1 fun l H2=>th σ H2 fun u H3=>r x l u H3 Q
theorem cP (hr:SlR X r)(he:PE X e te)(hl:PO X lo tl)(hu:PO X hi th):PE X (.Subscript e (.Slice lo hi none p2) pos) (tSl r te tl th):=by
 intro ak s σ H Q I h;refine Subscript_ (thn (he ak s σ H _ I h) fun v s1 ⟨x,H1,I1,r1,q1⟩=>?_);refine wpAny_Slice (thn (hl ak s1 σ H1 _ I1 q1) fun vl s2 ⟨l,H2,I2,pl,q2⟩=>thn (hu ak s2 σ H2 _ I2 q2) fun vu s3 ⟨u,H3,I3,pu,q3⟩=>?_);rw [evalPart_none];refine cg ?_;have I4:Inv X ak σ H3 { s3 with heap:=s3.heap.push { cls:= .type "slice",data:= .fields #[vl,vu,.none] } }:=I3.kept (t':=s3.toks) fun b ob q=>ar _ q
 obtain ⟨T,id,hT,ht,hg⟩:=hr ak { s3 with heap:=s3.heap.push { cls:= .type "slice",data:= .fields #[vl,vu,.none] } } σ H3 x v vl vu l u s3.heap.objs.size Q I4 r1 (bg.IsSliceOf.new ..) pl pu q3;show ba (aX X.prog X.w) X.A (subscriptTail e (.Slice lo hi none p2) v (.ref s3.heap.objs.size)) (EP X ak σ Q) X.xe { s3 with heap:=s3.heap.push { cls:= .type "slice",data:= .fields #[vl,vu,.none] } };exact tail_any (ops:=[.ref s3.heap.objs.size,v]) ht hT hg (by with_unfolding_all rfl)
def gQ (xs:List V)(lo hi:Option Int):List V:=(xs.drop (HT.sIx xs.length 0 lo)).take (HT.sIx xs.length xs.length hi - HT.sIx xs.length 0 lo)
theorem cutV_length (xs:List V)(lo hi:Option Int):(gQ xs lo hi).length≤xs.length:=by
 unfold gQ;rw [bq,dE];lia
end
def ixN (n:Nat)(i:Int):Option Nat:=if 0≤i then (if i<n then some i.toNat else none) else if -(n:Int)≤i then some (i+n).toNat else none
def atI {α:Type}(xs:List α)(i:Int):Option α:=(ixN xs.length i).bind fun j=>xs[j]?
theorem ixN_seq {n:Nat}(h:ixN n i=some j):seqIndex? i n=some j∧j<n∧ -(n:Int)≤i∧i<n:=by
 unfold ixN at h
 by_cases h0:0≤i
 ·rw [iF h0] at h
  by_cases h1:i<n
  ·rw [iF h1] at h
   have e:i.toNat=j:=aG h;exact ⟨by rw [seqIndex_of h0 h1,e],by lia,by lia,h1⟩
  ·rw [iE h1] at h;cases h
 ·rw [iE h0] at h
  by_cases h1: -(n:Int)≤i
  ·rw [iF h1] at h
   have e:(i+n).toNat=j:=aG h;exact ⟨by rw [seqIndex_neg (by lia) h1,e],by lia,h1,by lia⟩
  ·rw [iE h1] at h;cases h
theorem atI_get {xs:List α}{v:α}(h:atI xs i=some v):∃ j,seqIndex? i xs.length=some j∧xs[j]? =some v∧j<xs.length∧ -(xs.length:Int)≤i∧i<xs.length:=by
 unfold atI at h;cases e:ixN xs.length i with
 | none=>rw [e] at h;cases h
 | some j =>
  rw [e] at h;obtain ⟨h1,h2,h3,h4⟩:=ixN_seq e;exact ⟨j,h1,h,h2,h3,h4⟩
theorem cq {xs:List α}{v:α}(h:xs[j]? =some v):atI xs (j:Int)=some v:=by
 have hj:j<xs.length:=(bh.mp h).1;have e:ixN xs.length (j:Int)=some j:=by
  unfold ixN;rw [iF (by lia),iF (by lia)];simp
 unfold atI;rw [e];exact h
def PlainIx (b:Expr):Prop:=∀ o i,subscripted b false o i=operate [o,i] (getItem o i)
def IxR (X:Cx)(r:R2):Prop :=
 ∀ (value slice:Expr) (ak:List (aj×Obj)) (s:ai) (σ:St) (H:Hp) (x y:V) (v u:aa) (Q:VK),Inv X ak σ H s→eC x v→eC y u→r x y H Q →
  subscripted slice false v u=operate [v,u] (getItem v u)→ba (aX X.prog X.w) X.A (subscriptTail value slice v u) (EP X ak σ Q) X.xe s
def MtR (X:Cx)(id:String)(r:V→List V→Hp→VK→Prop):Prop :=
 ∀ (ak:List (aj×Obj)) (s:ai) (σ:St) (H:Hp) (x:V) (xs:List V) (v:aa) (us:List aa) (Q:VK),Inv X ak σ H s→eC x v→dM xs us→r x xs H Q →
  ba (aX X.prog X.w) X.A (call (.builtin id) (v::us)) (EP X ak σ Q) X.xe s
section
variable {a b:Expr}
theorem eZ {r:R2}(hr:IxR X r)(ha:PE X a ta)(hb:PE X b tb)(hs:PlainIx b):PE X (.Subscript a b pos) (tOp r ta tb):=by
 intro ak s σ H Q I h;exact Subscript_ (binT ha hb I h fun v u s2 x y H2 I2 rx ry q=>hr a b ak s2 σ H2 x y v u Q I2 rx ry q (hs _ _))
inductive rIxL (K:ah)(x:V)(y:V)(H:Hp)(Q:VK):Prop
 | mk (p xs i v:_)(_:x= .ref p)(_:y= .int i)(_:SqL K H p xs)(_:atI xs i=some v)(_:Q v H)
inductive rIxT (K:ah)(x:V)(y:V)(H:Hp)(Q:VK):Prop
 | mk (p xs i v:_)(_:x= .ref p)(_:y= .int i)(_:SqT K H p xs)(_:atI xs i=some v)(_:Q v H)
inductive rIxS (x:V)(y:V)(H:Hp)(Q:VK):Prop
 | mk (z i c:_)(_:x= .str z)(_:y= .int i)(_:z.length≤ax)(_:atI z.cps.toList i=some c)(_:Q (.str ⟨#[c]⟩) H)
theorem cD:IxR X (rIxL X.K):=by
 intro value slice ak s σ H x y v u Q I rx ry h hs;obtain ⟨p,xs,i,z,rfl,rfl,hq,he,q⟩:=h;cases rx;obtain ⟨t,rfl⟩:=ry;obtain ⟨its,r,pl,hz⟩:=I.list hq;obtain ⟨j,h1,h2,h3,h4,h5⟩:=atI_get he;obtain ⟨w,ew,rw'⟩:=r.get h2;have hl:=r.length;have hn:=iz;have fin:EP X ak σ Q w s:=⟨z,H,I,rw',q⟩
 by_cases h0:0≤i
 ·have hj:i.toNat=j:=by
   rw [seqIndex_of h0 h5] at h1;exact aG h1
  exact item_listR pl.isList h0 (by lia) (by rw [hj];simpa using ew) fin hs
 ·have hj:(i+(its.toArray.size:Int)).toNat=j:=by
   rw [seqIndex_neg (by lia) h4] at h1;rw [aC,←hl];exact aG h1
  exact subscriptTail_builtinR (x:=w) pl.isList.typeIs slot_list_getitem.lookup
   (wpAny_getItem_list_neg (Q:=fun r s'=>r=w∧EP X ak σ Q r s') pl.isList (by lia) (by rw [aC] <;> lia) (by lia) (by rw [hj];simpa using ew) ⟨rfl,fin⟩) hs
theorem ix_tup:IxR X (rIxT X.K):=by
 intro value slice ak s σ H x y v u Q I rx ry h hs;obtain ⟨p,xs,i,z,rfl,rfl,hq,he,q⟩:=h;cases rx;obtain ⟨t,rfl⟩:=ry;obtain ⟨its,r,pl,hz⟩:=I.tuple hq;obtain ⟨j,h1,h2,h3,h4,h5⟩:=atI_get he;obtain ⟨w,ew,rw'⟩:=r.get h2;have hl:=r.length;have hn:=iz;have fin:EP X ak σ Q w s:=⟨z,H,I,rw',q⟩;exact subscriptTail_builtinR (x:=w) pl.typeIs slot_tuple_getitem.lookup
  (getItem_tuple (j:=j) (Q:=fun r s'=>r=w∧EP X ak σ Q r s') pl (by lia) (by lia) (by rw [aC,←hl];exact h1) (by simpa using ew) ⟨rfl,fin⟩) hs
theorem ix_str:IxR X rIxS:=by
 intro value slice ak s σ H x y v u Q I rx ry h hs;obtain ⟨z,i,c,rfl,rfl,hz,he,q⟩:=h;obtain ⟨t,rfl⟩:=rx;obtain ⟨t',rfl⟩:=ry;obtain ⟨j,h1,h2,h3,h4,h5⟩:=atI_get he;have hl:z.cps.toList.length=z.length:=by simp [dD]
 rw [hl] at h1 h4 h5;have hn:=iz;exact tail_any (typeIs_str s z t) slot_str_getitem.lookup (getItem_str (c:=c) (by
  have e1:decide (i< -(2 ^ 63:Int))=false:=iI (by lia);have e2:decide (i ≥ 2 ^ 63)=false:=iI (by lia);rw [e1,e2,Bool.or_false]) (by rw [h1];simpa using h2) ⟨.str ⟨#[c]⟩,H,I.tok _,⟨_,rfl⟩,q⟩) hs
theorem mapSeq_set (its:List aa)(n j:Nat)(u:aa):Obj.mapSeq (·.setIfInBounds j u) { cls:= .type "list",data:= .seq its.toArray n }={ cls:= .type "list",data:= .seq (its.set j u).toArray n }:=by
 simp [Obj.mapSeq]
theorem Inv.lst {ak:List (aj×Obj)}{σ:St}{H:Hp}{s:ai}{p:aj}{xs:List V}(I:Inv X ak σ H s)(h:H p=some (.lst xs)) :
  ∃ (its:List aa) (n:Nat),dM xs its∧s.heap.get? p=some { cls:= .type "list",data:= .seq its.toArray n }∧xs.length≤ax:=by
 obtain ⟨z,its,n,r,e⟩:=I.hok p _ h;exact ⟨its,n,r,e,z⟩
theorem Inv.lstUpd {p:aj}{its':List aa}{n n':Nat}{f:Obj→Obj}(I:Inv X ak σ H s)(h:H p=some (.lst xs))
  (ho:s.heap.get? p=some { cls:= .type "list",data:= .seq its.toArray n }) (hf:f { cls:= .type "list",data:= .seq its.toArray n }={ cls:= .type "list",data:= .seq its'.toArray n' }) (r:dM ys its') (hz:ys.length≤ax) (t:Nat) :
  Inv X ak σ (upd H p (.lst ys)) { s with heap:=s.heap.update p f,toks:=t }:=by
 have e:(s.heap.update p f).get? p=some { cls:= .type "list",data:= .seq its'.toArray n' }:=by
  rw [bg.get?_update_self f ho (by rw [hf] <;> rfl),hf]
 refine I.write (x:=p) (e:=p) (by rw [h];trivial) (.inl rfl) (fun b u hb q=>(cF _ _ (Ne.symm hb)).trans q) ⟨_,e⟩ ?_;exact ⟨hz,its',n',r,e⟩
def rSetL:V→V→V→Hp→(Hp→Prop)→Prop:=fun o i v H Q=>∃ p xs k j,o= .ref p∧i= .int k∧H p=some (.lst xs)∧ixN xs.length k=some j∧Q (upd H p (.lst (xs.set j v)))
theorem set_list:PSet X rSetL:=by
 intro ak s σ H o i v ov iv u Q I ro ri rv h;obtain ⟨p,xs,k,j,rfl,rfl,hp,hj,q⟩:=h;cases ro;obtain ⟨t,rfl⟩:=ri;obtain ⟨its,n,r,ho,hz⟩:=I.lst hp;obtain ⟨h1,h2,h3,h4⟩:=ixN_seq hj;have hl:=r.length;have hn:=iz;have I':Inv X ak σ (upd H p (.lst (xs.set j v))) { s with heap:=s.heap.update p (Obj.mapSeq (·.setIfInBounds j u)) } :=
  I.lstUpd hp ho (mapSeq_set its n j u) (r.set rv j) (by rw [List.length_set];exact hz) s.toks
 by_cases h0:0≤k
 ·have hk:k.toNat=j:=by
   rw [seqIndex_of h0 h4] at h1;exact aG h1
  exact PySem.W.ki_setAt ho h0 (by lia) (by rw [aC,←hl];exact h4) (by rw [hk];exact ⟨_,I',q⟩)
 ·have hk:(k+(its.toArray.size:Int)).toNat=j:=by
   rw [seqIndex_neg (by lia) h3] at h1;rw [aC,←hl];exact aG h1
  exact PySem.W.ki_setBack ho (by lia) (by rw [aC,←hl];exact h3) (by lia) (by rw [hk];exact ⟨_,I',q⟩)
theorem slice_bounds (lo hi:Option Int)(n:Nat):(eS lo hi none n).1=((HT.sIx n 0 lo:Nat):Int)∧(eS lo hi none n).2.1=((HT.sIx n n hi:Nat):Int)∧(eS lo hi none n).2.2=1:=by
 refine ⟨?_,?_,rfl⟩
 ·cases lo with
  | none=>simp [eS,HT.sIx]
  | some i =>
   simp only [eS,HT.sIx,Option.getD_none,show (1:Int) > 0 by decide,if_true]
   by_cases h:i<0
   ·simp only [h,if_true] <;> lia
   ·simp only [h,if_false] <;> lia
 ·cases hi with
  | none=>simp [eS,HT.sIx]
  | some i =>
   simp only [eS,HT.sIx,Option.getD_none,show (1:Int) > 0 by decide,if_true]
   by_cases h:i<0
   ·simp only [h,if_true] <;> lia
   ·simp only [h,if_false] <;> lia
theorem slicePick_cut (its:List aa)(lo hi:Option Int):slicePick its.toArray lo hi none=((its.drop (HT.sIx its.length 0 lo)).take (HT.sIx its.length its.length hi - HT.sIx its.length 0 lo)).toArray:=by
 obtain ⟨h1,h2,h3⟩:=slice_bounds lo hi its.toArray.size;unfold slicePick;rw [h1,h2,h3];simp only [sliceRange_one,pick_run,aC] <;> rfl
def rSlL (K:ah):V→Option Int→Option Int→Hp→VK→Prop:=fun x lo hi H Q=>∃ a xs,x= .ref a∧SqL K H a xs∧∀ p,H p=none→Q (.ref p) (upd H p (.lst (gQ xs lo hi)))
theorem sl_list:SlR X (rSlL X.K):=by
 intro ak s σ H x v vl vu lo hi sl Q I rx hs pl pu h;obtain ⟨a,xs,rfl,hx,q⟩:=h;cases rx;obtain ⟨its,r,ht,hz⟩:=I.list hx;have hlen:=r.length;refine ⟨"list",_,slot_list_getitem.lookup,ht.isList.typeIs,?_⟩;refine wpAny_getItem_list_slice ht.isList hs pl pu .none (by simp) ?_ (by rw [aC] <;> lia);rw [slicePick_cut,←hlen];refine ⟨.ref s.heap.objs.size,_,I.laid (t':=s.toks) (o:= .lst (gQ xs lo hi)) (fun b ob q=>ar _ q) (aI _) ?_,rfl,q _ (I.hok.fresh (aI _))⟩;exact ⟨aR (cutV_length xs lo hi) hz,_,0,(r.drop (HT.sIx xs.length 0 lo)).take (HT.sIx xs.length xs.length hi - HT.sIx xs.length 0 lo),aW _ rfl⟩
def flatV:V→Bool
 | .non=>true
 | .bl _=>true
 | .int _=>true
 | .str _=>true
 | _=>false
def eqV:V→V→Bool
 | .non,.non=>true
 | .bl a,.bl b=>a == b
 | .bl a,.int b=>(if a then 1 else 0) == b
 | .int a,.bl b=>a == (if b then 1 else 0)
 | .int a,.int b=>a == b
 | .str a,.str b=>a == b
 | _,_=>false
theorem ef {y x:V}{v:aa}(ry:eC y u)(rx:eC x v)(fy:flatV y=true)(fx:flatV x=true):SeqAt.EqAt A s u v (eqV y x):=by
 cases y with
 | non =>
  cases ry;cases x with
  | non=>cases rx;exact SeqAt.EqAt.same _
  | bl b=>cases rx;exact SeqAt.EqAt.none_bool b
  | int b=>obtain ⟨t,rfl⟩:=rx;exact SeqAt.EqAt.none_int b t
  | str b=>obtain ⟨t,rfl⟩:=rx;exact SeqAt.EqAt.none_str b t
  | _=>exact iG (show false=true from fx) aM
 | bl a =>
  cases ry;cases x with
  | non=>cases rx;exact SeqAt.EqAt.bool_none a
  | bl b=>cases rx;exact SeqAt.EqAt.bool_bool a b
  | int b=>obtain ⟨t,rfl⟩:=rx;exact SeqAt.EqAt.bool_int a b t
  | str b=>obtain ⟨t,rfl⟩:=rx;exact SeqAt.EqAt.bool_str a b t
  | _=>exact iG (show false=true from fx) aM
 | int a =>
  obtain ⟨t',rfl⟩:=ry;cases x with
  | non=>cases rx;exact SeqAt.EqAt.int_none a t'
  | bl b=>cases rx;exact SeqAt.EqAt.int_bool a t' b
  | int b=>obtain ⟨t,rfl⟩:=rx;exact SeqAt.EqAt.int_int a t' b t
  | str b=>obtain ⟨t,rfl⟩:=rx;exact SeqAt.EqAt.int_str a t' b t
  | _=>exact iG (show false=true from fx) aM
 | str a =>
  obtain ⟨t',rfl⟩:=ry;cases x with
  | non=>cases rx;exact SeqAt.EqAt.str_none a t'
  | bl b=>cases rx;exact SeqAt.EqAt.str_bool a t' b
  | int b=>obtain ⟨t,rfl⟩:=rx;exact SeqAt.EqAt.str_int a t' b t
  | str b=>obtain ⟨t,rfl⟩:=rx;exact SeqAt.EqAt.str_str a t' b t
  | _=>exact iG (show false=true from fx) aM
 | _=>exact iG (show false=true from fy) aM
theorem cy:eN X (.builtin "len") (fun xs H Q=>∃ p ys,xs=[.ref p]∧(SqL X.K H p ys∨SqT X.K H p ys)∧Q (.int ys.length) H):=by
 intro ak s σ H xs us Q I r h;obtain ⟨p,ys,rfl,hq,q⟩:=h;obtain ⟨u,rfl,rx⟩:=vals1 r;cases rx;have hn:=iz
 rcases hq with hq | hq
 ·obtain ⟨its,r',pl,hz⟩:=I.list hq
  have hlen:=r'.length;exact Calls.call_len_list pl.isList (by simp only [aC] <;> lia) ⟨.int ys.length,H,I.tok _,⟨s.toks+1,by rw [aC,hlen]⟩,q⟩
 ·obtain ⟨its,r',pl,hz⟩:=I.tuple hq
  have hlen:=r'.length;exact len_tuple pl (by simp only [aC] <;> lia) ⟨.int ys.length,H,I.tok _,⟨s.toks+1,by rw [aC,hlen]⟩,q⟩
theorem fL:eN X (.builtin "len") (fun xs H Q=>∃ z,xs=[.str z]∧z.length≤ax∧Q (.int z.length) H):=by
 intro ak s σ H xs us Q I r h;obtain ⟨z,rfl,hz,q⟩:=h;obtain ⟨u,rfl,t,rfl⟩:=vals1 r;have hn:=iz;exact len_str (by lia) ⟨.int z.length,H,I.tok _,⟨_,rfl⟩,q⟩
theorem gq:eN X (.type "tuple") (fun xs H Q=>∃ p ys,xs=[.ref p]∧((SqL X.K H p ys∧∀ l,H l=none→Q (.ref l) (upd H l (.tup ys)))∨(SqT X.K H p ys∧Q (.ref p) H))):=by
 intro ak s σ H xs us Q I r h;obtain ⟨p,ys,rfl,h⟩:=h;obtain ⟨u,rfl,rx⟩:=vals1 r;cases rx
 rcases h with ⟨hq,q⟩ | ⟨hq,q⟩
 ·obtain ⟨its,r',pl,hz⟩:=I.list hq
  have hlen:=r'.length;refine call_tuple_list pl.isList (fun h' kp=>?_) (by simp only [aC] <;> lia);have I1:Inv X ak σ H { s with heap:=h' }:=I.kept (t':=s.toks) kp;have I2:Inv X ak σ (upd H h'.objs.size (.tup ys)) { s with heap:=h'.push { cls:= .type "tuple",data:= .seq its.toArray } } :=
   I1.laid (t':=s.toks) (fun b o e=>ar _ e) (aI _) (show ee X.prog X.w _ _ _ (.tup ys) from ⟨hz,its,r',gH.new _ _⟩)
  exact ⟨.ref h'.objs.size,_,I2,rfl,q _ (I1.hok.fresh (aI _))⟩
 ·obtain ⟨its,r',pl,hz⟩:=I.tuple hq
  exact call_tuple_same pl ⟨.ref p,H,I,rfl,q⟩
def tyV (K:ah)(T:String)(x:V)(H:Hp):Prop:=match x with
 | .str _=>T = "str"
 | .int _=>T = "int"
 | .ref p=>(T = "list" ∧∃ xs,SqL K H p xs)∨(T = "tuple" ∧∃ o,K.lookup p=some o∧o.cls= .type "tuple" ∧o.dict=none) ∨
   (T = "dict" ∧((∃ kvs,H p=some (.dK kvs))∨∃ kvs,H p=some (.dT kvs)))∨(T = "set" ∧∃ S n,H p=some (.set S n))
 | _=>False
theorem tyV_is {x:V}{v:aa}(I:Inv X ak σ H s)(r:eC x v)(ty:tyV X.K T x H) :
  s.TypeIs v T∧∀ a,v= .ref a→∃ ob,s.heap.get? a=some ob∧ob.dict=none:=by
 cases x with
 | str z =>
  obtain ⟨t,rfl⟩:=r;cases (show T = "str" from ty);exact ⟨typeIs_str s z t,fun _ e=>nomatch e⟩
 | int i =>
  obtain ⟨t,rfl⟩:=r;cases (show T = "int" from ty);exact ⟨typeIs_int s i t,fun _ e=>nomatch e⟩
 | ref p =>
  cases r
  rcases ty with ⟨rfl,xs,hq⟩ | ⟨rfl,o,hk,hc,hd⟩ | ⟨rfl,hk⟩ | ⟨rfl,S,n,hk⟩
  ·obtain ⟨its,_,pl,_⟩:=I.list hq
   refine ⟨pl.isList.typeIs,fun a e=>?_⟩;cases e;obtain ⟨o,n,e,c,hd,_⟩:=pl;exact ⟨o,e,hd⟩
  ·refine ⟨⟨o,I.kIn p o hk,hc⟩,fun a e=>?_⟩
   cases e;exact ⟨o,I.kIn _ o hk,hd⟩
  ·have z:∃ o,s.heap.get? p=some o∧o.ExactDict:=by
    rcases hk with ⟨kvs,hk⟩ | ⟨kvs,hk⟩
    ·obtain ⟨_,_,_,_,o,_,_,e,ex,_⟩:=I.hok p _ hk
     exact ⟨o,e,ex⟩
    ·obtain ⟨_,_,_,_,o,_,_,e,ex,_⟩:=I.hok p _ hk
     exact ⟨o,e,ex⟩
   obtain ⟨o,e,ex⟩:=z;refine ⟨⟨o,e,ex.1⟩,fun a e2=>?_⟩;cases e2;exact ⟨o,e,ex.2.1⟩
  ·obtain ⟨o,_,_,_,e,ex,_⟩:=I.hok p _ hk
   refine ⟨⟨o,e,ex.1⟩,fun a e2=>?_⟩;cases e2;exact ⟨o,e,ex.2.1⟩
 | _=>exact cw ty
def tBM (K:ah)(T:String)(r:V→List V→Hp→VK→Prop)(to:TE)(t:TA):TE:=fun σ H Q=>to σ H fun x H1=>tyV K T x H1∧t σ H1 fun xs H2=>r x xs H2 Q
variable {o:Expr}{to:TE}{id:String}{r:V→List V→Hp→VK→Prop}
theorem gw (pa:PlainAttrs T)(slot:Slot T name id)(hty:typeOf (.builtin id)=pure (.type "method_descriptor"))(hm:MtR X id r)(ho:PE X o to)(ha:PA X (e::es) t)
  (hbase:attributeBase o name X.env (dW o X.env)=dW o X.env:=by rfl)
  (hfew:((backTo cpos (aQ (e::es) X.env)).all (fun x=> !x.1) && (backToKw cpos (keywordEach [] X.env)).all (fun x=>x.1.isSome)
   && decide ((e::es).length+([]:List Keyword).length+(if ([]:List Keyword).isEmpty then 0 else 1)<30))=true:=by rfl)
  (hline:(apos.endLine == cpos.line)=true:=by rfl) (hs:aQ (e::es) X.env=(false,dW e X.env)::aQ es X.env:=by rfl) (hplain:(backTo cpos (aQ es X.env)).any (·.1)=false:=by rfl) :
  PE X (.Call (.Attribute o name apos) (e::es) [] cpos) (tBM X.K T r to t):=by
 intro ak s σ H Q I h;refine wpAny_Call_method_late hbase hfew hline rfl (thn (ho ak s σ H _ I h) fun v s1 ⟨x,H1,I1,r1,ty,q1⟩=>?_);obtain ⟨h1,h2⟩:=tyV_is I1 r1 ty;refine ⟨T,id,pa,slot,hty,h1,h2,?_⟩;have hA:=ha cpos ak s1 σ H1 _ I1 q1;rw [hs] at hA ⊢;refine Calls.callWith_builtin (by show (false || (backTo cpos (aQ es X.env)).any (·.1))=false;rw [hplain] <;> rfl) (Calls.evalArgs_plain ?_);exact thn hA fun us s2 ⟨vs,H2,I2,r2,q2⟩=>hm ak s2 σ H2 x vs v us Q I2 r1 r2 q2
end
def MtM (X:Cx)(id:String)(r:V→List V→Hp→VK→Prop):Prop :=
 ∀ (ak:List (aj×Obj)) (s:ai) (σ:St) (H:Hp) (x:V) (xs:List V) (v:aa) (us:List aa) (Q:VK),Inv X ak σ H s→eC x v→dM xs us→r x xs H Q →
  ba (aX X.prog X.w) X.A (call (.builtin id) (v::us)) (EP X ak σ Q) X.xe s
theorem dM.one:∀ {x:V} {us:List aa},dM [x] us→∃ u,us=[u]∧eC x u
 | _,_,.cons r .nil=>⟨_,rfl,r⟩
section
variable {l b:aj}{zs:List V}
theorem Inv.lset {its':List aa}{n:Nat}{f:Array aa→Array aa}(I:Inv X ak σ H s)(hH:H l=some (.lst xs))
  (e:s.heap.get? l=some { cls:= .type "list",data:= .seq its.toArray n }) (hf:f its.toArray=its'.toArray) (hv:dM ys its') (hz:ys.length≤ax) :
  Inv X ak σ (upd H l (.lst ys)) { s with heap:=s.heap.update l (Obj.mapSeq f),toks:=t' }:=by
 have q:=PySem.IsL.update e f;rw [hf] at q;refine I.write (x:=l) (e:=l) (by rw [hH];exact trivial) (.inl rfl) (fun b' u hb hu=>(cF s.heap (Obj.mapSeq f) (Ne.symm hb)).trans hu) ⟨_,q⟩ ?_;exact ⟨hz,its',_,hv,q⟩
theorem Inv.lnew (I:Inv X ak σ H s)(hv:dM ys its)(hz:ys.length≤ax) :
  Inv X ak σ (upd H s.heap.objs.size (.lst ys)) { s with heap:=s.heap.push { cls:= .type "list",data:= .seq its.toArray },toks:=t' } :=
 I.laid (fun _ _ q=>ar _ q) (aI _) ⟨hz,its,0,hv,aW _ rfl⟩
theorem Inv.fresh (I:Inv X ak σ H s):H s.heap.objs.size=none:=I.hok.fresh (aI _)
theorem Inv.lstM (I:Inv X ak σ H s)(hH:H l=some (.lst xs)):xs.length≤ax∧∃ (its:List aa) (n:Nat),dM xs its∧xs.length=its.length∧s.heap.get? l=some { cls:= .type "list",data:= .seq its.toArray n }:=by
 obtain ⟨z,its,n,r,e⟩:=I.hok l _ hH;exact ⟨z,its,n,r,r.length,e⟩
end
inductive rAppend (x:V)(vs:List V)(H:Hp)(Q:VK):Prop
 | mk (l xs y:_)(_:x= .ref l)(_:vs=[y])(_:H l=some (.lst xs))(_:xs.length<ax)(_:Q .non (upd H l (.lst (xs++[y]))))
theorem mt_append:MtM X "list.append" rAppend:=by
 intro ak s σ H x vs v us Q I rx rv h;obtain ⟨l,xs,y,rfl,rfl,hH,hz,q⟩:=h;cases rx;obtain ⟨u,rfl,ru⟩:=rv.one;obtain ⟨z,its,n,r,hl,e⟩:=I.lstM hH;refine call_meets F.slot_list_append ⟨_,e,rfl⟩ F.entry_list_append (F.args_list_append_2 _ _) (PySem.list_append l its.toArray n u (by rw [aC];lia)) ⟨e,?_⟩;refine ⟨.non,_,I.lset (its':=its++[u]) hH e (by simp) (r.append (.cons ru .nil)) ?_,rfl,q⟩;rw [aq,ao];lia
inductive rCat (x:V)(y:V)(H:Hp)(Q:VK):Prop
 | mk (l b xs zs:_)(_:x= .ref l)(_:y= .ref b)(_:H l=some (.lst xs))(_:H b=some (.lst zs))(_:xs.length+zs.length≤ax)(_:∀ p,H p=none→Q (.ref p) (upd H p (.lst (xs++zs))))
theorem op_cat:OpR X (dJ .Add) rCat:=by
 intro ak s σ H x y v u Q I rx ry h;obtain ⟨l,b,xs,zs,rfl,rfl,hH,hB,hz,q⟩:=h;cases rx;cases ry;obtain ⟨z,its,n,r,hl,e⟩:=I.lstM hH;obtain ⟨z2,its2,n2,r2,hl2,e2⟩:=I.lstM hB;refine PySem.P.add_list e e2 ?_ (by rw [aC,aC];lia);have ea:its.toArray++its2.toArray=(its++its2).toArray:=by simp
 rw [ea];exact ⟨.ref _,_,I.lnew (t':=s.toks) (r.append r2) (by rw [aq];lia),rfl,q _ I.fresh⟩
end L2
namespace Att
open PySem PySem.W PySem.Calls PyProof.Rows
theorem hU {P:Params}:∀ (ns:List Int) (vs:List aa),WellAll P h vs (ns.map WData.int)→IntsAre vs ns:=by
 intro ns
 induction ns with
 | nil =>
  intro vs w;rw [List.map_nil] at w;cases w;exact .nil
 | cons n ns ih =>
  intro vs w;rw [cH] at w;cases w with
  | cons a b =>
   cases a;exact .cons _ _ (ih _ b)
theorem script_of {l:OpenLaw}{n:Nat}(hn:l.most=some n){P:Params}{args:List WData}{vals:List aa}
  (hpre:l.row.toRowW.claim.pre args=true) (hwl:WellAll P h vals args) :
  ∃ a vs ns,vals=[aa.ref a]∧args=[WData.list (ns.map WData.int)]∧h.get? a=some { cls:= .type "list",data:= .seq vs.toArray }∧IntsAre vs ns∧ns.length≤n:=by
 have hsh:WShape.hasAll [] args [.list .int]=true:=(pre_splitW hpre).1;have hc:l.pre.holds [] { args:=args }=true:=(pre_splitW hpre).2;obtain ⟨d,r,rfl,h1,h2⟩:=hasAllW_cons hsh;obtain rfl:=hasAllW_nil h2;obtain ⟨xs,rfl,h3⟩:=hasW_list h1;obtain ⟨ns,rfl⟩:=items_int h3;have hlen:ns.length≤n:=by
  unfold OpenLaw.pre at hc;have h4:(WTm.not (.lt (.lit (.int (n:Int))) (.len (.arg 0)))).holds [] { args:=[.list (ns.map .int)] }=true:=by
   have h4:=(holds_andW hc).1;rw [hn] at h4;exact h4
  have h5:=condW_of h4 (w_not (w_lt w_lit (w_len_list (w_arg rfl))));rw [af] at h5;refine Nat.le_of_not_lt fun q=>?_
  have q':(n:Int)<((ns.length:Nat):Int):=by lia
  first
   | (rw [iH q'] at h5;exact iG h5 (by decide))
   | (simp at h5;lia)
 cases hwl with
 | cons w1 w2 =>
  cases w2;cases w1 with
  | list ho hall=>exact ⟨_,_,ns,rfl,rfl,ho,hU ns _ hall,hlen⟩
theorem post_true (l:OpenLaw)(args:List WData):l.row.toRowW.claim.post args (.bool true) args=true :=
 postW_of (r:=l.row.toRowW) (X:=(true == true))
  (show WShape.has [] (.bool true) .bool=true by first | rfl | decide | simp [WShape.has,WShape.arms,WShape.armsAll])
  (show (WTm.eq .res (.lit (.bool true))).value [] { args:=args,res:=some (.bool true),after:=args }=some (.bool (true == true)) from w_eq_bool (w_res rfl) w_lit) rfl
theorem attach_call {l:OpenLaw}{n:Nat}{d:DefRec}
  (hn:l.most=some n) (hdf:d.params.defaults=[])
  (call:∀ (w:bj) (s₀ s₁:ai) (mg mb:Str→Option aa) (fa:aj) (o:Obj) (pm cd doc:aa) (a:aj) (vs:List aa) (ns:List Int),
   Ground q loose [] XP w s₀ mg mb s₁.heap→YP w s₁.heap →
   s₁.heap.get? fa=some o→o.data= .func (docDef d.name d.params d.body d.scope pm cd doc)→s₁.heap.CodeRec cd d.name→mg d.name=some (.ref fa) →
   s₁.heap.get? a=some { cls:= .type "list",data:= .seq vs.toArray }→IntsAre vs ns→ns.length≤n→s₁.gens= #[] →
   codeAny (aX l.prog w) callerA (.call (.ref fa) ⟨[.ref a],[]⟩) (fun r s'=>r= .ok (.ret (.bool true))∧OldK s₁.heap s'.heap∧s'.os=s₁.os∧AllBare s'.gens) s₁) :
  WalkO q loose XP YP l.row.toRowW d [] (fun f vs=>PySem.call f vs):=by
 intro w s₀ s₁ mg mb G Y fa o pm cd doc dV kV ho hd hcd hD hmg hg args vals as hpre hlay hrd hwl hlo;obtain rfl:dV= .none:=Dflts.none hD hdf;obtain rfl:kV= .none:=Dflts.noKw hD;obtain ⟨a,vs,ns,rfl,rfl,hobj,hints,hlen⟩:=script_of hn hpre hwl;refine enter_call (codeAny_mono (call w s₀ s₁ mg mb fa o pm cd doc a vs ns G Y ho (fd_plain hd) hcd hmg hobj hints hlen hg) fun r s' hq=>?_);obtain ⟨rfl,h2,h3,h4⟩:=hq;exact ⟨.inl ⟨.bool true,.bool true,[],rfl,fun _=>rfl,.bool true,post_true l _,fun _=>⟨List.Pairwise.nil,fun _ hm=>(nomatch hm)⟩⟩,h2,h3,h4⟩
end Att
namespace L2
open PySem PySem.Spec PyProof.Rows
theorem vals_ints:∀ {vs:List aa} {ns:List Int},IntsAre vs ns→dM (ns.map V.int) vs
 | _,_,.nil=> .nil
 | _,_,.cons n t h=> .cons ⟨t,rfl⟩ (vals_ints h)
def Only (H:Hp):Prop:=∀ b,H b=none∨∃ o xs,H b=some (.frz o (.lst xs))
theorem law_call {mb:Str→Option aa}{fa:aj}{sp:Sp}{s₁:ai}{vs:List aa}
  (KX:K.In s₁.heap) (hns:s₁.heap.Ns aF mg) (hb:s₁.heap.Ns builtinsNs mb) (hbb:∀ x:Str,x ≠ "__name__" →mb x=er x) (hlim:s₁.heap.NoLimit) (hg:s₁.gens= #[])
  (ha:s₁.heap.get? a=some { cls:= .type "list",data:= .seq vs.toArray }) (hi:IntsAre vs ns) (hl:ns.length≤ax) (hr:fM k callerA)
  (F:∀ base:bg,K.In base→base.Ns aF mg→da P w K mg base CX k fa fd [x] sp) (hbind:∀ (s:ai) (u:aa),BindsTo s fd ⟨[u],[]⟩ [(x,u)])
  (hsp:∀ H:Hp,Only H→SqL K H a (ns.map V.int)→sp [.ref a] H (fun v _=>v= .bl true) fun _ _ _=>False)
  (hCX:∀ H e s',CX [] H s₁ (fun _ _ _=>False) e s'→False) :
  codeAny (aX P w) callerA (.call (.ref fa) ⟨[.ref a],[]⟩) (fun r s'=>r= .ok (.ret (.bool true))∧OldK s₁.heap s'.heap∧s'.os=s₁.os∧AllBare s'.gens) s₁:=by
 have rv:=vals_ints hi;have lenV:=hi.length;have core:∀ H:Hp,Only H→SqL K H a (ns.map V.int)→HOk P w H s₁.heap→(∀ b,H b≠none→b=a)→(H a≠none→K.lookup a=none) →
   codeAny (aX P w) callerA (.call (.ref fa) ⟨[.ref a],[]⟩) (fun r s'=>r= .ok (.ret (.bool true))∧OldK s₁.heap s'.heap∧s'.os=s₁.os∧AllBare s'.gens) s₁:=by
  intro H hO hS hok hA hK;have base_of:∀ {b:aj} {o:Obj},s₁.heap.get? b=some o→H b=none→(hidT s₁.heap H).get? b=some o:=fun e n=>hidT_get e n
  have noA:∀ {b:aj} {o:Obj} {es:Array DictEntry} {ep:Nat},s₁.heap.get? b=some o→o.data= .dict es ep→H b=none:=fun {b o es ep} e d=>by
   cases q:H b with
   | none=>rfl
   | some u =>
    have e':b=a:=hA b (by rw [q];simp);subst e';rw [ha] at e;cases e;have d':Data.seq vs.toArray _=Data.dict es ep:=d;cases d'
  have nsK:∀ {b:aj} {m:Str→Option aa},s₁.heap.Ns b m→(hidT s₁.heap H).Ns b m:=fun {b m} ⟨o,es,ep,e,d,r⟩=>⟨o,es,ep,base_of e (noA e d),d,r⟩
  have hKb:K.In (hidT s₁.heap H):=fun b o e=>base_of (KX b o e) (by
   cases q:H b with
   | none=>rfl
   | some u =>
    have e':b=a:=hA b (by rw [q];simp);subst e';rw [hK (by rw [q];simp)] at e;cases e)
  have hM:Mod K mg (hidT s₁.heap H):=⟨hKb,nsK hns,⟨mb,nsK hb,hbb⟩,let ⟨mc,h1,h2⟩:=hlim;⟨mc,nsK h1,h2⟩⟩;have e0:Env0 P w K mg (hidT s₁.heap H) callerA [] s₁ H:=⟨rfl,hM,fun b o e=>of_hidT e,Nat.le_of_eq (hidT_size _ _),trivial,fun b hb=>iG (show b∈([]:List aj) from hb) (by simp),hok,.of_eq hg⟩;refine codeAny_mono ((F _ hKb (nsK hns)).run callerA [] s₁ H ⟨[.ref a],[]⟩ [.ref a] [.ref a] _ _ hr e0 (hbind s₁ (.ref a)) (.cons rfl .nil) (hsp H hO hS)) fun r s' h=>?_
  cases r with
  | error e=>exact (hCX H e s' h).elim
  | ok fl =>
   cases fl with
   | next=>exact cw h
   | brk=>exact cw h
   | cont=>exact cw h
   | ret u =>
    obtain ⟨v,H',os,bare,un,hok',r',q⟩:=h;have q':v= .bl true:=q;subst q';obtain rfl:u=aa.bool true:=r';refine ⟨rfl,OldK.of_keep fun b o e=>?_,os,bare⟩;cases q:H b with
    | none=>exact un.keep b o e q (by intro z;exact iG (show b∈([]:List aj) from z) (by simp)) (by simp)
    | some u =>
     rcases hO b with z | ⟨ob,xs,z⟩
     ·rw [q] at z;cases z
     ·have z2:=un.frzs b ob _ z
      obtain ⟨e1,_⟩:=hok b _ z;obtain ⟨e2,_⟩:=hok' b _ z2;rw [e] at e1;cases e1;exact e2
 cases hk:K.lookup a with
 | some o =>
  have e:=KX a o hk;rw [ha] at e;cases e;refine core (fun _=>none) (fun _=> .inl rfl) (.inr ⟨_,vs.toArray,_,hk,rfl,rfl,rfl,by rw [aC,lenV];exact hl,by simpa using rv⟩) (fun b u z=>by have z':(none:Option HO)=some u:=z;cases z') (fun b z=>iG rfl z) fun z=>iG rfl z
 | none =>
  refine core (fun b=>if b=a then some (.frz { cls:= .type "list",data:= .seq vs.toArray } (.lst (ns.map V.int))) else none) (fun b=>?_) (.inl (.inr ⟨{ cls:= .type "list",data:= .seq vs.toArray },iF rfl⟩)) (fun b u z=>?_) (fun b z=>?_) fun _=>hk
  ·by_cases hb:b=a
   ·exact .inr ⟨_,_,iF hb⟩
   ·exact .inl (iE hb)
  ·by_cases hb:b=a
   ·have z':=(iF hb).symm.trans z
    cases z';subst hb;exact ⟨ha,by rw [af];exact hl,vs,_,rv,ha⟩
   ·have z':=(iE hb).symm.trans z
    cases z'
  ·by_cases hb:b=a
   ·exact hb
   ·exact iG (iE hb) z
theorem walk_of {l:PySem.W.OpenLaw}{n:Nat}{d:DefRec}{K:Params→ah}{CX:bj→CXT}{sp:bj→Sp}
  (hn:l.most=some n) (hn2:n≤ax) (hdf:d.params.defaults=[]) (hr:fM k callerA)
  (hY:∀ (w:bj) (h:bg),YP w h→(K w.params).In h)
  (F:∀ (w:bj) (mg:Str→Option aa) (fa:aj) (h:bg),(K w.params).In h→h.Ns aF mg→mg d.name=some (.ref fa) →
   ∃ fd:aY,(∀ (s:ai) (u:aa),BindsTo s fd ⟨[u],[]⟩ [(x,u)]) ∧
    ∀ base:bg,(K w.params).In base→base.Ns aF mg→da l.prog w (K w.params) mg base (CX w) k fa fd [x] (sp w))
  (hsp:∀ (w:bj) (H:Hp) (a:aj) (ns:List Int),ns.length≤n→Only H→SqL (K w.params) H a (ns.map V.int)→sp w [.ref a] H (fun v _=>v= .bl true) fun _ _ _=>False)
  (hCX:∀ (w:bj) (H:Hp) (s:ai) (e:aa) (s':ai),CX w [] H s (fun _ _ _=>False) e s'→False) :
  PySem.W.WalkO q loose XP YP l.row.toRowW d [] (fun f vs=>PySem.call f vs):=by
 refine Att.attach_call hn hdf fun w s₀ s₁ mg mb fa o pm cd doc a vs ns G Y ho hd hcd hmg hobj hints hlen hg=>?_
 have KX:=hY w _ Y;obtain ⟨fd,hb,hF⟩:=F w mg fa _ KX G.T.g hmg;exact law_call KX G.T.g G.T.b G.T.builtins G.T.nolimit hg hobj hints (aR hlen hn2) hr hF hb (fun H hO hS=>hsp w H a ns hlen hO hS) fun H e s'=>hCX w H s₁ e s'
abbrev CX0:CXT:=fun _ _ _ _ _ _=>False
abbrev E0:XK:=fun _ _ _=>False
theorem pass0:gs CX0 X E0:=fun _ _ _ _ _ _ _ h=>h.elim
structure Fun (K:ah)(x qual:Str)(st:cE)(f:aj)(fd:aY):Prop where
 ex:∃ (oc:aa) (od:Option aj) (kV doc pm:aa) (an:Option aj) (cdv ct:aa) (osl:Array (Option aa)),
  fd=cW x qual (gc st) (fq st) (defScope st) .none kV doc pm an cdv ct∧K.lookup f=some ⟨oc,od,.func fd,osl⟩∧PySem.W.codeIn K cdv qual=true
 kp:dY K (.ref f)=true
theorem Fun.ok {sp:Sp}(F:Fun K x qual st f fd)(S:cj N ps (defScope st))(len:∀ vs H Q E,sp vs H Q E→vs.length=ps.length)
  (hbody:∀ (cdv:aa) (A:bO) (outer:List Env) (s:ai) (H:Hp) (vs:List V) (Q:VK) (E:XK),fM k (A.deeper (envOfC qual (defScope st) s.heap.objs.size f cdv))→sp vs H Q E →
   ∃ t,PSs (cxOf CX0 P w K mg base N qual (defScope st) f cdv A outer s H E).nox (fq st) t∧t { nx:=fun _ H'=>Q .non H',rt:=Q } (start N vs) H):da P w K mg base CX0 (k+1) f fd ps sp:=by
 obtain ⟨oc,od,kV,doc,pm,an,cdv,ct,osl,rfl,lk,hcd⟩:=F.ex;refine fn_of lk hcd S len fun A outer s H vs Q E hr hsp=>?_
 obtain ⟨t,h,q⟩:=hbody cdv A outer s H vs Q E hr hsp;exact ⟨t,h.nox,q⟩
theorem Fun.binds (F:Fun K x qual st f fd)
  (h:∀ (kV doc pm:aa) (an:Option aj) (cdv ct:aa) (us:List aa),us.length=ps.length→bindArgs (cW x qual (gc st) (fq st) (defScope st) .none kV doc pm an cdv ct) ⟨us,[]⟩=pure (ps.zip us)):Binds K fd ps []:=by
 obtain ⟨oc,od,kV,doc,pm,an,cdv,ct,osl,rfl,lk,hcd⟩:=F.ex;exact .all (h kV doc pm an cdv ct)
theorem fun_mk {oc:aa}{od an:Option aj}{kV doc pm cdv ct:aa}(l:K.lookup f=some ⟨oc,od,.func (cW x qual (gc st) (fq st) (defScope st) .none kV doc pm an cdv ct),osl⟩)
  (c:PySem.W.codeIn K cdv qual=true) (k:dY K (.ref f)=true):Fun K x qual st f (cW x qual (gc st) (fq st) (defScope st) .none kV doc pm an cdv ct):=⟨⟨oc,od,kV,doc,pm,an,cdv,ct,osl,rfl,l,c⟩,k⟩
theorem pv (i:Nat)(hN:X.N[i]? =some x:=by rfl)(hv:Vis X.env.scope x:=by first | exact Or.inl rfl | exact Or.inr (Or.inl rfl) | exact Or.inr (Or.inr rfl))(hd:(x == ("__debug__" :Str))=false:=by decide)
  (hcd:(x == ("__classdict__" :Str))=false:=by decide):PE X (.Name x pos) (tVar i):=pe_var hN hv hd hcd
theorem fA {c A B:Prop}[Decidable c](h1:c→A)(h2:¬ c→B):if c then A else B:=by
 by_cases h:c
 ·rw [iF h]
  exact h1 h
 ·rw [iE h]
  exact h2 h
def cL (H H':Hp):Prop:=∀ b o,H b=some o→H' b=some o
theorem cL.refl (H:Hp):cL H H:=fun _ _ h=>h
theorem cL.trans (a:cL H H1)(b:cL H1 H2):cL H H2:=fun c o h=>b c o (a c o h)
theorem cL.free (e:cL H H'){l:aj}(h:H' l=Option.none):H l=Option.none:=by
 cases q:H l with
 | none=>rfl
 | some o =>
  rw [e l o q] at h;cases h
theorem cL.seq (e:cL H H')(h:SqL K H a xs):SqL K H' a xs:=by
 rcases h with (h | ⟨o,h⟩) | h
 ·exact .inl (.inl (e _ _ h))
 ·exact .inl (.inr ⟨o,e _ _ h⟩)
 ·exact .inr h
theorem op_fdivB:OpR X (dJ .FloorDiv) (rI (fun _ j=>0<j∧j.natAbs.log2<9000) fun i j=> .int (i / j)):=opI fun i j _ _ _ _ _ hc q=>by
 have e:i.fdiv j=i / j:=Int.fdiv_eq_ediv_of_nonneg i (Int.le_of_lt hc.1);refine floordiv_int (by have:=hc.1;lia) ?_ (.inl (PyProof.noPylong_of_log2 hc.2));rw [e];exact q
theorem bools_of:∀ {bs:List Bool} {us:List aa},dM (bs.map V.bl) us→LSm.BoolsAre us bs
 | [],_,.nil=> .nil
 | b::bs,_,.cons r t=>by
  cases (show _=aa.bool b from r);exact .cons b (bools_of t)
theorem call_all (hc:X.calm=true):eN X (.builtin "all") (fun xs H Q=>∃ (p:aj) (bs:List Bool),xs=[.ref p]∧SqL X.K H p (bs.map V.bl)∧Q (.bl (bs.all id)) H):=by
 intro ak s σ H xs us Q I r h;obtain ⟨p,bs,rfl,hq,q⟩:=h;obtain ⟨u,rfl,ru⟩:=vals1 r;cases (show u=aa.ref p from ru);obtain ⟨its,rv,pl,hz⟩:=I.list hq;have hb:=bools_of rv;have hil:s.heap.IsList p its.toArray:=pl.isList;have plt:p<s.heap.objs.size:=by obtain ⟨_,e,_⟩:=hil;exact au e
 refine call_all_walk (wpAny_pyIter_list hil ⟨s.heap.objs.size,[s.heap.objs.size,p],[s.heap.objs.size],its.toArray.size,_,_,fun i=>(bs[i]?).getD true,rfl,
  Walks.list (A:=X.A.in1) (I.ok.hd hc) _ p (bu plt) its.toArray,⟨⟨_,aW _ rfl,rfl,rfl⟩,hil.push _⟩,?_,?_⟩)
 ·intro i v s' Q' E' hP hT
  obtain ⟨b,e,rfl⟩:=hb.get i v (by simpa using hP);simp only [e,Option.getD_some] at hT;exact cS hT
 ·intro h' tk hk
  have e2:((List.range its.toArray.size).all fun i=>(bs[i]?).getD true)=bs.all id:=by
   rw [aC,hb.length];exact LSm.range_all bs
  rw [e2];exact ⟨.bl _,H,I.kept (LSm.kept_iter hk),rfl,q⟩
def tyn (H:Hp):V→Option String
 | .non=>some "NoneType"
 | .bl _=>some "bool"
 | .int _=>some "int"
 | .str _=>some "str"
 | .ref a=>match H a with
  | some (.lst _)=>some "list"
  | some (.tup _)=>some "tuple"
  | some (.dK _)=>some "dict"
  | _=>none
 | _=>none
theorem TyOf.byName (h:tyn H v=some T):TyOf K H v (.type T):=by
 cases v with
 | non=>cases h;exact .non
 | bl b=>cases h;exact .bl b
 | int i=>cases h;exact .int i
 | str x=>cases h;exact .str x
 | ref a =>
  simp only [tyn] at h;cases e:H a with
  | none=>rw [e] at h;cases h
  | some o =>
   rw [e] at h;cases o <;> first | (cases h;first | exact .lst e | exact .tup e | exact .dK e) | cases h
 | _=>cases h
theorem kit_tuple (K:ah)(h:T∈["NoneType","bool","int","str","list","tuple","dict"]):aO K (.type T) (.type "tuple")=some (T == "tuple"):=by
 simp only [aw,aL,or_false] at h
 rcases h with rfl | rfl | rfl | rfl | rfl | rfl | rfl <;> kernel_rfl
theorem kit_int (K:ah)(h:T∈["NoneType","bool","int","str","list","tuple","dict"]):aO K (.type T) (.type "int")=some (T == "int" || T == "bool"):=by
 simp only [aw,aL,or_false] at h
 rcases h with rfl | rfl | rfl | rfl | rfl | rfl | rfl <;> kernel_rfl
theorem kit_bool (K:ah)(h:T∈["NoneType","bool","int","str","list","tuple","dict"]):aO K (.type T) (.type "bool")=some (T == "bool"):=by
 simp only [aw,aL,or_false] at h
 rcases h with rfl | rfl | rfl | rfl | rfl | rfl | rfl <;> kernel_rfl
theorem tyn_mem (h:tyn H v=some T):T∈["NoneType","bool","int","str","list","tuple","dict"]:=by
 cases v with
 | non=>cases h;simp
 | bl b=>cases h;simp
 | int i=>cases h;simp
 | str x=>cases h;simp
 | ref a =>
  simp only [tyn] at h;cases e:H a with
  | none=>rw [e] at h;cases h
  | some o =>
   rw [e] at h;cases o <;> first | (cases h;simp;done) | cases h
 | _=>cases h
theorem ft:eN X (.builtin "isinstance") (fun xs H Q=>∃ x n t b,xs=[x,.ty n]∧TyOf X.K H x t∧aO X.K t (.type n)=some b∧Q (.bl b) H):=by
 intro ak s σ H xs us Q I r h;obtain ⟨x,n,t,b,rfl,ty,e,q⟩:=h;obtain ⟨u,w',rfl,ru,rw'⟩:=vals2 r;cases (show w'=aa.type n from rw');exact isinst_ok I ru ty e fun tk=>⟨.bl b,H,I.tok tk,rfl,q⟩
theorem call_isTup:eN X (.builtin "isinstance") (fun xs H Q=>∃ x T,xs=[x,.ty "tuple"]∧tyn H x=some T∧Q (.bl (T == "tuple")) H) :=
 fun ak s σ H xs us Q I r ⟨x,T,e,hT,q⟩=>ft ak s σ H xs us Q I r ⟨x,_,_,_,e,.byName hT,kit_tuple _ (tyn_mem hT),q⟩
theorem call_isInt:eN X (.builtin "isinstance") (fun xs H Q=>∃ x T,xs=[x,.ty "int"]∧tyn H x=some T∧Q (.bl (T == "int" || T == "bool")) H) :=
 fun ak s σ H xs us Q I r ⟨x,T,e,hT,q⟩=>ft ak s σ H xs us Q I r ⟨x,_,_,_,e,.byName hT,kit_int _ (tyn_mem hT),q⟩
theorem call_isBool:eN X (.builtin "isinstance") (fun xs H Q=>∃ x T,xs=[x,.ty "bool"]∧tyn H x=some T∧Q (.bl (T == "bool")) H) :=
 fun ak s σ H xs us Q I r ⟨x,T,e,hT,q⟩=>ft ak s σ H xs us Q I r ⟨x,_,_,_,e,.byName hT,kit_bool _ (tyn_mem hT),q⟩
def d6 (X:Cx)(scope:Scope)(cl:List (Str×aj))(C:aj)(N:List Str)(s:ai)(H:Hp)(ex:List aj):Cx :=
 { X with N:=N,s₀:=s,H₀:=H,env:=compEnvC scope cl C X.env,outer:=X.stack,ex:=ex,fn:=fun _=>false,pn:=[],xe:=fun _ _=>False }
theorem ig (hf:∀ y∈scope.names,y.2= .free→∃ c,env.cells.lookup y.1=some c) :
  ∃ cl,closureFor scope env=pure cl∧(∀ x c,cl.lookup x=some c→env.cells.lookup x=some c)∧∀ y∈scope.names,y.2= .free→cl.lookup y.1=env.cells.lookup y.1:=by
 have aux:∀ (names:List (Str×bA)) (acc:List (Str×aj)),(∀ y∈names,y.2= .free→∃ c,env.cells.lookup y.1=some c)→(∀ x c,acc.lookup x=some c→env.cells.lookup x=some c) →
   ∃ cl,(forIn names acc fun x r=>match x with
     | (name,kind)=>if (kind == bA.free)=true then (cellOf env name >>= fun c=>pure (ForInStep.yield ((name,c)::r))) else pure (ForInStep.yield r):Sem (List (Str×aj)))=pure cl ∧
    (∀ x c,cl.lookup x=some c→env.cells.lookup x=some c)∧(∀ x c,acc.lookup x=some c→cl.lookup x=some c)∧∀ y∈names,y.2= .free→cl.lookup y.1=env.cells.lookup y.1:=by
  intro names
  induction names with
  | nil=>intro acc _ ha;exact ⟨acc,rfl,ha,fun _ _ e=>e,fun y hy=>iG hy (by simp)⟩
  | cons z r ih =>
   intro acc hn ha;obtain ⟨n,k⟩:=z;have hr:∀ y∈r,y.2= .free→∃ c,env.cells.lookup y.1=some c:=fun y hy=>hn y (aT _ hy)
   by_cases hk:k= .free
   ·subst hk
    obtain ⟨c,hc⟩:=hn (n,.free) cm rfl;have hc:env.cells.lookup n=some c:=hc;have ha':∀ x d,((n,c)::acc).lookup x=some d→env.cells.lookup x=some d:=fun x d e=>by
     rw [bX] at e;cases hx:x == n with
     | true =>
      rw [hx] at e;have e':c=d:=aG e;have ex:x=n:=eq_of_beq hx;rw [ex,←e'];exact hc
     | false=>rw [hx] at e;exact ha x d e
    obtain ⟨cl,e1,e2,e3,e4⟩:=ih ((n,c)::acc) hr ha';have fJ:cellOf env n=pure c:=by unfold cellOf;rw [hc]
    refine ⟨cl,?_,e2,fun x d e=>?_,fun y hy hy2=>?_⟩
    ·rw [List.forIn_cons]
     show ((if (bA.free == bA.free)=true then (cellOf env n >>= fun c=>pure (ForInStep.yield ((n,c)::acc))) else pure (ForInStep.yield acc)) >>= _)=_;rw [iF (by decide:(bA.free == bA.free)=true),fJ];exact e1
    ·have h1:((n,c)::acc).lookup x=some (if x == n then c else d):=by
      rw [bX];cases hx:x == n with
      | true=>rfl
      | false=>exact e
     have h2:=e3 x _ h1;have h3:=e2 x _ h2;have h4:=ha x d e;rw [h3] at h4;rw [h2];exact h4
    ·rcases aw.mp hy with rfl | hy3
     ·have h1:((n,c)::acc).lookup n=some c:=by rw [bX,beq_self_eq_true]
      show cl.lookup n=_;rw [e3 n c h1,hc]
     ·exact e4 y hy3 hy2
   ·have hb:(k == bA.free)=false:=by simpa using hk
    obtain ⟨cl,e1,e2,e3,e4⟩:=ih acc hr ha;refine ⟨cl,?_,e2,e3,fun y hy hy2=>?_⟩
    ·rw [List.forIn_cons]
     show ((if (k == bA.free)=true then (cellOf env n >>= fun c=>pure (ForInStep.yield ((n,c)::acc))) else pure (ForInStep.yield acc)) >>= _)=_;rw [hb];exact e1
    ·rcases aw.mp hy with rfl | hy3
     ·exact iG hy2 hk
     ·exact e4 y hy3 hy2
 obtain ⟨cl,e1,e2,_,e4⟩:=aux scope.names [] hf fun x c e=>by cases e
 refine ⟨cl,Eq.trans ?_ e1,e2,e4⟩;unfold closureFor
 first
  | rfl
  | (simp only [bind_pure];done)
  | (simp only [bind_pure];rfl)
  | (simp only [bind_pure]
     congr 1
     funext x r
     obtain ⟨n,k⟩:=x;cases (k == bA.free) <;> rfl)
theorem eY {env:Env}:∀ {names:List (Str×bA)} {x:Str} {k':bA},
  (names.map fun (n,k)=>if (k == bA.free && env.scope.kind == .function && env.kindOf n == some .cell) then (n,bA.cell) else (n,k)).lookup x=some k' →
  names.lookup x=some k'∨(names.lookup x=some .free∧k'= .cell)
 | [],_,_,h=>by simp at h
 | (n,k)::r,x,k',h=>by
  have ih:= @eY env r x k';rw [cH] at h;show List.lookup x ((n,k)::r)=_∨(List.lookup x ((n,k)::r)=_∧_);rw [bX]
  by_cases hq:(k == bA.free && env.scope.kind == .function && env.kindOf n == some .cell)=true
  ·have g:List.lookup x ((if (k == bA.free && env.scope.kind == .function && env.kindOf n == some .cell)=true then (n,bA.cell) else (n,k))::_)=_:=h
   rw [iF hq,bX] at g;have hk:k= .free:=by
    rw [bf,bf] at hq;exact eq_of_beq hq.1.1
   cases hx:x == n with
   | true=>rw [hx] at g;rw [hk];exact .inr ⟨rfl,(aG g).symm⟩
   | false=>rw [hx] at g;exact ih g
  ·have g:List.lookup x ((if (k == bA.free && env.scope.kind == .function && env.kindOf n == some .cell)=true then (n,bA.cell) else (n,k))::_)=_:=h
   rw [iE hq,bX] at g;cases hx:x == n with
   | true=>rw [hx] at g;exact .inl g
   | false=>rw [hx] at g;exact ih g
theorem fE {env:Env}(hk:env.scope.kind= .function){x:Str}(hx:env.kindOf x=some .cell):∀ {names:List (Str×bA)},names.lookup x=some .free →
  (names.map fun (n,k)=>if (k == bA.free && env.scope.kind == .function && env.kindOf n == some .cell) then (n,bA.cell) else (n,k)).lookup x=some .cell
 | [],h=>by simp at h
 | (n,k)::r,h=>by
  have ih:= @fE env hk x hx r;show List.lookup x ((if (k == bA.free && env.scope.kind == .function && env.kindOf n == some .cell)=true then (n,bA.cell) else (n,k))::_)=some bA.cell;rw [bX] at h;cases hxn:x == n with
  | true =>
   rw [hxn] at h;have ek:k= .free:=aG h;have en:x=n:=eq_of_beq hxn;subst ek en;rw [iF (by rw [hk,hx];rfl),bX,beq_self_eq_true]
  | false =>
   rw [hxn] at h
   by_cases hq:(k == bA.free && env.scope.kind == .function && env.kindOf n == some .cell)=true
   ·rw [iF hq,bX,hxn];exact ih h
   ·rw [iE hq,bX,hxn];exact ih h
def PTs (X:Cx)(ifs:List Expr)(t:TT):Prop :=
 ∀ (ak:List (aj×Obj)) (s:ai) (σ:St) (H:Hp) (Q:Bool→Hp→Prop),Inv X ak σ H s→t σ H Q →
  ba (aX X.prog X.w) X.A (forIn ifs true fun c r=>if r=true then do let ok ← isTrue c X.env (dW c X.env);pure (ForInStep.yield ok) else pure (ForInStep.yield r)) (TP X ak σ Q) X.xe s
def tNoIf:TT:=fun _ H Q=>Q true H
theorem gd {A B:Hp→Prop}(h:A H):tNoIf σ H fun b H4=>if b=true then A H4 else B H4:=by
 show if true=true then A H else B H;rw [iF rfl];exact h
theorem gX:PTs X [] tNoIf:=fun _ _ _ H _ I h=>wpAny_tests_nil ⟨H,I,h⟩
theorem HOk.take (x:HOk P w H h)(hn:H a=none)(new:ee P w (upd H a o) h a o):HOk P w (upd H a o) h:=fun b u e=>by
 by_cases hb:b=a
 ·subst hb;rw [bG] at e;cases e;exact new
 ·rw [bU hb] at e
  exact (x b u e).stay (fun _ _ _ q=>q) (fun c q=>by rw [bU (br q hn)];exact q) fun c xs q=>by rw [bU (br q hn)];exact q
def bS (σ:St)(js:List Nat):St:=js.map fun j=>(σ[j]?).getD none
def CompW (js:List Nat)(tt:TT)(te:TE)(σ:St)(Q:VK)(J:It)(H1:Hp):Prop:=∃ W:Nat→Nat→List V→Hp→Prop,(∃ m,W 0 m [] H1)∧∀ i m ys H2,W i m ys H2 →
 (J.stop i H2∧∀ D,H2 D=none→Q (.ref D) (upd H2 D (.lst ys))) ∨
 (J.go i H2∧ys.length<ax∧∃ N:List V→Hp→Prop,(∀ ys' H',N ys' H'→∃ m',m'<m∧W (i+1) m' ys' H')∧∀ x H3,J.yld i H2 x H3→tt (some x::bS σ js) H3 fun b H4 =>
  if b=true then te (some x::bS σ js) H4 fun y H5=>N (ys++[y]) H5 else N ys H4)
def tComp (wi:TI)(js:List Nat)(tt:TT)(te:TE):TE:=fun σ H Q=>wi σ H fun J H1=>CompW js tt te σ Q J H1
abbrev gF (us:List aa)(n:Nat):Obj:={ cls:= .type "list",data:= .seq us.toArray n }
section
variable {R:Result→ai→Prop}
abbrev iD (prog:aP)(w:bj)(A:bO)(env:Env)(R:Result→ai→Prop):aa→ai→Prop:=notedBy (aX prog w) A env fun x t=>R (.error x) t
theorem loop_any {it acc:aa}(J:Nat→ai→Prop)
  (step:∀ k t,J k t→ba (aX prog w) A (pyNext it) (fun r t1=>match r with
   | none=>R (.ok .next) t1
   | some v=>ba (aX prog w) A (fc tg it v) (fun _ t2=>ba (aX prog w) A (assign tg env v) (fun _ t3 =>
     ba (aX prog w) A (forIn ifs true fun c b=>if b=true then do let z ← isTrue c env (dW c env);pure (ForInStep.yield z) else pure (ForInStep.yield b)) (fun z t4 =>
      if z=true then ba (aX prog w) A (dW elt env) (fun y t5=>ba (aX prog w) A (call (.builtin "list.append") [acc,y]) (fun _ t6=>∃ m,m<k∧J m t6) (iD prog w A env R) t5) (iD prog w A env R) t4
      else ∃ m,m<k∧J m t4) (iD prog w A env R) t3) (iD prog w A env R) t2) (iD prog w A env R) t1) (iD prog w A env R) t)
  (k:Nat) (h:J k s):codeAny (aX prog w) A (.compLoop (.ListComp elt [⟨tg,iter,ifs,0⟩] scope pos) 0 it acc env) R s:=by
 refine codeAny_loop rfl J (fun k t hJ=>?_) k h;show ba _ A ((compTurn (.ListComp elt [⟨tg,iter,ifs,0⟩] scope pos) 0 it acc env).onRaise (fun y=>do noteFrame y env;theTreesLotGoes y)) _ _ t;refine wpAny_noted ?_;rw [compTurn_list];refine aJ (wpAny_standAt (aJ (bN (step k t hJ) (fun r t1 q1=>?_) fun _ _ f=>f)));cases r with
 | none=>exact cg q1
 | some v =>
  refine aJ (bN q1 (fun _ t2 q2=>?_) fun _ _ f=>f);refine aJ (bN q2 (fun _ t3 q3=>?_) fun _ _ f=>f);refine aJ (bN q3 (fun z t4 q4=>?_) fun _ _ f=>f);cases z with
  | false=>exact cg ⟨rfl,q4⟩
  | true=>exact aJ (aJ (bN q4 (fun y t5 q5=>aJ (bN q5 (fun _ t6 q6=>cg (cg ⟨rfl,q6⟩)) fun _ _ f=>f)) fun _ _ f=>f))
end
def CompWT (n:Nat)(g:TG)(js:List Nat)(tt:TT)(te:TE)(σ:St)(Q:VK)(J:It)(H1:Hp):Prop:=∃ W:Nat→Nat→List V→Hp→Prop,(∃ m,W 0 m [] H1)∧∀ i m ys H2,W i m ys H2 →
 (J.stop i H2∧∀ D,H2 D=none→Q (.ref D) (upd H2 D (.lst ys))) ∨
 (J.go i H2∧ys.length<ax∧∃ N:List V→Hp→Prop,(∀ ys' H',N ys' H'→∃ m',m'<m∧W (i+1) m' ys' H')∧∀ x H3,J.yld i H2 x H3→∀ v0:St,v0.length=n→g x (v0++bS σ js) H3 fun σ4 H4 =>
  (∃ v1:St,v1.length=n∧σ4=v1++bS σ js)∧tt σ4 H4 fun b H5=>if b=true then te σ4 H5 fun y H6=>N (ys++[y]) H6 else N ys H5)
theorem comp_core {Q:VK}{use:Option (aa→Sem Unit)}{R:aa→ai→Prop}{xs:List Str}
  (hc:X.calm=true) (hi:PI X tg iter wi)
  (fJ:∀ y∈scope.names,y.2≠ .cell) (gA:scope.kind= .function) (hX:∀ y∈scope.names,y.2= .local→scope.names.lookup y.1=some .local)
  (hfr:∀ y∈scope.names,y.2= .free→X.env.scope.names.lookup y.1=some .cell) (hjs:js.map (fun j=>X.N[j]?)=fr.map some) (hfv:∀ y∈fr,scope.names.lookup y=some .free)
  (hg:∀ cl C s' H' ex,PG (d6 X scope cl C (xs++fr) s' H' ex) tg g)
  (hb:∀ cl C s' H' ex,PE (d6 X scope cl C (xs++fr) s' H' ex) elt te∧PTs (d6 X scope cl C (xs++fr) s' H' ex) ifs tt)
  (hCW:∀ σ Q J H1,CW σ Q J H1→CompWT xs.length g js tt te σ Q J H1) (I:Inv X ak σ H s) (h:wi σ H fun J H1=>CW σ Q J H1)
  (fin:∀ (s4:ai) (H5:Hp) (D C:aj) (mC:Str→Option aa),s4.heap.Ns C mC→Inv X ak σ H5 s4→H5 C=none→C≠X.env.locals→C ∉ X.fs→(∀ p∈X.pn++ak,p.1≠C)→(∀ y c,X.env.cells.lookup y=some c→c≠C)→X.s₀.heap.objs.size≤C→Q (.ref D) H5→compPost (aX X.prog X.w) X.A X.xe use R (.ref D) C (.ok .next) s4)
  (hs:∀ z,eo iter X.env z=pure z:=by intro _;rfl) :
  ba (aX X.prog X.w) X.A (comprehension (.ListComp elt [⟨tg,iter,ifs,0⟩] scope pos) scope X.env pos' (newList []) false (dW iter X.env) use) R X.xe s:=by
 have hXk:X.env.scope.kind= .function:=I.ok.kind;obtain ⟨cl,hclos,c1,c2⟩:=ig (scope:=scope) (env:=X.env) fun y hy hk=>I.ok.has _ (.inl (hfr y hy hk))
 refine wpAny_comprehension_free rfl hs hclos gA hX (thn (hi ak s σ H _ I h) fun xv s1 h1=>thn h1 fun itv s2 h2=>?_);obtain ⟨it,fp,tn,J,H2,rfl,I2,T,st2,f2,hcw⟩:=h2;obtain ⟨W,⟨m0,w0⟩,turn⟩:=hCW _ _ _ _ hcw;refine wpAny_newObj_type (wpAny_newFunctionEnv fJ (by intro y hy;simp at hy) (fun hA nsA sbA=>?_) gA)
 dsimp only at nsA sbA ⊢
 generalize hG:s2.heap.push { cls:= .type "list",dict:=none,data:= .seq ([]:List aa).toArray }=G at nsA sbA ⊢;have hC:G.objs.size=s2.heap.objs.size+1:=by rw [←hG,bg.size_push]
 have hDC:s2.heap.objs.size≠G.objs.size:=by rw [hC];exact bu (Nat.lt_succ_self _)
 have small:∀ b o,s2.heap.get? b=some o→b≠G.objs.size∧b≠s2.heap.objs.size:=fun b o e=>⟨by rw [hC];exact bu (Nat.lt_succ_of_lt (au e)),bu (au e)⟩
 have old:∀ b o,s2.heap.get? b=some o→hA.get? b=some o:=fun b o e=>sbA.extBut b o (small b o e).1 (ar _ (hG ▸ ar _ e))
 have hDA:hA.get? s2.heap.objs.size=some (gF [] 0):=sbA.extBut _ _ hDC (ar _ (hG ▸ aW _ rfl));have fpo:∀ b∈fp,∃ o,s2.heap.get? b=some o:=fun b hb=>let ⟨o,e,_⟩:=T.obj _ _ st2 b hb;⟨o,e⟩
 have celo:∀ y c,cl.lookup y=some c→∃ o,s2.heap.get? c=some o:=fun y c e=>let ⟨_,o,ho,_⟩:=I2.cell y c (c1 y c e);⟨o,ho⟩
 have ok':(d6 X scope cl G.objs.size (xs++fr) s2 H2 fp).Ok:=by
  refine ⟨I2.ok.mod,gA,I2.ok.glob,I2.ok.blt,?_,fun a b c e1 e2=>I2.ok.inj a b c (c1 a c e1) (c1 b c e2),fun y hy=>?_,fun _ _ z=>iG z (by intro q;cases q),I2.ok.hd,I2.ok.frames,.inl rfl,fun b hb=>?_,I2.bs,aR I2.ok.bsz I2.sz,fun b o e hb=>?_,fun b hb hz=>?_,I2.stack,I2.stkFree⟩
  ·show s2.heap.objs.size≤G.objs.size
   rw [hC];exact eJ _
  ·have hy:(relabel scope X.env).names.lookup y=some .cell∨(relabel scope X.env).names.lookup y=some .free:=hy
   have key:scope.names.lookup y=some .free:=by
    rcases hy with hy | hy
    ·rcases eY hy with q | ⟨q,_⟩
     ·exact iG rfl (fJ _ (bt q))
     ·exact q
    ·rcases eY hy with q | ⟨q,_⟩
     ·exact q
     ·exact q
   have hm:=bt key;obtain ⟨c,e⟩:=I.ok.has y (.inl (hfr _ hm rfl));exact ⟨c,(c2 _ hm rfl).trans e⟩
  ·obtain ⟨o,e⟩:=fpo b hb
   exact ⟨(small b o e).1,fun y c q=>(f2 b hb).2.2.2.2.1 y c (c1 y c q)⟩
  ·obtain ⟨_,_,_,f3,_⟩:=f2 b hb
   rcases f3 with f3 | f3
   ·exact I2.ok.noex b o e f3
   ·exact iG (aH (au e) (aR I2.ok.bsz f3)) (bW _)
  ·obtain ⟨_,n1,n2,_⟩:=f2 b hb
   exact (aw.mp (I2.stkSub b hz)).elim n1 n2
 have nofs:s2.heap.objs.size ∉ frs X.stack:=fun hz=>by
  obtain ⟨_,o,ho,_⟩:=I2.stack.mem hz;exact bW _ (au ho)
 have lenB:(bS σ js).length=fr.length:=by
  have e:=iK bY hjs;rw [af,af] at e;unfold bS;rw [af];exact e
 have start':∀ t,Inv (d6 X scope cl G.objs.size (xs++fr) s2 H2 fp) [(s2.heap.objs.size,gF [] 0)] ((xs.map fun _=>none)++bS σ js) H2 { s2 with heap:=hA,toks:=t }:=fun t=>by
  refine ⟨ok',rfl,I2.bare,Un.kept old,⟨_,nsA,fun i y v e1 e2 e3=>?_⟩,fun y c e=>?_,I2.hok.fresh (by rw [hC];exact eJ _),fun y c e=>I2.freeC y c (c1 y c e),fun p hp=>?_,I2.hok.kept old,?_⟩
  ·by_cases hix:i<xs.length
   ·rw [fi (by rw [af];exact hix),aS,gE hix] at e2
    cases e2
   ·obtain ⟨i,rfl⟩:∃ j,i=xs.length+j:=⟨i - xs.length,by lia⟩
    have e1:(xs++fr)[xs.length+i]? =some y:=e1;have e1:fr[i]? =some y:=by rw [dw (by lia),show xs.length+i - xs.length=i by lia] at e1;exact e1
    have e2:(bS σ js)[i]? =some (some v):=by rw [dw (by rw [af];lia),af,show xs.length+i - xs.length=i by lia] at e2;exact e2
    unfold bS at e2;rw [aS] at e2;obtain ⟨j,ej,e2⟩:=b9.mp e2;have hN:X.N[j]? =some y:=by
     have q:=iK (fun l=>l[i]?) hjs;simp only [aS,ej,e1,Option.map_some] at q;exact aG q
    have hσ:σ[j]? =some (some v):=by
     cases z:σ[j]? with
     | none=>rw [z] at e2;cases e2
     | some w=>rw [z] at e2;exact iK some e2
    have hfree:=hfv y (aZ e1);have hm:=bt hfree;have hce:X.env.scope.names.lookup y=some .cell:=hfr _ hm rfl;obtain ⟨m,_,hl⟩:=I2.loc;obtain ⟨u,ru,look⟩:=hl j y v hN hσ (.inr (.inl hce));refine ⟨u,ru,.inr ⟨.inl (fE hXk hce hfree),?_⟩⟩
    rcases look with ⟨k,_⟩ | ⟨_,c,ec,ho⟩
    ·have k:X.env.scope.names.lookup y=some .local:=k
     rw [hce] at k;cases k
    ·obtain ⟨o,ho,hd⟩:=ho
     exact ⟨c,(c2 _ hm rfl).trans ec,o,old c o ho,hd⟩
  ·obtain ⟨v,o,ho,hd⟩:=I2.cell y c (c1 y c e)
   exact ⟨v,o,old c o ho,hd⟩
  ·have hp:p∈[(s2.heap.objs.size,gF [] 0)]:=hp
   have e:=ay.mp hp;subst e;exact ⟨hDA,I2.hok.fresh (aI _),hDC,nofs,fun v z=>by cases z⟩
  ·show ((xs.map fun _=>none)++bS σ js).length=(xs++fr).length
   rw [aq,aq,af,lenB]
 have fok:∀ {us:List aa} {n:Nat} {H':Hp},(∀ b∈fp,H' b=none)→∀ b∈fp,FpOk (d6 X scope cl G.objs.size (xs++fr) s2 H2 fp) [(s2.heap.objs.size,gF us n)] H' b:=fun {us n H'} hn b hb=>by
  obtain ⟨o,e⟩:=fpo b hb;refine ⟨hn b hb,(small b o e).1,fun hz=>(aw.mp (I2.stkSub b hz)).elim (f2 b hb).2.1 (f2 b hb).2.2.1,.inl hb,fun y c q=>(f2 b hb).2.2.2.2.1 y c (c1 y c q),fun p hp=>?_⟩;have hp:p∈[(s2.heap.objs.size,gF us n)]:=hp;have ep:=ay.mp hp;subst ep;exact fun z=>(small b o e).2 z.symm
 have loop:∀ sB:ai,(∃ t,sB={ s2 with heap:=hA,toks:=t }) →
   codeAny (aX X.prog X.w) X.A (.compLoop (.ListComp elt [⟨tg,iter,ifs,0⟩] scope pos) 0 (.ref it) (.ref s2.heap.objs.size) (compEnvC scope cl G.objs.size X.env))
    (compPost (aX X.prog X.w) X.A X.xe use R (.ref s2.heap.objs.size) G.objs.size) sB:=by
  rintro sB ⟨t,rfl⟩;refine loop_any (fun k s'=>∃ i ys us n v0 H',v0.length=xs.length∧Inv (d6 X scope cl G.objs.size (xs++fr) s2 H2 fp) [(s2.heap.objs.size,gF us n)] (v0++bS σ js) H' s'∧dM ys us∧ys.length≤ax∧tn i s'.heap∧(∀ b∈fp,H' b=none)∧W i k ys H') ?_ m0
   ⟨0,[],[],0,xs.map fun _=>none,H2,af ..,start' t,.nil,cc _,T.keep _ _ _ st2 fun b hb o e=>old b o e,fun b hb=>(f2 b hb).1,w0⟩
  rintro k s3 ⟨i,ys,us,n,v0,H3,hv0,I3,rv,hlen,st3,fr3,w3⟩
  rcases turn i k ys H3 w3 with ⟨stop,qn⟩ | ⟨go,hlt,N',hN',step⟩
  ·refine thn (T.done (d6 X scope cl G.objs.size (xs++fr) s2 H2 fp) rfl rfl rfl hc i _ s3 _ H3 _ I3 (fok fr3) st3 stop) fun r s4 ⟨hr,I4⟩=>?_
   subst hr;obtain ⟨mC,hnC,_⟩:=id I4.loc;obtain ⟨pD,nD,_,_,_⟩:=I4.pin (s2.heap.objs.size,gF us n) (by show _∈[]++[_];simp);have pD:s4.heap.get? s2.heap.objs.size=some (gF us n):=pD;have nD:H3 s2.heap.objs.size=none:=nD;have nC:H3 G.objs.size=none:=I4.free;have D2:∀ b o,s2.heap.get? b=some o→b≠s2.heap.objs.size:=fun b o e=>(small b o e).2
   have base4:Un (frs X.stack) fp H2 H3 s2.heap s4.heap:=I4.base;have u4:Un (frs X.stack) fp H2 (upd H3 s2.heap.objs.size (.lst ys)) s2.heap s4.heap :=
    {keep:=base4.keep
     slot:=base4.slot
     free:=fun b o e nb hx'=>by rw [bU (D2 b o e)];exact base4.free b o e nb hx'
     there:=base4.there
     tups:=fun b xs e=>by have q:=base4.tups b xs e;rw [bU (br q nD)];exact q
     frzs:=fun b o u e=>by have q:=base4.frzs b o u e;rw [bU (br q nD)];exact q
     tbls:=fun b ps e=>by obtain ⟨more,q⟩:=base4.tbls b ps e;exact ⟨more,by rw [bU (br q nD)];exact q⟩ }
   have I5:Inv X ak σ (upd H3 s2.heap.objs.size (.lst ys)) s4:=I2.call' (s':=s4) (ch:=fp) I4.os u4 (I4.hok.take nD ⟨hlen,us,n,rv,pD⟩) I4.bare fun b hb=>by
    obtain ⟨_,g1,_,g3,g4,g5⟩:=f2 b hb;exact ⟨g3,g1,g4,g5⟩
   have locC:G.objs.size≠X.env.locals:=fun z=>by
    obtain ⟨_,⟨o,_,_,ho,_⟩,_⟩:=id I2.loc;exact (small _ o ho).1 z.symm
   have fsC:G.objs.size ∉ X.fs:=fun hz=>by
    obtain ⟨_,o,ho,_⟩:=I2.ok.funs.mem hz;have:=aH (au ho) I2.sz;rw [hC] at this;exact bW _ (Nat.lt_of_succ_lt this)
   have pinX:∀ p∈X.pn++ak,p.1≠G.objs.size:=fun p hp=>(small _ _ (I2.pin p hp).1).1
   have nCu:(upd H3 s2.heap.objs.size (.lst ys)) G.objs.size=none:=by rw [bU (Ne.symm hDC)];exact nC
   refine fin s4 _ _ _ mC hnC I5 nCu locC fsC pinX (fun y c q z=>?_) (aR I2.sz (by rw [hC];exact eJ _)) (qn _ nD);obtain ⟨v,o,ho,_⟩:=I2.cell y c q;exact (small c o ho).1 z
  ·refine thn (T.item (d6 X scope cl G.objs.size (xs++fr) s2 H2 fp) rfl rfl rfl hc i _ s3 _ H3 _ I3 (fok fr3) st3 go) fun r s4 ⟨u,hr,h4⟩=>?_
   subst hr;refine thn h4 fun _ s5 ⟨v,H5,I5,r5,y5,st5,fr5⟩=>?_
   have I5':=I5.pinned (fok fr5) (T.obj _ _ st5);refine bN (hg cl G.objs.size s2 H2 fp _ s5 _ H5 v u _ I5' r5 (step v H5 y5 v0 hv0)) (fun _ s6 ⟨σ6,H6,I6,⟨w1,hw1,e6⟩,q6⟩=>?_) fun _ _ f=>f.elim
   subst e6;refine bN ((hb cl G.objs.size s2 H2 fp).2 _ s6 _ H6 _ I6 q6) (fun b s7 ⟨H7,I7,q7⟩=>?_) fun _ _ f=>f.elim
   have back:∀ {s8:ai} {H8:Hp},Inv (d6 X scope cl G.objs.size (xs++fr) s2 H2 fp) ([(s2.heap.objs.size,gF us n)]++iu fp s5.heap) (w1++bS σ js) H8 s8→tn (i+1) s8.heap∧∀ b∈fp,H8 b=none:=fun {s8 H8} I8=>by
    refine ⟨T.keep _ _ _ st5 fun b hb o e=>(I8.pin (b,o) (aE _ (aE _ (et hb e)))).1,fun b hb=>?_⟩;obtain ⟨o,e,_⟩:=T.obj _ _ st5 b hb;exact (I8.pin (b,o) (aE _ (aE _ (et hb e)))).2.1
   cases b with
   | false =>
    obtain ⟨m',hm,w7⟩:=hN' _ _ q7;obtain ⟨t7,n7⟩:=back I7;exact ⟨m',hm,i+1,ys,us,n,w1,H7,hw1,I7.unpinned,rv,hlen,t7,n7,w7⟩
   | true =>
    refine bN ((hb cl G.objs.size s2 H2 fp).1 _ s7 _ H7 _ I7 q7) (fun y' s8 ⟨y,H8,I8,r8,q8⟩=>?_) fun _ _ f=>f.elim
    obtain ⟨m',hm,w8⟩:=hN' _ _ q8;obtain ⟨t8,n8⟩:=back I8;have I8':=I8.unpinned;obtain ⟨pD,nD,_,_,_⟩:=I8'.pin (s2.heap.objs.size,gF us n) (by show _∈[]++[_];simp);have pD:s8.heap.get? s2.heap.objs.size=some (gF us n):=pD;have nD:H8 s2.heap.objs.size=none:=nD;refine append_at pD (fun h9 hs9 e9=>?_) (by rw [aC,←rv.length];exact hlen);have e9:h9.get? s2.heap.objs.size=some (gF (us++[y']) (n+1)):=by rw [e9];simp [gF]
    have J0:Inv (d6 X scope cl G.objs.size (xs++fr) s2 H2 fp) [] (w1++bS σ js) H8 s8:=I8'.pins_of fun p hp=>iG hp (by simp)
    have J9:Inv (d6 X scope cl G.objs.size (xs++fr) s2 H2 fp) [] (w1++bS σ js) H8 { s8 with heap:=h9,toks:=s8.toks } :=
     J0.turned (it:=s2.heap.objs.size) (fun b o hb' e=>hs9.extBut b o hb' e) nD hDC (.inr (aI _)) (fun y0 c q z=>by
      obtain ⟨o,e⟩:=celo y0 c q;exact (small c o e).2 z) fun p hp=>iG (show p∈([]:List (aj×Obj)) from hp) (by simp)
    refine ⟨m',hm,i+1,ys++[y],us++[y'],n+1,w1,H8,hw1,J9.pins_of fun p hp=>?_,rv.append (.cons r8 .nil),(by rw [aq,ao];exact hlt),T.keep _ _ _ t8 fun b hb' o e=>hs9.extBut b o (by
     obtain ⟨o',e'⟩:=fpo b hb';exact (small b o' e').2) e,n8,w8⟩
    have ep:=ay.mp hp;subst ep;exact ⟨e9,nD,hDC,nofs,fun v z=>by cases z⟩
 exact codeAny_compStart_list (loop _ ⟨_,rfl⟩) (T.self _ 0 _ _ _ (T.keep _ _ _ st2 fun b hb o e=>old b o e) (loop _ ⟨_,rfl⟩))
theorem pe_compC {xs:List Str}
  (hc:X.calm=true) (hi:PI X tg iter wi)
  (fJ:∀ y∈scope.names,y.2≠ .cell) (gA:scope.kind= .function) (hX:∀ y∈scope.names,y.2= .local→scope.names.lookup y.1=some .local)
  (hfr:∀ y∈scope.names,y.2= .free→X.env.scope.names.lookup y.1=some .cell) (hjs:js.map (fun j=>X.N[j]?)=fr.map some) (hfv:∀ y∈fr,scope.names.lookup y=some .free)
  (hg:∀ cl C s' H' ex,PG (d6 X scope cl C (xs++fr) s' H' ex) tg g)
  (hb:∀ cl C s' H' ex,PE (d6 X scope cl C (xs++fr) s' H' ex) elt te∧PTs (d6 X scope cl C (xs++fr) s' H' ex) ifs tt)
  (hCW:∀ σ Q J H1,CW σ Q J H1→CompWT xs.length g js tt te σ Q J H1) (hs:∀ z,eo iter X.env z=pure z:=by intro _;rfl) :
  PE X (.ListComp elt [⟨tg,iter,ifs,0⟩] scope pos) (fun σ H Q=>wi σ H fun J H1=>CW σ Q J H1):=by
 intro ak s σ H Q I h;rw [eval_ListComp];exact comp_core (use:=none) (R:=EP X ak σ Q) hc hi fJ gA hX hfr hjs hfv hg hb hCW I h (fun s4 H5 D C mC n I5 nC lC fC pC cC sC q=>⟨mC,n,fun h' hsb=>⟨.ref D,H5,I5.turned (t':=s4.toks) (it:=C) (fun b o hb' e=>hsb.extBut b o hb' e) nC lC (.inr sC) cC pC,rfl,q⟩⟩) hs
theorem compW_T {Q:VK}{J:It}(h:CompW js tt te σ Q J H1):CompWT 1 (gName 0) js tt te σ Q J H1:=by
 obtain ⟨W,w0,turn⟩:=h;refine ⟨W,w0,fun i m ys H2 hw=>?_⟩
 rcases turn i m ys H2 hw with h | ⟨h1,h2,N,h3,h4⟩
 ·exact .inl h
 ·refine .inr ⟨h1,h2,N,h3,fun x H3 hy v0 hv=>?_⟩
  obtain ⟨w,rfl⟩:∃ w,v0=[w]:=by
   obtain _ | ⟨w,v0⟩:=v0
   ·cases hv
   ·obtain _ | ⟨z,v0⟩:=v0
    ·exact ⟨w,rfl⟩
    ·cases hv
  exact ⟨⟨[some x],rfl,rfl⟩,h4 x H3 hy⟩
theorem pe_comp {px:Pos}
  (hc:X.calm=true) (hi:PI X (.Name x px) iter wi)
  (fJ:∀ y∈scope.names,y.2≠ .cell) (gA:scope.kind= .function) (hX:∀ y∈scope.names,y.2= .local→scope.names.lookup y.1=some .local) (hx:scope.names.lookup x=some .local)
  (hfr:∀ y∈scope.names,y.2= .free→X.env.scope.names.lookup y.1=some .cell) (hnd:(x::fr).Nodup) (hjs:js.map (fun j=>X.N[j]?)=fr.map some) (hfv:∀ y∈fr,scope.names.lookup y=some .free)
  (hb:∀ cl C s' H' ex,PE (d6 X scope cl C (x::fr) s' H' ex) elt te∧PTs (d6 X scope cl C (x::fr) s' H' ex) ifs tt)
  (hs:∀ z,eo iter X.env z=pure z:=by intro _;rfl) :
  PE X (.ListComp elt [⟨.Name x px,iter,ifs,0⟩] scope pos) (tComp wi js tt te) :=
 pe_compC (xs:=[x]) (g:=gName 0) hc hi fJ gA hX hfr hjs hfv (fun _ _ _ _ _=>pg_name hnd rfl (.inl (eV hx)) (.inr (eV hx))) hb (fun _ _ _ _ h=>compW_T h) hs
theorem comp_tup {Q:VK}(Pv:Nat→List V→Hp→Prop)(h0:Pv 0 [] H)(hl:∀ i ys H,i≤xs.length→Pv i ys H→SqT K H a xs∧ys.length≤i)(hz:xs.length≤ax)
  (hs:∀ i x ys H,xs[i]? =some x→Pv i ys H→tt (some x::bS σ js) H fun b H4=>if b=true then te (some x::bS σ js) H4 fun y H5=>Pv (i+1) (ys++[y]) H5 else Pv (i+1) ys H4)
  (hd:∀ ys H,Pv xs.length ys H→∀ D,H D=none→Q (.ref D) (upd H D (.lst ys))):CompW js tt te σ Q (Itt K a) H:=by
 refine ⟨fun i m ys H=>i≤xs.length∧m=xs.length - i∧Pv i ys H,⟨_,cc _,rfl,h0⟩,fun i m ys H2 ⟨hi,hm,hp⟩=>?_⟩;obtain ⟨hq,hy⟩:=hl i ys H2 hi hp
 by_cases e:i=xs.length
 ·subst e
  exact .inl ⟨⟨xs,hq,aI _⟩,hd ys H2 hp⟩
 ·have hlt:i<xs.length:=Nat.lt_of_le_of_ne hi e
  refine .inr ⟨⟨xs,_,hq,gE hlt⟩,by lia,Pv (i+1),fun ys' H' hp'=>⟨xs.length - (i+1),by lia,by lia,rfl,hp'⟩,fun x H3 hy3=>?_⟩;obtain ⟨e3,hx⟩:=hy3;subst e3;exact hs i x ys H3 (hx xs hq) hp
theorem cL.put (e:cL H H1){p:aj}(h:H1 p=none):cL H (upd H1 p o):=fun b u q=>by rw [bU (br (e b u q) h)];exact e b u q
theorem Inv.big (I:Inv X ak σ H s):sysModules<s.heap.objs.size:=by
 have h:aF<s.heap.objs.size:=(I.mod.glob.keeps I.bk).lt;exact Nat.lt_trans (by decide) h
theorem dk_empty (h:bg)(hb:sysModules<h.objs.size):ee P w H (h.push { cls:= .type "dict",data:= .dict #[] }) h.objs.size (.dK []) :=
 ⟨cc _,beq_eq_false_iff_ne.mpr (Ne.symm (bu hb)),[],.nil,bg.DictOf.new h⟩
def tDNewK:TE:=fun _ H Q=>∀ p,H p=none→Q (.ref p) (upd H p (.dK []))
theorem pe_dnewK:PE X (.Dict [] [] pos) tDNewK:=fun ak s σ H Q I h =>
 wpAny_Dict_empty ⟨.ref s.heap.objs.size,_,I.laid (a:=s.heap.objs.size) (o:= .dK []) (t':=s.toks) (fun _ _ q=>ar _ q) (aI _) (dk_empty s.heap I.big),rfl,h _ (I.hok.fresh (aI _))⟩
theorem PE.imp {t t':TE}(h:PE X e t)(i:∀ σ H Q,t' σ H Q→t σ H Q):PE X e t':=fun ak s σ H Q I q=>h ak s σ H Q I (i σ H Q q)
theorem OpR.imp {f:aa→aa→Sem aa}{r r':R2}(h:OpR X f r)(i:∀ x y H Q,r' x y H Q→r x y H Q):OpR X f r':=fun ak s σ H x y v u Q I rx ry q=>h ak s σ H x y v u Q I rx ry (i x y H Q q)
theorem eN.imp {f:aa}{r r':List V→Hp→VK→Prop}(h:eN X f r)(i:∀ xs H Q,r' xs H Q→r xs H Q):eN X f r':=fun ak s σ H xs us Q I rv q=>h ak s σ H xs us Q I rv (i xs H Q q)
theorem SlR.imp (h:SlR X r)(i:∀ x lo hi H Q,r' x lo hi H Q→r x lo hi H Q):SlR X r':=fun ak s σ H x v vl vu lo hi sl Q I rx hs pl pu q=>h ak s σ H x v vl vu lo hi sl Q I rx hs pl pu (i x lo hi H Q q)
def tACut (t:TA):TA:=fun σ H R=>∃ R':List V→Hp→Prop,(∀ xs H,R' xs H→R xs H)∧t σ H R'
theorem PA.cut (h:PA X es t):PA X es (tACut t):=fun pos ak s σ H Q I ⟨R',i,q⟩ =>
 thn (h pos ak s σ H R' I q) fun us s' ⟨vs,H',I',rv,q'⟩=>⟨vs,H',I',rv,i _ _ q'⟩
def New (H:Hp)(o:HO)(Q:VK):Prop:=∀ p H',cL H H'→H' p=some o→Q (.ref p) H'
theorem New.of {Q:VK}(h:New H o Q):∀ p,H p=none→Q (.ref p) (upd H p o):=fun p hp=>h p _ (cL.put (cL.refl H) hp) bG
def tTupA (t:TA):TE:=fun σ H Q=>t σ H fun xs H1=>xs.length≤ax∧New H1 (.tup xs) Q
def tLstA (t:TA):TE:=fun σ H Q=>t σ H fun xs H1=>xs.length≤ax∧New H1 (.lst xs) Q
theorem pe_tupA {x1}(h:PA X es t):PE X (.Tuple es x1 pos) (tTupA t):=(pe_tup h.cut).imp fun _ _ _ q=>⟨_,fun _ _ z=>⟨z.1,z.2.of⟩,q⟩
theorem eT (h:PA X es t):PE X (.List es pos) (tLstA t):=(gm h.cut).imp fun _ _ _ q=>⟨_,fun _ _ z=>⟨z.1,z.2.of⟩,q⟩
theorem pe_dnewA:PE X (.Dict [] [] pos) (fun _ H Q=>New H (.dK []) Q):=pe_dnewK.imp fun _ _ _ q=>q.of
theorem dP:OpR X (dJ .Add) (fun x y H Q=>∃ l b xs zs,x= .ref l∧y= .ref b∧H l=some (.lst xs)∧H b=some (.lst zs)∧xs.length+zs.length≤ax∧New H (.lst (xs++zs)) Q) :=
 op_cat.imp fun _ _ _ _ ⟨l,b,xs,zs,e1,e2,e3,e4,e5,q⟩=>⟨l,b,xs,zs,e1,e2,e3,e4,e5,q.of⟩
inductive Dt where
 | non | bl (b:Bool) | int (i:Int) | str (x:Str) | tup (ds:List Dt) | oth (T:String)
mutual
inductive IsD (H:Hp):V→Dt→Prop where
 | non:IsD H .non .non
 | bl (b:Bool):IsD H (.bl b) (.bl b)
 | int (i:Int):IsD H (.int i) (.int i)
 | str (x:Str):IsD H (.str x) (.str x)
 | tup {a:aj} {xs:List V} {ds:List Dt} (h:H a=some (.tup xs)) (r:eW H xs ds):IsD H (.ref a) (.tup ds)
 | lst {a:aj} {xs:List V} (h:H a=some (.lst xs)):IsD H (.ref a) (.oth "list")
 | dct {a:aj} {kvs:List (Key×V)} (h:H a=some (.dK kvs)):IsD H (.ref a) (.oth "dict")
inductive eW (H:Hp):List V→List Dt→Prop where
 | nil:eW H [] []
 | cons {x:V} {d:Dt} {xs:List V} {ds:List Dt} (h:IsD H x d) (r:eW H xs ds):eW H (x::xs) (d::ds)
end
mutual
theorem IsD.same {H H':Hp}(e:cL H H'):∀ {v:V} {d:Dt},IsD H v d→IsD H' v d
 | _,_,.non=> .non
 | _,_,.bl b=> .bl b
 | _,_,.int i=> .int i
 | _,_,.str x=> .str x
 | _,_,.tup h r=> .tup (e _ _ h) (eW.same e r)
 | _,_,.lst h=> .lst (e _ _ h)
 | _,_,.dct h=> .dct (e _ _ h)
theorem eW.same {H H':Hp}(e:cL H H'):∀ {vs:List V} {ds:List Dt},eW H vs ds→eW H' vs ds
 | _,_,.nil=> .nil
 | _,_,.cons h r=> .cons (IsD.same e h) (eW.same e r)
end
mutual
theorem IsD.inj {H:Hp}:∀ {v:V} {d e:Dt},IsD H v d→IsD H v e→d=e
 | _,_,_,.non,.non=>rfl
 | _,_,_,.bl _,.bl _=>rfl
 | _,_,_,.int _,.int _=>rfl
 | _,_,_,.str _,.str _=>rfl
 | _,_,_,.tup h r,q=>by
  cases q with
  | tup h' r'=>rw [h] at h';cases h';rw [eW.inj r r']
  | lst h'=>rw [h] at h';cases h'
  | dct h'=>rw [h] at h';cases h'
 | _,_,_,.lst h,q=>by
  cases q with
  | tup h' r'=>rw [h] at h';cases h'
  | lst h'=>rfl
  | dct h'=>rw [h] at h';cases h'
 | _,_,_,.dct h,q=>by
  cases q with
  | tup h' r'=>rw [h] at h';cases h'
  | lst h'=>rw [h] at h';cases h'
  | dct h'=>rfl
theorem eW.inj {H:Hp}:∀ {vs:List V} {ds es:List Dt},eW H vs ds→eW H vs es→ds=es
 | _,_,_,.nil,.nil=>rfl
 | _,_,_,.cons h r,.cons h' r'=>by rw [IsD.inj h h',eW.inj r r']
end
theorem eW.length:∀ {xs:List V} {ds:List Dt},eW H xs ds→xs.length=ds.length
 | _,_,.nil=>rfl
 | _,_,.cons _ r=>by rw [aN,aN,eW.length r]
theorem eW.get:∀ {xs:List V} {ds:List Dt} {i:Nat} {x:V},eW H xs ds→xs[i]? =some x→∃ d,ds[i]? =some d∧IsD H x d
 | _,_,_,_,.nil,e=>by simp at e
 | _,_,0,_,.cons h _,e=>by simp at e;subst e;exact ⟨_,rfl,h⟩
 | _,_,i+1,x,.cons _ r,e=>by
  obtain ⟨d,h1,h2⟩:=eW.get (i:=i) (x:=x) r (by simpa using e);exact ⟨d,by simpa using h1,h2⟩
theorem eW.at:∀ {xs:List V} {ds:List Dt} {i:Nat} {d:Dt},eW H xs ds→ds[i]? =some d→∃ x,xs[i]? =some x∧IsD H x d
 | _,_,_,_,.nil,e=>by simp at e
 | _,_,0,_,.cons h _,e=>by simp at e;subst e;exact ⟨_,rfl,h⟩
 | _,_,i+1,d,.cons _ r,e=>by
  obtain ⟨x,h1,h2⟩:=eW.at (i:=i) (d:=d) r (by simpa using e);exact ⟨x,by simpa using h1,h2⟩
theorem eW.append:∀ {xs ys:List V} {ds es:List Dt},eW H xs ds→eW H ys es→eW H (xs++ys) (ds++es)
 | _,_,_,_,.nil,s=>s
 | _,_,_,_,.cons h r,s=> .cons h (eW.append r s)
theorem eW.ints:∀ (ns:List Int),eW H (ns.map V.int) (ns.map Dt.int)
 | []=> .nil
 | n::r=> .cons (.int n) (eW.ints r)
theorem eW.ints_of:∀ {xs:List V} {ns:List Int},eW H xs (ns.map Dt.int)→xs=ns.map V.int
 | _,[],.nil=>rfl
 | _,n::r,.cons h q=>by cases h;rw [eW.ints_of q];rfl
theorem IsD.tup_of {ds:List Dt}(h:IsD H v (.tup ds)):∃ a xs,v= .ref a∧H a=some (.tup xs)∧eW H xs ds:=by
 cases h with
 | tup h r=>exact ⟨_,_,rfl,h,r⟩
mutual
def eqD:Dt→Dt→Bool
 | .non,.non=>true
 | .bl a,.bl b=>a == b
 | .bl a,.int b=>(if a then 1 else 0) == b
 | .int a,.bl b=>a == (if b then 1 else 0)
 | .int a,.int b=>a == b
 | .str a,.str b=>a == b
 | .tup xs,.tup ys=>eqDs xs ys
 | _,_=>false
def eqDs:List Dt→List Dt→Bool
 | [],[]=>true
 | x::xs,y::ys=>eqD x y && eqDs xs ys
 | _,_=>false
end
mutual
def pl:Dt→Bool
 | .oth _=>false
 | .tup ds=>pls ds
 | _=>true
def pls:List Dt→Bool
 | []=>true
 | d::ds=>pl d && pls ds
end
mutual
def dep:Dt→Nat
 | .tup ds=>deps ds+1
 | _=>0
def deps:List Dt→Nat
 | []=>0
 | d::ds=>max (dep d) (deps ds)
end
mutual
theorem eqD_refl:∀ d:Dt,pl d=true→eqD d d=true
 | .non,_=>by unfold eqD;rfl
 | .bl b,_=>by unfold eqD;exact beq_self_eq_true b
 | .int i,_=>by unfold eqD;exact beq_self_eq_true i
 | .str x,_=>by unfold eqD;exact beq_self_eq_true x
 | .tup ds,h=>by
  unfold eqD;unfold pl at h;exact ib ds h
 | .oth T,h=>by unfold pl at h;cases h
theorem ib:∀ ds:List Dt,pls ds=true→eqDs ds ds=true
 | [],_=>by unfold eqDs;rfl
 | d::ds,h=>by
  unfold eqDs;unfold pls at h;rw [bf] at h;rw [eqD_refl d h.1,ib ds h.2];rfl
end
theorem eqD_tup (xs ys:List Dt):eqD (.tup xs) (.tup ys)=eqDs xs ys:=by unfold eqD;rfl
theorem eqDs_all:∀ (ds es:List Dt),eqDs ds es=((List.range (min ds.length es.length)).all (fun j=>eqD (ds.getD j .non) (es.getD j .non)) && ds.length == es.length)
 | [],[]=>by unfold eqDs;rfl
 | [],e::es=>by unfold eqDs;simp
 | d::ds,[]=>by unfold eqDs;simp
 | d::ds,e::es=>by
  unfold eqDs;rw [eqDs_all ds es];rw [aN,aN];have h1:min (ds.length+1) (es.length+1)=min ds.length es.length+1:=by lia
  rw [h1,List.range_succ_eq_map,List.all_cons,List.all_map];have h2:((ds.length+1) == (es.length+1))=(ds.length == es.length):=by rw [dU];simp
  rw [h2,Bool.and_assoc];rfl
theorem gY:∀ {ds:List Dt} {i:Nat} {d:Dt},pls ds=true→ds[i]? =some d→pl d=true
 | [],_,_,_,e=>by simp at e
 | d::ds,0,_,h,e=>by
  unfold pls at h;rw [bf] at h;simp at e;subst e;exact h.1
 | d::ds,i+1,x,h,e=>by
  unfold pls at h;rw [bf] at h;exact gY (i:=i) h.2 (by simpa using e)
theorem deps_get:∀ {ds:List Dt} {i:Nat} {d:Dt},ds[i]? =some d→dep d≤deps ds
 | [],_,_,e=>by simp at e
 | d::ds,0,_,e=>by
  simp at e;subst e;unfold deps;exact Nat.le_max_left _ _
 | d::ds,i+1,x,e=>by
  have:=deps_get (ds:=ds) (i:=i) (d:=x) (by simpa using e);unfold deps;exact aR this (Nat.le_max_right _ _)
theorem Inv.tupD {ds:List Dt}(I:Inv X ak σ H s)(h:IsD H v (.tup ds))(r:eC v u):∃ a its,u= .ref a∧v= .ref a∧s.heap.IsTuple a its.toArray∧∃ xs,dM xs its∧eW H xs ds∧its.length=ds.length:=by
 obtain ⟨a,xs,rfl,ha,hd⟩:=h.tup_of;cases (show u=aa.ref a from r);obtain ⟨its,rv,p,_⟩:=I.tuple (SqT.of (K:=X.K) ha);exact ⟨a,its,rfl,rfl,p,xs,rv,hd,by rw [←rv.length,hd.length]⟩
theorem eqAt_D:∀ (n:Nat) {A:bO} {x y:V} {u v:aa} {d e:Dt},dep d≤n→A.units+n<cLine→Inv X ak σ H s→IsD H x d→IsD H y e→eC x u→eC y v→pl d=true→pl e=true→SeqAt.EqAt A s u v (eqD d e):=by
 intro n
 induction n with
 | zero =>
  intro A x y u v d e hd hu I ix iy rx ry px py;cases ix with
  | tup h r=>unfold dep at hd;lia
  | lst h=>unfold pl at px;cases px
  | dct h=>unfold pl at px;cases px
  | non =>
   cases iy with
   | tup h' r' =>
    obtain ⟨a,its,rfl,_,hb,_⟩:=I.tupD (.tup h' r') ry;cases rx;exact SeqAt.EqAt.none_tuple hb (by lia)
   | lst h'=>unfold pl at py;cases py
   | dct h'=>unfold pl at py;cases py
   | non=>exact ef rx ry rfl rfl
   | bl b=>exact ef rx ry rfl rfl
   | int b=>exact ef rx ry rfl rfl
   | str b=>exact ef rx ry rfl rfl
  | bl b =>
   cases iy with
   | tup h' r' =>
    obtain ⟨a,its,rfl,_,hb,_⟩:=I.tupD (.tup h' r') ry;cases rx;exact SeqAt.EqAt.bool_tuple b hb (by lia)
   | lst h'=>unfold pl at py;cases py
   | dct h'=>unfold pl at py;cases py
   | non=>exact ef rx ry rfl rfl
   | bl b=>exact ef rx ry rfl rfl
   | int b=>exact ef rx ry rfl rfl
   | str b=>exact ef rx ry rfl rfl
  | int i =>
   cases iy with
   | tup h' r' =>
    obtain ⟨a,its,rfl,_,hb,_⟩:=I.tupD (.tup h' r') ry;obtain ⟨t,rfl⟩:=rx;exact SeqAt.EqAt.int_tuple i t hb (by lia)
   | lst h'=>unfold pl at py;cases py
   | dct h'=>unfold pl at py;cases py
   | non=>exact ef rx ry rfl rfl
   | bl b=>exact ef rx ry rfl rfl
   | int b=>exact ef rx ry rfl rfl
   | str b=>exact ef rx ry rfl rfl
  | str z =>
   cases iy with
   | tup h' r' =>
    obtain ⟨a,its,rfl,_,hb,_⟩:=I.tupD (.tup h' r') ry;obtain ⟨t,rfl⟩:=rx;exact SeqAt.EqAt.str_tuple z t hb (by lia)
   | lst h'=>unfold pl at py;cases py
   | dct h'=>unfold pl at py;cases py
   | non=>exact ef rx ry rfl rfl
   | bl b=>exact ef rx ry rfl rfl
   | int b=>exact ef rx ry rfl rfl
   | str b=>exact ef rx ry rfl rfl
 | succ n ih =>
  intro A x y u v d e hd hu I ix iy rx ry px py
  by_cases hz:dep d=0
  ·
   cases ix with
   | tup h r=>unfold dep at hz;lia
   | lst h=>unfold pl at px;cases px
   | dct h=>unfold pl at px;cases px
   | non=>exact ih (by rw [hz];exact cc _) (by lia) I .non iy rx ry px py
   | bl b=>exact ih (by rw [hz];exact cc _) (by lia) I (.bl b) iy rx ry px py
   | int i=>exact ih (by rw [hz];exact cc _) (by lia) I (.int i) iy rx ry px py
   | str z=>exact ih (by rw [hz];exact cc _) (by lia) I (.str z) iy rx ry px py
  ·cases ix with
   | lst h=>unfold pl at px;cases px
   | dct h=>unfold pl at px;cases px
   | non=>exact iG (by unfold dep;rfl) hz
   | bl b=>exact iG (by unfold dep;rfl) hz
   | int i=>exact iG (by unfold dep;rfl) hz
   | str z=>exact iG (by unfold dep;rfl) hz
   | tup h r =>
    rename_i a xs ds;cases (show u=aa.ref a from rx);obtain ⟨its,rv,p,_⟩:=I.tuple (SqT.of (K:=X.K) h);have p:s.heap.IsTuple a its.toArray:=p;cases iy with
    | lst h'=>unfold pl at py;cases py
    | dct h'=>unfold pl at py;cases py
    | non=>cases ry;exact SeqAt.EqAt.tuple_none p (by lia)
    | bl b=>cases ry;exact SeqAt.EqAt.tuple_bool b p (by lia)
    | int b=>obtain ⟨t,rfl⟩:=ry;exact SeqAt.EqAt.tuple_int b t p (by lia)
    | str b=>obtain ⟨t,rfl⟩:=ry;exact SeqAt.EqAt.tuple_str b t p (by lia)
    | tup h' r' =>
     rename_i b ys es;cases (show v=aa.ref b from ry)
     by_cases hab:a=b
     ·subst hab
      have e1:Dt.tup ds=Dt.tup es:=IsD.inj (.tup h r) (.tup h' r');rw [e1];rw [eqD_refl _ py];exact SeqAt.EqAt.same _
     ·obtain ⟨its2,rv2,p2,_⟩:=I.tuple (SqT.of (K:=X.K) h')
      have p2:s.heap.IsTuple b its2.toArray:=p2;have l1:its.length=ds.length:=by rw [←rv.length,r.length]
      have l2:its2.length=es.length:=by rw [←rv2.length,r'.length]
      have pd:pls ds=true:=by unfold pl at px;exact px
      have pe:pls es=true:=by unfold pl at py;exact py
      have hd':deps ds≤n:=by unfold dep at hd;lia
      have key:=SeqAt.RcAt.tuples (A:=A) (e:=fun j=>eqD (ds.getD j .non) (es.getD j .non)) p p2 (by lia) fun j h1 h2=>by
       have h1':j<its.length:=by simpa using h1
       have h2':j<its2.length:=by simpa using h2
       obtain ⟨x',ex,dx⟩:=r.at (i:=j) (d:=ds[j]'(by lia)) (gE (by lia));obtain ⟨y',ey,dy⟩:=r'.at (i:=j) (d:=es[j]'(by lia)) (gE (by lia));obtain ⟨u',eu,ru⟩:=rv.get ex;obtain ⟨v',ev,rw'⟩:=rv2.get ey;have eu':its[j]=u':=by rw [gE h1'] at eu;exact aG eu
       have ev':its2[j]=v':=by rw [gE h2'] at ev;exact aG ev
       have g1:ds.getD j .non=ds[j]'(by lia):=by rw [dz,gE (by lia)];rfl
       have g2:es.getD j .non=es[j]'(by lia):=by rw [dz,gE (by lia)];rfl
       show SeqAt.EqAt A.in1 s (its.toArray[j]) (its2.toArray[j]) (eqD (ds.getD j .non) (es.getD j .non));rw [eD,eD,eu',ev',g1,g2];exact ih (aR (deps_get (gE (by lia))) hd') (by show A.units+1+n<cLine;lia) I dx dy ru rw' (gY pd (gE (by lia))) (gY pe (gE (by lia)))
      have e2:eqD (.tup ds) (.tup es)=((List.range (min its.toArray.size its2.toArray.size)).all (fun j=>eqD (ds.getD j .non) (es.getD j .non)) && its.toArray.size == its2.toArray.size):=by
       rw [eqD_tup,eqDs_all,aC,aC,l1,l2]
      rw [e2];exact SeqAt.EqAt.of_refs hab key
theorem op_eqD (hu:X.A.units+64<cLine):OpR X (dQ .Eq) (fun x y H Q=>∃ ds es,IsD H x (.tup ds)∧IsD H y (.tup es)∧pls ds=true∧pls es=true∧deps ds<60∧Q (.bl (eqDs ds es)) H):=by
 intro ak s σ H x y v u Q I rx ry h;obtain ⟨ds,es,ix,iy,pd,pe,hd,q⟩:=h;obtain ⟨a,xs,rfl,ha,r⟩:=ix.tup_of;obtain ⟨b,ys,rfl,hb,r'⟩:=iy.tup_of;cases (show v=aa.ref a from rx);cases (show u=aa.ref b from ry);obtain ⟨its,rv,p,_⟩:=I.tuple (SqT.of (K:=X.K) ha);obtain ⟨its2,rv2,p2,_⟩:=I.tuple (SqT.of (K:=X.K) hb);have p:s.heap.IsTuple a its.toArray:=p;have p2:s.heap.IsTuple b its2.toArray:=p2;have l1:its.length=ds.length:=by rw [←rv.length,r.length]
 have l2:its2.length=es.length:=by rw [←rv2.length,r'.length]
 refine SeqAt.eq_tupleAt (e:=fun j=>eqD (ds.getD j .non) (es.getD j .non)) p p2 (by lia) (fun j h1 h2=>?_) (cx I q ?_)
 ·have h1':j<its.length:=by simpa using h1
  have h2':j<its2.length:=by simpa using h2
  obtain ⟨x',ex,dx⟩:=r.at (i:=j) (d:=ds[j]'(by lia)) (gE (by lia));obtain ⟨y',ey,dy⟩:=r'.at (i:=j) (d:=es[j]'(by lia)) (gE (by lia));obtain ⟨u',eu,ru⟩:=rv.get ex;obtain ⟨v',ev,rw'⟩:=rv2.get ey;have eu':its[j]=u':=by rw [gE h1'] at eu;exact aG eu
  have ev':its2[j]=v':=by rw [gE h2'] at ev;exact aG ev
  have g1:ds.getD j .non=ds[j]'(by lia):=by rw [dz,gE (by lia)];rfl
  have g2:es.getD j .non=es[j]'(by lia):=by rw [dz,gE (by lia)];rfl
  show SeqAt.EqAt X.A.in1 s (its.toArray[j]) (its2.toArray[j]) (eqD (ds.getD j .non) (es.getD j .non));rw [eD,eD,eu',ev',g1,g2];exact eqAt_D 60 (aR (deps_get (gE (by lia))) (by lia)) (by show X.A.units+1+60<cLine;lia) I dx dy ru rw' (gY pd (gE (by lia))) (gY pe (gE (by lia)))
 ·rw [eqDs_all,aC,aC,l1,l2]
end L2
variable {ds:List L2.Dt}
namespace L2
open PySem PySem.Spec PyProof.Rows
theorem strs_are:∀ {zs:List Str} {us:List aa},dM (zs.map V.str) us→StrsAre us zs
 | [],_,.nil=> .nil
 | z::zs,_,.cons r t=>by
  obtain ⟨tk,rfl⟩:=(show ∃ t,_=aa.str z t from r);exact .cons z tk (strs_are t)
theorem vals_strs:∀ (l:List (Str×Tok)),dM ((l.map (·.1)).map V.str) (strValues l)
 | []=> .nil
 | p::r=> .cons ⟨p.2,rfl⟩ (vals_strs r)
theorem gx:MtM X "str.join" (fun x vs H Q=>∃ z p zs,x= .str z∧vs=[.ref p]∧SqL X.K H p (zs.map V.str)∧z.length≤16∧(zs.map (·.length)).sum+zs.length≤1048576∧Q (.str (bV z zs)) H):=by
 intro ak s σ H x vs v us Q I rx rv h;obtain ⟨z,p,zs,rfl,rfl,hq,hz,hw,q⟩:=h;obtain ⟨t,rfl⟩:=(show ∃ t,v=aa.str z t from rx);obtain ⟨u,rfl,ru⟩:=rv.one;cases (show u=aa.ref p from ru);obtain ⟨its,r,pl,_⟩:=I.list hq;exact join_listW pl.isList (by simpa using strs_are r) hz hw fun t' k=>⟨.str _,H,I.tok k,⟨t',rfl⟩,q⟩
theorem split_run {t u:Tok}{Q:aa→ai→Prop}(hy:(y.length == 0)=false)(hsz:x.length+2≤ax)
  (h:∀ (l:List (Str×Tok)) (tk:Nat),l.map (·.1)=aD x y→Q (.ref s.heap.objs.size) { s with heap:=s.heap.push { cls:= .type "list",data:= .seq (strValues l).toArray },toks:=tk }) :
  ba (aX prog w) A (call (.builtin "str.split") [.str x t,.str y u]) Q E s:=by
 have few:(cb x (bo x y 0 x.length (x.length+1)) y.length).length≤ax:=by
  have:=StrLaws.occ_length_le x y 0 x.length (x.length+1);rw [length_partsBetween];lia
 by_cases c1:(decide (x.length<y.length) || decide (fu.Str.strKind x<fu.Str.strKind y))=true
 ·refine call_meets F.slot_str_split (typeIs_str _ _ _) F.entry_str_split (F.args_str_split_2 _ _) (meets_str_split_cannot_occur x y t u c1) ?_
  refine h [(x,t)] s.toks ?_;unfold aD;rw [iF c1];rfl
 ·have c1':=bI.mpr c1
  by_cases c2:(bo x y 0 x.length (x.length+1)).isEmpty=true
  ·refine call_meets F.slot_str_split (typeIs_str _ _ _) F.entry_str_split (F.args_str_split_2 _ _) (meets_str_split_not_found x y t u c1' hy c2) ?_
   refine h [(x,t)] s.toks ?_;unfold aD;rw [iE c1,iF c2];rfl
  ·refine call_meets F.slot_str_split (typeIs_str _ _ _) F.entry_str_split (F.args_str_split_2 _ _) (meets_str_split_sep x y t u c1' hy (bI.mpr c2) (by lia) few) ?_
   have e:=strsFrom_eq s.toks (cb x (bo x y 0 x.length (x.length+1)) y.length);have k:=h (numbered s.toks (cb x (bo x y 0 x.length (x.length+1)) y.length)) (s.toks+(cb x (bo x y 0 x.length (x.length+1)) y.length).length) (by
    rw [numbered_texts];unfold aD;rw [iE c1,iE c2])
   rw [←e] at k;exact k
theorem gp:MtM X "str.split" (fun x vs H Q=>∃ z y,x= .str z∧vs=[.str y]∧(y.length == 0)=false∧z.length+2≤ax∧New H (.lst ((aD z y).map V.str)) Q):=by
 intro ak s σ H x vs v us Q I rx rv h;obtain ⟨z,y,rfl,rfl,hy,hz,q⟩:=h;obtain ⟨t,rfl⟩:=(show ∃ t,v=aa.str z t from rx);obtain ⟨u,rfl,ru⟩:=rv.one;obtain ⟨t',rfl⟩:=(show ∃ t,u=aa.str y t from ru);refine split_run hy hz fun l tk e=>?_
 have hw:((aD z y).map (·.length)).sum+(aD z y).length≤z.length+1:=split_weight z y (by
  have:y.length≠0:=fun h0=>by rw [h0] at hy;cases hy
  lia)
 refine ⟨.ref s.heap.objs.size,_,I.laid (t':=tk) (o:= .lst ((aD z y).map V.str)) (fun _ _ k=>ar _ k) (aI _) ⟨?_,strValues l,0,?_,aW _ rfl⟩,rfl,q _ _ (cL.put (cL.refl H) I.fresh) bG⟩
 ·rw [af];lia
 ·rw [←e];exact vals_strs l
theorem call_tupA:eN X (.type "tuple") (fun xs H Q=>∃ p ys,xs=[.ref p]∧SqL X.K H p ys∧New H (.tup ys) Q) :=
 gq.imp fun _ _ _ ⟨p,ys,e,h,q⟩=>⟨p,ys,e,.inl ⟨h,q.of⟩⟩
theorem cT:SlR X (fun x lo hi H Q=>∃ a xs,x= .ref a∧SqL X.K H a xs∧New H (.lst (gQ xs lo hi)) Q) :=
 sl_list.imp fun _ _ _ _ _ ⟨a,xs,e,h,q⟩=>⟨a,xs,e,h,q.of⟩
def PJ (X:Cx)(es:List Expr)(t:St→Hp→Str→VK→Prop):Prop :=
 ∀ (ak:List (aj×Obj)) (s:ai) (σ:St) (H:Hp) (acc:Str) (Q:VK),Inv X ak σ H s→t σ H acc Q →
  ba (aX X.prog X.w) X.A (joinParts acc (evalEach es X.env)) (EP X ak σ Q) X.xe s
theorem pj_nil:PJ X [] (fun _ H acc Q=>acc.length≤ax∧Q (.str acc) H):=fun _ s _ H acc _ I ⟨h1,h2⟩=>joinParts_nil ⟨.str acc,H,I.tok _,⟨_,rfl⟩,h2⟩ h1
theorem pj_str {t:St→Hp→Str→VK→Prop}{j pos}(h:PJ X es t):PJ X (.Constant (.str x) j pos::es) (fun σ H acc Q=>(acc++x).length≤ax∧t σ H (acc++x) Q) :=
 fun ak s σ H acc Q I ⟨h1,h2⟩=>joinParts_cons (thn (bQ ak s σ H (fun v H'=>v= .str x∧H'=H) I ⟨rfl,rfl⟩) fun v s1 ⟨y,H1,I1,r1,e1,e2⟩=>by
  subst e1 e2;obtain ⟨tk,rfl⟩:=(show ∃ t,v=aa.str x t from r1);exact ⟨h1,h ak s1 σ H1 _ Q I1 h2⟩)
theorem pj_int {t:St→Hp→Str→VK→Prop}(he:PE X e te)(h:PJ X es t):PJ X (.FormattedValue e (-1) none pos::es)
  (fun σ H acc Q=>te σ H fun v H1=>∃ i,v= .int i∧i.natAbs.log2<1920∧(acc++(toString i:Str)).length≤ax∧t σ H1 (acc++(toString i:Str)) Q) :=
 fun ak s σ H acc Q I hq=>joinParts_cons (FormattedValue_plain (thn (he ak s σ H _ I hq) fun v s1 ⟨y,H1,I1,r1,i,e1,hl,hz,h2⟩=>by
  subst e1;obtain ⟨tk,rfl⟩:=(show ∃ t,v=aa.int i t from r1);exact formatField_int_small hl ⟨hz,h ak _ σ H1 _ Q (I1.tok _) h2⟩))
theorem pe_fstr {e1 e2:Expr}{t:St→Hp→Str→VK→Prop}(h:PJ X (e1::e2::es) t):PE X (.JoinedStr (e1::e2::es) pos) (fun σ H Q=>t σ H bp Q) :=
 fun ak s σ H Q I hq=>JoinedStr_many (h ak s σ H _ Q I hq)
def Its (z:Str):It:=⟨fun i _=>i<z.cps.size,fun i H x H'=>H'=H∧∃ c,z.cps[i]? =some c∧x= .str ⟨#[c]⟩,fun i _=>z.cps.size≤i⟩
theorem turn_str (it:aj)(x:Str)(t:Tok){ty:String}(hty:ty = "str_ascii_iterator" ∨ty = "str_iterator"):Turn P w K tg (Its x) [it] it (fun i h=>h.IsStrIter it ty x t i) where
 mem:=by simp
 obj:=fun i h st b hb=>by
  have e:b=it:=by simpa using hb
  subst e;obtain ⟨o,e,c,d⟩:=st;exact ⟨o,e,fun v z=>by rw [d] at z;cases z⟩
 keep:=fun i h h' st k=>by
  obtain ⟨o,e,r⟩:=st;exact ⟨o,k it (by simp) o e,r⟩
 item:=by
  intro Y hP hw hK hc i ak s σ H E I hf st hg;subst hP hw hK;obtain ⟨f0,f1,f2,f3,f4,f5⟩:=hf it (by simp);have hi:i<x.cps.size:=hg;have key:∀ h',h'.IsStrIter it ty x t (i+1)→bg.SameBut it s.heap h'→∃ u,(some (aa.str ⟨#[x.cps[i]]⟩ s.toks))=some u ∧
    ba (aX Y.prog Y.w) Y.A (fc tg (.ref it) u) (fun _ s2=>∃ x' H',Inv Y ak σ H' s2∧eC x' u∧(Its x).yld i H x' H'∧s2.heap.IsStrIter it ty x t (i+1)∧∀ b∈[it],H' b=none) E { s with heap:=h',toks:=s.toks+1 }:=fun h' st' sb=>by
   have I1:Inv Y ak σ H { s with heap:=h',toks:=s.toks+1 }:=I.turned (fun b o hb e=>(sb.2 b hb).trans e) f0 f1 f3 f4 f5;obtain ⟨o,e,c,d⟩:=id st';refine ⟨_,rfl,go_of (s:={ s with heap:=h',toks:=s.toks+1 }) e c d ?_ ⟨.str ⟨#[x.cps[i]]⟩,H,I1,⟨_,rfl⟩,⟨rfl,_,by simp [hi],rfl⟩,st',fun b hb=>(hf b hb).1⟩⟩
   rcases hty with rfl | rfl <;> decide
  rcases hty with rfl | rfl
  ·exact wpAny_pyNext_ascii_item st (c:=x.cps[i]) (by simp [hi]) fun h' st' sb=>key h' st' sb
  ·exact wpAny_pyNext_wide_item st (c:=x.cps[i]) (by simp [hi]) fun h' st' sb=>key h' st' sb
 done:=by
  intro Y hP hw hK hc i ak s σ H E I hf st hg;subst hP hw hK;obtain ⟨f0,f1,f2,f3,f4,f5⟩:=hf it (by simp);have hi:x.cps.size≤i:=hg
  rcases hty with rfl | rfl
  ·exact wpAny_pyNext_ascii_end (I.ok.hd hc) st (by simp;lia) fun h' eb=>⟨rfl,I.turned (t':=s.toks) (fun b o hb e=>eb b o hb e) f0 f1 f3 f4 f5⟩
  ·exact wpAny_pyNext_wide_end (I.ok.hd hc) st (by simp;lia) fun h' eb=>⟨rfl,I.turned (t':=s.toks) (fun b o hb e=>eb b o hb e) f0 f1 f3 f4 f5⟩
 self:=fun A i s Q E st h=>by
  rcases hty with rfl | rfl
  ·exact wpAny_pyIter_striter_ascii st h
  ·exact wpAny_pyIter_striter_wide st h
def iStr (tl:TE):TI:=fun σ H R=>tl σ H fun x H1=>∃ z,x= .str z∧R (Its z) H1
theorem pi_str (hl:PE X l tl):PI X tg l (iStr tl):=by
 intro ak s σ H R I h;refine thn (hl ak s σ H _ I h) fun v s1 ⟨x,H1,I1,r1,q1⟩=>?_
 obtain ⟨z,rfl,q⟩:=q1;obtain ⟨t,rfl⟩:=(show ∃ t,v=aa.str z t from r1);have fin:∀ b∈[s1.heap.objs.size],FpOk X ak H1 b:=fun b hb=>by
  have e:b=s1.heap.objs.size:=by simpa using hb
  subst e;exact I1.fpOk (aI _) I1.fresh
 cases ha:z.cps.all (· < 128) with
 | true=>exact wpAny_pyIter_ascii ha ⟨s1.heap.objs.size,[s1.heap.objs.size],_,_,H1,rfl,I1.kept (t':=s1.toks) fun b o e=>ar _ e,turn_str _ z t (.inl rfl),⟨_,aW _ rfl,rfl,rfl⟩,fin,q⟩
 | false=>exact wpAny_pyIter_wide ha ⟨s1.heap.objs.size,[s1.heap.objs.size],_,_,H1,rfl,I1.kept (t':=s1.toks) fun b o e=>ar _ e,turn_str _ z t (.inr rfl),⟨_,aW _ rfl,rfl,rfl⟩,fin,q⟩
theorem kit_str (K:ah)(h:T∈["NoneType","bool","int","str","list","tuple","dict"]):aO K (.type T) (.type "str")=some (T == "str"):=by
 simp only [aw,aL,or_false] at h
 rcases h with rfl | rfl | rfl | rfl | rfl | rfl | rfl <;> kernel_rfl
theorem call_isStr:eN X (.builtin "isinstance") (fun xs H Q=>∃ x T,xs=[x,.ty "str"]∧tyn H x=some T∧Q (.bl (T == "str")) H) :=
 fun ak s σ H xs us Q I r ⟨x,T,e,hT,q⟩=>ft ak s σ H xs us Q I r ⟨x,_,_,_,e,.byName hT,kit_str _ (tyn_mem hT),q⟩
theorem comp_list {Q:VK}(Pv:Nat→List V→Hp→Prop)(h0:Pv 0 [] H)(hl:∀ i ys H,i≤xs.length→Pv i ys H→SqL K H a xs∧ys.length≤i)(hz:xs.length≤ax)
  (hs:∀ i x ys H,xs[i]? =some x→Pv i ys H→tt (some x::bS σ js) H fun b H4=>if b=true then te (some x::bS σ js) H4 fun y H5=>Pv (i+1) (ys++[y]) H5 else Pv (i+1) ys H4)
  (hd:∀ ys H,Pv xs.length ys H→∀ D,H D=none→Q (.ref D) (upd H D (.lst ys))):CompW js tt te σ Q (Itl K a) H:=by
 refine ⟨fun i m ys H=>i≤xs.length∧m=xs.length - i∧Pv i ys H,⟨_,cc _,rfl,h0⟩,fun i m ys H2 ⟨hi,hm,hp⟩=>?_⟩;obtain ⟨hq,hy⟩:=hl i ys H2 hi hp
 by_cases e:i=xs.length
 ·subst e
  exact .inl ⟨⟨xs,hq,aI _⟩,hd ys H2 hp⟩
 ·have hlt:i<xs.length:=Nat.lt_of_le_of_ne hi e
  refine .inr ⟨⟨xs,_,hq,gE hlt⟩,by lia,Pv (i+1),fun ys' H' hp'=>⟨xs.length - (i+1),by lia,by lia,rfl,hp'⟩,fun x H3 hy3=>?_⟩;obtain ⟨e3,hx⟩:=hy3;subst e3;exact hs i x ys H3 (hx xs hq) hp
theorem comp_str {Q:VK}(Pv:Nat→List V→Hp→Prop)(h0:Pv 0 [] H)(hl:∀ i ys H,i≤z.cps.size→Pv i ys H→ys.length≤i)(hz:z.cps.size≤ax)
  (hs:∀ (i c:Nat) ys H,z.cps[i]? =some c→Pv i ys H→tt (some (.str ⟨#[c]⟩)::bS σ js) H fun b H4=>if b=true then te (some (.str ⟨#[c]⟩)::bS σ js) H4 fun y H5=>Pv (i+1) (ys++[y]) H5 else Pv (i+1) ys H4)
  (hd:∀ ys H,Pv z.cps.size ys H→∀ D,H D=none→Q (.ref D) (upd H D (.lst ys))):CompW js tt te σ Q (Its z) H:=by
 refine ⟨fun i m ys H=>i≤z.cps.size∧m=z.cps.size - i∧Pv i ys H,⟨_,cc _,rfl,h0⟩,fun i m ys H2 ⟨hi,hm,hp⟩=>?_⟩;have hy:=hl i ys H2 hi hp
 by_cases e:i=z.cps.size
 ·subst e
  exact .inl ⟨aI _,hd ys H2 hp⟩
 ·have hlt:i<z.cps.size:=Nat.lt_of_le_of_ne hi e
  refine .inr ⟨hlt,by lia,Pv (i+1),fun ys' H' hp'=>⟨z.cps.size - (i+1),by lia,by lia,rfl,hp'⟩,fun x H3 hy3=>?_⟩;obtain ⟨e3,c,hc,hx⟩:=hy3;subst e3 hx;exact hs i c ys H3 hc hp
def notStar:Expr→Bool
 | .Starred _ _=>false
 | _=>true
theorem starEach_not (h:notStar e=true):aQ (e::es) env=(false,dW e env)::aQ es env:=by
 cases e <;> first | rfl | cases h
theorem pa_k (ha:PE X e te)(hr:PA X es t)(h:notStar e=true:=by rfl):PA X (e::es) (gR te t):=ae ha hr (starEach_not h)
structure PEs (X:Cx)(e:Expr)(t:TE):Prop where
 h:PE X e t
structure PAs (X:Cx)(es:List Expr)(t:TA):Prop where
 h:PA X es t
structure PSt (X:Cx)(st:cE)(t:TS):Prop where
 h:PS X st t
structure PSl (X:Cx)(sts:List cE)(t:TS):Prop where
 h:PSs X sts t
section
variable {a b:Expr}
theorem k_int {i j}:PEs X (.Constant (.int i) j pos) (tC (.int i)):=⟨aA⟩
theorem k_op {op:Operator}{r:R2}(ho:OpR X (dJ op) r)(ha:PEs X a ta)(hb:PEs X b tb):PEs X (.BinOp a op b pos) (tOp r ta tb):=⟨bE ho ha.h hb.h⟩
theorem k_ix {r:R2}(hr:IxR X r)(ha:PEs X a ta)(hb:PEs X b tb)(hs:PlainIx b):PEs X (.Subscript a b pos) (tOp r ta tb):=⟨eZ hr ha.h hb.h hs⟩
theorem k_lst (h:PAs X es t):PEs X (.List es pos) (tLstA t):=⟨eT h.h⟩
theorem a_nil:PAs X [] tNil:=⟨av⟩
theorem de (ha:PEs X e te)(hr:PAs X es t)(h:notStar e=true:=by rfl):PAs X (e::es) (gR te t):=⟨pa_k ha.h hr.h h⟩
theorem cN {sts:List cE}{t u:TS}(a:PSt X st t)(b:PSl X sts u):PSl X (st::sts) (tSeq t u):=⟨aU a.h b.h⟩
theorem l_one {t:TS}(a:PSt X st t):PSl X [st] t:=⟨bc a.h⟩
end
end L2
local macro_rules
 | `(tactic|exists $s:term) => `(tactic|(show ∀ y:cO×PySem.NameKind,y∈_→y.2=PySem.NameKind.free→List.lookup y.1 (L2.defScope $s).names=some PySem.NameKind.cell;decide +kernel))
local macro_rules
 | `(tactic|trivial) => `(tactic|first|decide +kernel|exact ⟨rfl,rfl,rfl,by decide +kernel,rfl,by decide +kernel,by decide +kernel⟩|exact True.intro)
local macro_rules
 | `(tactic|contradiction) => `(tactic|(intro _ _ _ _ h;first | (cases h;subst_vars;rfl) | ((repeat (obtain ⟨_,h⟩:=h));subst_vars;rfl)))
namespace L2
open PySem PyProof.Rows
theorem ixZ {a:Expr}{q:Pos}{j}(h:PE X a ta):PE X (.Subscript a (.Constant (.int i) j p) q) (tOp (rIxT X.K) ta (tC (.int i))):=eZ ix_tup h aA (fun _ _=>rfl)
theorem szZ1:1≤ax:=by decide
theorem szZ2:2≤ax:=by decide
theorem szZ4:4≤ax:=by decide
theorem szZ5:5≤ax:=by decide
theorem psZ (i:Nat)(hN:X.N.Nodup)(he:PE X e te)(hi:X.N[i]? =some x:=by rfl)(hx:Loc X.env.scope x:=by first|exact .inl rfl|exact .inr rfl)(hs:swapsWith e (some (.Name x pos')) pos.line X.env=pure false:=by rfl)(hf:X.fn x=true∨X.env.scope.names.lookup x=some .local:=by first|exact .inl rfl|exact .inr rfl|assumption):PS X (.Assign [.Name x pos'] e pos) (tAsg te (gName i)):=ps_set hN hi hx he hs hf
theorem pgZ (i:Nat)(hN:X.N.Nodup)(hi:X.N[i]? =some x:=by rfl)(hx:Loc X.env.scope x:=by first|exact .inl rfl|exact .inr rfl)(hf:X.fn x=true∨X.env.scope.names.lookup x=some .local:=by first|exact .inl rfl|exact .inr rfl|assumption):PG X (.Name x pos) (gName i):=pg_name hN hi hx hf
end L2
namespace L2
abbrev pza:List cO:=["thing"]
abbrev pzb:List cO:=["word"]
abbrev pzc:List cO:=["thing","low","high"]
abbrev pzd:List cO:=["_law_pot_here","_law_most"]
abbrev pze:List cO:=["_law_script","_law_k"]
abbrev pzf:List cO:=["many","start","goal"]
abbrev pzg:List cO:=["beat","least","most"]
abbrev pzh:List cO:=["_law_cell"]
abbrev pzi:List cO:=["beat","many","thing"]
abbrev pzj:List cO:=["_law_pot_here","_law_beat","_law_many"]
abbrev pzk:List cO:=["_law_script","_law_at"]
abbrev pzl:List cO:=["_law_row","_law_number"]
abbrev pzm:List cO:=["_law_net_here","_law_rows","_law_number"]
end L2
namespace HN
open PySem L2 PyProof.Rows
abbrev B60:Int:=10 ^ 60 - 1
def isI:V→Bool
 | .int _=>true
 | _=>false
def iv:V→Int
 | .int i=>i
 | _=>0
def inI (v:V)(lo hi:Int):Bool:=match v with
 | .int i=>decide (lo≤i) && decide (i≤hi)
 | _=>false
def fw (m:Int)(s g:V):Bool:=inI s 0 (m - 1) && (inI g 0 (m - 1) && !decide (s=g))
def fV (b:Int)(l o:V):Bool:=inI l 0 B60 && inI o (iv l) (if B60<iv l+b - 1 then B60 else iv l+b - 1)
def dA (H:Hp)(b m:Int)(v:V):Bool:=match v with
 | .ref a=>match H a with
  | some (.tup [s,g,l,o,w])=>fw m s g && (fV b l o && inI w 0 1000000000000)
  | _=>false
 | _=>false
def fj (H:Hp)(b m:Int)(v:V):Bool:=match v with
 | .ref a=>match H a with
  | some (.tup xs)=>decide (xs.length≤40) && xs.all (dA H b m)
  | _=>false
 | _=>false
def netOk (H:Hp)(v:V):Bool:=match v with
 | .ref a=>match H a with
  | some (.tup [b,m,s])=>inI b 1 B60 && (inI m 1 16 && fj H (iv b) (iv m) s)
  | _=>false
 | _=>false
def Kn (H:Hp)(v:V):Prop:=∃ T,tyn H v=some T
def gL (P:V→Prop)(H:Hp)(v:V):Prop:=Kn H v∧∀ a xs,v= .ref a→H a=some (.tup xs)→∀ x∈xs,P x
abbrev G1 (H:Hp)(v:V):Prop:=gL (Kn H) H v
abbrev G2 (H:Hp)(v:V):Prop:=gL (G1 H) H v
abbrev G3 (H:Hp)(v:V):Prop:=gL (G2 H) H v
theorem sort_int (h:tyn H v=some T):(T == "int" || T == "bool")=true→(!(T == "bool"))=isI v:=by
 cases v with
 | ref a =>
  simp only [tyn] at h;cases q:H a with
  | none=>rw [q] at h;cases h
  | some o=>rw [q] at h;cases o <;> first | (cases h;intro z;exact iG z (by decide)) | cases h
 | non=>cases h;intro z;exact iG z (by decide)
 | bl b=>cases h;intro _;show (!("bool" == "bool"))=false;decide
 | int i=>cases h;intro _;show (!("int" == "bool"))=true;decide
 | str x=>cases h;intro z;exact iG z (by decide)
 | _=>cases h
theorem sort_noInt (h:tyn H v=some T):¬ (T == "int" || T == "bool")=true→isI v=false:=by
 cases v with
 | int i=>cases h;intro z;exact iG (by decide) z
 | _=>intro _;rfl
theorem isI_of (h:isI v=true):∃ i,v= .int i:=by
 cases v with
 | int i=>exact ⟨i,rfl⟩
 | _=>cases h
theorem sort_tup (h:tyn H v=some T):(∃ a xs,v= .ref a∧H a=some (.tup xs)∧(T == "tuple")=true)∨((T == "tuple")=false∧∀ a xs,v= .ref a→H a≠some (.tup xs)):=by
 cases v with
 | ref a =>
  simp only [tyn] at h;cases q:H a with
  | none=>rw [q] at h;cases h
  | some o =>
   rw [q] at h;cases o with
   | tup xs=>cases h;exact .inl ⟨a,xs,rfl,q,by decide⟩
   | lst xs=>cases h;exact .inr ⟨by decide,fun b ys e z=>by cases e;rw [q] at z;cases z⟩
   | dK xs=>cases h;exact .inr ⟨by decide,fun b ys e z=>by cases e;rw [q] at z;cases z⟩
   | _=>cases h
 | non=>cases h;exact .inr ⟨by decide,fun a xs e=>by cases e⟩
 | bl b=>cases h;exact .inr ⟨by decide,fun a xs e=>by cases e⟩
 | int i=>cases h;exact .inr ⟨by decide,fun a xs e=>by cases e⟩
 | str x=>cases h;exact .inr ⟨by decide,fun a xs e=>by cases e⟩
 | _=>cases h
theorem spanOk_no (h:∀ a xs,v= .ref a→H a=some (.tup xs)→xs.length≠5):dA H b m v=false:=by
 cases v with
 | ref a =>
  simp only [dA];split
  ·rename_i s g l o w e
   exact iG rfl (h a _ rfl e)
  ·rfl
 | _=>rfl
theorem netOk_no (h:∀ a xs,v= .ref a→H a=some (.tup xs)→xs.length≠3):netOk H v=false:=by
 cases v with
 | ref a =>
  simp only [netOk];split
  ·rename_i b m s e
   exact iG rfl (h a _ rfl e)
  ·rfl
 | _=>rfl
theorem ip (h:∀ a xs,v= .ref a→H a=some (.tup xs)→40<xs.length):fj H b m v=false:=by
 cases v with
 | ref a =>
  simp only [fj];split
  ·rename_i xs e
   have:=h a _ rfl e;rw [iI (by lia)];rfl
  ·rfl
 | _=>rfl
theorem len5 (h:xs.length=5):∃ a b c d e,xs=[a,b,c,d,e]:=by
 match xs,h with
 | [a,b,c,d,e],_=>exact ⟨a,b,c,d,e,rfl⟩
theorem len3 (h:xs.length=3):∃ a b c,xs=[a,b,c]:=by
 match xs,h with
 | [a,b,c],_=>exact ⟨a,b,c,rfl⟩
theorem iteB {b:Bool}{A B:Prop}(h:b=true)(x:A):if b=true then A else B:=by rw [iF h];exact x
theorem iteC {b:Bool}{A B:Prop}(h:b=false)(x:B):if b=true then A else B:=by rw [iE (by rw [h];exact aM)];exact x
structure Nm (mg:Str→Option aa):Prop where
 isin:mg "isinstance" =none
 tint:mg "int" =none
 tbool:mg "bool" =none
 ttup:mg "tuple" =none
 len:mg "len" =none
 min:mg "min" =none
 all:mg "all" =none
structure Cs (mg:Str→Option aa):Prop where
 mh:∃ t,mg "MOST_HAPPENINGS" =some (.int 16 t)
 ms:∃ t,mg "MOST_SPANS" =some (.int 40 t)
 mw:∃ t,mg "MOST_WEIGHT" =some (.int 1000000000000 t)
structure Fn (K:ah)(mg:Str→Option aa)(x:Str)(st:cE)(ps:List Str)(f:aj)(fd:aY):Prop where
 F:Fun K x x st f fd
 mg:mg x=some (.ref f)
 b:Binds K fd ps []
theorem pc1 {sp:Sp}(G:Fn X.K X.mg x st ps f fd)(F:da X.prog X.w X.K X.mg X.base CX0 k f fd ps sp)(hr:fM k X.A)
  (ha:PA X (e::es) t) (hg:Gl X x:=by rfl) (hdb:(x == ("__debug__" :Str))=false:=by decide) (he:aQ (e::es) X.env=(false,dW e X.env)::aQ es X.env:=by rfl) (hpl:(backTo pos (aQ es X.env)).any (·.1)=false:=by rfl) :
  PE X (.Call (.Name x p) (e::es) [] pos) (tCall sp [] E0 t):=pe_call F hr hg G.mg G.F.kp G.b .nil pass0 ha hdb he hpl
theorem pc0 {sp:Sp}(G:Fn X.K X.mg x st [] f fd)(F:da X.prog X.w X.K X.mg X.base CX0 k f fd [] sp)(hr:fM k X.A)
  (hg:Gl X x:=by rfl) (hdb:(x == ("__debug__" :Str))=false:=by decide):PE X (.Call (.Name x p) [] [] pos) (tCall sp [] E0 tNil):=pe_call0 F hr hg G.mg G.F.kp G.b .nil pass0 hdb
theorem pe_gint (hm:∃ t,X.mg x=some (.int i t))(hg:Gl X x:=by rfl)(hd:(x == ("__debug__" :Str))=false:=by decide):PE X (.Name x pos) (tC (.int i)) :=
 let ⟨t,e⟩:=hm;fm (v:= .int i) (u:= .int i t) hg e ⟨t,rfl⟩ hd
theorem pe_isTup (N:Nm X.mg)(he:PE X e te)(hg:Gl X "isinstance" := by rfl)(hg2:Gl X "tuple" := by rfl)
  (hs1:aQ [e,.Name "tuple" p2] X.env=(false,dW e X.env)::aQ [.Name "tuple" p2] X.env:=by rfl) (hpl:(backTo pos (aQ [.Name "tuple" p2] X.env)).any (·.1)=false:=by rfl) :
  PE X (.Call (.Name "isinstance" p) [e,.Name "tuple" p2] [] pos) (tCB (fun xs H Q=>∃ x T,xs=[x,.ty "tuple"]∧tyn H x=some T∧Q (.bl (T == "tuple")) H) (gR te (gR (tC (.ty "tuple")) tNil))) :=
 bH call_isTup hg N.isin bP (ae he (ae (gZ hg2 N.ttup boot_tuple rfl) av) hs1) (he:=hs1) (hpl:=hpl)
theorem pe_isInt (N:Nm X.mg)(he:PE X e te)(hg:Gl X "isinstance" := by rfl)(hg2:Gl X "int" := by rfl)
  (hs1:aQ [e,.Name "int" p2] X.env=(false,dW e X.env)::aQ [.Name "int" p2] X.env:=by rfl) (hpl:(backTo pos (aQ [.Name "int" p2] X.env)).any (·.1)=false:=by rfl) :
  PE X (.Call (.Name "isinstance" p) [e,.Name "int" p2] [] pos) (tCB (fun xs H Q=>∃ x T,xs=[x,.ty "int"]∧tyn H x=some T∧Q (.bl (T == "int" || T == "bool")) H) (gR te (gR (tC (.ty "int")) tNil))) :=
 bH call_isInt hg N.isin bP (ae he (ae (gZ hg2 N.tint boot_int rfl) av) hs1) (he:=hs1) (hpl:=hpl)
theorem pe_isBool (N:Nm X.mg)(he:PE X e te)(hg:Gl X "isinstance" := by rfl)(hg2:Gl X "bool" := by rfl)
  (hs1:aQ [e,.Name "bool" p2] X.env=(false,dW e X.env)::aQ [.Name "bool" p2] X.env:=by rfl) (hpl:(backTo pos (aQ [.Name "bool" p2] X.env)).any (·.1)=false:=by rfl) :
  PE X (.Call (.Name "isinstance" p) [e,.Name "bool" p2] [] pos) (tCB (fun xs H Q=>∃ x T,xs=[x,.ty "bool"]∧tyn H x=some T∧Q (.bl (T == "bool")) H) (gR te (gR (tC (.ty "bool")) tNil))) :=
 bH call_isBool hg N.isin bP (ae he (ae (gZ hg2 N.tbool boot_bool rfl) av) hs1) (he:=hs1) (hpl:=hpl)
def spGW:Sp:=fun vs H Q _=>vs=[]∧Q (.int B60) H
inductive spWhole (vs:List V)(H:Hp)(Q:VK)(_:XK):Prop
 | mk (v:_)(_:vs=[v])(_:Kn H v)(_:Q (.bl (isI v)) H)
inductive gg (vs:List V)(H:Hp)(Q:VK)(_:XK):Prop
 | mk (v lo hi:_)(_:vs=[v,.int lo,.int hi])(_:Kn H v)(_:Q (.bl (inI v lo hi)) H)
inductive spEnds (vs:List V)(H:Hp)(Q:VK)(_:XK):Prop
 | mk (m s g:_)(_:vs=[.int m,s,g])(_:Kn H s)(_:Kn H g)(_:Q (.bl (fw m s g)) H)
inductive spLens (vs:List V)(H:Hp)(Q:VK)(_:XK):Prop
 | mk (b l o:_)(_:vs=[.int b,l,o])(_:Kn H l)(_:Kn H o)(_:Q (.bl (fV b l o)) H)
inductive spSpan (vs:List V)(H:Hp)(Q:VK)(_:XK):Prop
 | mk (b m v:_)(_:vs=[.int b,.int m,v])(_:G1 H v)(_:Q (.bl (dA H b m v)) H)
inductive spNet (vs:List V)(H:Hp)(Q:VK)(_:XK):Prop
 | mk (v:_)(_:vs=[v])(_:G3 H v)(_:∀ H',cL H H'→Q (.bl (netOk H v)) H')
end HN
namespace HN
open PySem
end HN
namespace L2
open PySem PySem.Spec PyProof.Rows
end L2
namespace HN
open PySem L2 PyProof.Rows
abbrev sGW:cE:=top 12
abbrev gU:cE:=top 13
abbrev gu:cE:=top 14
abbrev sEnds:cE:=top 21
abbrev sLens:cE:=top 22
abbrev sSpan:cE:=top 23
abbrev sNet:cE:=top 24
theorem scGW:cj [] [] (defScope sGW):=by trivial
theorem ok_gw (F:Fun K "greatest_whole" "greatest_whole" sGW f fd):da P w K mg base CX0 1 f fd [] spGW:=by
 refine F.ok scGW (fun vs H Q E h=>by obtain ⟨rfl,_⟩:=h;rfl) (fun cdv A outer s H vs Q E hr h=>?_);obtain ⟨rfl,k⟩:=h;refine ⟨_,bc (bM (bE fX (bE op_pow aA aA) aA)),?_⟩;exact ⟨_,_,rfl,rfl,⟨by decide,by decide,by decide⟩,_,_,rfl,rfl,k⟩
theorem scWhole:cj pza pza (defScope gU):=by trivial
theorem ok_whole (F:Fun K "is_whole" "is_whole" gU f fd)(T:Nm mg):da P w K mg base CX0 1 f fd pza spWhole:=by
 refine F.ok scWhole (by contradiction) (fun cdv A outer s H vs Q E hr h=>?_);obtain ⟨v,rfl,⟨S,hS⟩,k⟩:=h;refine ⟨_,bc (bM (g6 (pe_isInt T (pv 0)) (pe_one (pe_not (pe_isBool T (pv 0)))))),?_⟩;refine ⟨_,rfl,_,_,rfl,hS,_,rfl,?_⟩;refine fA (fun hc=>?_) (fun hc=>?_)
 ·refine ⟨_,rfl,_,_,rfl,hS,_,rfl,?_⟩
  rw [sort_int hS hc];exact k
 ·rw [←sort_noInt hS hc];exact k
theorem scWithin:cj pzc pzc (defScope gu):=by trivial
theorem gn (F:Fun K "is_within" "is_within" gu f fd)(T:Nm mg)(G1:Fn K mg "is_whole" gU pza f1 fd1):da P w K mg base CX0 2 f fd pzc gg:=by
 have F1:da P w K mg base CX0 1 f1 fd1 pza spWhole:=ok_whole G1.F T;refine F.ok scWithin (by contradiction) (fun cdv A outer s H vs Q E hr h=>?_);obtain ⟨v,lo,hi,rfl,hS,k⟩:=h;refine ⟨_,bc (bM (g6 (pc1 G1 F1 hr (ae (pv 0) av)) (pe_one (pe_chain op_le op_le (pv 1) (pv 0) (pv 2))))),?_⟩;refine ⟨_,rfl,_,rfl,hS,_,rfl,?_⟩;refine fA (fun hc=>?_) (fun hc=>?_)
 ·obtain ⟨i,rfl⟩:=isI_of hc
  refine ⟨_,rfl,_,rfl,_,_,rfl,rfl,_,rfl,?_⟩;refine fA (fun h1=>?_) (fun h1=>?_)
  ·refine ⟨_,rfl,_,_,rfl,rfl,?_⟩
   have e:inI (.int i) lo hi=decide (i≤hi):=by show (decide (lo≤i) && decide (i≤hi))=_;rw [h1];rfl
   show Q (.bl (decide (i≤hi))) H;rw [←e];exact k
  ·have e:inI (.int i) lo hi=false:=by show (decide (lo≤i) && decide (i≤hi))=_;rw [bI.mpr h1];rfl
   rw [←e];exact k
 ·have e:inI v lo hi=false:=by
   cases v with
   | int i=>exact iG rfl hc
   | _=>rfl
  rw [←e];exact k
theorem scEnds:cj pzf pzf (defScope sEnds):=by trivial
theorem hV {hi:Int}(h:inI v lo hi=true):∃ i,v= .int i∧lo≤i∧i≤hi:=by
 cases v with
 | int i =>
  have h:(decide (lo≤i) && decide (i≤hi))=true:=h;rw [bf] at h;exact ⟨i,rfl,iJ h.1,iJ h.2⟩
 | _=>cases h
theorem ok_ends (F:Fun K "are_ends" "are_ends" sEnds f fd)(T:Nm mg)(G1:Fn K mg "is_whole" gU pza f1 fd1)(G2:Fn K mg "is_within" gu pzc f2 fd2) :
  da P w K mg base CX0 3 f fd pzf spEnds:=by
 have F2:da P w K mg base CX0 2 f2 fd2 pzc gg:=gn G2.F T G1;refine F.ok scEnds (by contradiction) (fun cdv A outer s H vs Q E hr h=>?_);obtain ⟨m,st,g,rfl,hs,hg,k⟩:=h;refine ⟨_,bc (bM (g6 (pc1 G2 F2 hr (ae (pv 1) (ae aA (ae (bE fX (pv 0) aA) av))))
  (g6 (pc1 G2 F2 hr (ae (pv 2) (ae aA (ae (bE fX (pv 0) aA) av)))) (pe_one (pe_cmpR op_ne (pv 1) (pv 2) (cM _)))))),?_⟩
 refine ⟨_,rfl,_,rfl,_,_,rfl,rfl,_,_,_,rfl,hs,_,rfl,?_⟩;refine fA (fun h1=>?_) (fun h1=>?_)
 ·refine ⟨_,rfl,_,rfl,_,_,rfl,rfl,_,_,_,rfl,hg,_,rfl,?_⟩
  refine fA (fun h2=>?_) (fun h2=>?_)
  ·obtain ⟨i,rfl,_⟩:=hV h1
   obtain ⟨j,rfl,_⟩:=hV h2;refine ⟨_,rfl,_,rfl,rfl,?_⟩;have e:fw m (.int i) (.int j)= !decide (V.int i=V.int j):=by unfold fw;rw [h1,h2];rfl
   rw [←e];exact k
  ·have e:fw m st g=false:=by unfold fw;rw [h1,bI.mpr h2];rfl
   rw [←e];exact k
 ·have e:fw m st g=false:=by unfold fw;rw [bI.mpr h1];rfl
  rw [←e];exact k
theorem scLens:cj pzg pzg (defScope sLens):=by trivial
theorem ok_lens {f0:aj}{fd0:aY}(F:Fun K "are_lengths" "are_lengths" sLens f fd)(T:Nm mg)(G0:Fn K mg "greatest_whole" sGW [] f0 fd0)(G1:Fn K mg "is_whole" gU pza f1 fd1)(G2:Fn K mg "is_within" gu pzc f2 fd2) :
  da P w K mg base CX0 3 f fd pzg spLens:=by
 have F0:da P w K mg base CX0 1 f0 fd0 [] spGW:=ok_gw G0.F;have F2:da P w K mg base CX0 2 f2 fd2 pzc gg:=gn G2.F T G1;refine F.ok scLens (by contradiction) (fun cdv A outer s H vs Q E hr h=>?_);obtain ⟨b,l,o,rfl,hl,ho,k⟩:=h;have hr1:fM 1 _:=hr.mono (by decide);refine ⟨_,aU (dO (eP (d5 (pc1 G2 F2 hr (ae (pv 1) (ae aA (ae (pc0 G0 F0 hr1) av)))))) (bc (bM gJ)) bZ)
  (bc (bM (pc1 G2 F2 hr (ae (pv 2) (ae (pv 1) (ae (bH (call_min2 rfl) rfl T.min boot_min (ae (bE fX (bE eG (pv 1) (pv 0)) aA) (ae (pc0 G0 F0 hr1) av))) av)))))),?_⟩
 refine ⟨_,rfl,rfl,_,_,_,rfl,hl,_,rfl,?_⟩;refine fA (fun h1=>?_) (fun h1=>?_)
 ·have e:fV b l o=false:=by
   unfold fV;have:inI l 0 B60=false:=by simpa using h1
   rw [this];rfl
  show Q (.bl false) H;rw [←e];exact k
 ·have h1:inI l 0 B60=true:=by simpa using h1
  obtain ⟨i,rfl,_⟩:=hV h1;refine ⟨_,rfl,_,rfl,_,rfl,_,rfl,_,_,rfl,rfl,_,_,rfl,rfl,rfl,_,_,rfl,_,_,_,rfl,ho,?_⟩;have e:fV b (.int i) o=inI o i (if B60<i+b - 1 then B60 else i+b - 1):=by
   unfold fV;rw [h1];rfl
  rw [e] at k;exact k
theorem scSpan:cj pzi pzi (defScope sSpan):=by trivial
theorem ok_span {f0 f3 f4:aj}{fd0 fd3 fd4:aY}(F:Fun K "is_span" "is_span" sSpan f fd)(T:Nm mg)(C:Cs mg)(G0:Fn K mg "greatest_whole" sGW [] f0 fd0)(G1:Fn K mg "is_whole" gU pza f1 fd1)(G2:Fn K mg "is_within" gu pzc f2 fd2)
  (G3:Fn K mg "are_ends" sEnds pzf f3 fd3) (G4:Fn K mg "are_lengths" sLens pzg f4 fd4):da P w K mg base CX0 4 f fd pzi spSpan:=by
 have F2:da P w K mg base CX0 2 f2 fd2 pzc gg:=gn G2.F T G1;have F3:da P w K mg base CX0 3 f3 fd3 pzf spEnds:=ok_ends G3.F T G1 G2;have F4:da P w K mg base CX0 3 f4 fd4 pzg spLens:=ok_lens G4.F T G0 G1 G2;refine F.ok scSpan (by contradiction) (fun cdv A outer s H vs Q E hr h=>?_);obtain ⟨b,m,v,rfl,hv,k⟩:=h;have hr2:fM 2 _:=hr.mono (by decide);refine ⟨_,aU (dO (PW.pt (gW (eP (d5 (pe_isTup T (pv 2)))) (gj (cn op_ne (bH cy rfl T.len bK (ae (pv 2) av)) aA (cM _))))) (bc (bM gJ)) bZ)
  (aU (dO (PW.pt (gW (eP (d5 (pc1 G3 F3 hr (ae (pv 1) (ae (ixZ (pv 2)) (ae (ixZ (pv 2)) av))))))
   (gj (eP (d5 (pc1 G4 F4 hr (ae (pv 0) (ae (ixZ (pv 2)) (ae (ixZ (pv 2)) av))))))))) (bc (bM gJ)) bZ)
  (bc (bM (pc1 G2 F2 hr2 (ae (ixZ (pv 2)) (ae aA (ae (pe_gint C.mw) av))))))),?_⟩
 obtain ⟨S,hS⟩:=hv.1;refine ⟨_,rfl,_,_,rfl,hS,_,rfl,?_⟩
 rcases sort_tup hS with ⟨a,xs,rfl,ha,hq⟩ | ⟨hq,hno⟩
 ·refine iteC (by rw [hq];rfl) ?_
  refine ⟨_,rfl,a,xs,rfl,.inr (SqT.of ha),rfl,_,rfl,?_⟩;refine fA (fun h5=>?_) (fun h5=>?_)
  ·have e:dA H b m (.ref a)=false:=spanOk_no fun a' xs' e1 e2 z=>by
    cases e1;rw [ha] at e2;cases e2;rw [z] at h5;exact iG h5 (by decide)
   show Q (.bl false) H;rw [←e];exact k
  ·have hl:xs.length=5:=by
    have h5:¬ (!decide (V.int (xs.length:Int)=V.int 5))=true:=h5;rw [Bool.not_eq_true,Bool.not_eq_false'] at h5;have:=iJ h5;injection this with this
    lia
   obtain ⟨x0,x1,x2,x3,x4,rfl⟩:=len5 hl;have kn:=hv.2 a _ rfl ha;have e:dA H b m (.ref a)=(fw m x0 x1 && (fV b x2 x3 && inI x4 0 1000000000000)):=by simp only [dA];rw [ha]
   rw [e] at k;refine ⟨_,rfl,_,rfl,a,_,_,_,rfl,rfl,SqT.of ha,cq (j:=0) rfl,_,rfl,a,_,_,_,rfl,rfl,SqT.of ha,cq (j:=1) rfl,_,_,_,rfl,kn _ (by simp),kn _ (by simp),_,rfl,?_⟩;refine fA (fun h1=>?_) (fun h1=>?_)
   ·have h1:fw m x0 x1=false:=by simpa using h1
    rw [h1] at k;exact k
   ·have h1:fw m x0 x1=true:=by simpa using h1
    rw [h1] at k;refine ⟨_,rfl,_,rfl,a,_,_,_,rfl,rfl,SqT.of ha,cq (j:=2) rfl,_,rfl,a,_,_,_,rfl,rfl,SqT.of ha,cq (j:=3) rfl,_,_,_,rfl,kn _ (by simp),kn _ (by simp),_,rfl,?_⟩;refine fA (fun h2=>?_) (fun h2=>?_)
    ·have h2:fV b x2 x3=false:=by simpa using h2
     rw [h2] at k;exact k
    ·have h2:fV b x2 x3=true:=by simpa using h2
     rw [h2] at k;exact ⟨_,rfl,a,_,_,_,rfl,rfl,SqT.of ha,cq (j:=4) rfl,_,_,_,rfl,kn _ (by simp),k⟩
 ·refine iteB (by rw [hq];rfl) ?_
  have e:dA H b m v=false:=spanOk_no fun a xs e1 e2=>iG e2 (hno a xs e1)
  show Q (.bl false) H;rw [←e];exact k
theorem scNet:cj ["thing","beat","many","spans"] pza (defScope sNet):=by trivial
theorem ok_net {f0 f3 f4 f5:aj}{fd0 fd3 fd4 fd5:aY}(F:Fun K "is_net" "is_net" sNet f fd)(T:Nm mg)(C:Cs mg)(G0:Fn K mg "greatest_whole" sGW [] f0 fd0)(G1:Fn K mg "is_whole" gU pza f1 fd1)(G2:Fn K mg "is_within" gu pzc f2 fd2)
  (G3:Fn K mg "are_ends" sEnds pzf f3 fd3) (G4:Fn K mg "are_lengths" sLens pzg f4 fd4) (G5:Fn K mg "is_span" sSpan pzi f5 fd5):da P w K mg base CX0 5 f fd pza spNet:=by
 have F0:da P w K mg base CX0 1 f0 fd0 [] spGW:=ok_gw G0.F;have F2:da P w K mg base CX0 2 f2 fd2 pzc gg:=gn G2.F T G1;have F5:da P w K mg base CX0 4 f5 fd5 pzi spSpan:=ok_span G5.F T C G0 G1 G2 G3 G4;refine F.ok scNet (by contradiction) (fun cdv A outer s H vs Q E hr h=>?_);obtain ⟨v,rfl,hv,k⟩:=h;have hr1:fM 1 _:=hr.mono (by decide);have hr2:fM 2 _:=hr.mono (by decide);refine ⟨_,aU (dO (PW.pt (gW (eP (d5 (pe_isTup T (pv 0)))) (gj (cn op_ne (bH cy rfl T.len bK (ae (pv 0) av)) aA (cM _))))) (bc (bM gJ)) bZ)
  (aU (psZ 1 scNet.nd (ixZ (pv 0)))
  (aU (psZ 2 scNet.nd (ixZ (pv 0)))
  (aU (psZ 3 scNet.nd (ixZ (pv 0)))
  (aU (dO (PW.pt (gW (eP (d5 (pc1 G2 F2 hr2 (ae (pv 1) (ae aA (ae (pc0 G0 F0 hr1) av)))))) (gj (eP (d5 (pc1 G2 F2 hr2 (ae (pv 2) (ae aA (ae (pe_gint C.mh) av))))))))) (bc (bM gJ)) bZ)
  (aU (dO (PW.pt (gW (eP (d5 (pe_isTup T (pv 3)))) (gj (cn op_gt (bH cy rfl T.len bK (ae (pv 3) av)) (pe_gint C.ms) (cM _))))) (bc (bM gJ)) bZ)
  (bc (bM (bH (call_all rfl) rfl T.all boot_all (ae (pe_comp (fr:=["beat","many"]) (js:=[1,2]) rfl (pi_tup (pv 3)) (by trivial) rfl (by trivial) rfl (by exists sNet) (by trivial) rfl (by trivial)
   (fun _ _ _ _ _=>⟨pc1 G5 F5 hr (ae (pv 1) (ae (pv 2) (ae (pv 0) av))),gX⟩)) av))))))))),?_⟩
 obtain ⟨S,hS⟩:=hv.1;refine ⟨_,rfl,_,_,rfl,hS,_,rfl,?_⟩
 rcases sort_tup hS with ⟨a,xs,rfl,ha,hq⟩ | ⟨hq,hno⟩
 ·refine iteC (by rw [hq];rfl) ?_
  refine ⟨_,rfl,a,xs,rfl,.inr (SqT.of ha),rfl,_,rfl,?_⟩;refine fA (fun h3=>?_) (fun h3=>?_)
  ·have e:netOk H (.ref a)=false:=netOk_no fun a' xs' e1 e2 z=>by
    cases e1;rw [ha] at e2;cases e2;rw [z] at h3;exact iG h3 (by decide)
   show Q (.bl false) H;rw [←e];exact k H (cL.refl H)
  ·have hl:xs.length=3:=by
    have h3:¬ (!decide (V.int (xs.length:Int)=V.int 3))=true:=h3;rw [Bool.not_eq_true,Bool.not_eq_false'] at h3;have:=iJ h3;injection this with this
    lia
   obtain ⟨b,m,sp,rfl⟩:=len3 hl;have kn:=hv.2 a _ rfl ha;have e:netOk H (.ref a)=(inI b 1 B60 && (inI m 1 16 && fj H (iv b) (iv m) sp)):=by simp only [netOk];rw [ha]
   rw [e] at k;refine ⟨_,rfl,a,_,_,_,rfl,rfl,SqT.of ha,cq (j:=0) rfl,?_⟩;refine ⟨_,rfl,a,_,_,_,rfl,rfl,SqT.of ha,cq (j:=1) rfl,?_⟩;refine ⟨_,rfl,a,_,_,_,rfl,rfl,SqT.of ha,cq (j:=2) rfl,?_⟩;refine ⟨_,rfl,rfl,_,_,_,rfl,(kn b (by simp)).1,_,rfl,?_⟩;refine fA (fun h1=>?_) (fun h1=>?_)
   ·have h1:inI b 1 B60=false:=by simpa using h1
    rw [h1] at k;exact k H (cL.refl H)
   ·have h1:inI b 1 B60=true:=by simpa using h1
    rw [h1] at k;refine ⟨_,rfl,_,_,_,rfl,(kn m (by simp)).1,_,rfl,?_⟩;refine fA (fun h2=>?_) (fun h2=>?_)
    ·have h2:inI m 1 16=false:=by simpa using h2
     rw [h2] at k;exact k H (cL.refl H)
    ·have h2:inI m 1 16=true:=by simpa using h2
     rw [h2] at k;obtain ⟨bi,rfl,_⟩:=hV h1;obtain ⟨mi,rfl,_⟩:=hV h2;obtain ⟨S2,hS2⟩:=(kn sp (by simp)).1;refine ⟨_,rfl,_,_,rfl,hS2,_,rfl,?_⟩
     rcases sort_tup hS2 with ⟨p,ys,rfl,hp,hq2⟩ | ⟨hq2,hno2⟩
     ·refine iteC (by rw [hq2];rfl) ?_
      refine ⟨_,rfl,p,ys,rfl,.inr (SqT.of hp),_,_,rfl,rfl,_,rfl,?_⟩;refine fA (fun h4=>?_) (fun h4=>?_)
      ·have h4:(40:Int)<(ys.length:Int):=iJ h4
       have e2:fj H (iv (.int bi)) (iv (.int mi)) (.ref p)=false:=ip fun a' xs' e1 e2=>by
        cases e1;rw [hp] at e2;cases e2;lia
       rw [e2] at k;exact k H (cL.refl H)
      ·have h4:¬ (40:Int)<(ys.length:Int):=fun z=>h4 (iH z)
       have e2:fj H (iv (.int bi)) (iv (.int mi)) (.ref p)=ys.all (dA H bi mi):=by
        simp only [fj];rw [hp];show (decide (ys.length≤40) && ys.all (dA H bi mi))=_;rw [iH (by lia)];rfl
       rw [e2] at k;have kn2:=(kn (.ref p) (by simp)).2 p ys rfl hp;have h40:(40:Nat)≤ax:=by decide
       have hz:ys.length≤ax:=by lia
       refine ⟨_,rfl,p,rfl,⟨ys,SqT.of hp⟩,?_⟩;refine comp_tup (K:=K) (a:=p) (xs:=ys) (fun i zs H2=>H2=H∧zs=(ys.take i).map fun x=>V.bl (dA H bi mi x)) ⟨rfl,rfl⟩ (fun i zs H2 hi ⟨e1,e2⟩=>?_) hz (fun i x zs H2 hx ⟨e1,e2⟩=>?_) (fun zs H2 ⟨e1,e2⟩ D hD=>?_)
       ·subst e1 e2
        refine ⟨SqT.of hp,?_⟩;rw [af,bq];lia
       ·subst e1
        refine gd ?_;refine ⟨_,rfl,_,rfl,_,rfl,_,_,_,rfl,kn2 x (aZ hx),rfl,?_⟩;rw [e2,d0,hx,aK];rfl
       ·subst e1
        rw [ck] at e2;refine ⟨D,ys.map (dA H2 bi mi),rfl,SqL.of (by rw [bG,e2,d2];rfl),?_⟩;have e3:(ys.map (dA H2 bi mi)).all id=ys.all (dA H2 bi mi):=by rw [List.all_map];rfl
        rw [e3];exact k _ fun c o q=>by rw [bU (br q hD)];exact q
     ·refine iteB (by rw [hq2];rfl) ?_
      have e2:fj H (iv (.int bi)) (iv (.int mi)) sp=false:=ip fun a' xs' e1 e2=>iG e2 (hno2 a' xs' e1)
      rw [e2] at k;exact k H (cL.refl H)
 ·refine iteB (by rw [hq];rfl) ?_
  have e:netOk H v=false:=netOk_no fun a xs e1 e2=>iG e2 (hno a xs e1)
  show Q (.bl false) H;rw [←e];exact k H (cL.refl H)
end HN
namespace L2
open PySem PySem.Spec PyProof.Rows
theorem ps_cut {t:TS}(h:PS X st t):PS X st (fun D σ H=>∃ N:St→Hp→Prop,(∀ σ' H',N σ' H'→D.nx σ' H')∧t { D with nx:=N } σ H):=by
 intro ak s σ H D I ⟨N,hN,ht⟩;refine thn (h ak s σ H { D with nx:=N } I ht) fun f s' q=>?_
 cases f with
 | next=>obtain ⟨σ',H',I',n'⟩:=q;exact ⟨σ',H',I',hN _ _ n'⟩
 | brk=>exact q
 | cont=>exact q
 | ret u=>exact q
theorem iC {xs:List α}{r:Int}(h0:0≤r)(h1:r<xs.length):∃ v,atI xs r=some v∧v∈xs:=by
 obtain ⟨j,rfl⟩:=fO h0;have hj:j<xs.length:=by lia
 exact ⟨xs[j],cq (gE hj),eg hj⟩
end L2
namespace HN
open PySem L2 PyProof.Rows
def Mv (p:aj)(H H':Hp):Prop:=(∀ b o,b≠p→H b=some o→H' b=some o)∧∃ n,H' p=some (.lst [.int n])
theorem Mv.refl {p:aj}{n:Int}(h:H p=some (.lst [.int n])):Mv p H H:=⟨fun _ _ _ e=>e,n,h⟩
theorem Mv.trans {p:aj}(a:Mv p H H1)(b:Mv p H1 H2):Mv p H H2:=⟨fun c o hc e=>b.1 c o hc (a.1 c o hc e),b.2⟩
theorem Mv.new {p q:aj}(a:Mv p H H1)(hq:H1 q=none):Mv p H (upd H1 q o):=by
 obtain ⟨n,hn⟩:=a.2;exact ⟨fun c u hc e=>by rw [bU (br (a.1 c u hc e) hq)];exact a.1 c u hc e,n,by rw [bU (br hn hq)];exact hn⟩
theorem Mv.at {p q:aj}(a:Mv p H H1)(h:H q=some o)(hne:q≠p):H1 q=some o:=a.1 q o hne h
inductive spCell (K:ah)(vs:List V)(H:Hp)(Q:VK)(_:XK):Prop
 | mk (a:aj)(ns:List Int)(k:Int)(_:vs=[.ref a,.int k])(_:SqL K H a (ns.map V.int))(_:0≤k)(_:∀ c:Int,Q (.int c) H)
inductive spPot (vs:List V)(H:Hp)(Q:VK)(_:XK):Prop
 | mk (c:_)(_:vs=[.int c])(_:∀ n p,H p=none→Q (.ref p) (upd H p (.lst [.int n])))
inductive spTake (vs:List V)(H:Hp)(Q:VK)(_:XK):Prop
 | mk (p n m:_)(_:vs=[.ref p,.int m])(_:H p=some (.lst [.int n]))(_:0<m)(_:m<10 ^ 61)(_:∀ r H',0≤r→r<m→Mv p H H'→Q (.int r) H')
structure fY (b m:Int)(v:List V):Prop where
 ex:∃ s g l o w:Int,v=[.int s,.int g,.int l,.int o,.int w]∧0≤s∧s<m∧0≤g∧g<m∧s≠g∧0≤l∧l≤o∧o<l+b∧o<10 ^ 60∧0≤w∧w≤1000000000000
inductive spSpanL (vs:List V)(H:Hp)(Q:VK)(_:XK):Prop
 | mk (p n b m:_)(_:vs=[.ref p,.int b,.int m])(_:H p=some (.lst [.int n]))(_:1≤b)(_:b≤10 ^ 59)(_:2≤m)(_:m≤16)(_:∀ t xs H',H t=none→t≠p→Mv p H H'→H' t=some (.tup xs)→fY b m xs→Q (.ref t) H')
theorem log_ok (h0:0<m)(h:m<10 ^ 61):0<m∧m.natAbs.log2<9000:=by
 refine ⟨h0,?_⟩;have h1:m.natAbs<2 ^ 300:=by
  have:(10:Nat) ^ 61<2 ^ 300:=by trivial
  have h2:m.natAbs<10 ^ 61:=by lia
  exact Nat.lt_trans h2 this
 have h3:m.natAbs≠0:=by lia
 have:=(Nat.log2_lt h3).mpr h1;lia
theorem goal_ok {s t:Int}(h0:0≤s)(h1:s<m)(h2:0≤t)(h3:t<m - 1):0≤(s+1+t) % m∧(s+1+t) % m<m∧s≠(s+1+t) % m:=by
 have hm:0<m:=by lia
 have a:=cf (s+1+t) (by lia:m≠0);have b:=bL (s+1+t) hm;refine ⟨a,b,?_⟩
 by_cases q:s+1+t<m
 ·rw [Int.emod_eq_of_lt (by lia) q];lia
 ·have e:(s+1+t) % m=(s+1+t - m) % m:=(Int.sub_emod_right _ _).symm
  rw [e,Int.emod_eq_of_lt (by lia) (by lia)];lia
abbrev sCell:cE:=top 31
abbrev sPot:cE:=top 32
abbrev sTake:cE:=top 33
abbrev sSpanL:cE:=top 34
theorem scCell:cj pze pze (defScope sCell):=by trivial
theorem ok_cell (F:Fun K "_law_cell_at" "_law_cell_at" sCell f fd)(T:Nm mg):da P w K mg base CX0 1 f fd pze (spCell K):=by
 refine F.ok scCell (by contradiction) (fun cdv A outer s H vs Q E hr h=>?_);obtain ⟨a,ns,j,rfl,ha,hj,k⟩:=h;refine ⟨_,aU (dO (cn op_lt (pv 1) (bH cy rfl T.len bK (ae (pv 0) av)) (cM _)) (bc (bM (eZ cD (pv 0) (pv 1) (fun _ _=>rfl)))) bZ) (bc (bM aA)),?_⟩;refine ⟨_,rfl,_,rfl,a,_,rfl,.inl ha,_,_,rfl,rfl,_,rfl,?_⟩;refine fA (fun h1=>?_) (fun h1=>?_)
 ·have h1:j<((ns.map V.int).length:Int):=iJ h1
  obtain ⟨v,e1,e2⟩:=iC hj h1;obtain ⟨c,_,rfl⟩:=cQ.mp e2;exact ⟨_,rfl,_,rfl,a,_,_,_,rfl,rfl,ha,e1,k c⟩
 ·exact k 0
theorem scTake:cj ["_law_pot_here","_law_most","_law_number"] pzd (defScope sTake):=by trivial
theorem ok_take (F:Fun K "_law_take" "_law_take" sTake f fd):da P w K mg base CX0 1 f fd pzd spTake:=by
 refine F.ok scTake (by contradiction) (fun cdv A outer s H vs Q E hr h=>?_);obtain ⟨p,n,m,rfl,hp,h0,h1,k⟩:=h;refine ⟨_,aU (psZ 2 scTake.nd (bE eF (eZ cD (pv 0) aA (fun _ _=>rfl)) (pv 1)))
  (aU (ps_asg (bE op_fdivB (eZ cD (pv 0) aA (fun _ _=>rfl)) (pv 1)) (pg_sub (pv 0) aA set_list)) (bc (bM (pv 2)))),?_⟩
 refine ⟨_,rfl,p,_,_,_,rfl,rfl,SqL.of hp,cq (j:=0) rfl,_,rfl,_,_,rfl,rfl,h0,?_⟩;refine ⟨_,rfl,p,_,_,_,rfl,rfl,SqL.of hp,cq (j:=0) rfl,_,rfl,_,_,rfl,rfl,log_ok h0 h1,?_⟩;refine ⟨_,rfl,p,_,_,0,rfl,rfl,hp,rfl,?_⟩;refine ⟨_,rfl,k _ _ (cf _ (by lia)) (bL _ h0) ⟨fun b o hb e=>by rw [bU hb];exact e,n / m,bG⟩⟩
theorem scPot:cj ["_law_cell","_law_number","_law_j","_law_more"] pzh (defScope sPot):=by trivial
theorem ok_pot (F:Fun K "_law_pot" "_law_pot" sPot f fd)(hrange:mg "range" =none):da P w K mg base CX0 1 f fd pzh spPot:=by
 refine F.ok scPot (by contradiction) (fun cdv A outer s H vs Q E hr h=>?_);obtain ⟨c,rfl,k⟩:=h;refine ⟨_,aU (dO (cn g9 (bE eF (pv 0) aA) aA (cM _)) (bc (bM (gm (ae (bE fG (pv 0) aA) av)))) bZ)
  (aU (psZ 1 scPot.nd aA)
  (aU (ps_for PassesOwn.never rfl (pi_range1 rfl hrange (ae aA av)) (pgZ 2 scPot.nd)
   (aU (psZ 3 scPot.nd (bE eF (bE g8 (bE eG (bE eG (bE eF (bE fG (pv 0) aA) aA) (bE g8 aA (pv 2))) aA) aA) aA))
   (aU (psZ 3 scPot.nd (bE eF (bE eG (bE eG (bE g8 (pv 3) (pv 3)) (bE g8 aA (pv 2))) aA) aA))
   (bc (psZ 1 scPot.nd (bE eG (bE g8 (pv 1) aA) (pv 3)))))))
  (bc (bM (gm (ae (pv 1) av)))))),?_⟩
 refine ⟨_,rfl,_,_,rfl,rfl,(by show (0:Int)<2;decide),rfl,_,rfl,?_⟩;refine fA (fun _=>?_) (fun _=>?_)
 ·exact ⟨_,rfl,_,_,rfl,rfl,⟨by decide,by decide⟩,szZ1,fun p hp=>k _ p hp⟩
 ·refine ⟨24,rfl,by decide,by decide,for_range (n:=24) (fun i σ H2=>H2=H∧∃ n vj vm,σ=[some (.int c),some (.int n),vj,vm]) ⟨rfl,0,none,none,rfl⟩ ?_ ?_⟩
  ·rintro i σ H2 hi ⟨rfl,n,vj,vm,rfl⟩
   refine ⟨_,rfl,_,_,rfl,rfl,⟨by decide,by decide⟩,_,_,rfl,rfl,(by show (0:Int)<2147483629;decide),_,rfl,_,_,rfl,rfl,.inl ⟨by decide,by decide⟩,_,_,rfl,rfl,_,_,rfl,rfl,_,_,rfl,rfl,.inr ⟨by decide,by decide⟩,_,_,rfl,rfl,(by show (0:Int)<2147483647;decide),?_⟩;refine ⟨_,rfl,_,rfl,_,_,rfl,rfl,.inl ?_,_,rfl,_,_,rfl,rfl,.inl ⟨by decide,by decide⟩,_,_,rfl,rfl,_,_,rfl,rfl,_,_,rfl,rfl,(by show (0:Int)<2147483587;decide),?_⟩
   ·have h1:=cf ((c / 2 % 2147483629+7919 * (0+(i:Int))+1) * 48271) (by decide:(2147483647:Int)≠0)
    have h2:=bL ((c / 2 % 2147483629+7919 * (0+(i:Int))+1) * 48271) (by decide:(0:Int)<2147483647);exact ⟨by lia,by lia⟩
   ·refine ⟨_,rfl,_,_,rfl,rfl,.inr ⟨by decide,by decide⟩,_,rfl,_,_,rfl,rfl,?_⟩
    exact ⟨rfl,_,_,_,rfl⟩
  ·rintro σ H2 ⟨rfl,n,vj,vm,rfl⟩
   exact ⟨_,rfl,szZ1,fun p hp=>k _ p hp⟩
theorem gb:cj ["_law_pot_here","_law_beat","_law_many","_law_start","_law_goal","_law_width","_law_least","_law_weight"] pzj (defScope sSpanL):=by trivial
theorem ok_spanL (F:Fun K "_law_span" "_law_span" sSpanL f fd)(G:Fn K mg "_law_take" sTake pzd f1 fd1):da P w K mg base CX0 2 f fd pzj spSpanL:=by
 have F1:da P w K mg base CX0 1 f1 fd1 pzd spTake:=ok_take G.F;refine F.ok gb (by contradiction) (fun cdv A outer s H vs Q E hr h=>?_);obtain ⟨p,n,b,m,rfl,hp,hb1,hb2,hm1,hm2,k⟩:=h;refine ⟨_,aU (psZ 3 gb.nd (pc1 G F1 hr (ae (pv 0) (ae (pv 2) av))))
  (aU (psZ 4 gb.nd (bE eF (bE eG (bE eG (pv 3) aA) (pc1 G F1 hr (ae (pv 0) (ae (bE fX (pv 2) aA) av)))) (pv 2)))
  (aU (psZ 5 gb.nd (bE eF (eZ cD (gm (ae aA (ae (pc1 G F1 hr (ae (pv 0) (ae aA av))) (ae (bE fX (pv 1) aA) (ae (pe_un un_neg aA) av))))) (pc1 G F1 hr (ae (pv 0) (ae aA av))) (fun _ _=>rfl)) (pv 1)))
  (aU (ps_cut (dO (PW.pt (pw_and (cn g9 (pv 5) (bE fX (pv 1) aA) (cM _)) (pw_and1 (cn g9 (pc1 G F1 hr (ae (pv 0) (ae aA av))) aA (cM _))))) (bc (psZ 5 gb.nd (pc1 G F1 hr (ae (pv 0) (ae (pv 1) av))))) bZ))
  (aU (psZ 6 gb.nd (pc1 G F1 hr (ae (pv 0) (ae (eZ cD (gm (ae aA (ae (bE g8 aA (pv 1)) (ae (bE op_pow aA aA) (ae (pv 1) av))))) (pc1 G F1 hr (ae (pv 0) (ae aA av))) (fun _ _=>rfl)) av))))
  (aU (psZ 7 gb.nd (pc1 G F1 hr (ae (pv 0) (ae (eZ cD (gm (ae aA (ae aA (ae (bE eG (bE op_pow aA aA) aA) (ae aA av))))) (pc1 G F1 hr (ae (pv 0) (ae aA av))) (fun _ _=>rfl)) av))))
  (bc (bM (pe_tup (ae (pv 3) (ae (pv 4) (ae (pv 6) (ae (bE eG (pv 6) (pv 5)) (ae (pv 7) av))))))))))))),?_⟩
 refine ⟨_,rfl,_,rfl,p,n,m,rfl,hp,by lia,by lia,fun r1 H1 a1 b1 M1=>?_⟩;obtain ⟨n1,hp1⟩:=M1.2;refine ⟨_,rfl,_,_,rfl,rfl,_,rfl,_,rfl,_,_,rfl,rfl,p,n1,_,rfl,hp1,by lia,by lia,fun r2 H2 a2 b2 M2=>?_⟩;have M2:=M1.trans M2;obtain ⟨n2,hp2⟩:=M2.2;refine ⟨_,_,rfl,rfl,_,rfl,_,_,rfl,rfl,(by show (0:Int)<m;lia),?_⟩;obtain ⟨g0,g1,g2⟩:=goal_ok a1 b1 a2 b2;generalize hg:(r1+1+r2) % m=g at g0 g1 g2 ⊢;refine ⟨_,rfl,p,n2,4,rfl,hp2,by decide,by decide,fun r3 H3 a3 b3 M3=>?_⟩;have M3:=M2.trans M3;obtain ⟨n3,hp3⟩:=M3.2;refine ⟨_,rfl,_,_,rfl,rfl,_,rfl,szZ4,fun q hq=>?_⟩;have M4:=M3.new (o:= .lst [.int 0,.int r3,.int (b - 1),.int (-1)]) hq;have hq4:(upd H3 q (.lst [.int 0,.int r3,.int (b - 1),.int (-1)])) q=some (.lst [.int 0,.int r3,.int (b - 1),.int (-1)]):=bG;have hqp:q≠p:=fun z=>by rw [z,hp3] at hq;cases hq
 obtain ⟨n4,hp4⟩:=M4.2;refine ⟨_,rfl,p,n4,4,rfl,hp4,by decide,by decide,fun r5 H5 a5 b5 M5=>?_⟩;have hq5:=M5.at hq4 hqp;have M5:=M4.trans M5;obtain ⟨n5,hp5⟩:=M5.2;obtain ⟨v5,e5,m5⟩:=iC (xs:=[V.int 0,V.int r3,V.int (b - 1),V.int (-1)]) a5 b5;obtain ⟨i5,rfl⟩:∃ i,v5=V.int i:=by
  simp only [aw,aL,or_false] at m5
  rcases m5 with rfl | rfl | rfl | rfl <;> exact ⟨_,rfl⟩
 refine ⟨q,_,_,_,rfl,rfl,SqL.of hq5,e5,_,rfl,_,_,rfl,rfl,(by show (0:Int)<b;lia),?_⟩;have w0:=cf i5 (by lia:b≠0);have w1:=bL i5 (by lia:0<b);generalize hwd:i5 % b=wd at w0 w1 ⊢;refine ⟨fun σ' H'=>∃ wd',0≤wd'∧wd'<b∧Mv p H H'∧σ'=[some (.ref p),some (.int b),some (.int m),some (.int r1),some (.int g),some (.int wd'),none,none],?_,?_⟩
 ·rintro σ' H6 ⟨wd',u0,u1,M6,rfl⟩
  obtain ⟨n6,hp6⟩:=M6.2;refine ⟨_,rfl,_,rfl,_,_,rfl,rfl,.inl ⟨by decide,by decide⟩,_,_,rfl,rfl,⟨by decide,by decide,by decide⟩,_,rfl,szZ4,fun q6 hq6=>?_⟩;have M7:=M6.new (o:= .lst [.int 60,.int (2 * b),.int (10 ^ (59:Int).toNat),.int b]) hq6;have z7:(upd H6 q6 (.lst [.int 60,.int (2 * b),.int (10 ^ (59:Int).toNat),.int b])) q6=some (.lst [.int 60,.int (2 * b),.int (10 ^ (59:Int).toNat),.int b]):=bG;have y7:q6≠p:=fun z=>by rw [z,hp6] at hq6;cases hq6
  obtain ⟨n7,hp7⟩:=M7.2;refine ⟨_,rfl,p,n7,4,rfl,hp7,by decide,by decide,fun r8 H8 a8 b8 M8=>?_⟩;have z8:=M8.at z7 y7;have M8:=M7.trans M8;obtain ⟨n8,hp8⟩:=M8.2;obtain ⟨v8,e8,m8⟩:=iC (xs:=[V.int 60,V.int (2 * b),V.int (10 ^ (59:Int).toNat),V.int b]) a8 b8;obtain ⟨i8,rfl,c8,d8⟩:∃ i,v8=V.int i∧0<i∧i≤2 * 10 ^ 59:=by
   simp only [aw,aL,or_false] at m8
   rcases m8 with rfl | rfl | rfl | rfl
   ·exact ⟨_,rfl,by decide,by decide⟩
   ·exact ⟨_,rfl,by lia,by lia⟩
   ·exact ⟨_,rfl,by decide,by decide⟩
   ·exact ⟨_,rfl,by lia,by lia⟩
  refine ⟨q6,_,_,_,rfl,rfl,SqL.of z8,e8,p,n8,_,rfl,hp8,c8,by lia,fun l H9 l0 l1 M9=>?_⟩;have M9:=M8.trans M9;obtain ⟨n9,hp9⟩:=M9.2;refine ⟨_,rfl,_,_,rfl,rfl,⟨by decide,by decide,by decide⟩,_,_,rfl,rfl,szZ4,fun q9 hq9=>?_⟩;have MA:=M9.new (o:= .lst [.int 1,.int 10,.int (10 ^ (12:Int).toNat+1),.int 2]) hq9;have zA:(upd H9 q9 (.lst [.int 1,.int 10,.int (10 ^ (12:Int).toNat+1),.int 2])) q9=some (.lst [.int 1,.int 10,.int (10 ^ (12:Int).toNat+1),.int 2]):=bG;have yA:q9≠p:=fun z=>by rw [z,hp9] at hq9;cases hq9
  obtain ⟨nA,hpA⟩:=MA.2;refine ⟨_,rfl,p,nA,4,rfl,hpA,by decide,by decide,fun rB HB aB bB MB=>?_⟩;have zB:=MB.at zA yA;have MB:=MA.trans MB;obtain ⟨nB,hpB⟩:=MB.2;obtain ⟨vB,eB,mB⟩:=iC (xs:=[V.int 1,V.int 10,V.int (10 ^ (12:Int).toNat+1),V.int 2]) aB bB;obtain ⟨iB,rfl,cB,dB⟩:∃ i,vB=V.int i∧0<i∧i≤1000000000001:=by
   simp only [aw,aL,or_false] at mB
   rcases mB with rfl | rfl | rfl | rfl
   ·exact ⟨_,rfl,by decide,by decide⟩
   ·exact ⟨_,rfl,by decide,by decide⟩
   ·exact ⟨_,rfl,by decide,by decide⟩
   ·exact ⟨_,rfl,by decide,by decide⟩
  refine ⟨q9,_,_,_,rfl,rfl,SqL.of zB,eB,p,nB,_,rfl,hpB,cB,by lia,fun wt HC c0 c1 MC=>?_⟩;have MC:=MB.trans MC;obtain ⟨nC,hpC⟩:=MC.2;refine ⟨_,rfl,_,rfl,_,rfl,_,rfl,_,rfl,_,_,rfl,rfl,_,rfl,szZ5,fun t ht=>?_⟩;have ht0:H t=none:=by
   cases q:H t with
   | none=>rfl
   | some o =>
    by_cases z:t=p
    ·rw [z,hpC] at ht;cases ht
    ·rw [MC.1 t o z q] at ht;cases ht
  refine k t _ _ ht0 (fun z=>by rw [z,hpC] at ht;cases ht) (MC.new ht) bG ⟨r1,g,l,l+wd',wt,rfl,a1,b1,g0,g1,g2,l0,by lia,by lia,by lia,c0,by lia⟩
 ·refine ⟨_,rfl,_,rfl,_,_,rfl,rfl,rfl,_,rfl,?_⟩
  refine fA (fun _=>?_) (fun _=>?_)
  ·refine ⟨_,rfl,p,n5,2,rfl,hp5,by decide,by decide,fun r6 H6 a6 b6 M6=>?_⟩
   have M6:=M5.trans M6;obtain ⟨n6,hp6⟩:=M6.2;refine ⟨rfl,_,rfl,?_⟩;refine fA (fun _=>?_) (fun _=>?_)
   ·refine ⟨_,rfl,_,rfl,p,n6,b,rfl,hp6,by lia,by lia,fun r7 H7 a7 b7 M7=>?_⟩
    exact ⟨r7,a7,b7,M6.trans M7,by rw [←hg];rfl⟩
   ·exact ⟨wd,w0,w1,M6,by rw [←hg,←hwd];rfl⟩
  ·exact ⟨wd,w0,w1,M5,by rw [←hg,←hwd];rfl⟩
section
variable {Pr:V→Prop}{p:aj}
theorem gL.tup {xs:List V}(h:H p=some (.tup xs))(hx:∀ x∈xs,Pr x):gL Pr H (.ref p) :=
 ⟨⟨"tuple",by simp only [tyn];rw [h]⟩,fun a ys e ha x hm=>by cases e;rw [h] at ha;cases ha;exact hx x hm⟩
theorem gL.int (i:Int):gL Pr H (.int i):=⟨⟨"int",rfl⟩,fun a ys e=>by cases e⟩
theorem Kn.int (i:Int):Kn H (.int i):=⟨"int",rfl⟩
end
def gr (H:Hp)(b m:Int)(v:V):Prop:=∃ q xs,v= .ref q∧H q=some (.tup xs)∧fY b m xs
structure NetIs (H:Hp)(t:aj)(b m:Int)(p:aj)(xs:List V):Prop where
 at_:H t=some (.tup [.int b,.int m,.ref p])
 sp:H p=some (.tup xs)
 b1:1≤b
 b2:b≤10 ^ 59
 m1:1≤m
 m2:m≤16
 few:xs.length≤40
 all:∀ v∈xs,gr H b m v
theorem gr.same (e:cL H H')(h:gr H b m v):gr H' b m v:=let ⟨q,xs,e1,e2,e3⟩:=h;⟨q,xs,e1,e q _ e2,e3⟩
theorem gr.ok (hb:1≤b)(h:gr H b m v):dA H b m v=true:=by
 obtain ⟨q,xs,rfl,hq,⟨s,g,l,o,w,rfl,h1,h2,h3,h4,h5,h6,h7,h8,h9,h10,h11⟩⟩:=h;simp only [dA];rw [hq];show (fw m (.int s) (.int g) && (fV b (.int l) (.int o) && inI (.int w) 0 1000000000000))=true;have e1:fw m (.int s) (.int g)=true:=by
  unfold fw;have:¬ V.int s=V.int g:=fun z=>h5 (by injection z)
  rw [iI this];show ((decide (0≤s) && decide (s≤m - 1)) && ((decide (0≤g) && decide (g≤m - 1)) && true))=true;rw [iH h1,iH (by lia:s≤m - 1),iH h3,iH (by lia:g≤m - 1)];rfl
 have e2:fV b (.int l) (.int o)=true:=by
  unfold fV;show ((decide (0≤l) && decide (l≤B60)) && (decide (l≤o) && decide (o≤if B60<l+b - 1 then B60 else l+b - 1)))=true;have q1:l≤B60:=by unfold B60;lia
  have q2:o≤if B60<l+b - 1 then B60 else l+b - 1:=by
   split
   ·unfold B60;lia
   ·lia
  rw [iH h6,iH q1,iH h7,iH q2];rfl
 have e3:inI (.int w) 0 1000000000000=true:=by
  show (decide (0≤w) && decide (w≤1000000000000))=true;rw [iH h10,iH h11];rfl
 rw [e1,e2,e3];rfl
theorem cL.mv {p:aj}(e:cL H H1)(hp:H p=none)(m:Mv p H1 H2):cL H H2:=fun b o q=>m.1 b o (fun z=>by rw [z,hp] at q;cases q) (e b o q)
inductive spNetL (K:ah)(vs:List V)(H:Hp)(Q:VK)(_:XK):Prop
 | mk (a:aj)(ns:List Int)(j:Int)(_:vs=[.ref a,.int j])(_:SqL K H a (ns.map V.int))(_:ns.length≤63)(_:0≤j)(_:j≤10)(_:∀ t b m p xs H',cL H H'→NetIs H' t b m p xs→Q (.ref t) H')
abbrev sNetL:cE:=top 35
theorem iq:cj ["_law_script","_law_at","_law_head","_law_beat","_law_many","_law_spans","_law_k"] pzk (defScope sNetL):=by trivial
theorem cut40 (xs:List V):(gQ xs none (some 40)).length≤40∧∀ v∈gQ xs none (some 40),v∈xs:=by
 have e:gQ xs none (some 40)=xs.take (min 40 xs.length):=by
  unfold gQ;rw [HT.sIx_none];have:=HT.sIx_nat xs.length xs.length 40;rw [show ((40:Nat):Int)=40 from rfl] at this;rw [this,List.drop_zero,Nat.sub_zero]
 rw [e];exact ⟨by rw [bq];lia,fun v hv=>bD hv⟩
theorem ok_netL {f0 f3:aj}{fd0 fd3:aY}(F:Fun K "_law_net" "_law_net" sNetL f fd)(T:Nm mg)(hrange:mg "range" =none)(G0:Fn K mg "_law_cell_at" sCell pze f0 fd0)(G1:Fn K mg "_law_pot" sPot pzh f1 fd1)(G2:Fn K mg "_law_take" sTake pzd f2 fd2)
  (G3:Fn K mg "_law_span" sSpanL pzj f3 fd3):da P w K mg base CX0 3 f fd pzk (spNetL K):=by
 have F0:da P w K mg base CX0 1 f0 fd0 pze (spCell K):=ok_cell G0.F T;have F1:da P w K mg base CX0 1 f1 fd1 pzh spPot:=ok_pot G1.F hrange;have F2:da P w K mg base CX0 1 f2 fd2 pzd spTake:=ok_take G2.F;have F3:da P w K mg base CX0 2 f3 fd3 pzj spSpanL:=ok_spanL G3.F G2;refine F.ok iq (by contradiction) (fun cdv A outer s H vs Q E hr h=>?_);obtain ⟨a,ns,j,rfl,ha,hn,hj0,hj1,k⟩:=h;have hr1:fM 1 _:=hr.mono (by decide);refine ⟨_,aU (psZ 2 iq.nd (pc1 G1 F1 hr1 (ae (pc1 G0 F0 hr1 (ae (pv 0) (ae aA av))) av)))
  (aU (psZ 3 iq.nd (bE eG aA (pc1 G2 F2 hr1 (ae (pv 2) (ae (eZ cD (gm (ae aA (ae aA (ae aA (ae (bE op_pow aA aA) av))))) (pc1 G2 F2 hr1 (ae (pv 2) (ae aA av))) (fun _ _=>rfl)) av)))))
  (aU (psZ 4 iq.nd (bE eG aA (bE eF (pc1 G0 F0 hr1 (ae (pv 0) (ae aA av))) aA)))
  (aU (psZ 5 iq.nd (gm av))
  (aU (ps_for PassesOwn.never rfl (pi_range2 rfl hrange (ae (pv 1) (ae (bH (call_min2 rfl) rfl T.min boot_min (ae (bH cy rfl T.len bK (ae (pv 0) av)) (ae aA av))) av))) (pgZ 6 iq.nd)
   (bc (dO (cn op_gt (pv 4) aA (cM _)) (bc (ps_expr (gw PySem.F.plainAttrs_list PySem.F.slot_list_append PySem.F.type_list_append mt_append (pv 5)
    (ae (pc1 G3 F3 hr (ae (pc1 G1 F1 hr1 (ae (eZ cD (pv 0) (pv 6) (fun _ _=>rfl)) av)) (ae (pv 3) (ae (pv 4) av)))) av)))) bZ)))
  (bc (bM (pe_tup (ae (pv 3) (ae (pv 4) (ae (dC gq rfl T.ttup boot_tuple (ae (cP sl_list (pv 5) dn (dm aA)) av)) av)))))))))),?_⟩
 refine ⟨_,rfl,a,ns,0,rfl,ha,by decide,fun c0=>⟨c0,rfl,fun n0 hd hhd=>?_⟩⟩;have S1:cL H (upd H hd (.lst [.int n0])):=cL.put (cL.refl H) hhd;have M1:Mv hd (upd H hd (.lst [.int n0])) (upd H hd (.lst [.int n0])):=Mv.refl bG;generalize upd H hd (.lst [.int n0])=H1 at S1 M1 ⊢;obtain ⟨n1,hp1⟩:=M1.2;refine ⟨_,rfl,_,_,rfl,rfl,⟨by decide,by decide,by decide⟩,szZ4,fun q2 hq2=>?_⟩;have M2:=M1.new (o:= .lst [.int 60,.int 60,.int 1000,.int (10 ^ (59:Int).toNat)]) hq2;have z2:(upd H1 q2 (.lst [.int 60,.int 60,.int 1000,.int (10 ^ (59:Int).toNat)])) q2=some (.lst [.int 60,.int 60,.int 1000,.int (10 ^ (59:Int).toNat)]):=bG;have y2:q2≠hd:=fun z=>by rw [z,hp1] at hq2;cases hq2
 obtain ⟨n2,hp2⟩:=M2.2;refine ⟨_,rfl,hd,n2,4,rfl,hp2,by decide,by decide,fun r3 H3 a3 b3 M3=>?_⟩;have z3:=M3.at z2 y2;have M3:=M2.trans M3;obtain ⟨n3,hp3⟩:=M3.2;obtain ⟨v3,e3,m3⟩:=iC (xs:=[V.int 60,V.int 60,V.int 1000,V.int (10 ^ (59:Int).toNat)]) a3 b3;obtain ⟨i3,rfl,c3,d3⟩:∃ i,v3=V.int i∧0<i∧i≤10 ^ 59:=by
  simp only [aw,aL,or_false] at m3
  rcases m3 with rfl | rfl | rfl | rfl <;> exact ⟨_,rfl,by decide,by decide⟩
 refine ⟨q2,_,_,_,rfl,rfl,SqL.of z3,e3,hd,n3,_,rfl,hp3,c3,by lia,fun r4 H4 a4 b4 M4=>?_⟩;have M4:=M3.trans M4;have S4:cL H H4:=cL.mv S1 hhd M4;refine ⟨_,_,rfl,rfl,?_⟩;have hb1:1≤1+r4:=by lia
 have hb2:1+r4≤10 ^ 59:=by lia
 generalize hbe:1+r4=b at hb1 hb2 ⊢;refine ⟨_,rfl,a,ns,1,rfl,S4.seq ha,by decide,fun c5=>⟨_,_,rfl,rfl,(by show (0:Int)<16;decide),_,_,rfl,rfl,?_⟩⟩;have hm1:1≤1+c5 % 16:=by lia
 have hm2:1+c5 % 16≤16:=by lia
 generalize hme:1+c5 % 16=m at hm1 hm2 ⊢;refine ⟨cc _,fun L hL=>?_⟩;have hL0:H L=none:=S4.free hL;have S5:cL H (upd H4 L (.lst [])):=S4.put hL;have hL5:(upd H4 L (.lst [])) L=some (.lst []):=bG;generalize upd H4 L (.lst [])=H5 at S5 hL5 ⊢;refine ⟨_,rfl,_,rfl,a,_,rfl,.inl (S5.seq ha),_,_,rfl,_,_,rfl,?_,?_⟩
 ·rw [af]
  refine ⟨by lia,by lia,?_,?_⟩ <;> split <;> lia
 refine for_range (fun i σ H2=>cL H H2∧∃ xs vk,σ=[some (.ref a),some (.int j),some (.ref hd),some (.int b),some (.int m),some (.ref L),vk]∧H2 L=some (.lst xs)∧xs.length≤i∧∀ v∈xs,gr H2 b m v)
  ⟨S5,[],none,by rw [←hbe,←hme];rfl,hL5,aI _,fun v hv=>iG hv (by simp)⟩ ?_ ?_
 ·rintro i σ H6 hi ⟨S6,xs,vk,rfl,hL6,hx6,hA6⟩
  rw [af] at hi;have hin:j+(i:Int)<(ns.length:Int)∧i<63:=by split at hi <;> lia
  refine ⟨_,rfl,_,_,rfl,rfl,_,rfl,?_⟩;refine fA (fun h1=>?_) (fun h1=>?_)
  ·have h1:(1:Int)<m:=iJ h1
   obtain ⟨v7,e7,m7⟩:=iC (xs:=ns.map V.int) (r:=j+(i:Int)) (by lia) (by rw [af];lia);obtain ⟨c7,_,rfl⟩:=cQ.mp m7;refine ⟨_,rfl,.inl ⟨rfl,_,SqL.of hL6⟩,_,rfl,_,rfl,a,_,_,_,rfl,rfl,S6.seq ha,e7,c7,rfl,fun n8 p8 hp8=>?_⟩;have M8:Mv p8 (upd H6 p8 (.lst [.int n8])) (upd H6 p8 (.lst [.int n8])):=Mv.refl bG;have S8:cL H6 (upd H6 p8 (.lst [.int n8])):=cL.put (cL.refl H6) hp8;have e8:(upd H6 p8 (.lst [.int n8])) p8=some (.lst [.int n8]):=bG;generalize upd H6 p8 (.lst [.int n8])=H8 at M8 S8 e8 ⊢;refine ⟨_,rfl,_,rfl,p8,n8,b,m,rfl,e8,hb1,hb2,by lia,hm2,fun t ys H9 ht htp M9 ht9 hS=>?_⟩;have S9:cL H6 H9:=cL.mv S8 hp8 M9;have hL9:=S9 _ _ hL6;refine ⟨L,xs,_,rfl,rfl,hL9,?_,?_⟩
   ·have:(63:Nat)<ax:=by decide
    lia
   ·have key:∀ q zs,H9 q=some (.tup zs)→(upd H9 L (.lst (xs++[.ref t]))) q=some (.tup zs):=fun q zs e=>by rw [bU (ne_of e hL9 nofun)];exact e
    refine ⟨fun c o e=>?_,xs++[.ref t],_,rfl,bG,by rw [aq,ao];lia,fun v hv=>?_⟩
    ·rw [bU (fun z=>by rw [z,hL0] at e;cases e)]
     exact S9 _ _ (S6 c o e)
    ·rcases az.mp hv with hv | hv
     ·obtain ⟨q,zs,rfl,e1,e2⟩:=hA6 v hv
      exact ⟨q,zs,rfl,key q zs (S9 _ _ e1),e2⟩
     ·have ev:=ay.mp hv
      exact ⟨t,ys,ev,key t ys ht9,hS⟩
  ·exact ⟨S6,xs,_,rfl,hL6,by lia,hA6⟩
 ·rintro σ H6 ⟨S6,xs,vk,rfl,hL6,hx6,hA6⟩
  refine ⟨_,rfl,_,rfl,_,rfl,_,rfl,L,xs,rfl,SqL.of hL6,fun p7 hp7=>?_⟩;have S7:cL H6 (upd H6 p7 (.lst (gQ xs none (some 40)))):=cL.put (cL.refl H6) hp7;have e7:(upd H6 p7 (.lst (gQ xs none (some 40)))) p7=some (.lst (gQ xs none (some 40))):=bG;generalize upd H6 p7 (.lst (gQ xs none (some 40)))=H7 at S7 e7 ⊢;refine ⟨p7,_,rfl,.inl ⟨SqL.of e7,fun p8 hp8=>?_⟩⟩;have S8:cL H6 (upd H7 p8 (.tup (gQ xs none (some 40)))):=S7.put hp8;have e8:(upd H7 p8 (.tup (gQ xs none (some 40)))) p8=some (.tup (gQ xs none (some 40))):=bG;generalize upd H7 p8 (.tup (gQ xs none (some 40)))=H8 at S8 e8 ⊢;refine ⟨(by show 3≤ax;decide),fun t ht=>?_⟩;have S9:cL H6 (upd H8 t (.tup [.int b,.int m,.ref p8])):=S8.put ht;refine k t b m p8 (gQ xs none (some 40)) _ (S6.trans S9) ⟨bG,by rw [bU (br e8 ht)];exact e8,hb1,hb2,hm1,hm2,(cut40 xs).1,fun v hv=>(hA6 v ((cut40 xs).2 v hv)).same S9⟩
end HN
namespace HT2
open PySem
theorem gz (y p q:Str)(r:List Str):bw y (p::q::r)=p++y++bw y (q::r):=rfl
theorem fK (c:Nat)(p q:Str)(r:List Str):(bw ⟨#[c]⟩ (p::q::r)).cps.toList=p.cps.toList++c::(bw ⟨#[c]⟩ (q::r)).cps.toList:=by
 rw [gz];simp only [Str.cps_append,eK];simp
theorem fZ {a b:Str}(h:a.cps.toList=b.cps.toList):a=b:=by
 cases a with | mk x=>cases b with | mk y =>
 have:x=y:=by
  have:=iK List.toArray h
  simpa using this
 rw [this]
theorem cut_first {c:Nat}:∀ {a b r s:List Nat},c ∉ a→c ∉ b→a++c::r=b++c::s→a=b∧r=s
 | [],[],_,_,_,_,e=>⟨rfl,(bJ e).2⟩
 | [],y::b,_,_,_,hb,e=>by
  have:=(bJ e).1;exact iG (this ▸ cm ..) hb
 | x::a,[],_,_,ha,_,e=>by
  have:=(bJ e).1;exact iG (this ▸ cm ..) ha
 | x::a,y::b,r,s,ha,hb,e=>by
  obtain ⟨e1,e2⟩:=bJ e;obtain ⟨h1,h2⟩:=cut_first (fun m=>ha (aT _ m)) (fun m=>hb (aT _ m)) e2;exact ⟨by rw [e1,h1],h2⟩
theorem no_cut {a b r:List Nat}(ha:c ∉ a)(e:a=b++c::r):False:=ha (by rw [e];simp)
theorem join_inj {c:Nat}:∀ {as bs:List Str},as≠[]→bs≠[]→(∀ p∈as,c ∉ p.cps.toList)→(∀ p∈bs,c ∉ p.cps.toList)→bw ⟨#[c]⟩ as=bw ⟨#[c]⟩ bs→as=bs
 | [],_,h,_,_,_,_=>iG rfl h
 | _::_,[],_,h,_,_,_=>iG rfl h
 | [p],[q],_,_,_,_,e=>by
  have e:p=q:=e;rw [e]
 | [p],q::q2::r,_,_,ha,_,e=>by
  have:=iK (fun s:Str=>s.cps.toList) e;simp only [fK] at this;exact (no_cut (ha p (by simp)) this).elim
 | p::p2::r,[q],_,_,_,hb,e=>by
  have:=iK (fun s:Str=>s.cps.toList) e;simp only [fK] at this;exact (no_cut (hb q (by simp)) this.symm).elim
 | p::p2::r,q::q2::s,_,_,ha,hb,e=>by
  have:=iK (fun s:Str=>s.cps.toList) e;simp only [fK] at this;obtain ⟨h1,h2⟩:=cut_first (ha p (by simp)) (hb q (by simp)) this;have ih:=join_inj (as:=p2::r) (bs:=q2::s) (by simp) (by simp) (fun x hx=>ha x (aT _ hx)) (fun x hx=>hb x (aT _ hx)) (fZ h2);rw [fZ h1,ih]
theorem gM (x:Str)(c:Nat):aD x ⟨#[c]⟩≠[]:=by
 unfold aD;split
 ·simp
 ·split
  ·simp
  ·unfold cb
   intro h;have:=iK bY h;simp at this
theorem dg {ys:List Str}(h:ys≠[])(hf:∀ p∈ys,c ∉ p.cps.toList):aD (bV ⟨#[c]⟩ ys) ⟨#[c]⟩=ys:=by
 have e:bV ⟨#[c]⟩ ys=bw ⟨#[c]⟩ ys:=bR _ _;rw [e];refine join_inj (c:=c) (gM _ _) h (fun p hp=>StrLaws.split_free _ c p hp) hf ?_;exact dN _ _
def dig (m:Nat):List Nat:=(Nat.toDigits 10 m).map Char.toNat
theorem ic {m:Nat}(h:m<10):dig m=[48+m]:=by
 unfold dig;rw [Nat.toDigits_of_lt_base h];have:∀ d:Nat,d<10→(Nat.digitChar d).toNat=48+d:=by decide
 show [(Nat.digitChar m).toNat]=_;rw [this m h]
theorem dig_ge {m:Nat}(h:10≤m):dig m=dig (m / 10)++[48+m % 10]:=by
 have hm:m % 10<10:=Nat.mod_lt m (by decide);have t:Nat.toDigits 10 (m / 10)++Nat.toDigits 10 (m % 10)=Nat.toDigits 10 (10 * (m / 10)+m % 10):=Nat.toDigits_append_toDigits (by decide) (by lia) hm;rw [Nat.div_add_mod] at t;have e:=ic hm;unfold dig at e ⊢;rw [←t,aK,e]
theorem dig_ne (m:Nat):dig m≠[]:=by
 rcases Nat.lt_or_ge m 10 with h | h
 ·rw [ic h];simp
 ·rw [dig_ge h];simp
theorem dig_all:∀ (m:Nat),∀ c∈dig m,48≤c∧c≤57:=by
 intro m
 induction m using Nat.strongRecOn with
 | _ m ih =>
  intro c hc
  rcases Nat.lt_or_ge m 10 with h | h
  ·rw [ic h] at hc
   have:=ay.mp hc;lia
  ·rw [dig_ge h] at hc
   rcases az.mp hc with q | q
   ·exact ih (m / 10) (by lia) c q
   ·have:=ay.mp q
    lia
theorem dig_len:∀ (k m:Nat),m<10 ^ (k+1)→(dig m).length≤k+1
 | 0,m,h=>by rw [ic (by simpa using h)];simp
 | k+1,m,h=>by
  rcases Nat.lt_or_ge m 10 with q | q
  ·rw [ic q];simp
  ·rw [dig_ge q,aq,ao]
   have h2:m / 10<10 ^ (k+1):=by
    have e:(10:Nat) ^ (k+1+1)=10 ^ (k+1) * 10:=Nat.pow_succ ..;rw [e] at h;exact Nat.div_lt_of_lt_mul (by lia)
   have:=dig_len k (m / 10) h2;lia
theorem dig_head:∀ (m:Nat),1≤m→(dig m).head? ≠some 48:=by
 intro m
 induction m using Nat.strongRecOn with
 | _ m ih =>
  intro h1 e
  rcases Nat.lt_or_ge m 10 with h | h
  ·rw [ic h] at e
   have:48+m=48:=by simpa using e
   lia
  ·rw [dig_ge h] at e
   have ih':=ih (m / 10) (by lia) (by lia);cases hd:dig (m / 10) with
   | nil=>exact dig_ne _ hd
   | cons a r =>
    rw [hd] at e ih';exact ih' (by simpa using e)
theorem dig_one {m:Nat}(h:1<(dig m).length):10≤m:=by
 rcases Nat.lt_or_ge m 10 with q | q
 ·rw [ic q] at h;simp at h
 ·exact q
def num (m:Nat):Str:=Str.ofString (toString ((m:Nat):Int))
theorem eU (m:Nat):(num m).cps.toList=dig m:=PySem.W.KIN.signs_num m
theorem num_len {m:Nat}(h:m<10 ^ 60):(num m).length≤60:=by
 have:=dig_len 59 m h;rw [←eU] at this
 simpa [dD] using this
theorem num_pos (m:Nat):1≤(num m).length:=by
 have h:=dig_ne m;rw [←eU] at h;cases e:(num m).cps.toList with
 | nil=>exact iG e h
 | cons a r =>
  have:(num m).length=(num m).cps.toList.length:=by simp [dD]
  rw [this,e];simp
theorem num_int {m:Nat}(h:m<10 ^ 60):dZ (num m)=some ((m:Nat):Int):=by
 have e:=PySem.intText_digits (x:=num m) (fun c hc=>dig_all m c (by rw [←eU];exact hc)) (by rw [eU];exact dig_ne m) (aR (num_len h) (by decide));rw [eU] at e;rw [e];have v:=PySem.W.KIN.val_back m;unfold dig;rw [v]
end HT2
namespace HN
open PySem L2 PyProof.Rows HT2
abbrev sp_:Str := " "
abbrev nl_:Str := "\n"
theorem gI:(sp_:Str)=⟨#[32]⟩:=by trivial
theorem nl_eq:(nl_:Str)=⟨#[10]⟩:=by trivial
def cp (i:Int):Str:=toString i
theorem fo (m:Nat):cp (m:Int)=num m:=rfl
def fz (ns:List Int):Str:=bV sp_ (ns.map cp)
def dI (b m:Int):Str:=("beat " :Str)++cp b++(" happenings " :Str)++cp m
def netT (b m:Int)(sp:List (List Int)):Str:=bV nl_ (dI b m::sp.map fz)
def W60 (i:Int):Prop:=0≤i∧i<10 ^ 60
theorem W60.nat (h:W60 i):∃ m:Nat,i=m∧m<10 ^ 60:=by
 obtain ⟨m,rfl⟩:=fO h.1;exact ⟨m,rfl,by have:=h.2;lia⟩
theorem numI_cps (h:W60 i):∀ c∈(cp i).cps.toList,48≤c∧c≤57:=by
 obtain ⟨m,rfl,_⟩:=h.nat;rw [fo,eU];exact dig_all m
theorem eQ (h:W60 i):(cp i).length≤60:=by
 obtain ⟨m,rfl,hm⟩:=h.nat;rw [fo];exact num_len hm
theorem numI_pos (h:W60 i):1≤(cp i).length:=by
 obtain ⟨m,rfl,hm⟩:=h.nat;rw [fo];exact num_pos m
theorem numI_int (h:W60 i):dZ (cp i)=some i:=by
 obtain ⟨m,rfl,hm⟩:=h.nat;rw [fo];exact num_int hm
theorem gD (h:W60 i):i.natAbs.log2<1920:=by
 by_cases h0:i.natAbs=0
 ·rw [h0];decide
 ·have h1:i.natAbs<2 ^ 200:=by
   have:(10:Nat) ^ 60<2 ^ 200:=by trivial
   have h2:i.natAbs<10 ^ 60:=by have:=h.1;have:=h.2;lia
   lia
  have:=(Nat.log2_lt h0).mpr h1;lia
theorem eH (h:W60 i)(hc:c<48):c ∉ (cp i).cps.toList:=fun m=>by
 have:=numI_cps h c m;lia
theorem dG (a b:Str):(a++b).cps.toList=a.cps.toList++b.cps.toList:=by simp only [Str.cps_append,eK]
theorem dq (a b:Str):(a++b).length=a.length+b.length:=Str.length_append a b
theorem fg (a b c:Str):a++b++c=a++(b++c):=fZ (by simp only [dG,List.append_assoc])
theorem ff (a:Str):bp++a=a:=fZ (by rw [dG];rfl)
theorem gP {c:Nat}:∀ {ys:List Str} {x:Nat},x∈(bw ⟨#[c]⟩ ys).cps.toList→x=c∨∃ y∈ys,x∈y.cps.toList
 | [],x,h=>by
  have h:x∈(bp).cps.toList:=h;exact iG h (by simp [bp])
 | [y],x,h=> .inr ⟨y,by simp,h⟩
 | y::z::r,x,h=>by
  rw [fK] at h
  rcases az.mp h with h | h
  ·exact .inr ⟨y,by simp,h⟩
  ·rcases aw.mp h with h | h
   ·exact .inl h
   ·rcases gP (ys:=z::r) h with q | ⟨w',hw,q⟩
    ·exact .inl q
    ·exact .inr ⟨w',aT _ hw,q⟩
theorem row_free (h:∀ i∈ns,W60 i):10 ∉ (fz ns).cps.toList:=fun m=>by
 unfold fz at m;rw [gI,show bV ⟨#[32]⟩ (ns.map cp)=bw ⟨#[32]⟩ (ns.map cp) from bR _ _] at m
 rcases gP m with q | ⟨y,hy,q⟩
 ·lia
 ·obtain ⟨i,hi,rfl⟩:=cQ.mp hy
  exact eH (h i hi) (by decide) q
theorem hZ (b m:Int):dI b m=bV sp_ ["beat",cp b,"happenings",cp m]:=by
 have e1:("beat " :Str)=("beat" :Str)++sp_:=by trivial
 have e2:(" happenings " :Str)=sp_++(("happenings" :Str)++sp_):=by trivial
 rw [show bV sp_ ["beat",cp b,"happenings",cp m]=bw sp_ ["beat",cp b,"happenings",cp m] from bR _ _];unfold dI;rw [e1,e2];show _=("beat" :Str)++sp_++(cp b++sp_++(("happenings" :Str)++sp_++cp m));simp only [fg]
theorem head_free (hb:W60 b)(hm:W60 m):10 ∉ (dI b m).cps.toList:=by
 unfold dI;simp only [dG,az,not_or];refine ⟨⟨⟨?_,eH hb (by decide)⟩,?_⟩,eH hm (by decide)⟩ <;> decide +kernel
theorem gB (hb:W60 b)(hm:W60 m):aD (dI b m) sp_=([("beat" :Str),cp b,("happenings" :Str),cp m]:List Str):=by
 rw [hZ,gI];refine dg (by simp) fun p hp=>?_
 simp only [aw,aL,or_false] at hp
 rcases hp with rfl | rfl | rfl | rfl
 ·decide +kernel
 ·exact eH hb (by decide)
 ·decide +kernel
 ·exact eH hm (by decide)
structure NetN (b m:Int)(sp:List (List Int)):Prop where
 b60:W60 b
 m60:W60 m
 few:sp.length≤40
 five:∀ ns∈sp,ns.length=5
 s60:∀ ns∈sp,∀ i∈ns,W60 i
theorem net_split (h:NetN b m sp):aD (netT b m sp) nl_=dI b m::sp.map fz:=by
 unfold netT;rw [nl_eq];refine dg (by simp) fun p hp=>?_
 rcases aw.mp hp with rfl | hp
 ·exact head_free h.b60 h.m60
 ·obtain ⟨ns,hn,rfl⟩:=cQ.mp hp
  exact row_free (h.s60 ns hn)
theorem gS {α:Type}(f:α→Nat)(k:Nat):∀ (l:List α),(∀ x∈l,f x≤k)→(l.map f).sum≤l.length * k
 | [],_=>by simp
 | x::r,h=>by
  have h1:=h x (by simp);have h2:=gS f k r fun y hy=>h y (aT _ hy)
  simp only [cH,List.sum_cons,aN,Nat.add_mul];lia
theorem nums_sum (h:∀ i∈ns,W60 i):((ns.map cp).map (·.length)).sum≤ns.length * 60:=by
 rw [d2];exact gS _ 60 ns fun i hi=>eQ (h i hi)
theorem row_len (h:∀ i∈ns,W60 i):(fz ns).length≤ns.length * 61:=by
 unfold fz;rw [show bV sp_ (ns.map cp)=bw sp_ (ns.map cp) from bR _ _];have h1:=dX sp_ (ns.map cp);have h2:=nums_sum h;have h3:(sp_:Str).length=1:=by trivial
 rw [af,h3] at h1;lia
theorem head_len (hb:W60 b)(hm:W60 m):(dI b m).length≤137:=by
 unfold dI;have h1:=eQ hb;have h2:=eQ hm;have h3:("beat " :Str).length=5:=by trivial
 have h4:(" happenings " :Str).length=12:=by trivial
 simp only [dq,h3,h4];lia
theorem rows_sum (h:NetN b m sp)(k:Nat):(((dI b m::(sp.take k).map fz)).map (·.length)).sum≤12337:=by
 rw [cH,List.sum_cons,d2];have h1:=head_len h.b60 h.m60;have h2:((sp.take k).map ((fun x:Str=>x.length) ∘ fz)).sum≤(sp.take k).length * 305:=gS _ 305 _ fun ns hn=>by
  have hm:=bD hn;have:=row_len (h.s60 ns hm);have:=h.five ns hm;show (fz ns).length≤305;lia
 have h3:=h.few;rw [bq] at h2;have:min k sp.length * 305≤40 * 305:=Nat.mul_le_mul_right _ (by lia);lia
def partT (b m:Int)(sp:List (List Int))(k:Nat):Str:=bV nl_ (dI b m::(sp.take k).map fz)
theorem part_all (b m:Int)(sp:List (List Int)):partT b m sp sp.length=netT b m sp:=by unfold partT netT;rw [ck]
theorem part_len (h:NetN b m sp)(k:Nat):(partT b m sp k).length≤12400:=by
 unfold partT;rw [show bV nl_ (dI b m::(sp.take k).map fz)=bw nl_ (dI b m::(sp.take k).map fz) from bR _ _];have h1:=dX nl_ (dI b m::(sp.take k).map fz);have h2:=rows_sum h k;have h3:(nl_:Str).length=1:=by trivial
 have h4:=h.few;rw [h3,aN,af,bq] at h1;lia
theorem net_len (h:NetN b m sp):(netT b m sp).length≤12400:=by
 rw [←part_all];exact part_len h _
end HN
namespace L2
open PySem PySem.Spec PyProof.Rows
theorem call_int_str:eN X (.type "int") (fun xs H Q=>∃ x n,xs=[.str x]∧dZ x=some n∧x.length≤640∧Q (.int n) H):=by
 intro ak s σ H xs us Q I r h;obtain ⟨x,n,rfl,hn,hl,q⟩:=h;obtain ⟨u,rfl,ru⟩:=vals1 r;obtain ⟨t,rfl⟩:=(show ∃ t,u=aa.str x t from ru);exact PySem.W.KIN.call_text hn hl ⟨.int n,H,I.tok _,⟨_,rfl⟩,q⟩
theorem noteFrame_env {env':Env}(e:aa)(h:env.frame=env'.frame):noteFrame e env=noteFrame e env':=by unfold PySem.noteFrame PySem.frameOf;rw [h]
theorem ee.seat (x:ee P w H h a o):∃ u,h.get? a=some u:=by
 cases o with
 | lst xs=>obtain ⟨_,_,_,_,e⟩:=x;exact ⟨_,e⟩
 | tup xs=>obtain ⟨_,_,_,u,e,_⟩:=x;exact ⟨u,e⟩
 | dK kvs=>obtain ⟨_,_,_,_,u,_,_,e,_⟩:=x;exact ⟨u,e⟩
 | dT kvs=>obtain ⟨_,_,_,_,u,_,_,e,_⟩:=x;exact ⟨u,e⟩
 | set S n=>obtain ⟨u,_,_,_,e,_⟩:=x;exact ⟨u,e⟩
 | ins C dx fs=>obtain ⟨_,_,_,e,_⟩:=x;exact ⟨_,e⟩
 | own y=>exact x
 | xd fs=>obtain ⟨_,⟨u,_,_,e,_⟩,_⟩:=x;exact ⟨u,e⟩
 | rng lo hi=>obtain ⟨_,_,_,e⟩:=x;exact ⟨_,e⟩
 | frz ob u=>exact ⟨_,x.1⟩
 | tbl ps=>exact ⟨_,(show h.get? a=some _ from x)⟩
 | met f y=>exact ⟨_,(show h.get? a=some _ from x)⟩
 | ext φ=>exact x.2.1
structure fh (B:bg)(l:List Env)(x:aj)(cls:aa)(dct:Option aj)(h:bg):Prop where
 st:B.StaysIn h
 no:B.get? x=none
 fr:h.FunFrames B l
 tr:∃ a0 fl,h.TracedAtW B x cls a0 fl
 dc:∃ o,h.get? x=some o∧o.dict=dct
theorem ik (f:Array aa→Array aa)(o:Obj):(dR f o).dict=o.dict:=by
 obtain ⟨a,b,c,d⟩:=o;cases c <;> rfl
section
variable {l:List Env}{L x:aj}{cls:aa}
theorem entry_any {us:Array aa}{top z0:aa}{nx:Bool}(hfr:A.frames=some (env::outer))(fr:s.heap.FunFrames B (env::outer))(hf:env.frame=some L)(e1:s.heap.get? x=some ox)(st:B.StaysIn s.heap)(no:B.get? x=none)
  (ed:ox.data= .fields us) (big:1<us.size) (e0:us[0]? =some z0) (q:∀ g,fh B (env::outer) x ox.cls ox.dict g→s.heap.UpToSlots g→Q () { s with heap:=g }) :
  ba M A (do let a ← frameOf env;let pl ← entryPlaceOf L nx;let b ← EntryCells.newEntry top a .none (rawInt L) .none pl;setField (.ref x) 1 b) Q E s:=by
 have away:x ∉ (env::outer).filterMap (·.frame):=by
  intro z;obtain ⟨_,o,p,r⟩:=fr.mem z;rw [e1] at p;cases p;exact r us ed
 refine aJ (wpAny_frameOf_fun hfr fr hf fun h1 k1=>aJ (wpAny_entryPlaceOf fun pl isp=>?_));unfold EntryCells.newEntry newFields;refine aJ (wpAny_newObj_type ?_ (isp.sizeOk5 _ _ _ _ _));have x1:h1.get? x=some ox:=(k1.2.1 x away).trans e1;have st1:B.StaysIn h1:=fun b o p=>(k1.2.1 b fun z=>by rw [(fr.mem z).1] at p;cases p).trans (st b o p)
 generalize hT:({ cls:= .type "traceback",dict:=none,data:= .fields ([top,.ref L,.none,rawInt L,.none]++(if pl.isEmpty then List.replicate 6 aa.none else pl)).toArray }:Obj)=T;have dT:T.data= .fields ([top,.ref L,.none,rawInt L,.none]++(if pl.isEmpty then List.replicate 6 aa.none else pl)).toArray:=by rw [←hT]
 have x2:=ar (h:=h1) T x1;have far:h1.objs.size≠x:=Nat.ne_of_gt (au x1);have d3:=Obj.data_mapFields ed (·.setIfInBounds 1 (aa.ref h1.objs.size));have x3:=bg.get?_update_self (dR (·.setIfInBounds 1 (aa.ref h1.objs.size))) x2 (Obj.isFreed_of_fields d3);have t3:=(cF (h1.push T) (dR (·.setIfInBounds 1 (aa.ref h1.objs.size))) far.symm).trans (aW h1 (by rw [←hT];rfl));have stay:∀ b o,b≠x→h1.get? b=some o→((h1.push T).update x (dR (·.setIfInBounds 1 (aa.ref h1.objs.size)))).get? b=some o:=fun b o n p=>by
  rw [cF _ _ n.symm];exact ar _ p
 have notx:∀ b o,s.heap.get? b=some o→(∀ vs,o.data≠ .fields vs)→b≠x:=fun b o p r z=>by
  rw [z,e1] at p;cases p;exact r us ed
 refine wpAny_setField x2 ed big (q _ ⟨fun b o p=>stay b o (fun z=>by rw [z,no] at p;cases p) (st1 b o p),no,fr.of_keeps fun b o p r=>?_,⟨z0,rawInt L,?_⟩,⟨_,x3,ik _ _⟩⟩ fun b o p r=>?_)
 ·obtain ⟨sl,p2⟩:=k1.2.2 b o p
  exact ⟨_,stay b _ (notx b o p r) p2,rfl⟩
 ·exact ⟨_,_,h1.objs.size,T,_,x3,⟨Obj.cls_mapFields _ _,by rw [Array.getElem?_setIfInBounds_ne (by decide)];exact e0⟩,d3,by simp [big],st1.fresh,far,t3,dT,by first | (simp;done) | (rcases isp with rfl | ⟨_,_,_,_,_,_,_,rfl⟩ <;> simp)⟩
 ·obtain ⟨sl,p2⟩:=k1.2.2 b o p
  exact ⟨sl,stay b _ (notx b o p r) p2⟩
theorem note_any (hfr:A.frames=some (env::outer))(hf:env.frame=some L)(a:fh B (env::outer) x cls dct s.heap)
  (q:∀ g,fh B (env::outer) x cls dct g→s.heap.UpToSlots g→Q () { s with heap:=g }):ba M A (noteFrame (.ref x) env) Q E s:=by
 obtain ⟨a0,fl,ht⟩:=a.tr
 by_cases hfl:fl=rawInt L
 ·subst hfl
  exact wpAny_noteFrame_againW hf ht (q s.heap a (bg.UpToSlots.refl _))
 ·obtain ⟨ox,vx,T,ot,vt,e1,⟨ec,e0⟩,e2,e3,n1,n2,e4,e5,e6⟩:=ht
  subst ec;obtain ⟨ox',e1',ed⟩:=a.dc;rw [e1] at e1';cases e1';subst ed;unfold noteFrame;simp only [hf];refine aJ (wpAny_field e1 e2 e3 ?_);rw [iF (by simp:(aa.ref T != aa.none)=true)];refine aJ (wpAny_field e4 e5 e6 ?_);rw [iE (by intro z;exact hfl (eq_of_beq z))];refine aJ (wpAny_setField e4 e5 (dt.mp e6).1 ?_);have away:∀ b,b≠T→(s.heap.update T (dR (·.setIfInBounds 3 aa.none))).get? b=s.heap.get? b:=fun b hb=>cF _ _ hb.symm
  have apart:∀ b o,s.heap.get? b=some o→(∀ vs,o.data≠ .fields vs)→b≠T:=fun b o hb hn z=>by
   rw [z,e4] at hb;cases hb;exact hn vt e5
  refine entry_any (s:={ s with heap:=s.heap.update T (dR (·.setIfInBounds 3 aa.none)) }) hfr (a.fr.of_keeps fun b o hb hn=>⟨o,(away b (apart b o hb hn)).trans hb,rfl⟩) hf ((away x n2.symm).trans e1) (fun b o hb=>(away b fun z=>by rw [z,n1] at hb;cases hb).trans (a.st b o hb)) a.no e2 (dt.mp e3).1 e0 fun g hg u=>?_
  exact q g hg fun b o hb hn=>u b o ((away b (apart b o hb hn)).trans hb) hn
theorem gT {fr:Option aj}(a:fh B l x cls dct s.heap)(q:∀ g,fh B l x cls dct g→s.heap.UpToSlots g→Q () { s with heap:=g }):ba M A (setFlight (.ref x) fr) Q E s:=by
 obtain ⟨a0,fl,ht⟩:=a.tr;obtain ⟨ox,vx,T,ot,vt,e1,ec,e2,e3,n1,n2,e4,e5,e6⟩:=ht;have s3:3<vt.size:=(dt.mp e6).1;have away:∀ b,b≠T→(s.heap.update T (dR (·.setIfInBounds 3 (fr.elim aa.none fun f=>rawInt f)))).get? b=s.heap.get? b:=fun b hb=>cF _ _ hb.symm
 have apart:∀ b o,s.heap.get? b=some o→(∀ vs,o.data≠ .fields vs)→b≠T:=fun b o hb hn z=>by
  rw [z,e4] at hb;cases hb;exact hn vt e5
 unfold setFlight;refine aJ (wpAny_field e1 e2 e3 ?_);rw [iF (by simp:(aa.ref T != aa.none)=true)];refine wpAny_setField e4 e5 s3 (q _ ⟨fun b o hb=>(away b fun z=>by rw [z,n1] at hb;cases hb).trans (a.st b o hb),a.no,a.fr.of_keeps fun b o hb hn=>⟨o,(away b (apart b o hb hn)).trans hb,rfl⟩,⟨a0,fr.elim aa.none fun f=>rawInt f,?_⟩,?_⟩ fun b o hb hn=>⟨o.slots,(away b (apart b o hb hn)).trans hb⟩)
 ·exact ⟨ox,vx,T,_,_,(away x n2.symm).trans e1,ec,e2,e3,n1,n2,bg.get?_update_self _ e4 (Obj.isFreed_of_fields (Obj.data_mapFields e5 _)),Obj.data_mapFields e5 _,by simp [s3]⟩
 ·obtain ⟨o,p,r⟩:=a.dc
  exact ⟨o,(away x n2.symm).trans p,r⟩
theorem pass_any {what:String}{ev:Env}{Q:α→ai→Prop}(a:fh B l x cls dct s.heap)(q:∀ g,fh B l x cls dct g→s.heap.UpToSlots g→E (.ref x) { s with heap:=g }):ba M A (PySem.passOn what (.ref x) ev:Sem α) Q E s:=by
 obtain ⟨a0,fl,ht⟩:=id a.tr;obtain ⟨ox,vx,T,ot,vt,e1,ec,e2,e3,n1,n2,e4,e5,e6⟩:=ht;unfold PySem.passOn;refine aJ (wpAny_field e1 e2 e3 ?_);rw [iE (by simp:¬ (aa.ref T == aa.none)=true)];exact aJ (gT a fun g a' u=>wpAny_throw (q g a' u))
theorem leave_any (hfr:A.frames=some (env::outer))(hf:env.frame=some L)(a:fh B (env::outer) x cls dct s.heap)(q:∀ g,fh B outer x cls dct g→s.heap.UpToSlots g→Q () { s with heap:=g }) :
  ba M A (leaving env (.ref x)) Q E s:=by
 unfold leaving;refine aJ (note_any hfr hf a fun g hg u=>?_);refine gT (s:={ s with heap:=g }) hg fun g2 a2 u2=>?_
 exact q g2 ⟨a2.st,a2.no,a2.fr.2.2,a2.tr,a2.dc⟩ (u.trans u2)
theorem first_any {us:Array aa}{z0:aa}(hfr:A.frames=some (env::outer))(fr:s.heap.FunFrames B (env::outer))(hf:env.frame=some L)(e1:s.heap.get? x=some ox)(st:B.StaysIn s.heap)(no:B.get? x=none)
  (ed:ox.data= .fields us) (en:us[1]? =some .none) (e0:us[0]? =some z0) (q:∀ g,fh B outer x ox.cls ox.dict g→s.heap.UpToSlots g→Q () { s with heap:=g }):ba M A (leaving env (.ref x)) Q E s:=by
 unfold leaving noteFrame;simp only [hf];refine aJ (aJ (wpAny_field e1 ed en ?_));rw [iE (by decide)];refine entry_any hfr fr hf e1 st no ed (dt.mp en).1 e0 fun g hg u=>?_
 refine gT (s:={ s with heap:=g }) hg fun g2 a2 u2=>?_
 exact q g2 ⟨a2.st,a2.no,a2.fr.2.2,a2.tr,a2.dc⟩ (u.trans u2)
end
structure Air (P:aP)(w:bj)(fs ex:List aj)(H0:Hp)(h0 B:bg)(H':Hp)(h:bg):Prop where
 hok:HOk P w H' B
 keep:∀ b o,h0.get? b=some o→H0 b=none→b ∉ fs→b ∉ ex→B.get? b=some o
 there:∀ b o,h0.get? b=some o→b ∉ fs→b ∉ ex→∃ o',B.get? b=some o'
 free:∀ b o,h0.get? b=some o→H0 b=none→b ∉ ex→H' b=none
 tups:∀ b xs,H0 b=some (.tup xs)→H' b=some (.tup xs)
 frzs:∀ b o u,H0 b=some (.frz o u)→H' b=some (.frz o u)
 tbls:∀ b ps,H0 b=some (.tbl ps)→∃ more,H' b=some (.tbl (ps++more))
 slot:∀ b o,h0.get? b=some o→H0 b=none→b∈fs→b ∉ ex→∃ sl,h.get? b=some { o with slots:=sl }
section
variable {fs:List aj}{H0:Hp}{h0 h2:bg}
theorem Air.un (a:Air P w fs ex H0 h0 B H' h)(st:B.StaysIn h)(frf:∀ b∈fs,H0 b=none):Un fs ex H0 H' h0 h where
 keep:=fun b o e n hb hx=>st b o (a.keep b o e n hb hx)
 slot:=fun b o e n hb hx=>a.slot b o e n hb hx
 free:=fun b o e n hx=>a.free b o e n hx
 there:=fun b o e hx=>by
  by_cases hb:b∈fs
  ·obtain ⟨sl,q⟩:=a.slot b o e (frf b hb) hb hx
   exact ⟨_,q⟩
  ·obtain ⟨o',q⟩:=a.there b o e hb hx
   exact ⟨o',st b o' q⟩
 tups:=a.tups
 frzs:=a.frzs
 tbls:=a.tbls
theorem Air.up {l:List Env}{B':bg}(a:Air P w (frs l) ex H0 h0 B H' h)(fr:h.FunFrames B' l)(u:h.UpToSlots h2):Air P w (frs l) ex H0 h0 B H' h2 :=
 ⟨a.hok,a.keep,a.there,a.free,a.tups,a.frzs,a.tbls,fun b o e n hb hx=>by
  obtain ⟨sl,q⟩:=a.slot b o e n hb hx;obtain ⟨_,o2,q2,hn⟩:=fr.mem hb;rw [q] at q2;cases q2;obtain ⟨sl2,q3⟩:=u b _ q hn;exact ⟨sl2,q3⟩⟩
theorem Air.after {fs' ex':List aj}{h1:bg}(u:Un fs' ex' H0 H1 h0 h1)(a:Air P w fs ex H1 h1 B H' h)(hf:∀ b o,h0.get? b=some o→b ∉ fs'→b ∉ fs)(hi:∀ b o,h0.get? b=some o→b∈fs'→b∈fs)(hx:∀ b o,h0.get? b=some o→b ∉ ex'→b ∉ ex):Air P w fs' ex' H0 h0 B H' h:=by
 refine ⟨a.hok,fun b o e n hb hxx=>?_,fun b o e hb hxx=>?_,fun b o e n hxx=>?_,fun b xs e=>a.tups b xs (u.tups b xs e),fun b o u' e=>a.frzs b o u' (u.frzs b o u' e),fun b ps e=>?_,fun b o e n hb hxx=>?_⟩
 ·exact a.keep b o (u.keep b o e n hb hxx) (u.free b o e n hxx) (hf b o e hb) (hx b o e hxx)
 ·obtain ⟨o',e'⟩:=u.there b o e hxx
  exact a.there b o' e' (hf b o e hb) (hx b o e hxx)
 ·obtain ⟨o',e'⟩:=u.there b o e hxx
  exact a.free b o' e' (u.free b o e n hxx) (hx b o e hxx)
 ·obtain ⟨m1,e1⟩:=u.tbls b ps e
  obtain ⟨m2,e2⟩:=a.tbls b _ e1;exact ⟨m1++m2,by rw [e2,Array.append_assoc]⟩
 ·obtain ⟨sl,e1⟩:=u.slot b o e n hb hxx
  obtain ⟨sl2,e2⟩:=a.slot b _ e1 (u.free b o e n hxx) (hi b o e hb) (hx b o e hxx);exact ⟨sl2,e2⟩
end
def CXE (P:aP)(w:bj)(ex:List aj):CXT:=fun outer H s E e s'=>∃ (x:aj) (cls:aa) (dct:Option aj) (B:bg) (H':Hp),e= .ref x∧s'.os=s.os∧AllBare s'.gens∧fh B outer x cls dct s'.heap∧Air P w (frs outer) ex H s.heap B H' s'.heap∧E cls dct H'
abbrev CXN (P:aP)(w:bj):CXT:=CXE P w []
theorem Inv.air1 {x:aj}(I:Inv X ak σ H s)(nx:H x=none):∃ B:bg,B.StaysIn s.heap∧s.heap.FunFrames B X.stack∧B.get? x=none∧Air X.prog X.w (frs X.stack) [x] H s.heap B H s.heap:=by
 have hb:∀ b o,s.heap.get? b=some o→b ∉ frs X.stack→b≠x→(cv s.heap (x::frs X.stack)).get? b=some o:=fun b o e n nb=>PySem.W.hideAll_get _ e (by simp [nb,n])
 refine ⟨cv s.heap (x::frs X.stack),fun b o e=>PySem.W.of_hideAll _ e,PySem.W.funFrames_hide I.stack fun env he b hf=>aT _ (c9.mpr ⟨env,he,hf⟩),PySem.W.hideAll_none _ (cm ..),?_⟩;refine ⟨fun a o e=>(I.hok a o e).stay (fun b u hbu q=>hb b u q (fun hm=>?_) fun z=>?_) (fun _ q=>q) fun _ _ q=>q,fun b o e _ n nx'=>hb b o e n (by simpa using nx'),fun b o e n nx'=>⟨o,hb b o e n (by simpa using nx')⟩,fun _ _ _ n _=>n,fun _ _ e=>e,fun _ _ _ e=>e,fun b ps e=>⟨#[],by simpa using e⟩,fun b o e _ _ _=>⟨o.slots,e⟩⟩
 ·have z:=I.stkFree b hm
  rcases hbu with rfl | hbu
  ·rw [e] at z;cases z
  ·rw [hbu] at z;cases z
 ·subst z
  rcases hbu with rfl | hbu
  ·rw [e] at nx;cases nx
  ·rw [hbu] at nx;cases nx
theorem Air.out (I:Inv X ak σ H s)(a:Air X.prog X.w (frs X.stack) ex H s.heap B H' h)(hex:X.ex=[])(hst:X.stack=X.env::X.outer)(hfr:X.env.frame=some X.env.locals)(hx:∀ b∈ex,X.s₀.heap.get? b=none) :
  Air X.prog X.w (frs X.outer) [] X.H₀ X.s₀.heap B H' h:=by
 have mem:∀ b,b∈frs X.stack↔b=X.env.locals∨b∈frs X.outer:=fun b=>by
  unfold frs;rw [hst,eM,hfr];simp
 have old:∀ b o,X.s₀.heap.get? b=some o→b≠X.env.locals:=fun b o e z=>by
  have h1:=au e;have h2:=I.ok.above;rw [z] at h1;exact bW _ (aH h1 h2)
 have un:Un (frs X.outer) X.ex X.H₀ H X.s₀.heap s.heap:=I.base;rw [hex] at un;exact Air.after un a (fun b o e n z=>((mem b).mp z).elim (old b o e) n) (fun b o e hb=>(mem b).mpr (.inr hb)) fun b o e _ z=>by have q:=hx b z;rw [e] at q;cases q
structure XDef (X:Cx)(E:XK):Prop where
 ex:X.ex=[]
 stk:X.stack=X.env::X.outer
 fr:X.env.frame=some X.env.locals
 any:∀ (ak:List (aj×Obj)) (σ:St) (H:Hp) (s:ai) (e:aa) (s':ai) (ex:List aj),Inv X ak σ H s→(∀ b∈ex,X.s₀.heap.objs.size≤b)→CXE X.prog X.w ex X.stack H s E e s'→X.xe e s'
 made:∀ (ak:List (aj×Obj)) (σ:St) (H:Hp) (s:ai) (x:aj) (ox:Obj) (us:Array aa) (z0:aa),Inv X ak σ H s→H x=none→X.s₀.heap.get? x=none→s.heap.get? x=some ox→ox.data= .fields us→us[1]? =some .none→us[0]? =some z0→E ox.cls ox.dict H→X.xe (.ref x) s
theorem XDef.pass {E:XK}(D:XDef X E):gs (CXN X.prog X.w) X E:=fun ak σ H s e s' I h=>D.any ak σ H s e s' [] I (fun b hb=>iG hb (by simp)) h
theorem xdef_of {cd:aa}{s0:ai}{H0:Hp}{E:XK} :
  XDef (cxOf (CXN P w) P w K mg base N qual scope f cd A outer s0 H0 E) E:=by
 refine ⟨rfl,rfl,rfl,?_,?_⟩
 ·intro ak σ H s e s' ex I hx hc
  obtain ⟨x,cls,dct,B,H',rfl,os,bare,al,air,hE⟩:=hc;have out:=Air.out I air rfl rfl rfl fun b hb=>bg.get?_none_of_le (hx b hb)
  refine leave_any (env:=envOfC qual scope s0.heap.objs.size f cd) (outer:=outer) I.ok.frames rfl al fun g ag u=>?_
  refine ⟨x,cls,dct,B,H',rfl,os.trans I.os,bare,ag,Air.up out al.fr.2.2 u,hE⟩
 ·intro ak σ H s x ox us z0 I nx far e1 ed en e0 hE
  obtain ⟨B,b1,b2,b3,air⟩:=I.air1 nx;have out:=Air.out I air rfl rfl rfl fun b hb=>by rw [ay.mp hb];exact far
  refine first_any (env:=envOfC qual scope s0.heap.objs.size f cd) (outer:=outer) I.ok.frames b2 rfl e1 b1 b3 ed en e0 fun g al u=>?_
  exact ⟨x,ox.cls,ox.dict,B,H,rfl,I.os,I.bare,al,Air.up out b2.2.2 u,hE⟩
theorem Fun.okX {sp:Sp}(F:Fun K x qual st f fd)(S:cj N ps (defScope st))(len:∀ vs H Q E,sp vs H Q E→vs.length=ps.length)
  (hbody:∀ (cdv:aa) (A:bO) (outer:List Env) (s:ai) (H:Hp) (vs:List V) (Q:VK) (E:XK),fM k (A.deeper (envOfC qual (defScope st) s.heap.objs.size f cdv))→XDef (cxOf (CXN P w) P w K mg base N qual (defScope st) f cdv A outer s H E) E→sp vs H Q E →
   ∃ t,PSs (cxOf (CXN P w) P w K mg base N qual (defScope st) f cdv A outer s H E) (fq st) t∧t { nx:=fun _ H'=>Q .non H',rt:=Q } (start N vs) H):da P w K mg base (CXN P w) (k+1) f fd ps sp:=by
 obtain ⟨oc,od,kV,doc,pm,an,cdv,ct,osl,rfl,lk,hcd⟩:=F.ex;exact fn_of lk hcd S len fun A outer s H vs Q E hr hsp=>hbody cdv A outer s H vs Q E hr xdef_of hsp
structure Exc (K:ah)(mg:Str→Option aa)(x:Str)(C:aj):Prop where
 mg:mg x=some (.ref C)
 ok:PySem.W.excIn K C [.type "ValueError",.type "Exception",.type "BaseException",.type "object"] "ValueError.__new__" =true
theorem own_at {bmB:List aa}{newId:String}(X:K.In h)(hm:mg x=some (.ref C))(q:PySem.W.excIn K C bmB newId=true):OwnCls x C bmB newId mg h:=by
 refine ⟨hm,?_⟩;unfold PySem.W.excIn at q;split at q
 ·rename_i dd cd sl ho
  split at q
  ·rename_i C' bm k0 k1 k2 k3 n k5 h1 h2
   simp only [bf,beq_iff_eq,Bool.not_eq_true'] at q;obtain ⟨⟨⟨⟨⟨rfl,rfl⟩,h3⟩,h4⟩,h5⟩,h6⟩:=q;obtain ⟨nm,bs,mro,ns,qn,hd,sn,sub,ab,col,del⟩:=cd
   dsimp only at h1 h3 h5 h6
   subst h1 h3;have e:sl= #[k0,k1,k2,k3,some (.builtin n),k5]:=by
    obtain ⟨l⟩:=sl;simp only at h2;rw [h2]
   subst e;exact ⟨bm,ns,nm,qn,bs,hd,sn,sub,ab,col,dd,k0,k1,k2,k3,k5,_,X _ _ ho,.of_isNs (PySem.W.isNs_of_in X h5),PySem.W.nsMap_none_of_in X h5 h6,PySem.W.tail_of_in X h4⟩
  ·cases q
 ·cases q
theorem gk {E:XK}{np:Pos}(XD:XDef X E)(hc:X.calm=true)(T:Exc X.K X.mg x C)(he:PE X e te)(hg:Gl X x:=by rfl)(hd:(x == ("__debug__" :Str))=false:=by decide)
  (hs:aQ [e] X.env=[(false,dW e X.env)]:=by rfl):PS X (.Raise (some (.Call (.Name x np) [e] [] cpos)) none pos) (fun _ σ H=>te σ H fun _ H1=>E (.ref C) none H1):=by
 intro ak s σ H D I h;obtain ⟨tl,N,nm,q,bs,hdct,sn,sub,ab,col,dd,k0,k1,k2,k3,k5,mN,hC,hN,hni,TL⟩:=(own_at I.ok.mod.kin T.mg T.ok).obj;have FB:=PySem.F.excBase_ValueError;refine wpAny_Raise_call_subT (C:=C) (nm:=nm) (q:=q) (N:=N) (bs:=bs) (bm:=tl) (hdct:=hdct) (sn:=sn) (sub:=sub) (ab:=ab) (col:=col) (dd:=dd) (k0:=k0) (k1:=k1) (k2:=k2) (k3:=k3) (k5:=k5)
  FB (mN:=mN) (TL.hasType FB.hasBase) (I.ok.hd hc) (by rw [hs];rfl) hni (gy I hg T.mg ⟨rfl,?_⟩ hd)
 rw [hs];refine Calls.evalArgs_plain ?_;refine dS (thn (he ak s σ H _ I h) fun v s1 ⟨y,H1,I1,r1,q1⟩=>?_);refine Calls.spliced_nil ⟨rfl,by show 1≤ax;decide,I1.bk _ _ hC,hN.keeps I1.bk,TL.keeps I1.bk,fun h' x' hm=>?_⟩;obtain ⟨tt,ht,hn2,_⟩:=hm.there;have I2:Inv X ak σ H1 { s1 with heap:=h' }:=I1.kept (t':=s1.toks) hm.keeps;have hx1:H1 x'=none:=by
  cases z:H1 x' with
  | none=>rfl
  | some o =>
   obtain ⟨u,e⟩:=ee.seat (I1.hok x' o z);rw [hm.new] at e;cases e
 have hx2:X.s₀.heap.get? x'=none:=by
  cases z:X.s₀.heap.get? x' with
  | none=>rfl
  | some o =>
   obtain ⟨u,e⟩:=I1.base.there x' o z (by rw [XD.ex];simp);rw [hm.new] at e;cases e
 exact XD.made ak σ H1 _ x' _ _ _ I2 hx1 hx2 ht rfl rfl rfl q1
def CompErr (X:Cx)(C:aj)(e:aa)(s':ai):Prop:=∃ m,s'.heap.Ns C m∧∀ h',bg.SameBut C s'.heap h'→∀ cenv:Env,cenv.locals=C→ba (aX X.prog X.w) X.A (PySem.passOn "comprehension.variables-let-go" e cenv:Sem aa) (fun _ _=>False) X.xe { s' with heap:=h' }
def dr (X:Cx)(scope:Scope)(cl:List (Str×aj))(C:aj)(N:List Str)(s:ai)(H:Hp)(ex:List aj):Cx :=
 { X with N:=N,s₀:=s,H₀:=H,env:=compEnvC scope cl C X.env,outer:=X.stack,ex:=ex,fn:=fun _=>false,pn:=[],xe:=notedBy (aX X.prog X.w) X.A (compEnvC scope cl C X.env) (CompErr X C) }
theorem gG {g g2 B B2:bg}:∀ {l:List Env},g.FunFrames B l→(∀ b∈frs l,∀ o,g.get? b=some o→g2.get? b=some o)→(∀ b,B.get? b=none→B2.get? b=none)→g2.FunFrames B2 l
 | [],_,_,_=>trivial
 | env::r,⟨hk,⟨L,o,hf,hn,ho,hd⟩,hr⟩,k,kb=>⟨hk,⟨L,o,hf,kb L hn,k L (c9.mpr ⟨env,cm ..,hf⟩) o ho,hd⟩,gG hr (fun b hb=>k b (by
   obtain ⟨e',he,hf'⟩:=c9.mp hb;exact c9.mpr ⟨e',aT _ he,hf'⟩)) kb⟩
theorem xcomp_pass {E:XK}{cl:List (Str×aj)}{s2:ai}(XD:XDef X E)(I2:Inv X ak σ H2 s2)(hf:∀ b∈fp,X.s₀.heap.objs.size≤b)(hC:s2.heap.objs.size≤C) :
  gs (CXN X.prog X.w) (dr X scope cl C N s2 H2 fp) E:=by
 intro pins' σ' Hb sb e s' Ib hc;obtain ⟨x,cls,dct,B,H',rfl,os,bare,al,air,hE⟩:=hc;have al:fh B X.stack x cls dct s'.heap:=al;have air:Air X.prog X.w (frs X.stack) [] Hb sb.heap B H' s'.heap:=air;have hfr:X.A.frames=some (X.env::X.outer):=by rw [←XD.stk];exact Ib.ok.frames
 have al':fh B (X.env::X.outer) x cls dct s'.heap:=by rw [←XD.stk];exact al
 show ba _ _ (noteFrame (.ref x) (compEnvC scope cl C X.env)) _ _ s';rw [noteFrame_env (env:=compEnvC scope cl C X.env) (env':=X.env) (.ref x) rfl];refine note_any hfr XD.fr al' fun g hg u=>?_
 have hg:fh B X.stack x cls dct g:=by rw [XD.stk];exact hg
 obtain ⟨mC,hnC,_⟩:=id Ib.loc;have hnC:sb.heap.Ns C mC:=hnC;obtain ⟨oC,es,ep,hoC,rC⟩:=id hnC;have freeC:Hb C=none:=Ib.free;have nfs:∀ b∈frs X.stack,b≠C:=fun b hb z=>by
  obtain ⟨_,o,ho,_⟩:=I2.stack.mem hb;have:=au ho;rw [z] at this;exact bW _ (aH this hC)
 have bC:B.get? C=some oC:=air.keep C oC hoC freeC (fun z=>nfs C z rfl) (by simp);have HC:H' C=none:=air.free C oC hoC freeC (by simp);refine ⟨mC,⟨oC,es,ep,hg.st _ _ bC,rC⟩,fun h' same cenv _=>?_⟩;have hB2:∀ b o,b≠C→B.get? b=some o→(cv B [C]).get? b=some o:=fun b o hb e=>PySem.W.hideAll_get _ e (by simpa using hb)
 have ofB2:∀ b o,(cv B [C]).get? b=some o→B.get? b=some o∧b≠C:=fun b o e=>⟨PySem.W.of_hideAll _ e,fun z=>by
  rw [z,PySem.W.hideAll_none _ (by simp:C∈[C])] at e;cases e⟩
 have noB2:∀ b,B.get? b=none→(cv B [C]).get? b=none:=fun b hn=>by
  cases q:(cv B [C]).get? b with
  | none=>rfl
  | some o=>rw [(ofB2 b o q).1] at hn;cases hn
 have xC:x≠C:=fun z=>by have:=hg.no;rw [z,bC] at this;cases this
 have al2:fh (cv B [C]) X.stack x cls dct h':=by
  obtain ⟨a0,fl,ox,vx,T,ot,vt,e1,ec,e2,e3,n1,n2,e4,e5,e6⟩:=hg.tr;obtain ⟨od,p1,p2⟩:=hg.dc;have tC:T≠C:=fun z=>by rw [z,bC] at n1;cases n1
  refine ⟨fun b o e=>?_,noB2 x hg.no,gG hg.fr (fun b hb o e=>same.extBut b o (nfs b hb) e) noB2,⟨a0,fl,ox,vx,T,ot,vt,same.extBut x ox xC e1,ec,e2,e3,noB2 T n1,n2,same.extBut T ot tC e4,e5,e6⟩,⟨od,same.extBut x od xC p1,p2⟩⟩;obtain ⟨e1,e2⟩:=ofB2 b o e;exact same.extBut b o e2 (hg.st b o e1)
 refine pass_any (l:=X.stack) al2 fun g2 a2 u2=>?_
 have unb:Un (frs X.stack) fp H2 Hb s2.heap sb.heap:=Ib.base;have airc:Air X.prog X.w (frs X.stack) fp H2 s2.heap B H' s'.heap:=Air.after unb air (fun _ _ _ n=>n) (fun _ _ _ n=>n) fun _ _ _ _ z=>by cases z
 have lowC:∀ b o,s2.heap.get? b=some o→b≠C:=fun b o e z=>by
  have:=au e;rw [z] at this;exact bW _ (aH this hC)
 refine XD.any ak σ H2 s2 (.ref x) _ fp I2 hf ⟨x,cls,dct,cv B [C],H',rfl,os.trans Ib.os,bare,a2,?_,hE⟩;refine ⟨fun a o e=>(airc.hok a o e).stay (fun b v hbv q=>hB2 b v ?_ q) (fun _ q=>q) fun _ _ q=>q,fun b o e n hb hx=>hB2 b o (lowC b o e) (airc.keep b o e n hb hx),fun b o e hb hx=>?_,airc.free,airc.tups,airc.frzs,airc.tbls,fun b o e n hb hx=>?_⟩
 ·intro z
  rcases hbv with rfl | hbv
  ·rw [z,HC] at e;cases e
  ·rw [z,HC] at hbv;cases hbv
 ·obtain ⟨o',e'⟩:=airc.there b o e hb hx
  exact ⟨o',hB2 b o' (lowC b o e) e'⟩
 ·obtain ⟨sl,q⟩:=airc.slot b o e n hb hx
  obtain ⟨_,o2,q2,hn⟩:=al.fr.mem hb;rw [q] at q2;cases q2;obtain ⟨sl2,q3⟩:=u b _ q hn;have q4:=same.extBut b _ (nfs b hb) q3;obtain ⟨sl3,q5⟩:=u2 b _ q4 hn;exact ⟨sl3,q5⟩
theorem pe_compX {E:XK}{px:Pos}
  (XD:XDef X E) (hc:X.calm=true) (hi:PI X (.Name x px) iter wi)
  (fJ:∀ y∈scope.names,y.2≠ .cell) (gA:scope.kind= .function) (hX:∀ y∈scope.names,y.2= .local→scope.names.lookup y.1=some .local) (hx:scope.names.lookup x=some .local)
  (hfr:∀ y∈scope.names,y.2= .free→X.env.scope.names.lookup y.1=some .cell) (hnd:(x::fr).Nodup) (hjs:js.map (fun j=>X.N[j]?)=fr.map some) (hfv:∀ y∈fr,scope.names.lookup y=some .free)
  (hb:∀ cl C s' H' ex,gs (CXN X.prog X.w) (dr X scope cl C (x::fr) s' H' ex) E→PE (dr X scope cl C (x::fr) s' H' ex) elt te∧PTs (dr X scope cl C (x::fr) s' H' ex) ifs tt)
  (hs:∀ z,eo iter X.env z=pure z:=by intro _;rfl) :
  PE X (.ListComp elt [⟨.Name x px,iter,ifs,0⟩] scope pos) (tComp wi js tt te):=by
 intro ak s σ H Q I h;have hXk:X.env.scope.kind= .function:=I.ok.kind;obtain ⟨cl,hclos,c1,c2⟩:=ig (scope:=scope) (env:=X.env) fun y hy hk=>I.ok.has _ (.inl (hfr y hy hk))
 rw [eval_ListComp];refine wpAny_comprehension_free (use:=none) rfl hs hclos gA hX (thn (hi ak s σ H _ I h) fun xv s1 h1=>thn h1 fun itv s2 h2=>?_);obtain ⟨it,fp,tn,J,H2,rfl,I2,T,st2,f2,W,⟨m0,w0⟩,turn⟩:=h2;refine wpAny_newObj_type (wpAny_newFunctionEnv fJ (by intro y hy;simp at hy) (fun hA nsA sbA=>?_) gA)
 dsimp only at nsA sbA ⊢
 generalize hG:s2.heap.push { cls:= .type "list",dict:=none,data:= .seq ([]:List aa).toArray }=G at nsA sbA ⊢;have hC:G.objs.size=s2.heap.objs.size+1:=by rw [←hG,bg.size_push]
 have hDC:s2.heap.objs.size≠G.objs.size:=by rw [hC];exact bu (Nat.lt_succ_self _)
 have small:∀ b o,s2.heap.get? b=some o→b≠G.objs.size∧b≠s2.heap.objs.size:=fun b o e=>⟨by rw [hC];exact bu (Nat.lt_succ_of_lt (au e)),bu (au e)⟩
 have old:∀ b o,s2.heap.get? b=some o→hA.get? b=some o:=fun b o e=>sbA.extBut b o (small b o e).1 (ar _ (hG ▸ ar _ e))
 have hDA:hA.get? s2.heap.objs.size=some (gF [] 0):=sbA.extBut _ _ hDC (ar _ (hG ▸ aW _ rfl));have fpo:∀ b∈fp,∃ o,s2.heap.get? b=some o:=fun b hb=>let ⟨o,e,_⟩:=T.obj _ _ st2 b hb;⟨o,e⟩
 have celo:∀ y c,cl.lookup y=some c→∃ o,s2.heap.get? c=some o:=fun y c e=>let ⟨_,o,ho,_⟩:=I2.cell y c (c1 y c e);⟨o,ho⟩
 have ok':(dr X scope cl G.objs.size (x::fr) s2 H2 fp).Ok:=by
  refine ⟨I2.ok.mod,gA,I2.ok.glob,I2.ok.blt,?_,fun a b c e1 e2=>I2.ok.inj a b c (c1 a c e1) (c1 b c e2),fun y hy=>?_,fun _ _ z=>iG z (by intro q;cases q),I2.ok.hd,I2.ok.frames,.inl rfl,fun b hb=>?_,I2.bs,aR I2.ok.bsz I2.sz,fun b o e hb=>?_,fun b hb hz=>?_,I2.stack,I2.stkFree⟩
  ·show s2.heap.objs.size≤G.objs.size
   rw [hC];exact eJ _
  ·have hy:(relabel scope X.env).names.lookup y=some .cell∨(relabel scope X.env).names.lookup y=some .free:=hy
   have key:scope.names.lookup y=some .free:=by
    rcases hy with hy | hy
    ·rcases eY hy with q | ⟨q,_⟩
     ·exact iG rfl (fJ _ (bt q))
     ·exact q
    ·rcases eY hy with q | ⟨q,_⟩
     ·exact q
     ·exact q
   have hm:=bt key;obtain ⟨c,e⟩:=I.ok.has y (.inl (hfr _ hm rfl));exact ⟨c,(c2 _ hm rfl).trans e⟩
  ·obtain ⟨o,e⟩:=fpo b hb
   exact ⟨(small b o e).1,fun y c q=>(f2 b hb).2.2.2.2.1 y c (c1 y c q)⟩
  ·obtain ⟨_,_,_,f3,_⟩:=f2 b hb
   rcases f3 with f3 | f3
   ·exact I2.ok.noex b o e f3
   ·exact iG (aH (au e) (aR I2.ok.bsz f3)) (bW _)
  ·obtain ⟨_,n1,n2,_⟩:=f2 b hb
   exact (aw.mp (I2.stkSub b hz)).elim n1 n2
 have nofs:s2.heap.objs.size ∉ frs X.stack:=fun hz=>by
  obtain ⟨_,o,ho,_⟩:=I2.stack.mem hz;exact bW _ (au ho)
 have lenB:(bS σ js).length=fr.length:=by
  have e:=iK bY hjs;rw [af,af] at e;unfold bS;rw [af];exact e
 have start':∀ t,Inv (dr X scope cl G.objs.size (x::fr) s2 H2 fp) [(s2.heap.objs.size,gF [] 0)] (none::bS σ js) H2 { s2 with heap:=hA,toks:=t }:=fun t=>by
  refine ⟨ok',rfl,I2.bare,Un.kept old,⟨_,nsA,fun i y v e1 e2 e3=>?_⟩,fun y c e=>?_,I2.hok.fresh (by rw [hC];exact eJ _),fun y c e=>I2.freeC y c (c1 y c e),fun p hp=>?_,I2.hok.kept old,?_⟩
  ·cases i with
   | zero=>cases e2
   | succ i =>
    have e1:fr[i]? =some y:=by simpa [dr] using e1
    have e2:(bS σ js)[i]? =some (some v):=by simpa using e2
    unfold bS at e2;rw [aS] at e2;obtain ⟨j,ej,e2⟩:=b9.mp e2;have hN:X.N[j]? =some y:=by
     have q:=iK (fun l=>l[i]?) hjs;simp only [aS,ej,e1,Option.map_some] at q;exact aG q
    have hσ:σ[j]? =some (some v):=by
     cases z:σ[j]? with
     | none=>rw [z] at e2;cases e2
     | some w=>rw [z] at e2;exact iK some e2
    have hfree:=hfv y (aZ e1);have hm:=bt hfree;have hce:X.env.scope.names.lookup y=some .cell:=hfr _ hm rfl;obtain ⟨m,_,hl⟩:=I2.loc;obtain ⟨u,ru,look⟩:=hl j y v hN hσ (.inr (.inl hce));refine ⟨u,ru,.inr ⟨.inl (fE hXk hce hfree),?_⟩⟩
    rcases look with ⟨k,_⟩ | ⟨_,c,ec,ho⟩
    ·have k:X.env.scope.names.lookup y=some .local:=k
     rw [hce] at k;cases k
    ·obtain ⟨o,ho,hd⟩:=ho
     exact ⟨c,(c2 _ hm rfl).trans ec,o,old c o ho,hd⟩
  ·obtain ⟨v,o,ho,hd⟩:=I2.cell y c (c1 y c e)
   exact ⟨v,o,old c o ho,hd⟩
  ·have hp:p∈[(s2.heap.objs.size,gF [] 0)]:=hp
   have e:=ay.mp hp;subst e;exact ⟨hDA,I2.hok.fresh (aI _),hDC,nofs,fun v z=>by cases z⟩
  ·show (none::bS σ js).length=(x::fr).length
   rw [aN,aN,lenB]
 have fok:∀ {us:List aa} {n:Nat} {H':Hp},(∀ b∈fp,H' b=none)→∀ b∈fp,FpOk (dr X scope cl G.objs.size (x::fr) s2 H2 fp) [(s2.heap.objs.size,gF us n)] H' b:=fun {us n H'} hn b hb=>by
  obtain ⟨o,e⟩:=fpo b hb;refine ⟨hn b hb,(small b o e).1,fun hz=>(aw.mp (I2.stkSub b hz)).elim (f2 b hb).2.1 (f2 b hb).2.2.1,.inl hb,fun y c q=>(f2 b hb).2.2.2.2.1 y c (c1 y c q),fun p hp=>?_⟩;have hp:p∈[(s2.heap.objs.size,gF us n)]:=hp;have ep:=ay.mp hp;subst ep;exact fun z=>(small b o e).2 z.symm
 have hpass:gs (CXN X.prog X.w) (dr X scope cl G.objs.size (x::fr) s2 H2 fp) E:=xcomp_pass XD I2 (fun b hb'=>by
   obtain ⟨_,_,_,f3,_⟩:=f2 b hb'
   rcases f3 with f3 | f3
   ·rw [XD.ex] at f3;cases f3
   ·exact f3) (by rw [hC];exact eJ _)
 have loop:∀ sB:ai,(∃ t,sB={ s2 with heap:=hA,toks:=t }) →
   codeAny (aX X.prog X.w) X.A (.compLoop (.ListComp elt [⟨.Name x px,iter,ifs,0⟩] scope pos) 0 (.ref it) (.ref s2.heap.objs.size) (compEnvC scope cl G.objs.size X.env))
    (compPost (aX X.prog X.w) X.A X.xe none (EP X ak σ Q) (.ref s2.heap.objs.size) G.objs.size) sB:=by
  rintro sB ⟨t,rfl⟩;refine codeAny_compLoop_tests (fun k s'=>∃ i ys us n v0 H',Inv (dr X scope cl G.objs.size (x::fr) s2 H2 fp) [(s2.heap.objs.size,gF us n)] (v0::bS σ js) H' s'∧dM ys us∧ys.length≤ax∧tn i s'.heap∧(∀ b∈fp,H' b=none)∧W i k ys H') ?_ m0
   ⟨0,[],[],0,none,H2,start' t,.nil,cc _,T.keep _ _ _ st2 fun b hb o e=>old b o e,fun b hb=>(f2 b hb).1,w0⟩
  rintro k s3 ⟨i,ys,us,n,v0,H3,I3,rv,hlen,st3,fr3,w3⟩
  rcases turn i k ys H3 w3 with ⟨stop,qn⟩ | ⟨go,hlt,N',hN',step⟩
  ·refine thn (T.done (dr X scope cl G.objs.size (x::fr) s2 H2 fp) rfl rfl rfl hc i _ s3 _ H3 _ I3 (fok fr3) st3 stop) fun r s4 ⟨hr,I4⟩=>?_
   subst hr;obtain ⟨mC,hnC,_⟩:=id I4.loc;refine ⟨mC,hnC,fun h' hsb=>?_⟩;have hsb:bg.SameBut G.objs.size s4.heap h':=hsb;obtain ⟨pD,nD,_,_,_⟩:=I4.pin (s2.heap.objs.size,gF us n) (by show _∈[]++[_];simp);have pD:s4.heap.get? s2.heap.objs.size=some (gF us n):=pD;have nD:H3 s2.heap.objs.size=none:=nD;have nC:H3 G.objs.size=none:=I4.free;have hne:∀ b u,H3 b=some u→b≠G.objs.size:=fun b u e z=>by rw [z,nC] at e;cases e
   have ok4:HOk X.prog X.w H3 h':=fun b u e=>(I4.hok b u e).stay (fun c v hcc q=>hsb.extBut c v (by
    rcases hcc with z | z
    ·rw [z];exact hne b u e
    ·exact hne c _ z) q) (fun _ q=>q) fun _ _ q=>q
   have D2:∀ b o,s2.heap.get? b=some o→b≠s2.heap.objs.size:=fun b o e=>(small b o e).2
   have base4:Un (frs X.stack) fp H2 H3 s2.heap s4.heap:=I4.base;have u4:Un (frs X.stack) fp H2 (upd H3 s2.heap.objs.size (.lst ys)) s2.heap h' :=
    {keep:=fun b o e nb hb hx'=>hsb.extBut b o (small b o e).1 (base4.keep b o e nb hb hx')
     slot:=fun b o e nb hb hx'=>let ⟨sl,q⟩:=base4.slot b o e nb hb hx';⟨sl,hsb.extBut b _ (small b o e).1 q⟩
     free:=fun b o e nb hx'=>by rw [bU (D2 b o e)];exact base4.free b o e nb hx'
     there:=fun b o e hx'=>let ⟨o',q⟩:=base4.there b o e hx';⟨o',hsb.extBut b _ (small b o e).1 q⟩
     tups:=fun b xs e=>by have q:=base4.tups b xs e;rw [bU (br q nD)];exact q
     frzs:=fun b o u e=>by have q:=base4.frzs b o u e;rw [bU (br q nD)];exact q
     tbls:=fun b ps e=>by obtain ⟨more,q⟩:=base4.tbls b ps e;exact ⟨more,by rw [bU (br q nD)];exact q⟩ }
   refine ⟨.ref s2.heap.objs.size,upd H3 s2.heap.objs.size (.lst ys),I2.call' (s':={ s4 with heap:=h' }) (ch:=fp) I4.os u4 (ok4.take nD ⟨hlen,us,n,rv,hsb.extBut _ _ hDC pD⟩) I4.bare fun b hb=>?_,rfl,qn _ nD⟩;obtain ⟨_,g1,_,g3,g4,g5⟩:=f2 b hb;exact ⟨g3,g1,g4,g5⟩
  ·refine thn (T.item (dr X scope cl G.objs.size (x::fr) s2 H2 fp) rfl rfl rfl hc i _ s3 _ H3 _ I3 (fok fr3) st3 go) fun r s4 ⟨u,hr,h4⟩=>?_
   subst hr;show ba _ _ ((pure ():Sem Unit) >>= fun _=>assign (.Name x px) (compEnvC scope cl G.objs.size X.env) u) _ _ s4;refine aJ (thn h4 fun _ s5 ⟨v,H5,I5,r5,y5,st5,fr5⟩=>?_);have I5':=I5.pinned (fok fr5) (T.obj _ _ st5);have hPG:PG (dr X scope cl G.objs.size (x::fr) s2 H2 fp) (.Name x px) (gName 0):=pg_name hnd rfl (.inl (eV hx)) (.inr (eV hx));refine bN (hPG _ s5 _ H5 v u (fun σ2 H2=>σ2=some v::bS σ js∧H2=H5) I5' r5 ⟨rfl,rfl⟩) (fun _ s6 ⟨σ6,H6,I6,e6,e6'⟩=>?_) fun _ _ f=>f
   subst e6 e6';refine bN ((hb cl G.objs.size s2 H2 fp hpass).2 _ s6 _ H6 _ I6 (step v H6 y5)) (fun b s7 ⟨H7,I7,q7⟩=>?_) fun _ _ f=>f
   have back:∀ {s8:ai} {H8:Hp},Inv (dr X scope cl G.objs.size (x::fr) s2 H2 fp) ([(s2.heap.objs.size,gF us n)]++iu fp s5.heap) (some v::bS σ js) H8 s8→tn (i+1) s8.heap∧∀ b∈fp,H8 b=none:=fun {s8 H8} I8=>by
    refine ⟨T.keep _ _ _ st5 fun b hb o e=>(I8.pin (b,o) (aE _ (aE _ (et hb e)))).1,fun b hb=>?_⟩;obtain ⟨o,e,_⟩:=T.obj _ _ st5 b hb;exact (I8.pin (b,o) (aE _ (aE _ (et hb e)))).2.1
   cases b with
   | false =>
    obtain ⟨m',hm,w7⟩:=hN' _ _ q7;obtain ⟨t7,n7⟩:=back I7;exact ⟨m',hm,i+1,ys,us,n,some v,H7,I7.unpinned,rv,hlen,t7,n7,w7⟩
   | true =>
    refine bN ((hb cl G.objs.size s2 H2 fp hpass).1 _ s7 _ H7 _ I7 q7) (fun y' s8 ⟨y,H8,I8,r8,q8⟩=>?_) fun _ _ f=>f
    obtain ⟨m',hm,w8⟩:=hN' _ _ q8;obtain ⟨t8,n8⟩:=back I8;have I8':=I8.unpinned;obtain ⟨pD,nD,_,_,_⟩:=I8'.pin (s2.heap.objs.size,gF us n) (by show _∈[]++[_];simp);have pD:s8.heap.get? s2.heap.objs.size=some (gF us n):=pD;have nD:H8 s2.heap.objs.size=none:=nD;refine append_at pD (fun h9 hs9 e9=>?_) (by rw [aC,←rv.length];exact hlen);have e9:h9.get? s2.heap.objs.size=some (gF (us++[y']) (n+1)):=by rw [e9];simp [gF]
    have J0:Inv (dr X scope cl G.objs.size (x::fr) s2 H2 fp) [] (some v::bS σ js) H8 s8:=I8'.pins_of fun p hp=>iG hp (by simp)
    have J9:Inv (dr X scope cl G.objs.size (x::fr) s2 H2 fp) [] (some v::bS σ js) H8 { s8 with heap:=h9,toks:=s8.toks } :=
     J0.turned (it:=s2.heap.objs.size) (fun b o hb' e=>hs9.extBut b o hb' e) nD hDC (.inr (aI _)) (fun y0 c q z=>by
      obtain ⟨o,e⟩:=celo y0 c q;exact (small c o e).2 z) fun p hp=>iG (show p∈([]:List (aj×Obj)) from hp) (by simp)
    refine ⟨m',hm,i+1,ys++[y],us++[y'],n+1,some v,H8,J9.pins_of fun p hp=>?_,rv.append (.cons r8 .nil),(by rw [aq,ao];exact hlt),T.keep _ _ _ t8 fun b hb' o e=>hs9.extBut b o (by
     obtain ⟨o',e'⟩:=fpo b hb';exact (small b o' e').2) e,n8,w8⟩
    have ep:=ay.mp hp;subst ep;exact ⟨e9,nD,hDC,nofs,fun v z=>by cases z⟩
 exact codeAny_compStart_list (loop _ ⟨_,rfl⟩) (T.self _ 0 _ _ _ (T.keep _ _ _ st2 fun b hb o e=>old b o e) (loop _ ⟨_,rfl⟩))
abbrev cxBody (X:Cx)(pn:List (aj×Obj))(W:aa→ai→Prop):Cx:={ X with pn:=pn,xe:=W }
abbrev ie (X:Cx)(pn:List (aj×Obj))(x:aj):Cx:={ X with A:=X.A.mark (some (.ref x)),calm:=false,pn:=pn,xe:=fun _ _=>False }
def PassAt (CX:CXT)(X:Cx)(σ:St)(E:XK):Prop:=∀ (ak:List (aj×Obj)) (H:Hp) (s:ai) (e:aa) (s':ai),Inv X ak σ H s→CX X.stack H s E e s'→X.xe e s'
section
variable {pn:List (aj×Obj)}{σ0:St}{E:XK}
theorem pe_callS {sp:Sp}{ds:List aa}(F:da X.prog X.w X.K X.mg X.base CX k f fd ps sp)(hr:fM k X.A)(hg:Gl X x)(hm:X.mg x=some (.ref f))(hk:dY X.K (.ref f)=true)(hb:Binds X.K fd ps ds)(hd:dM dvs ds)(hx:PassAt CX X σ0 E)
  (ha:PA X (e::es) t) (hdb:(x == ("__debug__" :Str))=false:=by decide) (he:aQ (e::es) X.env=(false,dW e X.env)::aQ es X.env:=by rfl) (hpl:(backTo pos (aQ es X.env)).any (·.1)=false:=by rfl) :
  PE X (.Call (.Name x p) (e::es) [] pos) (fun σ H Q=>σ=σ0∧tCall sp dvs E t σ H Q):=by
 intro ak s σ H Q I ⟨hσ,h⟩;subst hσ;refine d4 (gy I hg hm ?_ hdb);refine PySem.W.callWith_K (h₀:=X.base) I.ok.mod.kin hk (thn (ha pos ak s σ H _ I h) fun us s1 ⟨vs,H1,I1,r,q⟩=>⟨I1.kIn,?_⟩) he hpl;have r2:=r.append hd;have hl:(us++ds).length=ps.length:=by rw [←r2.length];exact F.len _ _ _ _ q
 refine wpAny_call (codeAny_mono (F.run X.A X.stack s1 H1 ⟨us,[]⟩ (us++ds) (vs++dvs) Q E hr I1.env0 (hb s1 us I1.kIn hl) r2 q) fun r s' hq=>?_);cases r with
 | error e=>exact hx ak H1 s1 e s' I1 hq
 | ok fl =>
  cases fl with
  | ret u=>exact I1.after hq
  | next=>exact cw hq
  | brk=>exact cw hq
  | cont=>exact cw hq
theorem Inv.toBody (I:Inv X ak σ H s):Inv (cxBody X (X.pn++ak) W) [] σ H s :=
 ⟨⟨I.ok.mod,I.ok.kind,I.ok.glob,I.ok.blt,I.ok.above,I.ok.inj,I.ok.has,I.ok.cab,I.ok.hd,I.ok.frames,I.ok.stk,I.ok.exf,I.ok.bs,I.ok.bsz,I.ok.noex,I.ok.exfs,I.ok.funs,I.ok.frf⟩,I.os,I.bare,I.base,I.loc,I.cell,I.free,I.freeC,by rw [List.append_nil];exact I.pin,I.hok,I.len⟩
theorem Inv.ofBody (I:Inv (cxBody X (X.pn++ak) W) more σ H s):Inv X ak σ H s :=
 ⟨⟨I.ok.mod,I.ok.kind,I.ok.glob,I.ok.blt,I.ok.above,I.ok.inj,I.ok.has,I.ok.cab,I.ok.hd,I.ok.frames,I.ok.stk,I.ok.exf,I.ok.bs,I.ok.bsz,I.ok.noex,I.ok.exfs,I.ok.funs,I.ok.frf⟩,I.os,I.bare,I.base,I.loc,I.cell,I.free,I.freeC,fun p hp=>I.pin p (cR _ hp),I.hok,I.len⟩
theorem Inv.toHand {x:aj}(I:Inv X ak σ H s):Inv (ie X (X.pn++ak) x) [] σ H s :=
 ⟨⟨I.ok.mod,I.ok.kind,I.ok.glob,I.ok.blt,I.ok.above,I.ok.inj,I.ok.has,I.ok.cab,(fun z=>nomatch z),I.ok.frames,I.ok.stk,I.ok.exf,I.ok.bs,I.ok.bsz,I.ok.noex,I.ok.exfs,I.ok.funs,I.ok.frf⟩,I.os,I.bare,I.base,I.loc,I.cell,I.free,I.freeC,by rw [List.append_nil];exact I.pin,I.hok,I.len⟩
theorem Inv.ofHand {x:aj}(ok:X.Ok)(I:Inv (ie X (X.pn++ak) x) more σ H s):Inv X ak σ H s :=
 ⟨ok,I.os,I.bare,I.base,I.loc,I.cell,I.free,I.freeC,fun p hp=>I.pin p (cR _ hp),I.hok,I.len⟩
theorem SP.mono {Y:Cx}{f:Flow}(k:∀ σ H,Inv Y pins' σ H s→Inv X ak σ H s)(h:SP Y pins' D f s):SP X ak D f s:=by
 cases f with
 | next=>obtain ⟨σ,H,I,q⟩:=h;exact ⟨σ,H,k _ _ I,q⟩
 | brk=>obtain ⟨σ,H,I,q⟩:=h;exact ⟨σ,H,k _ _ I,q⟩
 | cont=>obtain ⟨σ,H,I,q⟩:=h;exact ⟨σ,H,k _ _ I,q⟩
 | ret u=>obtain ⟨v,σ,H,I,q⟩:=h;exact ⟨v,σ,H,k _ _ I,q⟩
theorem Inv.landed {x:aj}{cls:aa}(I:Inv X ak σ H s)(os:s'.os=s.os)(bare:AllBare s'.gens)(al:fh B X.stack x cls dct s'.heap)(air:Air X.prog X.w (frs X.stack) [] H s.heap B H' s'.heap):Inv X ak σ H' s' :=
 I.call' (ch:=[]) os (air.un al.st fun b hb=>I.stkFree b hb) (fun a o e=>(air.hok a o e).stay (fun b v _ q=>al.st b v q) (fun _ q=>q) fun _ _ q=>q) bare fun b hb=>iG hb (by simp)
end
end L2
namespace HN
open PySem L2 PyProof.Rows HT2
structure Nm2 (mg:Str→Option aa):Prop where
 tstr:mg "str" =none
 tlist:mg "list" =none
structure Cs2 (mg:Str→Option aa):Prop where
 fig:∃ t,mg "FIGURES" =some (.str "0123456789" t)
 mf:∃ t,mg "MOST_FIGURES" =some (.int 60 t)
theorem pe_gstr (hm:∃ t,X.mg x=some (.str z t))(hg:Gl X x:=by rfl)(hd:(x == ("__debug__" :Str))=false:=by decide):PE X (.Name x pos) (tC (.str z)) :=
 let ⟨t,e⟩:=hm;fm (v:= .str z) (u:= .str z t) hg e ⟨t,rfl⟩ hd
theorem pe_isStr (N:Nm X.mg)(N2:Nm2 X.mg)(he:PE X e te)(hg:Gl X "isinstance" := by rfl)(hg2:Gl X "str" := by rfl)
  (hs1:aQ [e,.Name "str" p2] X.env=(false,dW e X.env)::aQ [.Name "str" p2] X.env:=by rfl) (hpl:(backTo pos (aQ [.Name "str" p2] X.env)).any (·.1)=false:=by rfl) :
  PE X (.Call (.Name "isinstance" p) [e,.Name "str" p2] [] pos) (tCB (fun xs H Q=>∃ x T,xs=[x,.ty "str"]∧tyn H x=some T∧Q (.bl (T == "str")) H) (gR te (gR (tC (.ty "str")) tNil))) :=
 bH call_isStr hg N.isin bP (ae he (ae (gZ hg2 N2.tstr boot_str rfl) av) hs1) (he:=hs1) (hpl:=hpl)
def cU (z:Str):Bool:=decide (1≤z.length) && (decide (z.length≤60) && (!(decide (z.cps.toList.head? =some 48) && decide (1<z.length)) && z.cps.toList.all fun c=>decide (48≤c∧c≤57)))
theorem fig_in (c:Nat):(!(bo ("0123456789" :Str) ⟨#[c]⟩ 0 ("0123456789" :Str).length 1).isEmpty)=decide (48≤c∧c≤57):=by
 rw [StrLaws.found_one];have e:("0123456789" :Str).cps.toList=[48,49,50,51,52,53,54,55,56,57]:=by trivial
 rw [e];rw [decide_eq_decide];simp only [aw,aL,or_false];omega
theorem numI_numeral (h:W60 i):cU (cp i)=true:=by
 obtain ⟨m,rfl,hm⟩:=h.nat;unfold cU;rw [fo];rw [iH (num_pos m),iH (num_len hm),eU];have h1:((dig m).all fun c=>decide (48≤c∧c≤57))=true:=by
  rw [cK];exact fun c hc=>iH (dig_all m c hc)
 rw [h1];have h2:(decide ((dig m).head? =some 48) && decide (1<(num m).length))=false:=by
  rw [bI];intro z;rw [bf] at z;have z1:=iJ z.1;have z2:=iJ z.2;have e:(num m).length=(dig m).length:=by rw [←eU];simp [dD]
  rw [e] at z2;exact dig_head m (by have:=dig_one z2;lia) z1
 rw [h2];rfl
inductive spNumeral (vs:List V)(H:Hp)(Q:VK)(_:XK):Prop
 | mk (z:Str)(_:vs=[.str z])(_:z.length≤100000)(_:∀ H',cL H H'→Q (.bl (cU z)) H')
abbrev netD (b m:Int)(sp:List (List Int)):Dt:= .tup [.int b,.int m,.tup (sp.map fun ns=> .tup (ns.map Dt.int))]
abbrev gN:cE:=top 15
abbrev sRead:cE:=top 16
abbrev sHead:cE:=top 27
abbrev sSpanR:cE:=top 28
abbrev sNetR:cE:=top 29
theorem scNumeral:cj pzb pzb (defScope gN):=by trivial
theorem ok_numeral (F:Fun K "is_numeral" "is_numeral" gN f fd)(T:Nm mg)(C:Cs2 mg):da P w K mg base CX0 1 f fd pzb spNumeral:=by
 refine F.ok scNumeral (by contradiction) (fun cdv A outer s H vs Q E hr h=>?_);obtain ⟨z,rfl,hz,k⟩:=h;refine ⟨_,aU (dO (PW.pt (gW (cn op_lt (bH fL rfl T.len bK (ae (pv 0) av)) aA (cM _)) (gj (cn op_gt (bH fL rfl T.len bK (ae (pv 0) av)) (pe_gint C.mf) (cM _))))) (bc (bM gJ)) bZ)
  (aU (ps_cut (dO (PW.pt (pw_and (cn g9 (eZ ix_str (pv 0) aA (fun _ _=>rfl)) bQ (cM _)) (pw_and1 (cn op_gt (bH fL rfl T.len bK (ae (pv 0) av)) aA (cM _))))) (bc (bM gJ)) bZ))
  (bc (bM (bH (call_all rfl) rfl T.all boot_all (ae (pe_comp (fr:=[]) (js:=[]) rfl (pi_str (pv 0)) (by trivial) rfl (by trivial) rfl (by exists gN) (by trivial) rfl (by trivial) (fun _ _ _ _ _=>⟨(pe_cmpR op_in_str (pv 0) (pe_gstr C.fig) rfl),gX⟩)) av))))),?_⟩
 have big:(100000:Nat)≤ax:=by decide
 have hz':z.length≤ax:=by lia
 have k0:=k H (cL.refl H);refine ⟨_,rfl,z,rfl,hz',_,_,rfl,rfl,_,rfl,?_⟩;refine fA (fun h1=>?_) (fun h1=>?_)
 ·have h1:(z.length:Int)<1:=iJ h1
  have e:cU z=false:=by unfold cU;rw [iI (by lia)];rfl
  rw [e] at k0;exact k0
 have h1:¬ (z.length:Int)<1:=fun q=>h1 (iH q)
 refine ⟨_,rfl,z,rfl,hz',_,_,rfl,rfl,_,rfl,?_⟩;refine fA (fun h2=>?_) (fun h2=>?_)
 ·have h2:(60:Int)<(z.length:Int):=iJ h2
  have e:cU z=false:=by unfold cU;rw [iI (by lia:¬ z.length≤60),Bool.false_and,Bool.and_false]
  rw [e] at k0;exact k0
 have h2:¬ (60:Int)<(z.length:Int):=fun q=>h2 (iH q)
 have hl:z.cps.toList.length=z.length:=by simp [dD]
 obtain ⟨c0,r0,hc⟩:∃ c r,z.cps.toList=c::r:=by
  cases e:z.cps.toList with
  | nil=>rw [e] at hl;simp at hl;lia
  | cons c r=>exact ⟨c,r,rfl⟩
 have en:cU z=(!(decide (c0=48) && decide (1<z.length)) && z.cps.toList.all fun c=>decide (48≤c∧c≤57)):=by
  unfold cU;rw [iH (by lia:1≤z.length),iH (by lia:z.length≤60),Bool.true_and,Bool.true_and];congr 3;rw [decide_eq_decide,hc];simp
 have e48:decide (V.str ⟨#[c0]⟩=V.str "0")=decide (c0=48):=by
  rw [decide_eq_decide];have z0:("0" :Str)=⟨#[48]⟩:=by trivial
  rw [z0]
  constructor
  ·intro q
   injection q with q
   have:=iK (fun s:Str=>s.cps.toList) q
   simpa using this
  ·intro q;rw [q]
 refine ⟨fun σ' H'=>σ'=[some (.str z)]∧H'=H∧(decide (c0=48) && decide (1<z.length))=false,?_,?_⟩
 ·rintro σ' H' ⟨rfl,rfl,hq⟩
  rw [hq] at en;refine ⟨_,rfl,z,rfl,?_⟩;have hsz:z.cps.size=z.cps.toList.length:=by simp
  refine comp_str (fun i ys H2=>H2=H'∧ys=(z.cps.toList.take i).map fun c=>V.bl (decide (48≤c∧c≤57))) ⟨rfl,rfl⟩ (fun i ys H2 hi ⟨e1,e2⟩=>?_) hz' (fun i c ys H2 hx ⟨e1,e2⟩=>?_) (fun ys H2 ⟨e1,e2⟩ D hD=>?_)
  ·rw [e2,af,bq];lia
  ·subst e1
   refine gd ?_;refine ⟨_,rfl,_,_,rfl,rfl,rfl,?_⟩;have hx':z.cps.toList[i]? =some c:=by rw [Array.getElem?_toList];exact hx
   rw [e2,d0,hx',aK,fig_in];rfl
  ·subst e1
   rw [hsz,ck] at e2;refine ⟨D,z.cps.toList.map fun c=>decide (48≤c∧c≤57),rfl,SqL.of (by rw [bG,e2,d2];rfl),?_⟩;have e3:((z.cps.toList.map fun c=>decide (48≤c∧c≤57)).all id)=cU z:=by rw [en,List.all_map];rfl
   rw [e3];exact k _ (cL.put (cL.refl H2) hD)
 ·refine ⟨_,rfl,z,0,c0,rfl,rfl,hz',by rw [hc];exact cq (j:=0) rfl,rfl,_,rfl,?_⟩
  rw [e48];refine fA (fun h3=>?_) (fun h3=>?_)
  ·refine ⟨_,rfl,z,rfl,hz',_,_,rfl,rfl,_,rfl,?_⟩
   refine fA (fun h4=>?_) (fun h4=>?_)
   ·have h4:(1:Int)<(z.length:Int):=iJ h4
    rw [en,h3,iH (by lia:1<z.length)] at k0;exact k0
   ·have h4:¬ (1:Int)<(z.length:Int):=fun q=>h4 (iH q)
    exact ⟨rfl,rfl,by rw [iI (by lia:¬ 1<z.length),Bool.and_false]⟩
  ·exact ⟨rfl,rfl,by rw [bI.mpr h3,Bool.false_and]⟩
theorem netD_of (h:IsD H v (netD b m sp)):∃ t p ys,v= .ref t∧H t=some (.tup [.int b,.int m,.ref p])∧H p=some (.tup ys)∧eW H ys (sp.map fun ns=> .tup (ns.map Dt.int)):=by
 obtain ⟨t,xs,rfl,ht,rx⟩:=h.tup_of;cases rx with
 | cons h0 r0 =>
  cases r0 with
  | cons h1 r1 =>
   cases r1 with
   | cons h2 r2 =>
    cases r2;cases h0;cases h1;obtain ⟨p,ys,rfl,hp,ry⟩:=h2.tup_of;exact ⟨t,p,ys,rfl,ht,hp,ry⟩
theorem spanD_of {i:Nat}{x:V}(r:eW H ys (sp.map fun ns=> .tup (ns.map Dt.int)))(hx:ys[i]? =some x):∃ ns q,sp[i]? =some ns∧x= .ref q∧H q=some (.tup (ns.map V.int)):=by
 obtain ⟨d,hd,dx⟩:=r.get hx;rw [aS] at hd;obtain ⟨ns,hn,rfl⟩:=b9.mp hd;obtain ⟨q,zs,rfl,hq,rz⟩:=dx.tup_of;have ez:=rz.ints_of;subst ez;exact ⟨ns,q,hn,rfl,hq⟩
theorem gi {n:Nat}(h:n≤100000):n≤ax:=aR h (by decide)
end HN
namespace L2
open PySem PySem.Spec PyProof.Rows
theorem gone_ok {i:Nat}(I:Inv X ak σ H s)(nd:X.N.Nodup)(at_:X.N[i]? =some x)(lc:X.env.scope.names.lookup x=some .local)
  (next:∀ s',Inv X ak (σ.set i none) H s'→Q () s'):ba M A (do bindName X.env x .none;unbindBehindTheSuite X.env x pos) Q E s:=by
 obtain ⟨m,nsm,look⟩:=id I.loc;have fk:(X.env.scope.kind == .class || (X.env.scope.kind == .module && X.env.locals != X.env.globals))=false:=by rw [I.ok.kind];rfl
 have il:i<σ.length:=by rw [I.len];exact (bh.mp at_).1
 refine wpAny_nameGoes_keeps lc nsm fk fun g w nsg sb=>next _ ?_
 obtain ⟨oL,_,_,eL,_⟩:=id nsm;have low:∀ b o,X.s₀.heap.get? b=some o→b≠X.env.locals:=fun b o e=>bu (aH (au e) I.ok.above)
 have far:∀ b o,b≠X.env.locals→s.heap.get? b=some o→g.get? b=some o:=fun b o n e=>(sb.2 b n).trans e
 have un:Un X.fs X.ex X.H₀ H X.s₀.heap g :=
  {keep:=fun b o e n f x'=>far b o (low b o e) (I.base.keep b o e n f x')
   slot:=fun b o e n f x'=>(I.base.slot b o e n f x').imp fun sl q=>far b _ (low b o e) q
   free:=I.base.free
   there:=fun b o e x'=>(I.base.there b o e x').imp fun o' q=>far b o' (low b o e) q
   tups:=I.base.tups
   frzs:=I.base.frzs
   tbls:=I.base.tbls }
 have hk:HOk X.prog X.w H g:=fun a o e=>(I.hok a o e).stay (fun c o' hc q=>far c o' (by
  rintro rfl
  rcases hc with rfl | hc
  ·rw [I.free] at e;cases e
  ·rw [I.free] at hc;cases hc) q) (fun _ q=>q) fun _ _ q=>q
 refine ⟨I.ok,I.os,I.bare,un,⟨_,nsg,fun j y u e1 e2 e3=>?_⟩,fun y c e=>?_,I.free,I.freeC,fun p hp=>?_,hk,by simpa using I.len⟩
 ·by_cases hj:j=i
  ·subst hj
   rw [List.getElem?_set_self il] at e2;cases e2
  ·rw [List.getElem?_set_ne (Ne.symm hj)] at e2
   obtain ⟨u',r',l'⟩:=look j y u e1 e2 e3;refine ⟨u',r',?_⟩
   rcases l' with ⟨k1,k2⟩ | ⟨k1,c,k2,k3⟩
   ·refine .inl ⟨k1,?_⟩
    have ne:y≠x:=fun z=>hj (nodup_ix nd e1 (z ▸ at_))
    simp [ne,k2]
   ·exact .inr ⟨k1,c,k2,k3.sameBut sb (I.cne y c k2)⟩
 ·obtain ⟨w',z⟩:=I.cell y c e
  exact ⟨w',z.sameBut sb (I.cne y c e)⟩
 ·obtain ⟨e,n,nl,nf,d⟩:=I.pin p hp
  exact ⟨far p.1 p.2 nl e,n,nl,nf,d⟩
def gK (a C:aj)(d:Option aj):HO:= .ext fun h=>∃ o us,h.get? a=some o∧o.cls= .ref C∧o.dict=d∧o.data= .fields us
theorem Inv.landedAs {x:aj}(I:Inv X ak σ H s)(os:s'.os=s.os)(bare:AllBare s'.gens)(al:fh B X.stack x (.ref C) dct s'.heap)(air:Air X.prog X.w (frs X.stack) [] H s.heap B H' s'.heap):H' x=none∧Inv X ak σ (upd H' x (gK x C dct)) s':=by
 have free:H' x=none:=by
  cases q:H' x with
  | none=>rfl
  | some o =>
   obtain ⟨u,e⟩:=ee.seat (air.hok x o q);rw [al.no] at e;cases e
 obtain ⟨a0,fl,ox,vx,T,ot,vt,e1,⟨ec,_⟩,e2,_⟩:=id al.tr;have edc:ox.dict=dct:=by
  obtain ⟨o,p,r⟩:=al.dc;rw [e1] at p;cases p;exact r
 have new:s.heap.get? x=none:=by
  cases q:s.heap.get? x with
  | none=>rfl
  | some o =>
   by_cases hf:x∈frs X.stack
   ·obtain ⟨_,o2,q2,hn⟩:=al.fr.mem hf
    rw [e1] at q2;cases q2;exact iG e2 (hn vx)
   ·obtain ⟨o',e'⟩:=air.there x o q hf (by simp)
    rw [al.no] at e';cases e'
 have un:=air.un al.st fun b hb=>I.stkFree b hb
 have hok:HOk X.prog X.w H' s'.heap:=fun a o e=>(air.hok a o e).stay (fun b v _ q=>al.st b v q) (fun _ q=>q) fun _ _ q=>q
 refine ⟨free,I.call' (ch:=[]) os { keep:=un.keep,slot:=un.slot,free:=fun b o e n hx=>?_,there:=un.there,tups:=fun b xs e=>?_,frzs:=fun b o u e=>?_,tbls:=fun b ps e=>?_ } (hok.take free ⟨⟨ox,vx,e1,ec,edc,e2⟩,⟨ox,e1⟩,fun h1 h2 ⟨o,us,p1,p2⟩ k=>⟨o,us,k o p1,p2⟩⟩) bare fun b hb=>iG hb (by simp)⟩
 ·rw [bU (fun z=>by rw [z,new] at e;cases e)]
  exact un.free b o e n hx
 ·have q:=un.tups b xs e
  rw [bU (br q free)];exact q
 ·have q:=un.frzs b o u e
  rw [bU (br q free)];exact q
 ·obtain ⟨more,q⟩:=un.tbls b ps e
  exact ⟨more,by rw [bU (br q free)];exact q⟩
structure Under (K:ah)(C D:aj):Prop where
 up:d7 K C (.ref D)=some true
theorem match_up {nm' q':Str}{D N':aj}{bs' bm':List aa}{hdct':Bool}{sn':List Str}{sub':List aa}{ab':Bool}{col':Option Bool}{dd':Option aj}{j0 j1 j2 j3 j5:Option aa}{newId':String}
  {g:Array GenState} {d:Drawn} {t:Nat} {os:OsState} {e:aj} {oe:Obj} {Q:Bool→ai→Prop} (kin:K.In h) (up:d7 K C (.ref D)=some true)
  (hD:h.get? D=some (excClassObj nm' q' D N' bs' bm' hdct' sn' sub' ab' col' dd' j0 j1 j2 j3 j5 newId')) (he:h.get? e=some oe) (hcls:oe.cls= .ref C) (hbase:bm'.contains (.type "BaseException")=true)
  (hq:Q true ⟨h,g,d,t,os⟩):ba M A (excMatches (.ref e) (.ref D)) Q E ⟨h,g,d,t,os⟩:=by
 have b1:(aa.ref D::bm').contains (.type "BaseException")=true:=by rw [List.contains_cons,hbase,Bool.or_true]
 have f:=tc_notTuple;unfold excMatches
 repeat (first | (with_reducible refine wpAny_loadPart_at he ?_;rw [hcls]) | with_reducible refine wpAny_loadPart_at hD ?_ | (with_reducible refine wpAny_isSubtype_exc hD ?_;rw [b1]) | (with_reducible refine PySem.W.Looks.at (PySem.W.looks_mroIn kin up) ?_) | wp_step)
 exact hq
theorem ps_tryAs {n:Str}{D:aj}{iN:Nat}{np hp:Pos}{suite:List cE}{b₀:cE}{tb:St→XK→TS}{th:TS}(stk:X.stack=X.env::X.outer)(fr:X.env.frame=some X.env.locals)(nd:X.N.Nodup)(at_:X.N[iN]? =some n)(lc:X.env.scope.names.lookup n=some .local)(T:Exc X.K X.mg x D)
  (hb:∀ (pn:List (aj×Obj)) (W:aa→ai→Prop) (σ:St) (E:XK),PassAt (CXN X.prog X.w) (cxBody X pn W) σ E→PSs (cxBody X pn W) body (tb σ E)) (hh:∀ (pn:List (aj×Obj)) (e:aj),PSs (ie X pn e) (b₀::suite) th) (hg:Gl X x:=by rfl) (hd:(x == ("__debug__" :Str))=false:=by decide) :
  PS X (.Try body [.ExceptHandler (some (.Name x np)) (some n) (b₀::suite) hp] [] [] pos) (fun Dn σ H=>tb σ (fun cls dct H'=>∃ C,cls= .ref C∧Under X.K C D∧∀ a,H' a=none→th { Dn with nx:=fun σ' H''=>Dn.nx (σ'.set iN none) H'',bk:=fun σ' H''=>Dn.bk (σ'.set iN none) H'',ct:=fun σ' H''=>Dn.ct (σ'.set iN none) H'' } (σ.set iN (some (.ref a))) (upd H' a (gK a C dct))) Dn σ H):=by
 intro ak s σ H Dn I h;refine wpAny_Try_except (bN (hb (X.pn++ak) (fun e s₁=>ba (aX X.prog X.w) X.A (noteFrame e X.env) (fun _ s₂=>ba (aX X.prog X.w) X.A (setFlight e none) (fun _ s₃=>ba (aX X.prog X.w) X.A (handleBy e X.env [.ExceptHandler (some (.Name x np)) (some n) (b₀::suite) hp]) (SP X ak Dn) X.xe s₃) X.xe s₂) X.xe s₁) σ _ ?_ [] s σ H Dn I.toBody h) (fun f s1 q=>?_) fun _ _ q=>q)
 ·intro pins' H1 s1 e s2 I1 hc
  obtain ⟨a,cls,dct,B,H2,rfl,os,bare,al,air,C,rfl,U,hth⟩:=hc;have I1:Inv X ak σ H1 s1:=Inv.ofBody I1;have al:fh B X.stack a (.ref C) dct s2.heap:=al;have air:Air X.prog X.w (frs X.stack) [] H1 s1.heap B H2 s2.heap:=air;have hfr:X.A.frames=some (X.env::X.outer):=by rw [←stk];exact I.ok.frames
  have al':fh B (X.env::X.outer) a (.ref C) dct s2.heap:=by rw [←stk];exact al
  refine note_any hfr fr al' fun g hgd u=>?_
  have hgd:fh B X.stack a (.ref C) dct g:=by rw [stk];exact hgd
  have air1:Air X.prog X.w (frs X.stack) [] H1 s1.heap B H2 g:=Air.up air al.fr u;refine gT (s:={ s2 with heap:=g }) hgd fun g2 al2 u2=>?_
  have air2:Air X.prog X.w (frs X.stack) [] H1 s1.heap B H2 g2:=Air.up air1 hgd.fr u2;have I2:Inv X ak σ H2 { s2 with heap:=g2 }:=I1.landed (s':={ s2 with heap:=g2 }) os bare al2 air2;have I2h:Inv (ie X (X.pn++ak) a) [] σ H2 { s2 with heap:=g2 }:=I2.toHand;refine wpAny_handleBy_cons (codeAny_handlers_test ?_) (by intro q;cases q);refine gy (X:=ie X (X.pn++ak) a) I2h hg T.mg ?_ hd;obtain ⟨tl,N,nm,q,bs,hdct,sn,sub,ab,col,dd,k0,k1,k2,k3,k5,mN,hC,hN,hni,TL⟩:=(own_at I.ok.mod.kin T.mg T.ok).obj;obtain ⟨b0,fl,tr⟩:=id al2.tr;obtain ⟨ob,hob,hobc⟩:=tr.there;refine match_up I2.kIn U.up (I2.bk _ _ hC) hob hobc (TL.hasType rfl) (codeAny_handlers_suite_as ?_);refine gT (s:={ s2 with heap:=g2 }) al2 fun g3 al3 u3=>?_
  have air3:Air X.prog X.w (frs X.stack) [] H1 s1.heap B H2 g3:=Air.up air2 al2.fr u3;obtain ⟨fre,I3⟩:=I1.landedAs (s':={ s2 with heap:=g3 }) os bare al3 air3;have I3h:Inv (ie X (X.pn++ak) a) [] σ (upd H2 a (gK a C dct)) { s2 with heap:=g3 }:=I3.toHand;refine store_ok (X:=ie X (X.pn++ak) a) (v:= .ref a) I3h nd at_ (.inl lc) rfl (fun s5 I5=>?_) (.inr lc);refine bN (hh (X.pn++ak) a [] _ _ _ _ I5 (hth a fre)) (fun f s6 q=>?_) fun _ _ z=>cw z
  cases f with
  | next=>obtain ⟨σ6,H6,I6,q6⟩:=q;exact gone_ok (Inv.ofHand I.ok I6) nd at_ lc fun s7 I7=>⟨_,_,I7,q6⟩
  | brk=>obtain ⟨σ6,H6,I6,q6⟩:=q;exact gone_ok (Inv.ofHand I.ok I6) nd at_ lc fun s7 I7=>⟨_,_,I7,q6⟩
  | cont=>obtain ⟨σ6,H6,I6,q6⟩:=q;exact gone_ok (Inv.ofHand I.ok I6) nd at_ lc fun s7 I7=>⟨_,_,I7,q6⟩
  | ret u=>obtain ⟨v,σ6,H6,I6,r6,q6⟩:=q;exact gone_ok (Inv.ofHand I.ok I6) nd at_ lc fun s7 I7=>⟨v,_,_,I7,r6,q6⟩
 ·have q:SP X ak Dn f s1:=SP.mono (fun _ _ Ib=>Inv.ofBody Ib) q
  cases f with
  | next=>exact cg q
  | brk=>exact q
  | cont=>exact q
  | ret u=>exact q
end L2
namespace HN
open PySem L2 PyProof.Rows HT2
def rdW (z:Str):Option Int:=if cU z=true then dZ z else none
def eI (z:Str)(b m:Int):Prop:=∃ x y,aD z sp_=[("beat" :Str),x,("happenings" :Str),y]∧rdW x=some b∧rdW y=some m
def fv (z:Str)(ns:List Int):Prop:=ns.length=5∧(aD z sp_).map rdW=ns.map some
def gf (b m:Int)(ns:List Int):Bool:=match ns with
 | [s,g,l,o,w]=>fw m (.int s) (.int g) && (fV b (.int l) (.int o) && inI (.int w) 0 1000000000000)
 | _=>false
def netI (b m:Int)(sp:List (List Int)):Bool:=inI (.int b) 1 B60 && (inI (.int m) 1 16 && (decide (sp.length≤40) && sp.all (gf b m)))
structure RdRows (z:Str)(b m:Int)(sp:List (List Int)):Prop where
 ex:∃ r rs,aD z nl_=r::rs∧eI r b m∧rs.length=sp.length∧∀ (j:Nat) (x:Str) (ns:List Int),rs[j]? =some x→sp[j]? =some ns→fv x ns
def RdNet (z:Str)(b m:Int)(sp:List (List Int)):Prop:=RdRows z b m sp∧netI b m sp=true
theorem map_some_inj {a b:List Int}(h:a.map some=b.map some):a=b:=by
 have:=iK (List.filterMap id) h
 simpa using this
theorem eI.one {b' m':Int}(h:eI z b m)(h':eI z b' m'):b=b'∧m=m':=by
 obtain ⟨x,y,e,e1,e2⟩:=h;obtain ⟨x',y',e',e1',e2'⟩:=h';rw [e] at e';simp only [dF,and_true,true_and] at e';obtain ⟨rfl,rfl⟩:=e';rw [e1] at e1';rw [e2] at e2';exact ⟨aG e1',aG e2'⟩
theorem fv.one {ns':List Int}(h:fv z ns)(h':fv z ns'):ns=ns':=map_some_inj (h.2.symm.trans h'.2)
theorem RdRows.one {b' m':Int}(h:RdRows z b m sp)(h':RdRows z b' m' sp'):b=b'∧m=m'∧sp=sp':=by
 obtain ⟨r,rs,e,hh,hl,ha⟩:=h.ex;obtain ⟨r',rs',e',hh',hl',ha'⟩:=h'.ex;rw [e] at e';obtain ⟨rfl,rfl⟩:=bJ e';obtain ⟨h1,h2⟩:=hh.one hh';refine ⟨h1,h2,List.ext_getElem? fun j=>?_⟩
 by_cases hj:j<rs.length
 ·rw [gE (by lia:j<sp.length),gE (by lia:j<sp'.length)]
  have e0:rs[j]? =some rs[j]:=gE hj;exact iK some ((ha j _ _ e0 (gE (by lia))).one (ha' j _ _ e0 (gE (by lia))))
 ·rw [df (by lia),df (by lia)]
theorem numeral_int (h:cU z=true):z.length≤60∧∃ i,dZ z=some i:=by
 unfold cU at h;simp only [bf,decide_eq_true_eq] at h;obtain ⟨h1,h2,_,h3⟩:=h;rw [cK] at h3;refine ⟨h2,_,PySem.intText_digits (fun c hc=>iJ (h3 c hc)) (fun e=>?_) (by lia)⟩;have:z.length=z.cps.toList.length:=by simp [dD]
 rw [this,e] at h1;simp at h1
theorem rdW_some (h:rdW z=some i):cU z=true∧dZ z=some i:=by
 unfold rdW at h;split at h
 ·exact ⟨by assumption,h⟩
 ·cases h
theorem netOk_I (h:IsD H v (netD b m sp)):netOk H v=netI b m sp:=by
 obtain ⟨t,p,ys,rfl,ht,hp,ry⟩:=netD_of h;unfold netOk netI;simp only [ht];unfold fj;simp only [hp];have hl:=ry.length;rw [af] at hl;rw [hl];show (inI (.int b) 1 B60 && (inI (.int m) 1 16 && (decide (sp.length≤40) && ys.all (dA H b m))))=_;have e:ys.all (dA H b m)=sp.all (gf b m):=by
  rw [dU,cK,cK];have key:∀ (i:Nat) (x:V) (ns:List Int),ys[i]? =some x→sp[i]? =some ns→dA H b m x=gf b m ns:=fun i x ns hx hn=>by
   obtain ⟨ns',q,hn',rfl,hq⟩:=spanD_of ry hx;rw [hn] at hn';cases hn';unfold dA;simp only [hq]
   match ns with
   | []=>rfl
   | [_]=>rfl
   | [_,_]=>rfl
   | [_,_,_]=>rfl
   | [_,_,_,_]=>rfl
   | [_,_,_,_,_]=>rfl
   | _::_::_::_::_::_::_=>rfl
  constructor
  ·intro z ns hn
   obtain ⟨i,hi⟩:=dv hn;have hi':i<sp.length:=(bh.mp hi).1;have hx:ys[i]? =some ys[i]:=gE (by lia);rw [←key i _ ns hx hi];exact z _ (eg _)
  ·intro z x hx
   obtain ⟨i,hi⟩:=dv hx;have hi':i<ys.length:=(bh.mp hi).1;have hn:sp[i]? =some sp[i]:=gE (by lia);rw [key i x _ hi hn];exact z _ (eg _)
 rw [e]
theorem netD_g3 (h:IsD H v (netD b m sp)):G3 H v:=by
 obtain ⟨t,p,ys,rfl,ht,hp,ry⟩:=netD_of h;refine gL.tup ht fun x hx=>?_
 simp only [aw,aL,or_false] at hx
 rcases hx with rfl | rfl | rfl
 ·exact gL.int b
 ·exact gL.int m
 ·refine gL.tup hp fun x hx=>?_
  obtain ⟨i,hi⟩:=dv hx;obtain ⟨ns,q,hn,rfl,hq⟩:=spanD_of ry hi;refine gL.tup hq fun y hy=>?_
  obtain ⟨n,_,rfl⟩:=cQ.mp hy;exact Kn.int n
theorem join_len {g:Str}:∀ {ys:List Str} {p:Str},p∈ys→p.length≤(bw g ys).length
 | [],_,h=>iG h (by simp)
 | [y],p,h=>by
  have:p=y:=by simpa using h
  rw [this];exact aI _
 | y::q::r,p,h=>by
  rw [gz,dq,dq]
  rcases aw.mp h with rfl | h
  ·lia
  ·have:=join_len (g:=g) (ys:=q::r) h
   lia
theorem split_len {p:Str}(h:p∈aD z ⟨#[c]⟩):p.length≤z.length:=by
 have e:=dN z ⟨#[c]⟩;have:=join_len (g:=⟨#[c]⟩) h;have e2:(bw ⟨#[c]⟩ (aD z ⟨#[c]⟩)).length=z.length:=iK dD e;lia
theorem split_sp {p:Str}(h:p∈aD z sp_):p.length≤z.length:=by rw [gI] at h;exact split_len h
theorem split_nl {p:Str}(h:p∈aD z nl_):p.length≤z.length:=by rw [nl_eq] at h;exact split_len h
theorem split_many:(aD z ⟨#[c]⟩).length≤z.length+1:=by
 have e:=dN z ⟨#[c]⟩;have key:∀ ys:List Str,ys.length≤(bw ⟨#[c]⟩ ys).length+1:=by
  intro ys
  induction ys with
  | nil=>simp
  | cons y r ih =>
   cases r with
   | nil=>simp
   | cons q r =>
    rw [gz,dq,dq,aN];have:(⟨#[c]⟩:Str).length=1:=rfl;lia
 have:=key (aD z ⟨#[c]⟩);have e2:(bw ⟨#[c]⟩ (aD z ⟨#[c]⟩)).length=z.length:=iK dD e;lia
inductive spReadX (C:aj)(vs:List V)(H:Hp)(Q:VK)(E:XK):Prop
 | mk (z:Str)(_:vs=[.str z])(_:z.length≤100000)(_:(∀ i H',rdW z=some i→cL H H'→Q (.int i) H'))(_:(∀ H',rdW z=none→cL H H'→E (.ref C) none H'))
inductive spHeadX (C:aj)(vs:List V)(H:Hp)(Q:VK)(E:XK):Prop
 | mk (z:Str)(_:vs=[.str z])(_:z.length≤100000)(_:(∀ b m p H',eI z b m→cL H H'→H' p=some (.tup [.int b,.int m])→Q (.ref p) H'))(_:(∀ H',(∀ b m,¬ eI z b m)→cL H H'→E (.ref C) none H'))
inductive spSpanX (C:aj)(vs:List V)(H:Hp)(Q:VK)(E:XK):Prop
 | mk (z:Str)(_:vs=[.str z])(_:z.length≤100000)(_:(∀ ns p H',fv z ns→cL H H'→H' p=some (.tup (ns.map V.int))→Q (.ref p) H'))(_:(∀ H',(∀ ns,¬ fv z ns)→cL H H'→E (.ref C) none H'))
inductive spNetX (C:aj)(vs:List V)(H:Hp)(Q:VK)(E:XK):Prop
 | mk (v:V)(T:String)(_:vs=[v])(_:tyn H v=some T)(_:((∀ z,v≠ .str z)→∀ H',cL H H'→E (.ref C) none H'))(_:∀ z:Str,v= .str z→z.length≤100000∧(∀ b m sp u H',RdNet z b m sp→cL H H'→IsD H' u (netD b m sp)→Q u H')∧(∀ H',(∀ b m sp,¬ RdNet z b m sp)→cL H H'→E (.ref C) none H'))
theorem pcX {E:XK}{sp:Sp}(G:Fn X.K X.mg x st ps f fd)(F:da X.prog X.w X.K X.mg X.base (CXN X.prog X.w) k f fd ps sp)(hr:fM k X.A)(hx:gs (CXN X.prog X.w) X E)
  (ha:PA X (e::es) t) (hg:Gl X x:=by rfl) (hdb:(x == ("__debug__" :Str))=false:=by decide) (he:aQ (e::es) X.env=(false,dW e X.env)::aQ es X.env:=by rfl) (hpl:(backTo pos (aQ es X.env)).any (·.1)=false:=by rfl) :
  PE X (.Call (.Name x p) (e::es) [] pos) (tCall sp [] E t):=pe_call F hr hg G.mg G.F.kp G.b .nil hx ha hdb he hpl
theorem scRead:cj pzb pzb (defScope sRead):=by trivial
theorem ok_readX {c:aj}(F:Fun K "read_whole" "read_whole" sRead f fd)(T:Nm mg)(C:Cs2 mg)(TE:Exc K mg "NoText" c)(GN:Fn K mg "is_numeral" gN pzb f1 fd1):da P w K mg base (CXN P w) 2 f fd pzb (spReadX c):=by
 have FN:da P w K mg base CX0 1 f1 fd1 pzb spNumeral:=ok_numeral GN.F T C;refine F.okX scRead (by contradiction) (fun cdv A outer s H vs Q E hr XD h=>?_);obtain ⟨z,rfl,hz,k1,k2⟩:=h;refine ⟨_,aU (dO (eP (d5 (pc1 GN FN hr (ae (pv 0) av)))) (bc (gk XD rfl TE bQ)) bZ)
  (bc (bM (dC call_int_str rfl T.tint boot_int (ae (pv 0) av)))),?_⟩
 refine ⟨_,rfl,_,rfl,hz,fun H1 S1=>⟨_,rfl,?_⟩⟩
 by_cases hn:cU z=true
 ·rw [hn]
  refine iteC rfl ?_;obtain ⟨hl,i,hi⟩:=numeral_int hn;exact ⟨_,rfl,_,i,rfl,hi,by lia,k1 i H1 (by unfold rdW;rw [iF hn];exact hi) S1⟩
 ·rw [bI.mpr hn]
  exact iteB rfl (k2 H1 (by unfold rdW;rw [iE hn]) S1)
theorem scHead:cj ["row","words"] ["row"] (defScope sHead):=by trivial
theorem ok_headX {c:aj}(F:Fun K "read_head" "read_head" sHead f fd)(T:Nm mg)(TE:Exc K mg "NoText" c)(GW:Fn K mg "read_whole" sRead pzb f1 fd1)(FW:da P w K mg base (CXN P w) 2 f1 fd1 pzb (spReadX c)):da P w K mg base (CXN P w) 3 f fd ["row"] (spHeadX c):=by
 refine F.okX scHead (by contradiction) (fun cdv A outer s H vs Q E hr XD h=>?_);obtain ⟨z,rfl,hz,k1,k2⟩:=h;refine ⟨_,aU (psZ 1 scHead.nd (gw bb cY cX gp (pv 0) (ae bQ av)))
  (aU (dO (PW.pt (gW (cn op_ne (bH cy rfl T.len bK (ae (pv 1) av)) aA (cM _)) (gW (cn op_ne (eZ cD (pv 1) aA (fun _ _=>rfl)) bQ (cM _)) (gj (cn op_ne (eZ cD (pv 1) aA (fun _ _=>rfl)) bQ (cM _)))))) (bc (gk XD rfl TE bQ)) bZ)
  (bc (bM (pe_tupA (ae (pcX GW FW hr XD.pass (ae (eZ cD (pv 1) aA (fun _ _=>rfl)) av)) (ae (pcX GW FW hr XD.pass (ae (eZ cD (pv 1) aA (fun _ _=>rfl)) av)) av)))))),?_⟩
 have one:((sp_:Str).length == 0)=false:=by trivial
 refine ⟨_,rfl,rfl,_,_,rfl,rfl,one,aR (show _≤1000000 by lia) (by decide),fun L H1 S1 e1=>?_⟩;have e1:H1 L=some (.lst ((aD z sp_).map V.str)):=e1;have hsl:∀ p∈aD z sp_,p.length≤100000:=fun p hp=>aR (split_sp hp) hz
 generalize hws:aD z sp_=ws at e1 hsl;refine ⟨_,rfl,L,_,rfl,.inl (SqL.of e1),rfl,_,rfl,?_⟩;rw [af];refine fA (fun h4=>?_) (fun h4=>?_)
 ·refine k2 H1 (fun b m ⟨x,y,e,_⟩=>?_) S1
  rw [hws] at e;rw [e] at h4;revert h4;show ¬ ((!decide (V.int ((4:Nat):Int)=V.int 4))=true);decide
 have h4:ws.length=4:=by
  by_cases q:ws.length=4
  ·exact q
  ·refine iG ?_ h4
   have:¬ V.int (ws.length:Int)=V.int 4:=fun z=>by
    injection z with z
    lia
   rw [iI this];rfl
 match ws,h4 with
 | [w0,w1,w2,w3],_ =>
 refine ⟨_,rfl,L,_,_,_,rfl,rfl,SqL.of e1,cq (j:=0) rfl,rfl,_,rfl,?_⟩;refine fA (fun h5=>?_) (fun h5=>?_)
 ·refine k2 H1 (fun b m ⟨x,y,e,_⟩=>?_) S1
  rw [hws] at e;simp only [dF,and_true] at e;rw [e.1] at h5;exact iG h5 (by trivial)
 have h5:w0=("beat" :Str):=by
  by_cases q:V.str w0=V.str "beat"
  ·injection q
  ·rw [iI q] at h5;exact iG rfl h5
 refine ⟨_,rfl,L,_,_,_,rfl,rfl,SqL.of e1,cq (j:=2) rfl,rfl,_,rfl,?_⟩;refine fA (fun h6=>?_) (fun h6=>?_)
 ·refine k2 H1 (fun b m ⟨x,y,e,_⟩=>?_) S1
  rw [hws] at e;simp only [dF,and_true] at e;rw [e.2.2.1] at h6;exact iG h6 (by trivial)
 have h6:w2=("happenings" :Str):=by
  by_cases q:V.str w2=V.str "happenings"
  ·injection q
  ·rw [iI q] at h6;exact iG rfl h6
 subst h5 h6;have l1:=hsl w1 (by simp);have l3:=hsl w3 (by simp);refine ⟨_,rfl,L,_,_,_,rfl,rfl,SqL.of e1,cq (j:=1) rfl,w1,rfl,l1,fun i H2 hi S2=>?_,fun H2 hn S2=>?_⟩
 ·refine ⟨_,rfl,L,_,_,_,rfl,rfl,SqL.of (S2 _ _ e1),cq (j:=3) rfl,w3,rfl,l3,fun j H3 hj S3=>?_,fun H3 hn S3=>?_⟩
  ·exact ⟨szZ2,fun p H4 S4 e4=>k1 i j p H4 ⟨w1,w3,hws,hi,hj⟩ (S1.trans (S2.trans (S3.trans S4))) e4⟩
  ·refine k2 H3 (fun b m ⟨x,y,e,_,ey⟩=>?_) (S1.trans (S2.trans S3))
   rw [hws] at e;simp only [dF,and_true,true_and] at e;rw [←e.2,hn] at ey;cases ey
 ·refine k2 H2 (fun b m ⟨x,y,e,ex,_⟩=>?_) (S1.trans S2)
  rw [hws] at e;simp only [dF,and_true,true_and] at e;rw [←e.1,hn] at ex;cases ex
theorem scSpanR:cj ["row","words"] ["row"] (defScope sSpanR):=by trivial
theorem ok_spanX {c:aj}(F:Fun K "read_span" "read_span" sSpanR f fd)(T:Nm mg)(TE:Exc K mg "NoText" c)(GW:Fn K mg "read_whole" sRead pzb f1 fd1)(FW:da P w K mg base (CXN P w) 2 f1 fd1 pzb (spReadX c)):da P w K mg base (CXN P w) 3 f fd ["row"] (spSpanX c):=by
 refine F.okX scSpanR (by contradiction) (fun cdv A outer s H vs Q E hr XD h=>?_);obtain ⟨z,rfl,hz,k1,k2⟩:=h;refine ⟨_,aU (psZ 1 scSpanR.nd (gw bb cY cX gp (pv 0) (ae bQ av)))
  (aU (dO (cn op_ne (bH cy rfl T.len bK (ae (pv 1) av)) aA (cM _)) (bc (gk XD rfl TE bQ)) bZ)
  (bc (bM (dC call_tupA rfl T.ttup boot_tuple (ae (pe_compX (fr:=[]) (js:=[]) XD rfl (pi_list (pv 1)) (by trivial) rfl (by trivial) rfl (by exists sSpanR) (by trivial) rfl (by trivial) (fun _ _ _ _ _ hp=>⟨(pcX GW FW hr hp (ae (pv 0) av)),gX⟩)) av))))),?_⟩
 have one:((sp_:Str).length == 0)=false:=by trivial
 refine ⟨_,rfl,rfl,_,_,rfl,rfl,one,aR (show _≤1000000 by lia) (by decide),fun L H1 S1 e1=>?_⟩;have e1:H1 L=some (.lst ((aD z sp_).map V.str)):=e1;have hsl:∀ p∈aD z sp_,p.length≤100000:=fun p hp=>aR (split_sp hp) hz
 generalize hws:aD z sp_=ws at e1 hsl;refine ⟨_,rfl,L,_,rfl,.inl (SqL.of e1),rfl,_,rfl,?_⟩;rw [af];refine fA (fun h4=>?_) (fun h4=>?_)
 ·refine k2 H1 (fun ns ⟨e5,em⟩=>?_) S1
  rw [hws] at em;have:=iK bY em;rw [af,af,e5] at this;rw [this] at h4;revert h4;show ¬ ((!decide (V.int ((5:Nat):Int)=V.int 5))=true);decide
 have h5:ws.length=5:=by
  by_cases q:ws.length=5
  ·exact q
  ·refine iG ?_ h4
   have:¬ V.int (ws.length:Int)=V.int 5:=fun z=>by
    injection z with z
    lia
   rw [iI this];rfl
 refine ⟨_,rfl,L,rfl,⟨_,SqL.of e1⟩,?_⟩;refine comp_list (K:=K) (a:=L) (xs:=ws.map V.str) (fun j zs H3=>cL H1 H3∧∃ ns:List Int,zs=ns.map V.int∧(ws.take j).map rdW=ns.map some) ⟨cL.refl _,[],rfl,rfl⟩ (fun j zs H3 hj ⟨g1,ns,g2,g3⟩=>?_) (by rw [af,h5];decide) (fun j x zs H3 hx3 ⟨g1,ns,g2,g3⟩=>?_) (fun zs H3 ⟨g1,ns,g2,g3⟩ D hD=>?_)
 ·refine ⟨SqL.of (g1 _ _ e1),?_⟩
  have:=iK bY g3;rw [af,af,bq] at this;rw [g2,af];lia
 ·rw [aS] at hx3
  obtain ⟨x',hx',rfl⟩:=b9.mp hx3;refine gd ?_;refine ⟨_,rfl,x',rfl,hsl x' (aZ hx'),fun i H4 hi S4=>⟨g1.trans S4,ns++[i],?_,?_⟩,fun H4 hn S4=>?_⟩
  ·rw [g2,aK];rfl
  ·rw [d0,hx',aK,aK,g3]
   show ns.map some++[rdW x']=_;rw [hi];rfl
  ·refine k2 H4 (fun ns' ⟨_,em⟩=>?_) (S1.trans (g1.trans S4))
   rw [hws] at em;have q:=iK (fun l=>l[j]?) em;simp only [aS,hx',Option.map_some,hn] at q;cases q2:ns'[j]? with
   | none=>rw [q2] at q;cases q
   | some i=>rw [q2] at q;cases q
 ·rw [af,ck] at g3
  refine ⟨D,zs,rfl,SqL.of bG,fun p H4 S4 e4=>?_⟩;rw [g2] at e4;refine k1 ns p H4 ⟨?_,by rw [hws];exact g3⟩ (S1.trans (g1.trans (cL.trans (cL.put (cL.refl H3) hD) S4))) e4;have:=iK bY g3;rw [af,af] at this;lia
theorem scNetR:cj ["text","rows","head","net"] ["text"] (defScope sNetR):=by trivial
theorem ok_netX {fH fS fI c:aj}{fdH fdS fdI:aY}(F:Fun K "read_net" "read_net" sNetR f fd)(T:Nm mg)(T2:Nm2 mg)(TE:Exc K mg "NoText" c)(GH:Fn K mg "read_head" sHead ["row"] fH fdH)(FH:da P w K mg base (CXN P w) 3 fH fdH ["row"] (spHeadX c))
  (GS:Fn K mg "read_span" sSpanR ["row"] fS fdS) (FS:da P w K mg base (CXN P w) 3 fS fdS ["row"] (spSpanX c)) (GI:Fn K mg "is_net" sNet pza fI fdI) (FI:da P w K mg base CX0 5 fI fdI pza spNet):da P w K mg base (CXN P w) 6 f fd ["text"] (spNetX c):=by
 refine F.okX scNetR (by contradiction) (fun cdv A outer s H vs Q E hr XD h=>?_);obtain ⟨v,Ty,rfl,hT,kno,kyes⟩:=h;have hr3:fM 3 _:=hr.mono (by decide);refine ⟨_,aU (dO (eP (d5 (pe_isStr T T2 (pv 0)))) (bc (gk XD rfl TE bQ)) bZ)
  (aU (psZ 1 scNetR.nd (gw bb cY cX gp (pv 0) (ae bQ av)))
  (aU (psZ 2 scNetR.nd (pcX GH FH hr3 XD.pass (ae (eZ cD (pv 1) aA (fun _ _=>rfl)) av)))
  (aU (psZ 3 scNetR.nd (pe_tupA (ae (ixZ (pv 2)) (ae (ixZ (pv 2)) (ae (dC call_tupA rfl T.ttup boot_tuple (ae (pe_compX (fr:=[]) (js:=[]) XD rfl (pi_list (cP cT (pv 1) (dm aA) dn)) (by trivial) rfl (by trivial) rfl (by exists sNetR) (by trivial) rfl (by trivial) (fun _ _ _ _ _ hp=>⟨(pcX GS FS hr3 hp (ae (pv 0) av)),gX⟩)) av)) av)))))
  (aU (dO (eP (d5 (pc1 GI FI hr (ae (pv 3) av)))) (bc (gk XD rfl TE bQ)) bZ)
  (bc (bM (pv 3))))))),?_⟩
 refine ⟨_,rfl,_,Ty,rfl,hT,_,rfl,?_⟩
 by_cases hs:∃ z,v= .str z
 case neg =>
  refine iteB ?_ (kno (fun z e=>hs ⟨z,e⟩) H (cL.refl H));cases v with
  | str z=>exact iG ⟨z,rfl⟩ hs
  | ref a =>
   simp only [tyn] at hT;cases q:H a with
   | none=>rw [q] at hT;cases hT
   | some o=>rw [q] at hT;cases o <;> first | (cases hT;decide) | cases hT
  | non=>cases hT;decide
  | bl b=>cases hT;decide
  | int i=>cases hT;decide
  | _=>first | (cases hT;decide) | cases hT
 obtain ⟨z,rfl⟩:=hs;cases hT;obtain ⟨hz,k1,k2⟩:=kyes z rfl;refine iteC (by decide) ?_;have one:((nl_:Str).length == 0)=false:=by trivial
 refine ⟨_,rfl,rfl,_,_,rfl,rfl,one,aR (show _≤1000000 by lia) (by decide),fun L H1 S1 e1=>?_⟩;have e1:H1 L=some (.lst ((aD z nl_).map V.str)):=e1;have hsl:∀ p∈aD z nl_,p.length≤100000:=fun p hp=>aR (split_nl hp) hz
 have hne:aD z nl_≠[]:=by rw [nl_eq];exact gM z 10
 have hmany:(aD z nl_).length≤100001:=by rw [nl_eq];exact aR split_many (by lia)
 generalize hws:aD z nl_=ws at e1 hsl hne hmany
 match ws,hne with
 | r::rs,_ =>
 refine ⟨_,rfl,L,_,_,_,rfl,rfl,SqL.of e1,cq (j:=0) rfl,r,rfl,hsl r (by simp),fun b m p2 H2 hd S2 e2=>?_,fun H2 hn S2=>?_⟩
 case refine_2 =>
  refine k2 H2 (fun b m sp ⟨hx,_⟩=>?_) (S1.trans S2);obtain ⟨r',rs',e,hh,_⟩:=hx.ex;rw [hws] at e;obtain ⟨rfl,rfl⟩:=bJ e;exact hn b m hh
 refine ⟨_,rfl,p2,_,_,_,rfl,rfl,SqT.of e2,cq (j:=0) rfl,_,rfl,p2,_,_,_,rfl,rfl,SqT.of e2,cq (j:=1) rfl,_,rfl,1,rfl,L,_,rfl,SqL.of (S2 _ _ e1),fun L3 H3 S3 e3=>?_⟩;have ec:gQ ((r::rs).map V.str) (some 1) none=rs.map V.str:=by
  unfold gQ;rw [HT.sIx_none];have:=HT.sIx_nat ((r::rs).map V.str).length 0 1;rw [show ((1:Nat):Int)=1 from rfl] at this;rw [this];have e:min 1 ((r::rs).map V.str).length=1:=by simp
  rw [e,cH,List.drop_succ_cons,List.drop_zero,aN,Nat.add_sub_cancel,ck]
 rw [ec] at e3;have hlen:(rs.map V.str).length=rs.length:=by rw [af]
 rw [aN] at hmany;refine ⟨L3,rfl,⟨_,SqL.of e3⟩,?_⟩;refine comp_list (K:=K) (a:=L3) (xs:=rs.map V.str) (fun j zs H4=>cL H3 H4∧∃ sp:List (List Int),sp.length=j∧(∀ (i:Nat) (x:Str) (ns:List Int),rs[i]? =some x→sp[i]? =some ns→fv x ns)∧eW H4 zs (sp.map fun ns=> .tup (ns.map Dt.int))) ⟨cL.refl _,[],rfl,(fun _ _ _ _ e=>by simp at e),.nil⟩ (fun j zs H4 hj ⟨g1,sp,gl,ga,g2⟩=>?_) (by rw [hlen];exact aR (show rs.length≤1000000 by lia) (by decide)) (fun j x zs H4 hx4 ⟨g1,sp,gl,ga,g2⟩=>?_) (fun zs H4 ⟨g1,sp,gl,ga,g2⟩ D hD=>?_)
 ·refine ⟨SqL.of (g1 _ _ e3),?_⟩
  rw [g2.length,af];lia
 ·rw [aS] at hx4
  obtain ⟨x',hx',rfl⟩:=b9.mp hx4;refine gd ?_;refine ⟨_,rfl,x',rfl,hsl x' (aT _ (aZ hx')),fun ns p5 H5 hr5 S5 e5=>⟨g1.trans S5,sp++[ns],by rw [aq,gl];rfl,fun i x ns' hi hn=>?_,?_⟩,fun H5 hn S5=>?_⟩
  ·by_cases hij:i<sp.length
   ·rw [fi hij] at hn
    exact ga i x ns' hi hn
   ·rw [dw (by lia)] at hn
    by_cases h0:i - sp.length=0
    ·rw [h0] at hn
     have e:ns=ns':=by simpa using hn
     have ei:i=j:=by lia
     subst ei;rw [hx'] at hi;cases hi;rw [←e];exact hr5
    ·rw [df (by simp;lia)] at hn
     cases hn
  ·rw [aK]
   exact (g2.same S5).append (.cons (.tup e5 (eW.ints ns)) .nil)
  ·refine k2 H5 (fun b' m' sp' ⟨hx,_⟩=>?_) (S1.trans (S2.trans (S3.trans (g1.trans S5))))
   obtain ⟨r',rs',e,_,hl',ha'⟩:=hx.ex;rw [hws] at e;obtain ⟨rfl,rfl⟩:=bJ e;have hj:j<rs.length:=(bh.mp hx').1;exact hn _ (ha' j x' _ hx' (gE (by lia:j<sp'.length)))
 ·rw [hlen] at gl
  have RR:RdRows z b m sp:=⟨r,rs,hws,hd,gl.symm,ga⟩;refine ⟨D,zs,rfl,SqL.of bG,fun p6 H6 S6 e6=>⟨(by show 3≤ax;decide),fun t H7 S7 e7=>?_⟩⟩;have S47:cL H4 H7:=(cL.put (cL.refl H4) hD).trans (S6.trans S7);have hv:IsD H7 (.ref t) (netD b m sp):= .tup e7 (.cons (.int b) (.cons (.int m) (.cons (.tup (S7 _ _ e6) (g2.same S47)) .nil)));refine ⟨_,rfl,_,rfl,netD_g3 hv,fun H8 S8=>⟨_,rfl,?_⟩⟩;have S08:cL H H8:=S1.trans (S2.trans (S3.trans (g1.trans (S47.trans S8))));rw [netOk_I hv]
  by_cases hok:netI b m sp=true
  ·rw [hok]
   exact iteC rfl ⟨_,rfl,k1 b m sp _ H8 ⟨RR,hok⟩ S08 (hv.same S8)⟩
  ·rw [bI.mpr hok]
   refine iteB rfl (k2 H8 (fun b' m' sp' ⟨hx,hq⟩=>?_) S08);obtain ⟨rfl,rfl,rfl⟩:=RR.one hx;exact hok hq
theorem dig_big:∀ (k m:Nat),10 ^ k≤m→k+1≤(dig m).length
 | 0,m,_=>by
  have:=dig_ne m;cases e:dig m with
  | nil=>exact iG e this
  | cons a r=>simp
 | k+1,m,h=>by
  have e:(10:Nat) ^ (k+1)=10 ^ k * 10:=Nat.pow_succ ..;have p:1≤(10:Nat) ^ k:=Nat.pos_of_ne_zero (by simp);have h10:10≤m:=by lia
  rw [dig_ge h10,aq,ao];have:=dig_big k (m / 10) (by lia);lia
def Wn (i:Int):Prop:= -1≤i∧i<10 ^ 62
theorem Wn.cases (h:Wn i):i= -1∨∃ m:Nat,i=m∧m<10 ^ 62:=by
 by_cases h0:i= -1
 ·exact .inl h0
 ·have:=h.1
  obtain ⟨m,rfl⟩:=fO (by lia:0≤i);exact .inr ⟨m,rfl,by have:=h.2;lia⟩
theorem neg_cps:(cp (-1)).cps.toList=[45,49]:=by trivial
theorem Wn.free (h:Wn i)(hc:c<45):c ∉ (cp i).cps.toList:=by
 rcases h.cases with rfl | ⟨m,rfl,_⟩
 ·rw [neg_cps];simp;lia
 ·rw [fo,eU]
  intro q;have:=dig_all m c q;lia
theorem eE (h:W60 i):rdW (cp i)=some i:=by
 unfold rdW;rw [iF (numI_numeral h)];exact numI_int h
theorem rdW_of {j:Int}(h:Wn i)(e:rdW (cp i)=some j):j=i∧W60 i:=by
 by_cases hw:W60 i
 ·rw [eE hw] at e
  exact ⟨(aG e).symm,hw⟩
 ·refine iG (rdW_some e).1 ?_
  rcases h.cases with rfl | ⟨m,rfl,hm⟩
  ·decide +kernel
  ·have hb:10 ^ 60≤m:=by
    by_cases q:m<10 ^ 60
    ·exact iG ⟨by lia,by lia⟩ hw
    ·lia
   have:=dig_big 60 m hb;have e:(num m).length=(dig m).length:=by rw [←eU];simp [dD]
   rw [fo];unfold cU;rw [iI (by lia:¬ (num m).length≤60),Bool.false_and,Bool.and_false];decide
structure NetW (b m:Int)(sp:List (List Int)):Prop where
 b:Wn b
 m:Wn m
 few:sp.length≤42
 five:∀ ns∈sp,ns.length=5
 all:∀ ns∈sp,∀ i∈ns,Wn i
theorem rowW_free (h:∀ i∈ns,Wn i):10 ∉ (fz ns).cps.toList:=fun m=>by
 unfold fz at m;rw [gI,show bV ⟨#[32]⟩ (ns.map cp)=bw ⟨#[32]⟩ (ns.map cp) from bR _ _] at m
 rcases gP m with q | ⟨y,hy,q⟩
 ·lia
 ·obtain ⟨i,hi,rfl⟩:=cQ.mp hy
  exact (h i hi).free (by decide) q
theorem headW_free (hb:Wn b)(hm:Wn m):10 ∉ (dI b m).cps.toList:=by
 unfold dI;simp only [dG,az,not_or];refine ⟨⟨⟨?_,hb.free (by decide)⟩,?_⟩,hm.free (by decide)⟩ <;> decide +kernel
theorem ia (hb:Wn b)(hm:Wn m):aD (dI b m) sp_=([("beat" :Str),cp b,("happenings" :Str),cp m]:List Str):=by
 rw [hZ,gI];refine dg (by simp) fun p hp=>?_
 simp only [aw,aL,or_false] at hp
 rcases hp with rfl | rfl | rfl | rfl
 ·decide +kernel
 ·exact hb.free (by decide)
 ·decide +kernel
 ·exact hm.free (by decide)
theorem ir (h:∀ i∈ns,Wn i)(hne:ns≠[]):aD (fz ns) sp_=ns.map cp:=by
 unfold fz;rw [gI];refine dg (by simpa using hne) fun p hp=>?_
 obtain ⟨i,hi,rfl⟩:=cQ.mp hp;exact (h i hi).free (by decide)
theorem iw (h:NetW b m sp):aD (netT b m sp) nl_=dI b m::sp.map fz:=by
 unfold netT;rw [nl_eq];refine dg (by simp) fun p hp=>?_
 rcases aw.mp hp with rfl | hp
 ·exact headW_free h.b h.m
 ·obtain ⟨ns,hn,rfl⟩:=cQ.mp hp
  exact rowW_free (h.all ns hn)
theorem spanI_w60 (hm:m≤16)(h:gf b m ns=true):∀ i∈ns,W60 i:=by
 match ns,h with
 | [s,g,l,o,w],h =>
  simp only [gf,fw,fV,inI,iv,bf,decide_eq_true_eq] at h;obtain ⟨⟨⟨h1,h2⟩,⟨h3,h4⟩,_⟩,⟨⟨h5,h6⟩,h7,h8⟩,h9,h10⟩:=h;have h7:=iJ h7;have h8:=iJ h8;have h11:o≤B60:=by split at h8 <;> lia
  unfold B60 at h6 h11;intro i hi;simp only [aw,aL,or_false] at hi
  rcases hi with rfl | rfl | rfl | rfl | rfl <;> exact ⟨by lia,by lia⟩
theorem rd_net {b' m':Int}(N:NetW b m sp)(h:RdNet (netT b m sp) b' m' sp'):b'=b∧m'=m∧sp'=sp∧netI b m sp=true:=by
 obtain ⟨⟨r,rs,e,hh,hl,ha⟩,hok⟩:=h;rw [iw N] at e;obtain ⟨rfl,rfl⟩:=bJ e;obtain ⟨x,y,e2,ex,ey⟩:=hh;rw [ia N.b N.m] at e2;simp only [dF,and_true,true_and] at e2;obtain ⟨rfl,rfl⟩:=e2;obtain ⟨rfl,_⟩:=rdW_of N.b ex;obtain ⟨rfl,_⟩:=rdW_of N.m ey;rw [af] at hl;have es:sp'=sp:=by
  refine List.ext_getElem? fun j=>?_
  by_cases hj:j<sp.length
  ·have h1:sp[j]? =some sp[j]:=gE hj
   have h2:sp'[j]? =some (sp'[j]'(by lia)):=gE (by lia);rw [h1,h2];obtain ⟨h5,em⟩:=ha j (fz sp[j]) _ (by rw [aS,h1];rfl) h2;have hmem:=eg hj;have hall:=N.all _ hmem;have h5':=N.five _ hmem;rw [ir hall (by intro z;rw [z] at h5';cases h5'),d2] at em;congr 1;refine List.ext_getElem? fun i=>?_
   have q:=iK (fun l=>l[i]?) em;simp only [aS] at q;cases u1:(sp[j])[i]? with
   | none =>
    rw [u1] at q;cases u2:(sp'[j]'(by lia))[i]? with
    | none=>rfl
    | some v2=>rw [u2] at q;cases q
   | some v1 =>
    rw [u1] at q;cases u2:(sp'[j]'(by lia))[i]? with
    | none=>rw [u2] at q;cases q
    | some v2 =>
     rw [u2] at q;have q:rdW (cp v1)=some v2:=aG q;rw [(rdW_of (hall v1 (aZ u1)) q).1]
  ·rw [df (by lia),df (by lia)]
 subst es;exact ⟨rfl,rfl,rfl,hok⟩
theorem net_rd (N:NetW b m sp)(h:netI b m sp=true):RdNet (netT b m sp) b m sp:=by
 refine ⟨⟨dI b m,sp.map fz,iw N,⟨cp b,cp m,ia N.b N.m,?_,?_⟩,by rw [af],fun j x ns hx hn=>?_⟩,h⟩
 all_goals
  unfold netI at h;simp only [bf] at h;obtain ⟨h1,h2,h3,h4⟩:=h;simp only [inI,bf,decide_eq_true_eq] at h1 h2
 ·exact eE ⟨by lia,by have:=h1.2;unfold B60 at this;lia⟩
 ·exact eE ⟨by lia,by have:=h2.2;lia⟩
 ·rw [aS,hn] at hx
  have hx:fz ns=x:=aG hx;subst hx;have hmem:=aZ hn;have h5:=N.five ns hmem;refine ⟨h5,?_⟩;rw [ir (N.all ns hmem) (by intro z;rw [z] at h5;cases h5),d2];have w:=spanI_w60 h2.2 (cK.mp h4 ns hmem);exact List.map_congr_left fun i hi=>eE (w i hi)
abbrev sShow:cE:=top 26
structure NetS (b m:Int)(sp:List (List Int)):Prop where
 b1:1≤b
 b2:b≤10 ^ 59
 m1:1≤m
 m2:m≤16
 few:sp.length≤40
 all:∀ ns∈sp,fY b m (ns.map V.int)
theorem fY.nums (hm:m≤16)(h:fY b m (ns.map V.int)):ns.length=5∧∀ i∈ns,W60 i:=by
 obtain ⟨s,g,l,o,w,e,h1,h2,h3,h4,h5,h6,h7,h8,h9,h10,h11⟩:=h;have e':ns=[s,g,l,o,w]:=by
  match ns,e with
  | [a1,a2,a3,a4,a5],e=>simp at e;obtain ⟨rfl,rfl,rfl,rfl,rfl⟩:=e;rfl
 subst e';refine ⟨rfl,fun i hi=>?_⟩;simp only [aw,aL,or_false] at hi
 rcases hi with rfl | rfl | rfl | rfl | rfl <;> exact ⟨by lia,by lia⟩
theorem NetS.n (h:NetS b m sp):NetN b m sp :=
 ⟨⟨by have:=h.b1;lia,by have:=h.b2;lia⟩,⟨by have:=h.m1;lia,by have:=h.m2;lia⟩,h.few,fun ns hn=>(fY.nums h.m2 (h.all ns hn)).1,fun ns hn=>(fY.nums h.m2 (h.all ns hn)).2⟩
inductive spShow (vs:List V)(H:Hp)(Q:VK)(_:XK):Prop
 | mk (v b m sp:_)(_:vs=[v])(_:IsD H v (netD b m sp))(_:NetN b m sp)(_:∀ H',cL H H'→Q (.str (netT b m sp)) H')
theorem NetIs.data {t:aj}{p:aj}(N:NetIs H t b m p xs):∃ sp,NetS b m sp∧IsD H (.ref t) (netD b m sp):=by
 have key:∀ ys:List V,(∀ v∈ys,gr H b m v)→∃ sp:List (List Int),ys.length=sp.length∧(∀ ns∈sp,fY b m (ns.map V.int))∧eW H ys (sp.map fun ns=> .tup (ns.map Dt.int)):=by
  intro ys
  induction ys with
  | nil=>exact fun _=>⟨[],rfl,fun _ h=>iG h (by simp),.nil⟩
  | cons y r ih =>
   intro h;obtain ⟨sp,h1,h2,h3⟩:=ih fun v hv=>h v (aT _ hv)
   obtain ⟨q,zs,rfl,hq,hs⟩:=h y (by simp);obtain ⟨s,g,l,o,w,rfl,hh⟩:=id hs.ex;refine ⟨[s,g,l,o,w]::sp,by rw [aN,aN,h1],fun ns hn=>?_,.cons (.tup hq (eW.ints [s,g,l,o,w])) h3⟩
   rcases aw.mp hn with rfl | hn
   ·exact hs
   ·exact h2 ns hn
 obtain ⟨sp,h1,h2,h3⟩:=key xs N.all;exact ⟨sp,⟨N.b1,N.b2,N.m1,N.m2,by have:=N.few;lia,h2⟩,.tup N.at_ (.cons (.int b) (.cons (.int m) (.cons (.tup N.sp h3) .nil)))⟩
theorem scShow:cj ["net","beat","many","rows","span"] ["net"] (defScope sShow):=by trivial
theorem ok_show (F:Fun K "show_net" "show_net" sShow f fd)(T:Nm mg)(T2:Nm2 mg):da P w K mg base CX0 1 f fd ["net"] spShow:=by
 refine F.ok scShow (by contradiction) (fun cdv A outer s H vs Q E hr h=>?_);obtain ⟨v,b,m,sp,rfl,hv,N,k⟩:=h;obtain ⟨t,p,ys,rfl,ht,hp,ry⟩:=netD_of hv;refine ⟨_,aU (psZ 1 scShow.nd (ixZ (pv 0)))
  (aU (psZ 2 scShow.nd (ixZ (pv 0)))
  (aU (psZ 3 scShow.nd (gm (ae (pe_fstr (pj_str (pj_int (pv 1) (pj_str (pj_int (pv 2) pj_nil))))) av)))
  (aU (ps_for PassesOwn.never rfl (pi_tup (ixZ (pv 0))) (pgZ 4 scShow.nd) (bc (ps_expr (gw PySem.F.plainAttrs_list PySem.F.slot_list_append PySem.F.type_list_append mt_append (pv 3) (ae (gw bb cJ cI gx bQ (ae (pe_comp (fr:=[]) (js:=[]) rfl (pi_tup (pv 4)) (by trivial) rfl (by trivial) rfl (by exists sShow) (by trivial) rfl (by trivial) (fun _ _ _ _ _=>⟨(dC dH rfl T2.tstr boot_str (ae (pv 0) av)),gX⟩)) av)) av)))))
  (bc (bM (gw bb cJ cI gx bQ (ae (pv 3) av))))))),?_⟩
 have l5:("beat " :Str).length=5:=by trivial
 have l12:(" happenings " :Str).length=12:=by trivial
 have lb:(cp b).length≤60:=eQ N.b60;have lm:(cp m).length≤60:=eQ N.m60;refine ⟨_,rfl,t,_,_,_,rfl,rfl,SqT.of ht,cq (j:=0) rfl,?_⟩;refine ⟨_,rfl,t,_,_,_,rfl,rfl,SqT.of ht,cq (j:=1) rfl,?_⟩;have q1:(bp++("beat " :Str)).length≤ax:=gi (by rw [ff,l5];lia);have q2:(bp++("beat " :Str)++cp b).length≤ax:=gi (by rw [ff,dq,l5];lia);have q3:(bp++("beat " :Str)++cp b++(" happenings " :Str)).length≤ax:=gi (by rw [ff,dq,dq,l5,l12];lia);have q4:(bp++("beat " :Str)++cp b++(" happenings " :Str)++cp m).length≤ax:=gi (by rw [ff,dq,dq,dq,l5,l12];lia);refine ⟨q1,_,rfl,b,rfl,gD N.b60,q2,q3,_,rfl,m,rfl,gD N.m60,q4,q4,szZ1,fun L hL=>?_⟩;have S1:cL H (upd H L (.lst [V.str (bp++("beat " :Str)++cp b++(" happenings " :Str)++cp m)])):=cL.put (cL.refl H) hL;have e1:(upd H L (.lst [V.str (bp++("beat " :Str)++cp b++(" happenings " :Str)++cp m)])) L=_:=bG;have eh:bp++("beat " :Str)++cp b++(" happenings " :Str)++cp m=dI b m:=by rw [ff];rfl
 rw [eh] at e1 S1;show tSeq _ _ _ _ (upd H L (.lst [V.str (bp++("beat " :Str)++cp b++(" happenings " :Str)++cp m)]));rw [eh];generalize upd H L (.lst [V.str (dI b m)])=H1 at e1 S1 ⊢;have ht1:=S1 _ _ ht;refine ⟨_,rfl,t,_,_,_,rfl,rfl,SqT.of ht1,cq (j:=2) rfl,p,rfl,⟨_,SqT.of (S1 _ _ hp)⟩,?_⟩;have hyl:=ry.length;rw [af] at hyl;have w1:(sp_:Str).length≤16:=by trivial
 have w2:(nl_:Str).length≤16:=by trivial
 refine for_tup (K:=K) (a:=p) (xs:=ys) (fun i σ H2=>(∀ c o,c≠L→H1 c=some o→H2 c=some o)∧(∃ v4,σ=[some (.ref t),some (.int b),some (.int m),some (.ref L),v4])∧H2 L=some (.lst ((dI b m::(sp.take i).map fz).map V.str)))
  ⟨fun _ _ _ e=>e,⟨none,rfl⟩,e1⟩ (fun i σ H2 _ ⟨S2,_,_⟩=>SqT.of (S2 _ _ (ne_of (S1 _ _ hp) e1 nofun) (S1 _ _ hp))) ?_ ?_
 ·rintro i x σ H2 hx ⟨S2,⟨v4,rfl⟩,e2⟩
  obtain ⟨ns,q,hn,rfl,hq⟩:=spanD_of ry hx;have hq1:=S1 _ _ hq;have hq2:=S2 _ _ (ne_of hq1 e1 nofun) hq1;have hm:=aZ hn;have w60:=N.s60 ns hm;have l5:=N.five ns hm;refine ⟨_,rfl,.inl ⟨rfl,_,SqL.of e2⟩,rfl,_,rfl,q,rfl,⟨_,SqT.of hq2⟩,?_⟩;refine comp_tup (K:=K) (a:=q) (xs:=ns.map V.int) (fun j zs H3=>H3=H2∧zs=((ns.take j).map cp).map V.str) ⟨rfl,rfl⟩ (fun j zs H3 hj ⟨g1,g2⟩=>?_) (by rw [af];exact gi (by lia)) (fun j x zs H3 hx3 ⟨g1,g2⟩=>?_) (fun zs H3 ⟨g1,g2⟩ D hD=>?_)
  ·subst g1
   refine ⟨SqT.of hq2,?_⟩;rw [g2,af,af,bq];lia
  ·subst g1
   rw [aS] at hx3;obtain ⟨n,hn3,rfl⟩:=b9.mp hx3;refine gd ?_;refine ⟨_,rfl,n,rfl,gD (w60 n (aZ hn3)),rfl,?_⟩;rw [g2,d0,hn3,aK,aK];rfl
  ·subst g1
   rw [af,ck] at g2;have s1:=nums_sum w60;refine ⟨_,D,ns.map cp,rfl,rfl,SqL.of (by rw [bG,g2]),w1,by rw [af];lia,?_⟩;refine ⟨L,_,_,rfl,rfl,(by rw [bU (br e2 hD)];exact e2),?_,?_⟩
   ·rw [af,aN,af,bq]
    have h40:=N.few;have:(1000:Nat)<ax:=by decide
    lia
   ·refine ⟨fun c o hc e=>?_,⟨_,rfl⟩,?_⟩
    ·rw [bU hc,bU (br (S2 c o hc e) hD)]
     exact S2 c o hc e
    ·rw [bG,d0,hn]
     simp only [Option.toList_some,aK,cH,List.map_nil,List.cons_append];rfl
 ·rintro σ H2 ⟨S2,⟨v4,rfl⟩,e2⟩
  rw [hyl,ck] at e2;have hs:=rows_sum N sp.length;rw [ck] at hs;refine ⟨rfl,_,rfl,_,L,dI b m::sp.map fz,rfl,rfl,SqL.of e2,w2,?_,?_⟩
  ·rw [aN,af]
   have h40:=N.few;lia
  ·refine k H2 fun c o e=>?_
   by_cases hc:c=L
   ·rw [hc,hL] at e
    cases e
   ·exact S2 c o hc (S1 c o e)
theorem tj (g:Str)(ys:List Str):bV g ys=bw g ys:=bR _ _
theorem fQ (g:Str):∀ {as bs:List Str},as≠[]→bs≠[]→bw g (as++bs)=bw g as++g++bw g bs
 | [],_,h,_=>iG rfl h
 | [a],[],_,h=>iG rfl h
 | [a],b::bs,_,_=>rfl
 | a::a'::r,bs,_,hb=>by
  show a++g++bw g (a'::r++bs)=a++g++bw g (a'::r)++g++bw g bs;rw [fQ g (as:=a'::r) (by simp) hb];simp only [fg]
structure Wd (k:Nat)(w:Str):Prop where
 sp:32 ∉ w.cps.toList
 nl:10 ∉ w.cps.toList
 len:w.length≤k
structure Rw (k:Nat)(z:Str)(ws:List Str):Prop where
 eq:z=bV sp_ ws
 ne:ws≠[]
 wd:∀ w∈ws,Wd k w
 few:ws.length≤6
theorem Rw.split (h:Rw k z ws):aD z sp_=ws:=by
 rw [h.eq,gI];exact dg h.ne fun p hp=>(h.wd p hp).sp
theorem Rw.free (h:Rw k z ws):10 ∉ z.cps.toList:=fun m=>by
 rw [h.eq,tj,gI] at m
 rcases gP m with q | ⟨y,hy,q⟩
 ·lia
 ·exact (h.wd y hy).nl q
theorem Rw.len (h:Rw 70 z ws):z.length≤430:=by
 rw [h.eq,tj];have h1:=dX sp_ ws;have h2:(ws.map (·.length)).sum≤ws.length * 70:=gS _ 70 _ fun w hw=>(h.wd w hw).len
 have h3:(sp_:Str).length=1:=by trivial
 have:=h.few;rw [h3] at h1;lia
theorem Rw.up (h:Rw 60 z ws):Rw 70 z ws:=⟨h.eq,h.ne,fun w hw=>⟨(h.wd w hw).sp,(h.wd w hw).nl,by have:=(h.wd w hw).len;lia⟩,h.few⟩
def eR (n:Nat)(z:Str):Prop:=∃ ws,Rw 70 z ws∧(ws.length≠n∨∃ x,ws.getLast? =some x∧rdW x=none)
theorem eR.head (h:eR 4 z):∀ b m,¬ eI z b m:=by
 rintro b m ⟨x,y,e,ex,ey⟩;obtain ⟨ws,R,h⟩:=h;rw [R.split] at e;subst e
 rcases h with h | ⟨u,hu,hn⟩
 ·exact h rfl
 ·have eu:y=u:=aG hu
  rw [eu,hn] at ey;cases ey
theorem eR.span (h:eR 5 z):∀ ns,¬ fv z ns:=by
 rintro ns ⟨h5,em⟩;obtain ⟨ws,R,h⟩:=h;rw [R.split] at em;have hl:=iK bY em;rw [af,af] at hl
 rcases h with h | ⟨u,hu,hn⟩
 ·lia
 ·have q:=iK List.getLast? em
  rw [List.getLast?_map,hu,List.getLast?_map] at q;simp only [Option.map_some,hn] at q;cases q2:ns.getLast? with
  | none=>rw [q2] at q;cases q
  | some i=>rw [q2] at q;cases q
structure RwI (z:Str)(ws:List Str):Prop where
 r:Rw 60 z ws
 two:4≤ws.length
 five:ws.length≤5
 pos:∀ w∈ws,1≤w.length
theorem Wd.nil:Wd 70 bp:=⟨by decide,by decide,by decide⟩
theorem way0 (h:RwI z ws){a b:List Nat}(e:z.cps.toList=a++32::b)(ey:y.cps.toList=a++32::32::b):eR ws.length y:=by
 obtain ⟨as,ea⟩:∃ as,as=aD ⟨a.toArray⟩ ⟨#[32]⟩:=⟨_,rfl⟩;obtain ⟨bs,eb⟩:∃ bs,bs=aD ⟨b.toArray⟩ ⟨#[32]⟩:=⟨_,rfl⟩;have ja:bw ⟨#[32]⟩ as=⟨a.toArray⟩:=by rw [ea];exact dN _ _
 have jb:bw ⟨#[32]⟩ bs=⟨b.toArray⟩:=by rw [eb];exact dN _ _
 have na:as≠[]:=by rw [ea];exact gM _ _
 have nb:bs≠[]:=by rw [eb];exact gM _ _
 have fa:∀ p∈as,32 ∉ p.cps.toList:=by rw [ea];exact StrLaws.split_free _ _
 have fb:∀ p∈bs,32 ∉ p.cps.toList:=by rw [eb];exact StrLaws.split_free _ _
 have ez:z=bV ⟨#[32]⟩ (as++bs):=by
  rw [tj,fQ _ na nb,ja,jb];refine fZ ?_;rw [e,dG,dG];simp
 have es:ws=as++bs:=by
  have:=h.r.split;rw [gI,ez,dg (by simp [na]) (fun p hp=>(az.mp hp).elim (fa p) (fb p))] at this;exact this.symm
 have eyy:y=bV sp_ (as++([bp]++bs)):=by
  rw [gI,tj,fQ _ na (by simp),fQ _ (by simp) nb,ja,jb];refine fZ ?_;rw [ey,dG,dG,dG,dG];simp [bw,bp]
 have hw:=h.r.up.wd;rw [es] at hw;have h5:=h.five;rw [es,aq] at h5;refine ⟨as++([bp]++bs),⟨eyy,by simp,fun w hm=>?_,by simp;lia⟩,.inl ?_⟩
 ·rcases az.mp hm with q | q
  ·exact hw w (cR _ q)
  ·rcases az.mp q with q | q
   ·rw [ay.mp q];exact Wd.nil
   ·exact hw w (aE _ q)
 ·rw [es];simp
theorem way1 (h:RwI z ws):eR ws.length (sp_++z)∧eR ws.length (z++sp_):=by
 have h5:=h.five
 constructor
 ·refine ⟨[bp]++ws,⟨?_,by simp,fun w hm=>?_,by simp;lia⟩,.inl (by simp)⟩
  ·have q:bw sp_ ws=z:=by rw [←tj];exact h.r.eq.symm
   rw [tj,fQ _ (by simp) h.r.ne,q];show _=bp++sp_++z;rw [ff]
  ·rcases az.mp hm with q | q
   ·rw [ay.mp q];exact Wd.nil
   ·exact h.r.up.wd w q
 ·refine ⟨ws++[bp],⟨?_,by simp,fun w hm=>?_,by simp;lia⟩,.inl (by simp)⟩
  ·have q:bw sp_ ws=z:=by rw [←tj];exact h.r.eq.symm
   rw [tj,fQ _ h.r.ne (by simp),q];show _=z++sp_++bp;refine fZ ?_;rw [dG (z++sp_)];simp [bp]
  ·rcases az.mp hm with q | q
   ·exact h.r.up.wd w q
   ·rw [ay.mp q];exact Wd.nil
theorem way2 (h:RwI z ws)(hk:k<ws.length):eR ws.length (bV sp_ (ws.take k++ws.drop (k+1))):=by
 have h2:=h.two;have h5:=h.five;have e:(ws.take k++ws.drop (k+1)).length=ws.length - 1:=by simp;lia
 refine ⟨_,⟨rfl,fun q=>?_,fun w hm=>?_,by lia⟩,.inl (by lia)⟩
 ·rw [q] at e;simp at e;lia
 ·rcases az.mp hm with q | q
  ·exact h.r.up.wd w (bD q)
  ·exact h.r.up.wd w (cu q)
theorem way3 (h:RwI z ws)(hx:ws[k]? =some x):eR ws.length (bV sp_ (ws.take k++[x]++ws.drop k)):=by
 have h5:=h.five;have e:(ws.take k++[x]++ws.drop k).length=ws.length+1:=by simp;lia
 refine ⟨_,⟨rfl,by simp,fun w hm=>?_,by lia⟩,.inl (by lia)⟩
 rcases az.mp hm with q | q
 ·rcases az.mp q with q | q
  ·exact h.r.up.wd w (bD q)
  ·rw [ay.mp q];exact h.r.up.wd x (aZ hx)
 ·exact h.r.up.wd w (cu q)
theorem way4 (h:RwI z ws)(hx:Wd 70 x)(hr:rdW x=none):eR ws.length (bV sp_ (ws.take k++[x])):=by
 have h5:=h.five;refine ⟨_,⟨rfl,by simp,fun w hm=>?_,by simp;lia⟩,.inr ⟨x,by simp,hr⟩⟩
 rcases az.mp hm with q | q
 ·exact h.r.up.wd w (bD q)
 ·rw [ay.mp q];exact hx
theorem rdW_no (h:cU x=false):rdW x=none:=by unfold rdW;rw [iE (by rw [h];decide)]
theorem odd0 (h:1≤x.length):rdW (("0" :Str)++x)=none:=by
 refine rdW_no ?_;unfold cU;have e:("0" :Str).cps.toList=[48]:=by trivial
 have l:("0" :Str).length=1:=by trivial
 rw [dG,e,dq,l,iH (by lia:1<1+x.length)];simp
theorem odd1 (hc:c∈y.cps.toList)(h:¬ (48≤c∧c≤57)):rdW (x++y)=none:=by
 refine rdW_no ?_;have e:((x++y).cps.toList.all fun c=>decide (48≤c∧c≤57))=false:=by
  rw [bI];intro q;rw [cK] at q;exact h (iJ (q c (by rw [dG];exact aE _ hc)))
 unfold cU;rw [e];simp
theorem Wd.app (hx:Wd k x)(hy:Wd j y)(h:k+j≤70):Wd 70 (x++y):=by
 refine ⟨?_,?_,?_⟩
 ·rw [dG,az,not_or];exact ⟨hx.sp,hy.sp⟩
 ·rw [dG,az,not_or];exact ⟨hx.nl,hy.nl⟩
 ·rw [dq];have:=hx.len;have:=hy.len;lia
theorem Wd.lit (h:(!y.cps.toList.contains 32 && (!y.cps.toList.contains 10 && decide (y.length≤10)))=true):Wd 10 y:=by
 simp only [bf,Bool.not_eq_true',decide_eq_true_eq] at h;refine ⟨fun q=>?_,fun q=>?_,h.2.2⟩
 ·have:=h.1;rw [List.contains_iff_mem.mpr q] at this;cases this
 ·have:=h.2.1;rw [List.contains_iff_mem.mpr q] at this;cases this
structure Rows (zs:List Str):Prop where
 free:∀ z∈zs,10 ∉ z.cps.toList
 len:∀ z∈zs,z.length≤500
 few:zs.length≤42
def ij (zs:List Str):Prop:=∀ b m sp,¬ RdNet (bV nl_ zs) b m sp
theorem Rows.split (h:Rows zs)(hne:zs≠[]):aD (bV nl_ zs) nl_=zs:=by
 rw [nl_eq];exact dg hne h.free
theorem Rows.all (h:Rows zs):(bV nl_ zs).length≤100000:=by
 rw [tj];have h1:=dX nl_ zs;have h2:(zs.map (·.length)).sum≤zs.length * 500:=gS _ 500 _ fun w hw=>h.len w hw
 have h3:(nl_:Str).length=1:=by trivial
 have:=h.few;rw [h3] at h1;lia
theorem Rows.sum (h:Rows zs):(zs.map (·.length)).sum≤21000:=by
 have h2:(zs.map (·.length)).sum≤zs.length * 500:=gS _ 500 _ fun w hw=>h.len w hw
 have:=h.few;lia
theorem no_head {r:Str}(R:Rows (r::rs))(h:∀ b m,¬ eI r b m):ij (r::rs):=by
 rintro b m sp ⟨⟨r',rs',e,hh,_⟩,_⟩;rw [R.split (by simp)] at e;obtain ⟨rfl,rfl⟩:=bJ e;exact h b m hh
theorem no_span {r:Str}(R:Rows (r::rs))(hx:x∈rs)(h:∀ ns,¬ fv x ns):ij (r::rs):=by
 rintro b m sp ⟨⟨r',rs',e,hh,hl,ha⟩,_⟩;rw [R.split (by simp)] at e;obtain ⟨rfl,rfl⟩:=bJ e;obtain ⟨i,hi⟩:=dv hx;have hi':i<rs.length:=(bh.mp hi).1;exact h _ (ha i x _ hi (gE (by lia:i<sp.length)))
theorem no_ends {r:Str}(R:Rows (r::rs))(h:eI r b m)(hb:¬ (1≤b∧1≤m)):ij (r::rs):=by
 rintro b' m' sp ⟨⟨r',rs',e,hh,_⟩,hok⟩;rw [R.split (by simp)] at e;obtain ⟨rfl,rfl⟩:=bJ e;obtain ⟨rfl,rfl⟩:=h.one hh;unfold netI at hok;simp only [bf,inI,decide_eq_true_eq] at hok;exact hb ⟨hok.1.1,hok.2.1.1⟩
theorem no_fit {r:Str}(R:Rows (r::x::rs))(h:eI r b m)(hx:fv x ns)(hs:gf b m ns=false):ij (r::x::rs):=by
 rintro b' m' sp ⟨⟨r',rs',e,hh,hl,ha⟩,hok⟩;rw [R.split (by simp)] at e;obtain ⟨rfl,rfl⟩:=bJ e;obtain ⟨rfl,rfl⟩:=h.one hh;rw [aN] at hl;have h0:sp[0]? =some (sp[0]'(by lia)):=gE (by lia);have q:=(ha 0 x _ rfl h0).one hx;unfold netI at hok;simp only [bf] at hok;have:=cK.mp hok.2.2.2 _ (aZ h0);rw [q,hs] at this;cases this
def cG (b m:Int)(sp:List (List Int)):List Str:=dI b m::sp.map fz
theorem numI_wd (h:W60 i):Wd 60 (cp i):=⟨eH h (by decide),eH h (by decide),eQ h⟩
theorem head_rw (hb:W60 b)(hm:W60 m):RwI (dI b m) ["beat",cp b,"happenings",cp m]:=by
 refine ⟨⟨hZ b m,by simp,fun w hw=>?_,by simp⟩,by simp,by simp,fun w hw=>?_⟩
 ·simp only [aw,aL,or_false] at hw
  rcases hw with rfl | rfl | rfl | rfl
  ·exact ⟨by trivial,by trivial,by trivial⟩
  ·exact numI_wd hb
  ·exact ⟨by trivial,by trivial,by trivial⟩
  ·exact numI_wd hm
 ·simp only [aw,aL,or_false] at hw
  rcases hw with rfl | rfl | rfl | rfl
  ·decide +kernel
  ·exact numI_pos hb
  ·decide +kernel
  ·exact numI_pos hm
theorem row_rw (h5:ns.length=5)(h:∀ i∈ns,W60 i):RwI (fz ns) (ns.map cp):=by
 have hne:ns.map cp≠[]:=fun q=>by
  have:=iK bY q;rw [af,h5] at this;cases this
 refine ⟨⟨rfl,hne,fun w hw=>?_,by rw [af];lia⟩,by rw [af];lia,by rw [af];lia,fun w hw=>?_⟩
 ·obtain ⟨i,hi,rfl⟩:=cQ.mp hw
  exact numI_wd (h i hi)
 ·obtain ⟨i,hi,rfl⟩:=cQ.mp hw
  exact numI_pos (h i hi)
theorem rows_rw (N:NetN b m sp)(h:(cG b m sp)[k]? =some x):∃ ws,RwI x ws∧ws.length=(if k=0 then 4 else 5):=by
 unfold cG at h;cases k with
 | zero=>cases h;exact ⟨_,head_rw N.b60 N.m60,rfl⟩
 | succ k =>
  rw [List.getElem?_cons_succ,aS] at h;obtain ⟨ns,hn,rfl⟩:=b9.mp h;have hm:=aZ hn;exact ⟨_,row_rw (N.five ns hm) (N.s60 ns hm),by rw [af,N.five ns hm];rfl⟩
theorem rows_ok (N:NetN b m sp):∀ z∈cG b m sp,10 ∉ z.cps.toList∧z.length≤430:=fun z hz=>by
 obtain ⟨i,hi⟩:=dv hz;obtain ⟨ws,R,_⟩:=rows_rw N hi;exact ⟨R.r.free,R.r.up.len⟩
theorem fD (N:NetN b m sp):(cG b m sp).length≤41∧1≤(cG b m sp).length:=by
 unfold cG;have:=N.few;rw [aN,af];lia
structure Out (zs:List Str):Prop where
 ne:zs≠[]
 rows:Rows zs
 no:ij zs
theorem Rows.of (N:NetN b m sp)(hl:zs.length≤42)(h:∀ z∈zs,z∈cG b m sp∨(10 ∉ z.cps.toList∧z.length≤500)):Rows zs :=
 ⟨fun z hz=>(h z hz).elim (fun q=>(rows_ok N z q).1) (fun q=>q.1),fun z hz=>(h z hz).elim (fun q=>by have:=(rows_ok N z q).2;lia) (fun q=>q.2),hl⟩
theorem no_spanE:∀ ns,¬ fv bp ns:=by
 rintro ns ⟨h5,em⟩;have e:aD bp sp_=[bp]:=by trivial
 rw [e] at em;have:=iK bY em;rw [af,af,h5] at this;cases this
theorem gO (h:(aD z sp_).length≠4):∀ b m,¬ eI z b m:=by
 rintro b m ⟨x,y,e,_⟩;rw [e] at h;exact h rfl
theorem out_at (N:NetN b m sp)(hk:k<(cG b m sp).length)(hj:k≤j)(hy:10 ∉ y.cps.toList∧y.length≤500)(h0:k=0→∀ b m,¬ eI y b m)(h1:k≠0→∀ ns,¬ fv y ns) :
  Out ((cG b m sp).take k++[y]++(cG b m sp).drop j):=by
 have hm:=fD N;have R:Rows ((cG b m sp).take k++[y]++(cG b m sp).drop j):=by
  refine Rows.of N (by rw [aq,aq,bq,dE,ao];lia) fun z hz=>?_
  rcases az.mp hz with q | q
  ·rcases az.mp q with q | q
   ·exact .inl (bD q)
   ·rw [ay.mp q];exact .inr hy
  ·exact .inl (cu q)
 have ne:(cG b m sp).take k++[y]++(cG b m sp).drop j≠[]:=fun q=>by
  have:=iK bY q;rw [aq,aq,ao,List.length_nil] at this;lia
 refine ⟨ne,R,?_⟩;cases k with
 | zero=>exact no_head (r:=y) (rs:=(cG b m sp).drop j) R (h0 rfl)
 | succ k =>
  unfold cG at R ⊢;rw [List.take_succ_cons] at R ⊢;exact no_span R (cR _ (aE _ (ay.mpr rfl))) (h1 (by lia))
theorem g7 (N:NetN b m sp)(hy:10 ∉ y.cps.toList∧y.length≤500)(h:(∀ b m,¬ eI y b m)∨∃ b' m',eI y b' m'∧¬ (1≤b'∧1≤m')):Out ([y]++(cG b m sp).drop 1):=by
 have hm:=fD N;have R:Rows ([y]++(cG b m sp).drop 1):=by
  refine Rows.of N (by rw [aq,dE,ao];lia) fun z hz=>?_
  rcases az.mp hz with q | q
  ·rw [ay.mp q];exact .inr hy
  ·exact .inl (cu q)
 refine ⟨by simp,R,?_⟩
 rcases h with h | ⟨b',m',h,hn⟩
 ·exact no_head R h
 ·exact no_ends R h hn
theorem out_second (N:NetN b m sp)(h5:ns.length=5)(hw:∀ i∈ns,W60 i)(h:gf b m ns=false):Out ((cG b m sp).take 1++[fz ns]++(cG b m sp).drop 1):=by
 have hm:=fD N;have Rr:=row_rw h5 hw;have R:Rows ((cG b m sp).take 1++[fz ns]++(cG b m sp).drop 1):=by
  refine Rows.of N (by rw [aq,aq,bq,dE,ao];lia) fun z hz=>?_
  rcases az.mp hz with q | q
  ·rcases az.mp q with q | q
   ·exact .inl (bD q)
   ·rw [ay.mp q];exact .inr ⟨Rr.r.free,by have:=Rr.r.up.len;lia⟩
  ·exact .inl (cu q)
 refine ⟨by simp [cG],R,?_⟩;refine no_fit (r:=dI b m) (x:=fz ns) R ⟨cp b,cp m,gB N.b60 N.m60,eE N.b60,eE N.m60⟩ ⟨h5,?_⟩ h;rw [Rr.r.split,d2];exact List.map_congr_left fun i hi=>eE (hw i hi)
theorem out_last (N:NetN b m sp):Out (cG b m sp++[bp]):=by
 have hm:=fD N;have R:Rows (cG b m sp++[bp]):=by
  refine Rows.of N (by rw [aq,ao];lia) fun z hz=>?_
  rcases az.mp hz with q | q
  ·exact .inl q
  ·rw [ay.mp q];exact .inr ⟨by decide,by decide⟩
 exact ⟨by simp,R,no_span R (aE _ (ay.mpr rfl)) no_spanE⟩
abbrev sBentL:cE:=top 37
inductive spBent (vs:List V)(H:Hp)(Q:VK)(_:XK):Prop
 | mk (v:V)(b m:Int)(sp:List (List Int))(L:aj)(n:Int)(_:vs=[v,.ref L,.int n])(_:IsD H v (netD b m sp))(_:NetS b m sp)(_:H L=some (.lst ((cG b m sp).map V.str)))(_:0≤n)(_:∀ p H' zs,Out zs→cL H H'→H' p=some (.lst (zs.map V.str))→Q (.ref p) H')
theorem beat_rw (hb:W60 b):Rw 60 (("beat " :Str)++cp b) ["beat",cp b]:=by
 refine ⟨?_,by simp,fun w hw=>?_,by simp⟩
 ·rw [tj]
  have e:("beat " :Str)=("beat" :Str)++sp_:=by trivial
  rw [e];rfl
 ·simp only [aw,aL,or_false] at hw
  rcases hw with rfl | rfl
  ·exact ⟨by trivial,by trivial,by trivial⟩
  ·exact numI_wd hb
theorem odd9 (hb:W60 b)(h0:0≤i)(h1:i<5):∃ y,atI [V.str (("beat " :Str)++cp b),V.str "Beat 5 happenings 2",V.str "5 2",V.str "",V.str "happenings 2 beat 5"] i=some (.str y)∧(10 ∉ y.cps.toList∧y.length≤500)∧∀ b m,¬ eI y b m:=by
 rcases (show i=0∨i=1∨i=2∨i=3∨i=4 by lia) with q | q | q | q | q <;> rw [q]
 ·have R:=beat_rw hb
  exact ⟨_,rfl,⟨R.free,by have:=R.up.len;lia⟩,gO (by rw [R.split];exact (by decide:(2:Nat)≠4))⟩
 ·refine ⟨_,rfl,⟨by trivial,by trivial⟩,fun b m ⟨x,y,e,_⟩=>?_⟩
  have e2:aD ("Beat 5 happenings 2" :Str) sp_=([("Beat" :Str),("5" :Str),("happenings" :Str),("2" :Str)]:List Str):=by trivial
  rw [e2] at e;have:=(bJ e).1;revert this;decide +kernel
 ·exact ⟨_,rfl,⟨by trivial,by trivial⟩,gO (by trivial)⟩
 ·exact ⟨_,rfl,⟨by trivial,by trivial⟩,gO (by trivial)⟩
 ·refine ⟨_,rfl,⟨by trivial,by trivial⟩,fun b m ⟨x,y,e,_⟩=>?_⟩
  have e2:aD ("happenings 2 beat 5" :Str) sp_=([("happenings" :Str),("2" :Str),("beat" :Str),("5" :Str)]:List Str):=by trivial
  rw [e2] at e;have:=(bJ e).1;revert this;decide +kernel
theorem row_five (a b c d e:Int):fz [a,b,c,d,e]=cp a++(sp_++(cp b++(sp_++(cp c++(sp_++(cp d++(sp_++cp e))))))):=by
 unfold fz;rw [tj];show cp a++sp_++(cp b++sp_++(cp c++sp_++(cp d++sp_++cp e)))=_;simp only [fg]
theorem odd11 (hb:W60 b)(hm:W60 m)(b1:1≤b)(m1:1≤m)(h0:0≤i)(h1:i<5):∃ ns,atI [V.str "0 0 1 1 1",V.str (("0 " :Str)++cp m++(" 0 0 0" :Str)),V.str "0 1 3 2 0",V.str (("0 1 0 " :Str)++cp b++(" 0" :Str)),V.str "0 1 0 0 1000000000001"] i=some (.str (fz ns))∧ns.length=5∧(∀ j∈ns,W60 j)∧gf b m ns=false:=by
 have w:∀ {j:Int},0≤j→j≤1000000000001→W60 j:=fun a c=>⟨a,by lia⟩
 rcases (show i=0∨i=1∨i=2∨i=3∨i=4 by lia) with q | q | q | q | q <;> rw [q]
 ·refine ⟨[0,0,1,1,1],?_,rfl,?_,?_⟩
  ·have:("0 0 1 1 1" :Str)=fz [0,0,1,1,1]:=by trivial
   rw [this];rfl
  ·intro j hj;simp only [aw,aL,or_false] at hj;rcases hj with rfl | rfl | rfl | rfl | rfl <;> first | exact w (by decide) (by decide) | exact hm | exact hb
  ·simp [gf,fw]
 ·refine ⟨[0,m,0,0,0],?_,rfl,?_,?_⟩
  ·have:("0 " :Str)++cp m++(" 0 0 0" :Str)=fz [0,m,0,0,0]:=by
    rw [row_five];have e1:("0 " :Str)=cp 0++sp_:=by trivial
    have e2:(" 0 0 0" :Str)=sp_++(cp 0++(sp_++(cp 0++(sp_++cp 0)))):=by trivial
    rw [e1,e2];simp only [fg]
   rw [this];rfl
  ·intro j hj;simp only [aw,aL,or_false] at hj;rcases hj with rfl | rfl | rfl | rfl | rfl <;> first | exact w (by decide) (by decide) | exact hm | exact hb
  ·have:inI (.int m) 0 (m - 1)=false:=by unfold inI;simp;lia
   simp [gf,fw,this]
 ·refine ⟨[0,1,3,2,0],?_,rfl,?_,?_⟩
  ·have:("0 1 3 2 0" :Str)=fz [0,1,3,2,0]:=by trivial
   rw [this];rfl
  ·intro j hj;simp only [aw,aL,or_false] at hj;rcases hj with rfl | rfl | rfl | rfl | rfl <;> first | exact w (by decide) (by decide) | exact hm | exact hb
  ·have:∀ hi:Int,inI (.int 2) 3 hi=false:=fun hi=>by unfold inI;simp
   simp [gf,fV,iv,this]
 ·refine ⟨[0,1,0,b,0],?_,rfl,?_,?_⟩
  ·have:("0 1 0 " :Str)++cp b++(" 0" :Str)=fz [0,1,0,b,0]:=by
    rw [row_five];have e1:("0 1 0 " :Str)=cp 0++(sp_++(cp 1++(sp_++(cp 0++sp_)))):=by trivial
    have e2:(" 0" :Str)=sp_++cp 0:=by trivial
    rw [e1,e2];simp only [fg]
   rw [this];rfl
  ·intro j hj;simp only [aw,aL,or_false] at hj;rcases hj with rfl | rfl | rfl | rfl | rfl <;> first | exact w (by decide) (by decide) | exact hm | exact hb
  ·have nb:∀ X:Int,X<b→inI (.int b) 0 X=false:=fun X h=>by unfold inI;simp;lia
   have q:inI (.int b) (iv (.int 0)) (if B60<iv (.int 0)+b - 1 then B60 else iv (.int 0)+b - 1)=false:=by
    refine nb _ ?_;have e:iv (.int 0)=0:=rfl;rw [e];split <;> lia
   simp only [gf,fV,q,Bool.and_false,Bool.false_and]
 ·refine ⟨[0,1,0,0,1000000000001],?_,rfl,?_,?_⟩
  ·have:("0 1 0 0 1000000000001" :Str)=fz [0,1,0,0,1000000000001]:=by trivial
   rw [this];rfl
  ·intro j hj;simp only [aw,aL,or_false] at hj;rcases hj with rfl | rfl | rfl | rfl | rfl <;> first | exact w (by decide) (by decide) | exact hm | exact hb
  ·simp [gf,inI]
theorem head16 (b:Int):("beat " :Str)++cp b++(" happenings 0" :Str)=dI b 0:=by
 unfold dI;have e:(" happenings 0" :Str)=(" happenings " :Str)++cp 0:=by trivial
 rw [e];simp only [fg]
theorem head17 (m:Int):("beat 0 happenings " :Str)++cp m=dI 0 m:=by
 unfold dI;congr 1
end HN
namespace L2
open PySem PySem.Spec PyProof.Rows
section
open Builtin.Str in
theorem gives_rep1 (x y z:Str)(t u v k:Tok)(h0:(u == 0 || v == 0)=false)(huv:(u == v)=false)(hyz:(y == z)=false)(hy:(y.length == 0)=false)
  (hc:(occurrences x y 0 x.length 1).isEmpty=false) (hl:tooLong (x.length+(occurrences x y 0 x.length 1).length * z.length)=false) :
  Gives (fu.«str.replace» ⟨[.str x t,.str y u,.str z v,.int 1 k],[]⟩) (.str (glued z (partsBetween x (occurrences x y 0 x.length 1) y.length))):=by
 show Gives (countLimit "str.replace" (some (.int 1 k)) (x.length+1) >>= fun limit=>if ((occurrences x y 0 x.length limit).isEmpty || (y.length == 0 && z.length == 0))=true then (rule "str.replace.nothing" >>= fun _=>ret (.str x t)) else (isSame (.str y u) (.str z v) >>= fun same=>if same=true then (rule "str.replace.old-is-new" >>= fun _=>ret (.str x t)) else if tooLong (x.length+(occurrences x y 0 x.length limit).length * z.length)=true then unsupported "str.replace:memory" else retStr (glued z (partsBetween x (occurrences x y 0 x.length limit) y.length)))) _;rw [countLimit_int "str.replace" 1 k (x.length+1) (by decide)];show Gives (if ((occurrences x y 0 x.length 1).isEmpty || (y.length == 0 && z.length == 0))=true then (rule "str.replace.nothing" >>= fun _=>ret (.str x t)) else (isSame (.str y u) (.str z v) >>= fun same=>if same=true then (rule "str.replace.old-is-new" >>= fun _=>ret (.str x t)) else if tooLong (x.length+(occurrences x y 0 x.length 1).length * z.length)=true then unsupported "str.replace:memory" else retStr (glued z (partsBetween x (occurrences x y 0 x.length 1) y.length)))) _;rw [hc,hy,isSame_str_other y z u v h0 huv hyz,hl];exact .of_eq rfl
open Builtin.Str in
theorem rep1_is (h:c∈x.cps.toList):∃ a b,x.cps.toList=a++c::b∧(occurrences x ⟨#[c]⟩ 0 x.length 1).isEmpty=false∧(occurrences x ⟨#[c]⟩ 0 x.length 1).length≤1∧(glued z (partsBetween x (occurrences x ⟨#[c]⟩ 0 x.length 1) 1)).cps.toList=a++(z.cps.toList++b):=by
 have hf:=StrLaws.found_one x c;rw [iH h] at hf;have he:(occurrences x ⟨#[c]⟩ 0 x.length 1).isEmpty=false:=by simpa using hf
 have hn:=StrLaws.occ_length_le x ⟨#[c]⟩ 0 x.length 1
 rcases StrLaws.occ_head x ⟨#[c]⟩ 1 (aI 1) with ⟨e,_⟩ | ⟨i,r,e,hi,_⟩
 ·rw [e] at he;cases he
 rw [e] at hn he ⊢;cases r with
 | cons j r=>simp at hn
 | nil =>
 have hm:=(StrLaws.subAt_one x c i).mp hi;have hil:=(bh.mp hm);obtain ⟨hl,hv⟩:=hil;refine ⟨x.cps.toList.take i,x.cps.toList.drop (i+1),?_,he,aI 1,?_⟩
 ·rw [←hv,List.getElem_cons_drop,List.take_append_drop]
 ·rw [bR]
  show (strSub x 0 i++z++strSub x (i+1) x.length).cps.toList=_;rw [Str.cps_append,Str.cps_append,eK,eK,StrLaws.strSub_toList,StrLaws.strSub_toList,List.drop_zero,Nat.sub_zero,List.append_assoc];have e2:(x.cps.toList.drop (i+1)).take (x.length - (i+1))=x.cps.toList.drop (i+1):=List.take_of_length_le (by simp [dD]);rw [e2]
theorem var_same {i:Nat}{Q:aa→ai→Prop}(hN:X.N[i]? =some x)(hv:Vis X.env.scope x)(I:Inv X ak σ H s)(e:σ[i]? =some (some v))(h:∀ u,eC v u→Q u s)
  (hd:(x == ("__debug__" :Str))=false:=by decide) (hcd:(x == ("__classdict__" :Str))=false:=by decide):ba (aX X.prog X.w) X.A (dW (.Name x pos) X.env) Q X.xe s:=by
 obtain ⟨m,hn,hl⟩:=I.loc;obtain ⟨u,r,l⟩:=hl i x v hN e hv;have fin:=h u r
 rcases l with ⟨hk,hm⟩ | ⟨hk,c,hc,fJ⟩
 ·exact wpAny_Name (wpAny_loadName_local I.ok.kind hk hn hm fin) hd
 ·rcases hk with hk | hk
  ·exact wpAny_Name (wpAny_loadName_cell I.ok.kind hk hc fJ fin) hd
  ·exact wpAny_Name (wpAny_loadName_free I.ok.kind hk hc fJ fin hcd) hd
def tRep1 (i j c:Nat)(z:Str):TS:=fun D σ H=>∃ n:Int,σ[i]? =some (some (.int n))∧∃ x:Str,σ[j]? =some (some (.str x)) ∧
 (if n=0 then c∈x.cps.toList∧x.length+z.length≤ax∧∀ (y:Str) (a b:List Nat),x.cps.toList=a++c::b→y.cps.toList=a++(z.cps.toList++b)→D.rt (.str y) H else D.nx σ H)
theorem ps_rep1 {i k1 k2 k3 k4:Nat}{xi xj:Str}{p1 p3 p4 p5 p6 p7 p8:Pos}(hi:X.N[i]? =some xi)(vi:Vis X.env.scope xi)(hj:X.N[j]? =some xj)(vj:Vis X.env.scope xj)(hz:((⟨#[c]⟩:Str) == z)=false)
  (hdi:(xi == ("__debug__" :Str))=false:=by decide) (hci:(xi == ("__classdict__" :Str))=false:=by decide) (hdj:(xj == ("__debug__" :Str))=false:=by decide) (hcj:(xj == ("__classdict__" :Str))=false:=by decide)
  (hline:(apos.endLine == cpos.line)=true:=by rfl) :
  PS X (.If (.Compare (.Name xi p1) [.Eq] [.Constant (.int 0) k1 p2] p3) [.Return (some (.Call (.Attribute (.Name xj p4) "replace" apos) [.Constant (.str ⟨#[c]⟩) k2 p5,.Constant (.str z) k3 p6,.Constant (.int 1) k4 p7] [] cpos)) p8] [] pos) (tRep1 i j c z):=by
 intro ak s σ H D I h;obtain ⟨n,en,x,ex,h⟩:=h;refine wpAny_If (wpAny_isTrue_Compare1 (var_same hi vi I en (fun u ru=>?_) hdi hci) (cM _));obtain ⟨t,rfl⟩:=(show ∃ t,u=aa.int n t from ru);refine wpAny_Constant_int (eq_int (cS ?_))
 by_cases h0:n=0
 ·subst h0
  rw [iF rfl] at h;obtain ⟨hm,hs,q⟩:=h;have I1:Inv X ak σ H { s with toks:=s.toks+1 }:=I.tok _;refine wpAny_execs_cons (wpAny_Return_some (wpAny_Call_method_late rfl rfl hline rfl (var_same hj vj I1 ex (fun u ru=>?_) hdj hcj)));obtain ⟨h1,h2⟩:=tyV_is (T := "str") I1 ru rfl;obtain ⟨t2,rfl⟩:=(show ∃ t,u=aa.str x t from ru);refine ⟨"str","str.replace",bb,F.slot_str_replace,F.type_str_replace,h1,h2,?_⟩;refine Calls.callWith_builtin rfl (Calls.evalArgs_plain (dS (wpAny_Constant_str (k:=k2) (pos:=p5) (dS (wpAny_Constant_str (k:=k3) (pos:=p6) (dS (wpAny_Constant_int (k:=k4) (pos:=p7) (Calls.spliced_nil ?_))))))));obtain ⟨a,b,e,he,hn,hg⟩:=rep1_is (z:=z) hm;have hb:fu.Str.tooLong (x.length+(bo x ⟨#[c]⟩ 0 x.length 1).length * z.length)=false:=by
   have:(bo x ⟨#[c]⟩ 0 x.length 1).length * z.length≤1 * z.length:=Nat.mul_le_mul_right _ hn;unfold fu.Str.tooLong;exact iI (by lia)
  refine call_gives F.slot_str_replace (typeIs_str _ _ _) F.entry_str_replace (F.args_str_replace_4 _ _ _ _) (gives_rep1 x ⟨#[c]⟩ z _ _ _ _ ?_ ?_ hz rfl he hb) ⟨?_,?_⟩
  ·simp
  ·simp
  ·have l1:=iK bY hg
   have l2:=iK bY e;simp only [aq,aN,Array.length_toList] at l1 l2;show Array.size (fu.Str.glued z (cb x (bo x ⟨#[c]⟩ 0 x.length 1) 1)).cps≤ax;have l3:x.length=x.cps.size:=rfl;have l4:z.length=z.cps.size:=rfl;lia
  ·exact ⟨.str _,σ,H,I.tok _,⟨_,rfl⟩,q _ a b e hg⟩
 ·rw [iE h0] at h
  have hb:(n == 0)=false:=by simpa using h0
  rw [hb];exact wpAny_execs_nil ⟨σ,H,I.tok _,h⟩
def timesT (z:Str)(n:Int):Str:=⟨(List.replicate n.toNat z.cps).foldl (· ++ ·) #[]⟩
theorem op_mul_str:OpR X (dJ .Mult) (fun x y H Q=>∃ (z:Str) (n:Int),x= .str z∧y= .int n∧2≤n∧n≤1000∧1≤z.length∧z.length≤1000∧(timesT z n).length≤ax∧Q (.str (timesT z n)) H):=by
 intro ak s σ H x y v u Q I rx ry h;obtain ⟨z,n,rfl,rfl,h2,h3,h1,hs,hf,q⟩:=h;obtain ⟨t,rfl⟩:=(show ∃ t,v=aa.str z t from rx);obtain ⟨t',rfl⟩:=(show ∃ t,u=aa.int n t from ry);refine P.mul_str (by rw [iI (by lia),iI (by lia)];rfl) (fun _ _=>?_) (fun _ _=>?_) ?_
 ·have:1000≤((2:Int) ^ 63 - 1) / n:=Int.le_ediv_of_mul_le (by lia) (by lia)
  lia
 ·have:z.length * n.toNat≤1000 * 1000:=Nat.mul_le_mul hs (by lia)
  exact iI (by have:ax=16777216:=sizeLine_eq;lia)
 ·rw [iE (by lia),iE]
  ·exact ⟨hf,.str _,H,I.tok _,⟨_,rfl⟩,q⟩
  ·have a:(n == 1)=false:=by simp;lia
   have b:(z.length == 0)=false:=by simp;lia
   rw [a,b];decide
end
end L2
namespace HN
open PySem L2 PyProof.Rows HT2
abbrev sBentRow:cE:=top 36
inductive spBentRow (vs:List V)(H:Hp)(Q:VK)(_:XK):Prop
 | mk (z:Str)(ws:List Str)(n:Int)(_:vs=[.str z,.int n])(_:RwI z ws)(_:0≤n)(_:∀ y H',eR ws.length y→cL H H'→Q (.str y) H')
theorem cutU {n:Nat}(hi:i=(n:Int)):gQ xs none (some i)=xs.take n:=by
 subst hi;unfold gQ;rw [HT.sIx_none,HT.sIx_nat,List.drop_zero,Nat.sub_zero]
 by_cases h:n≤xs.length
 ·rw [Nat.min_eq_left h]
 ·rw [Nat.min_eq_right (by lia),ck,List.take_of_length_le (by lia)]
theorem cutF {n:Nat}(hi:i=(n:Int)):gQ xs (some i) none=xs.drop n:=by
 subst hi;unfold gQ;rw [HT.sIx_none,HT.sIx_nat]
 by_cases h:n≤xs.length
 ·rw [Nat.min_eq_left h,List.take_of_length_le (by simp)]
 ·rw [Nat.min_eq_right (by lia),Nat.sub_self,List.take_zero,List.drop_of_length_le (by lia)]
theorem RwI.has (R:RwI z ws):32∈z.cps.toList:=by
 have two:=R.two;rw [R.r.eq,tj,gI]
 match ws,two with
 | w0::w1::r,_ =>
  rw [fK];simp
theorem Rw.sum (h:Rw k z ws):(ws.map (·.length)).sum≤6 * k:=by
 have:=gS (fun w:Str=>w.length) k ws fun w hw=>(h.wd w hw).len
 have:=h.few;have:ws.length * k≤6 * k:=Nat.mul_le_mul_right _ this;lia
theorem eR.ofJoin {n:Nat}{ys:List Str}(h:eR n (bV sp_ ys))(hw:∀ w∈ys,32 ∉ w.cps.toList)(hne:ys≠[]):(ys.map (·.length)).sum+ys.length≤1048576:=by
 obtain ⟨ws,R,_⟩:=h;have e:ws=ys:=by
  rw [←R.split,gI];exact dg hne hw
 subst e;have:=R.sum;have:=R.few;lia
theorem scBR:cj ["_law_row","_law_number","_law_words_of","_law_k","_law_way","_law_odd"] pzl (defScope sBentRow):=by trivial
theorem ok_bentRow (F:Fun K "_law_bent_row" "_law_bent_row" sBentRow f fd)(T:Nm mg):da P w K mg base CX0 1 f fd pzl spBentRow:=by
 refine F.ok scBR (by contradiction) (fun cdv A outer s H vs Q E hr h=>?_);obtain ⟨z,ws,n,rfl,R,hn,k⟩:=h;refine ⟨_,PSl.h (cN ⟨(psZ 2 scBR.nd (gw bb cY cX gp (pv 0) (ae bQ av)))⟩
  (cN ⟨(psZ 3 scBR.nd (bE eF (bE fG (pv 1) aA) (bH cy rfl T.len bK (ae (pv 2) av))))⟩
  (cN ⟨(psZ 4 scBR.nd (bE eF (pv 1) aA))⟩
  (cN ⟨(ps_rep1 (i:=4) (j:=0) (c:=32) (z := "  ") rfl (.inl rfl) rfl (.inl rfl) (by trivial))⟩
  (cN ⟨(dO (cn g9 (pv 4) aA (cM _)) (bc (bM (PEs.h (k_ix cD (k_lst (de (k_op cz ⟨bQ⟩ ⟨pv 0⟩) (de (k_op cz ⟨pv 0⟩ ⟨bQ⟩) a_nil))) (k_op eF (k_op fG ⟨pv 1⟩ k_int) k_int) (fun _ _=>rfl))))) bZ)⟩
  (cN ⟨(dO (cn g9 (pv 4) aA (cM _)) (bc (bM (gw bb cJ cI gx bQ (ae (bE dP (cP cT (pv 2) dn (dm (pv 3))) (cP cT (pv 2) (dm (bE eG (pv 3) aA)) dn)) av)))) bZ)⟩
  (cN ⟨(dO (cn g9 (pv 4) aA (cM _)) (bc (bM (gw bb cJ cI gx bQ (ae (bE dP (bE dP (cP cT (pv 2) dn (dm (pv 3))) (eT (ae (eZ cD (pv 2) (pv 3) (fun _ _=>rfl)) av))) (cP cT (pv 2) (dm (pv 3)) dn)) av)))) bZ)⟩
  (cN ⟨(psZ 3 scBR.nd (bE fX (bH cy rfl T.len bK (ae (pv 2) av)) aA))⟩
  (cN ⟨(psZ 5 scBR.nd (PEs.h (k_ix cD (k_lst (de (k_op cz ⟨bQ⟩ (k_ix cD ⟨pv 2⟩ ⟨pv 3⟩ (fun _ _=>rfl))) (de (k_op cz (k_ix cD ⟨pv 2⟩ ⟨pv 3⟩ (fun _ _=>rfl)) ⟨bQ⟩) (de (k_op cz (k_ix cD ⟨pv 2⟩ ⟨pv 3⟩ (fun _ _=>rfl)) ⟨bQ⟩) (de (k_op op_mul_str ⟨bQ⟩ k_int) a_nil))))) (k_op fX ⟨pv 4⟩ k_int) (fun _ _=>rfl))))⟩
  (l_one ⟨(bM (gw bb cJ cI gx bQ (ae (bE dP (cP cT (pv 2) dn (dm (pv 3))) (eT (ae (pv 5) av))) av)))⟩)))))))))),?_⟩
 have one:((sp_:Str).length == 0)=false:=by trivial
 have zl:=R.r.up.len;have ez:=R.r.split;have two:=R.two;have five:=R.five;refine ⟨_,rfl,rfl,_,_,rfl,rfl,one,aR (show _≤1000000 by lia) (by decide),fun L H1 S1 e1=>?_⟩;have e1:H1 L=some (.lst ((aD z sp_).map V.str)):=e1;rw [ez] at e1;have sL:SqL K H1 L (ws.map V.str):=SqL.of e1;have hlen:(ws.map V.str).length=ws.length:=by rw [af]
 refine ⟨_,rfl,_,_,rfl,rfl,⟨by decide,by decide⟩,_,rfl,L,_,rfl,.inl sL,_,_,rfl,rfl,by rw [hlen];lia,?_⟩;rw [hlen];refine ⟨_,rfl,_,_,rfl,rfl,(by decide:(0:Int)<8),?_⟩;obtain ⟨kn,ek,hk⟩:∃ kn:Nat,n / 16 % (ws.length:Int)=(kn:Int)∧kn<ws.length:=by
  have h0:=cf (n / 16) (show (ws.length:Int)≠0 by lia);have h1:=bL (n / 16) (show 0<(ws.length:Int) by lia);exact ⟨(n / 16 % (ws.length:Int)).toNat,by lia,by lia⟩
 simp only [ek];have w0:=cf n (show (8:Int)≠0 by decide);have w1:=bL n (show 0<(8:Int) by decide);generalize n % 8=way at w0 w1 ⊢;have hx:ws[kn]? =some ws[kn]:=gE hk;have hxV:atI (ws.map V.str) (kn:Int)=some (.str ws[kn]):=cq (by rw [aS,hx];rfl);have big:(100000:Nat)≤ax:=by decide
 have eqT:∀ {a b:Int},decide (V.int a=V.int b)=true→a=b:=fun q=>by have:=iJ q;injection this
 have eqF:∀ {a b:Int},¬ decide (V.int a=V.int b)=true→a≠b:=fun q e=>q (iH (by rw [e]))
 have w1:(sp_:Str).length≤16:=by trivial
 have ls:(sp_:Str).length=1:=by trivial
 have free:∀ w∈ws,32 ∉ w.cps.toList:=fun w hw=>(R.r.wd w hw).sp
 have lV:∀ j,((ws.map V.str).take j).length≤5∧((ws.map V.str).drop j).length≤5:=fun j=>by simp;lia
 refine ⟨_,rfl,z,rfl,fA (fun hw=>?_) (fun hw=>?_)⟩
 ·have e2:("  " :Str).cps.toList=[32,32]:=by trivial
  have l2:("  " :Str).length=2:=by trivial
  exact ⟨R.has,by rw [l2];lia,fun y a b ea ey=>k y H1 (way0 R ea (by rw [ey,e2];rfl)) S1⟩
 refine ⟨_,rfl,rfl,_,rfl,fA (fun hw1=>?_) (fun hw1=>?_)⟩
 ·obtain ⟨y,hy,hB⟩:∃ y,atI [V.str (sp_++z),V.str (z++sp_)] (n / 16 % 2)=some (.str y)∧eR ws.length y:=by
   rcases (show n / 16 % 2=0∨n / 16 % 2=1 by lia) with q | q <;> rw [q]
   ·exact ⟨_,rfl,(way1 R).1⟩
   ·exact ⟨_,rfl,(way1 R).2⟩
  refine ⟨_,rfl,_,_,rfl,rfl,by rw [ls];lia,_,rfl,_,_,rfl,rfl,by rw [ls];lia,szZ2,fun p2 H2 S2 e2=>?_⟩;exact ⟨_,rfl,_,_,rfl,rfl,⟨by decide,by decide⟩,_,_,rfl,rfl,(by decide:(0:Int)<2),p2,_,_,_,rfl,rfl,SqL.of e2,hy,k y H2 hB (S1.trans S2)⟩
 refine ⟨_,rfl,rfl,_,rfl,fA (fun hw2=>?_) (fun hw2=>?_)⟩
 ·refine ⟨rfl,_,rfl,_,rfl,_,rfl,L,_,rfl,sL,fun p2 H2 S2 e2=>?_⟩
  rw [cutU rfl] at e2;refine ⟨_,rfl,_,rfl,_,_,rfl,rfl,_,rfl,L,_,rfl,SqL.of (S2 _ _ e1),fun p3 H3 S3 e3=>?_⟩;rw [cutF (n:=kn+1) (by lia)] at e3;have a1:=lV kn;have a2:=lV (kn+1);refine ⟨p2,p3,_,_,rfl,rfl,S3 _ _ e2,e3,by lia,fun p4 H4 S4 e4=>?_⟩;have hB:=way2 R hk;have e5:(ws.map V.str).take kn++(ws.map V.str).drop (kn+1)=(ws.take kn++ws.drop (kn+1)).map V.str:=by rw [aK,List.map_take,List.map_drop]
  rw [e5] at e4;refine ⟨_,p4,_,rfl,rfl,SqL.of e4,w1,hB.ofJoin (fun w hw=>?_) (fun q=>?_),k _ H4 hB (S1.trans (S2.trans (S3.trans S4)))⟩
  ·rcases az.mp hw with q | q
   ·exact free w (bD q)
   ·exact free w (cu q)
  ·have:=iK bY q
   rw [aq,bq,dE,List.length_nil] at this;lia
 refine ⟨_,rfl,rfl,_,rfl,fA (fun hw3=>?_) (fun hw3=>?_)⟩
 ·refine ⟨rfl,_,rfl,_,rfl,_,rfl,L,_,rfl,sL,fun p2 H2 S2 e2=>?_⟩
  rw [cutU rfl] at e2;refine ⟨_,rfl,_,rfl,L,_,_,_,rfl,rfl,SqL.of (S2 _ _ e1),hxV,szZ1,fun p3 H3 S3 e3=>?_⟩;have a1:=lV kn;refine ⟨p2,p3,_,_,rfl,rfl,S3 _ _ e2,e3,by rw [ao];lia,fun p4 H4 S4 e4=>?_⟩;refine ⟨_,rfl,_,rfl,_,rfl,L,_,rfl,SqL.of (S4 _ _ (S3 _ _ (S2 _ _ e1))),fun p5 H5 S5 e5=>?_⟩;rw [cutF rfl] at e5;refine ⟨p4,p5,_,_,rfl,rfl,S5 _ _ e4,e5,by rw [aq,ao];lia,fun p6 H6 S6 e6=>?_⟩;have hB:=way3 R hx;have e7:(ws.map V.str).take kn++[V.str ws[kn]]++(ws.map V.str).drop kn=(ws.take kn++[ws[kn]]++ws.drop kn).map V.str:=by rw [aK,aK,List.map_take,List.map_drop];rfl
  rw [e7] at e6;refine ⟨_,p6,_,rfl,rfl,SqL.of e6,w1,hB.ofJoin (fun w hw=>?_) (fun q=>by have:=iK bY q;rw [aq,aq,ao,List.length_nil] at this;lia),k _ H6 hB (S1.trans (S2.trans (S3.trans (S4.trans (S5.trans S6)))))⟩
  rcases az.mp hw with q | q
  ·rcases az.mp q with q | q
   ·exact free w (bD q)
   ·rw [ay.mp q];exact free _ (eg _)
  ·exact free w (cu q)
 refine ⟨_,rfl,L,_,rfl,.inl sL,_,_,rfl,rfl,?_⟩;have el:((ws.map V.str).length:Int) - 1=((ws.length - 1:Nat):Int):=by rw [hlen];lia
 simp only [el];have hl:ws[ws.length - 1]? =some (ws[ws.length - 1]'(by lia)):=gE (by lia);have hm:=aZ hl;generalize ws[ws.length - 1]'(by lia)=x at hl hm;have hlV:atI (ws.map V.str) ((ws.length - 1:Nat):Int)=some (.str x):=cq (by rw [aS,hl];rfl);have xw:=R.r.wd x hm;have xp:=R.pos x hm;have xl:=xw.len;have l0:("0" :Str).length=1:=by trivial
 have lm:("-" :Str).length=1:=by trivial
 have la:("a" :Str).length=1:=by trivial
 obtain ⟨y,hy,yw,yr⟩:∃ y,atI [V.str (("0" :Str)++x),V.str (x++("-" :Str)),V.str (x++("a" :Str)),V.str (timesT ("9" :Str) 61)] (way - 4)=some (.str y)∧Wd 70 y∧rdW y=none:=by
  have h0:way≠0:=hw;have h1:=eqF hw1;have h2:=eqF hw2;have h3:=eqF hw3
  rcases (show way - 4=0∨way - 4=1∨way - 4=2∨way - 4=3 by lia) with q | q | q | q <;> rw [q]
  ·exact ⟨_,rfl,(Wd.lit (by trivial)).app xw (by decide),odd0 xp⟩
  ·exact ⟨_,rfl,xw.app (Wd.lit (by trivial)) (by decide),odd1 (c:=45) (by trivial) (by decide)⟩
  ·exact ⟨_,rfl,xw.app (Wd.lit (by trivial)) (by decide),odd1 (c:=97) (by trivial) (by decide)⟩
  ·exact ⟨_,rfl,⟨by trivial,by trivial,by trivial⟩,rdW_no (by trivial)⟩
 refine ⟨_,rfl,_,rfl,L,_,_,_,rfl,rfl,sL,hlV,_,_,rfl,rfl,by rw [l0];lia,_,rfl,_,rfl,L,_,_,_,rfl,rfl,sL,hlV,_,_,rfl,rfl,by rw [lm];lia,_,rfl,_,rfl,L,_,_,_,rfl,rfl,sL,hlV,_,_,rfl,rfl,by rw [la];lia,
  _,_,rfl,rfl,by decide,by decide,by trivial,by trivial,by trivial,szZ4,fun p2 H2 S2 e2=>?_⟩
 refine ⟨_,rfl,_,_,rfl,rfl,p2,_,_,_,rfl,rfl,SqL.of e2,hy,?_⟩;refine ⟨rfl,_,rfl,_,rfl,_,rfl,L,_,rfl,SqL.of (S2 _ _ e1),fun p3 H3 S3 e3=>?_⟩;rw [cutU rfl] at e3;refine ⟨_,rfl,szZ1,fun p4 H4 S4 e4=>?_⟩;have a1:=lV (ws.length - 1);refine ⟨p3,p4,_,_,rfl,rfl,S4 _ _ e3,e4,by rw [ao];lia,fun p5 H5 S5 e5=>?_⟩;have hB:=way4 R yw yr (k:=ws.length - 1);have e6:(ws.map V.str).take (ws.length - 1)++[V.str y]=(ws.take (ws.length - 1)++[y]).map V.str:=by rw [aK,List.map_take];rfl
 rw [e6] at e5;refine ⟨_,p5,_,rfl,rfl,SqL.of e5,w1,hB.ofJoin (fun w hw=>?_) (by simp),k _ H5 hB (S1.trans (S2.trans (S3.trans (S4.trans S5))))⟩
 rcases az.mp hw with q | q
 ·exact free w (bD q)
 ·rw [ay.mp q];exact yw.sp
theorem gC:cj ["_law_net_here","_law_rows","_law_number","_law_beat","_law_many","_law_spans","_law_way","_law_k","_law_odd"] pzm (defScope sBentL):=by trivial
theorem ok_bent (F:Fun K "_law_bent" "_law_bent" sBentL f fd)(T:Nm mg)(T2:Nm2 mg)(GB:Fn K mg "_law_bent_row" sBentRow pzl f1 fd1):da P w K mg base CX0 2 f fd pzm spBent:=by
 have FB:da P w K mg base CX0 1 f1 fd1 pzl spBentRow:=ok_bentRow GB.F T;refine F.ok gC (by contradiction) (fun cdv A outer s H vs Q E hr h=>?_);obtain ⟨v,b,m,sp,L,n,rfl,hv,NS,eL,hn,k⟩:=h;have hr1:fM 1 _:=hr.mono (by decide);refine ⟨_,PSl.h (cN ⟨(ps_asg (pv 0) (pg_tup rfl (pgs_cons (pgZ 3 gC.nd) (pgs_cons (pgZ 4 gC.nd) (pgs_cons (pgZ 5 gC.nd) pgs_nil)))))⟩
  (cN ⟨(psZ 6 gC.nd (bE eF (pv 2) aA))⟩
  (cN ⟨(psZ 7 gC.nd (bE eF (bE fG (pv 2) aA) (bH cy rfl T.len bK (ae (pv 1) av))))⟩
  (cN ⟨(dO (cn op_lt (pv 6) aA (cM _)) (bc (bM (bE dP (bE dP (cP cT (pv 1) dn (dm (pv 7))) (eT (ae (pc1 GB FB hr1 (ae (eZ cD (pv 1) (pv 7) (fun _ _=>rfl)) (ae (bE eG (bE g8 (bE fG (bE fG (pv 2) aA) aA) aA) (pv 6)) av))) av))) (cP cT (pv 1) (dm (bE eG (pv 7) aA)) dn)))) bZ)⟩
  (cN ⟨(dO (cn g9 (pv 6) aA (cM _)) (bc (bM (bE dP (bE dP (cP cT (pv 1) dn (dm (pv 7))) (eT (ae bQ av))) (cP cT (pv 1) (dm (pv 7)) dn)))) bZ)⟩
  (cN ⟨(dO (cn g9 (pv 6) aA (cM _)) (PSl.h (cN ⟨(psZ 8 gC.nd (PEs.h (k_lst (de (k_op cz ⟨bQ⟩ ⟨dC dH rfl T2.tstr boot_str (ae (pv 3) av)⟩) (de ⟨bQ⟩ (de ⟨bQ⟩ (de ⟨bQ⟩ (de ⟨bQ⟩ a_nil))))))))⟩
  (l_one ⟨(bM (bE dP (eT (ae (eZ cD (pv 8) (bE eF (bE fG (pv 2) aA) aA) (fun _ _=>rfl)) av)) (cP cT (pv 1) (dm aA) dn)))⟩))) bZ)⟩
  (cN ⟨(dO (cn g9 (pv 6) aA (cM _)) (bc (bM (bE dP (pv 1) (eT (ae bQ av))))) bZ)⟩
  (cN ⟨(psZ 8 gC.nd (PEs.h (k_lst (de ⟨bQ⟩ (de (k_op cz (k_op cz ⟨bQ⟩ ⟨dC dH rfl T2.tstr boot_str (ae (pv 4) av)⟩) ⟨bQ⟩) (de ⟨bQ⟩ (de (k_op cz (k_op cz ⟨bQ⟩ ⟨dC dH rfl T2.tstr boot_str (ae (pv 3) av)⟩) ⟨bQ⟩) (de ⟨bQ⟩ a_nil))))))))⟩
  (cN ⟨(dO (cn op_lt (pv 6) aA (cM _)) (bc (bM (bE dP (bE dP (cP cT (pv 1) dn (dm aA)) (eT (ae (eZ cD (pv 8) (bE fX (pv 6) aA) (fun _ _=>rfl)) av))) (cP cT (pv 1) (dm aA) dn)))) bZ)⟩
  (cN ⟨(dO (cn g9 (pv 6) aA (cM _)) (bc (bM (bE dP (eT (ae (bE cz (bE cz bQ (dC dH rfl T2.tstr boot_str (ae (pv 3) av))) bQ) av)) (cP cT (pv 1) (dm aA) dn)))) bZ)⟩
  (l_one ⟨(bM (bE dP (eT (ae (bE cz bQ (dC dH rfl T2.tstr boot_str (ae (pv 4) av))) av)) (cP cT (pv 1) (dm aA) dn)))⟩))))))))))),?_⟩
 have N:=NS.n;obtain ⟨t,p,ys,rfl,ht,hp,ry⟩:=netD_of hv;have many:=fD N;have sL:SqL K H L ((cG b m sp).map V.str):=SqL.of eL;have hlen:((cG b m sp).map V.str).length=(cG b m sp).length:=by rw [af]
 refine ⟨_,rfl,t,_,rfl,SqT.of ht,rfl,_,_,rfl,_,_,rfl,_,_,rfl,rfl,?_⟩;refine ⟨_,rfl,_,_,rfl,rfl,(by decide:(0:Int)<18),?_⟩;refine ⟨_,rfl,_,_,rfl,rfl,⟨by decide,by decide⟩,_,rfl,L,_,rfl,.inl sL,_,_,rfl,rfl,by rw [hlen];lia,?_⟩;obtain ⟨kn,ek,hk⟩:∃ kn:Nat,n / 32 % (((cG b m sp).map V.str).length:Int)=(kn:Int)∧kn<(cG b m sp).length:=by
  rw [hlen];have h0:=cf (n / 32) (show ((cG b m sp).length:Int)≠0 by lia);have h1:=bL (n / 32) (show 0<((cG b m sp).length:Int) by lia);exact ⟨(n / 32 % ((cG b m sp).length:Int)).toNat,by lia,by lia⟩
 simp only [ek];have w0:=cf n (show (18:Int)≠0 by decide);have w1:=bL n (show 0<(18:Int) by decide);have o0:=cf (n / 32) (show (5:Int)≠0 by decide);have o1:=bL (n / 32) (show 0<(5:Int) by decide);generalize n % 18=way at w0 w1 ⊢;have eqT:∀ {a b:Int},decide (V.int a=V.int b)=true→a=b:=fun q=>by have:=iJ q;injection this
 have eqF:∀ {a b:Int},¬ decide (V.int a=V.int b)=true→a≠b:=fun q e=>q (iH (by rw [e]))
 have lV:∀ j,(((cG b m sp).map V.str).take j).length≤41∧(((cG b m sp).map V.str).drop j).length≤41:=fun j=>by rw [bq,dE];lia
 have big:(100000:Nat)≤ax:=by decide
 have mT:∀ j,((cG b m sp).map V.str).take j=((cG b m sp).take j).map V.str:=fun j=>List.map_take.symm
 have mD:∀ j,((cG b m sp).map V.str).drop j=((cG b m sp).drop j).map V.str:=fun j=>List.map_drop.symm
 have hx:(cG b m sp)[kn]? =some (cG b m sp)[kn]:=gE hk;have hxV:atI ((cG b m sp).map V.str) (kn:Int)=some (.str (cG b m sp)[kn]):=cq (by rw [aS,hx];rfl);obtain ⟨ws,Rx,hw5⟩:=rows_rw N hx;generalize (cG b m sp)[kn]=x at hx hxV Rx;refine ⟨_,rfl,_,_,rfl,rfl,_,rfl,fA (fun hw=>?_) (fun hw=>?_)⟩
 ·refine ⟨_,rfl,_,rfl,_,rfl,L,_,rfl,sL,fun p2 H2 S2 e2=>?_⟩
  rw [cutU rfl] at e2;have a1:=lV kn;have a2:=lV (kn+1);refine ⟨_,rfl,_,rfl,L,_,_,_,rfl,rfl,SqL.of (S2 _ _ eL),hxV,_,rfl,_,_,rfl,rfl,⟨by decide,by decide⟩,_,_,rfl,rfl,⟨by decide,by decide⟩,_,_,rfl,rfl,.inr ⟨by decide,by decide⟩,_,rfl,_,_,rfl,rfl,x,ws,_,rfl,Rx,by lia,fun y H3 hB S3=>?_⟩;refine ⟨szZ1,fun p3 H4 S4 e4=>?_⟩;refine ⟨p2,p3,_,_,rfl,rfl,S4 _ _ (S3 _ _ e2),e4,by rw [ao];lia,fun p5 H5 S5 e5=>?_⟩;refine ⟨_,rfl,_,rfl,_,_,rfl,rfl,_,rfl,L,_,rfl,SqL.of (S5 _ _ (S4 _ _ (S3 _ _ (S2 _ _ eL)))),fun p6 H6 S6 e6=>?_⟩;rw [cutF (n:=kn+1) (by lia)] at e6;refine ⟨p5,p6,_,_,rfl,rfl,S6 _ _ e5,e6,by rw [aq,ao];lia,fun p7 H7 S7 e7=>?_⟩;obtain ⟨us,Ru,_⟩:=id hB;refine k p7 H7 _ (out_at N (y:=y) hk (eJ kn) ⟨Ru.free,by have:=Ru.len;lia⟩ (fun z=>?_) (fun z=>?_)) (S2.trans (S3.trans (S4.trans (S5.trans (S6.trans S7))))) ?_
  ·rw [hw5,iF z] at hB;exact hB.head
  ·rw [hw5,iE z] at hB;exact hB.span
  ·rw [e7,aK,aK,mT,mD];rfl
 have e0:("" :Str)=bp:=by trivial
 have c1:=lV 1;have lb:(cp b).length≤60:=eQ N.b60;have lm:(cp m).length≤60:=eQ N.m60;refine ⟨_,rfl,rfl,_,rfl,fA (fun hw8=>?_) (fun hw8=>?_)⟩
 ·refine ⟨_,rfl,_,rfl,_,rfl,L,_,rfl,sL,fun p2 H2 S2 e2=>?_⟩
  rw [cutU rfl] at e2;have a1:=lV kn;refine ⟨szZ1,fun p3 H3 S3 e3=>?_⟩;refine ⟨p2,p3,_,_,rfl,rfl,S3 _ _ e2,e3,by rw [ao];lia,fun p4 H4 S4 e4=>?_⟩;refine ⟨_,rfl,_,rfl,_,rfl,L,_,rfl,SqL.of (S4 _ _ (S3 _ _ (S2 _ _ eL))),fun p5 H5 S5 e5=>?_⟩;rw [cutF rfl] at e5;refine ⟨p4,p5,_,_,rfl,rfl,S5 _ _ e4,e5,by rw [aq,ao];lia,fun p6 H6 S6 e6=>?_⟩;refine k p6 H6 _ (out_at N (y:=bp) hk (aI kn) ⟨by decide,by decide⟩ (fun _=>gO (by trivial)) (fun _=>no_spanE)) (S2.trans (S3.trans (S4.trans (S5.trans S6)))) ?_;rw [e6,aK,aK,mT,mD,e0];rfl
 refine ⟨_,rfl,rfl,_,rfl,fA (fun hw9=>?_) (fun hw9=>?_)⟩
 ·obtain ⟨y,hy,hy2,hno⟩:=odd9 N.b60 o0 o1
  have l5:("beat " :Str).length=5:=by trivial
  refine ⟨_,rfl,_,rfl,gD N.b60,_,_,rfl,rfl,(by rw [l5];show 5+(cp b).length≤_;lia),szZ5,fun p2 H2 S2 e2=>?_⟩;refine ⟨_,rfl,_,rfl,_,_,rfl,rfl,⟨by decide,by decide⟩,_,_,rfl,rfl,(by decide:(0:Int)<5),p2,_,_,_,rfl,rfl,SqL.of e2,hy,szZ1,fun p3 H3 S3 e3=>?_⟩;refine ⟨_,rfl,_,rfl,L,_,rfl,SqL.of (S3 _ _ (S2 _ _ eL)),fun p4 H4 S4 e4=>?_⟩;rw [cutF (i:=1) (n:=1) rfl] at e4;refine ⟨p3,p4,_,_,rfl,rfl,S4 _ _ e3,e4,by rw [ao];lia,fun p5 H5 S5 e5=>?_⟩;refine k p5 H5 _ (g7 N hy2 (.inl hno)) (S2.trans (S3.trans (S4.trans S5))) ?_;rw [e5,aK,mD];rfl
 refine ⟨_,rfl,rfl,_,rfl,fA (fun hw10=>?_) (fun hw10=>?_)⟩
 ·refine ⟨_,rfl,szZ1,fun p2 H2 S2 e2=>?_⟩
  refine ⟨L,p2,_,_,rfl,rfl,S2 _ _ eL,e2,by rw [ao,hlen];lia,fun p3 H3 S3 e3=>?_⟩;refine k p3 H3 _ (out_last N) (S2.trans S3) ?_;rw [e3,aK,e0];rfl
 have l2:("0 " :Str).length=2:=by trivial
 have l6:(" 0 0 0" :Str).length=6:=by trivial
 have l7:("0 1 0 " :Str).length=6:=by trivial
 have l8:(" 0" :Str).length=2:=by trivial
 refine ⟨_,rfl,_,rfl,gD N.m60,_,_,rfl,rfl,(by rw [l2];show 2+(cp m).length≤_;lia),_,_,rfl,rfl,(by rw [dq,l2,l6];show 2+(cp m).length+6≤_;lia),
  _,rfl,_,rfl,gD N.b60,_,_,rfl,rfl,(by rw [l7];show 6+(cp b).length≤_;lia),_,_,rfl,rfl,(by rw [dq,l7,l8];show 6+(cp b).length+2≤_;lia),szZ5,fun p2 H2 S2 e2=>?_⟩
 refine ⟨_,rfl,_,_,rfl,rfl,_,rfl,fA (fun hw16=>?_) (fun hw16=>?_)⟩
 ·have g0:¬ way<8:=fun q=>hw (iH q)
  have g1:=eqF hw8;have g2:=eqF hw9;have g3:=eqF hw10;have g4:way<16:=iJ hw16;obtain ⟨ns,hy,h5,hW,hI⟩:=odd11 N.b60 N.m60 NS.b1 NS.m1 (i:=way - 11) (by lia) (by lia);refine ⟨_,rfl,_,rfl,L,_,rfl,SqL.of (S2 _ _ eL),fun p3 H3 S3 e3=>?_⟩;rw [cutU (i:=1) (n:=1) rfl] at e3;refine ⟨_,rfl,_,rfl,_,_,rfl,rfl,p2,_,_,_,rfl,rfl,SqL.of (S3 _ _ e2),hy,szZ1,fun p4 H4 S4 e4=>?_⟩;refine ⟨p3,p4,_,_,rfl,rfl,S4 _ _ e3,e4,by rw [ao];lia,fun p5 H5 S5 e5=>?_⟩;refine ⟨_,rfl,_,rfl,L,_,rfl,SqL.of (S5 _ _ (S4 _ _ (S3 _ _ (S2 _ _ eL)))),fun p6 H6 S6 e6=>?_⟩;rw [cutF (i:=1) (n:=1) rfl] at e6;refine ⟨p5,p6,_,_,rfl,rfl,S6 _ _ e5,e6,by rw [aq,ao];lia,fun p7 H7 S7 e7=>?_⟩;refine k p7 H7 _ (out_second N h5 hW hI) (S2.trans (S3.trans (S4.trans (S5.trans (S6.trans S7))))) ?_;rw [e7,aK,aK,mT,mD];rfl
 have z60:W60 0:=⟨by decide,by decide⟩;refine ⟨_,rfl,rfl,_,rfl,fA (fun hw17=>?_) (fun hw17=>?_)⟩
 ·have l5:("beat " :Str).length=5:=by trivial
  have l13:(" happenings 0" :Str).length=13:=by trivial
  refine ⟨_,rfl,_,rfl,gD N.b60,_,_,rfl,rfl,(by rw [l5];show 5+(cp b).length≤_;lia),_,_,rfl,rfl,(by rw [dq,l5,l13];show 5+(cp b).length+13≤_;lia),szZ1,fun p3 H3 S3 e3=>?_⟩;refine ⟨_,rfl,_,rfl,L,_,rfl,SqL.of (S3 _ _ (S2 _ _ eL)),fun p4 H4 S4 e4=>?_⟩;rw [cutF (i:=1) (n:=1) rfl] at e4;refine ⟨p3,p4,_,_,rfl,rfl,S4 _ _ e3,e4,by rw [ao];lia,fun p5 H5 S5 e5=>?_⟩;have Rh:=head_rw N.b60 z60;refine k p5 H5 _ (g7 N ⟨Rh.r.free,by have:=Rh.r.up.len;lia⟩ (.inr ⟨b,0,⟨cp b,cp 0,gB N.b60 z60,eE N.b60,eE z60⟩,by lia⟩)) (S2.trans (S3.trans (S4.trans S5))) ?_;rw [e5,aK,mD,←head16];rfl
 ·have l18:("beat 0 happenings " :Str).length=18:=by trivial
  refine ⟨_,rfl,_,rfl,gD N.m60,_,_,rfl,rfl,(by rw [l18];show 18+(cp m).length≤_;lia),szZ1,fun p3 H3 S3 e3=>?_⟩;refine ⟨_,rfl,_,rfl,L,_,rfl,SqL.of (S3 _ _ (S2 _ _ eL)),fun p4 H4 S4 e4=>?_⟩;rw [cutF (i:=1) (n:=1) rfl] at e4;refine ⟨p3,p4,_,_,rfl,rfl,S4 _ _ e3,e4,by rw [ao];lia,fun p5 H5 S5 e5=>?_⟩;have Rh:=head_rw z60 N.m60;refine k p5 H5 _ (g7 N ⟨Rh.r.free,by have:=Rh.r.up.len;lia⟩ (.inr ⟨0,m,⟨cp 0,cp m,gB z60 N.m60,eE z60,eE N.m60⟩,by lia⟩)) (S2.trans (S3.trans (S4.trans S5))) ?_;rw [e5,aK,mD,←head17];rfl
end HN
namespace L2
open PySem PySem.Spec PySem.W PyProof.Rows
structure XCls (K:Frag)(C:aj):Prop where
 ga:findIn K (.ref C) "__getattribute__" =some (some (.builtin "BaseException.__getattribute__"))
 gh:findIn K (.ref C) "__getattr__" =some none
 cl:findIn K (.ref C) "__class__" =some (some (.builtin "object.__class__"))
 gt:specialIn K (.builtin "object.__class__") "__get__" =some (some (.builtin "getset_descriptor.__get__"))
 tk:takesIn K (.builtin "object.__class__")=some true
 ob:mroIn K C (.type "object")=some true
 bx:mroIn K C (.type "BaseException")=some true
 dc:hasDictIn K C=true
section
variable {K:Frag}{x:aj}
theorem x_check {nv:aa}(kin:K.In s.heap)(I:InstAt s.heap x ox C od)(T:XCls K C)(q:Q () s):ba (aX prog w) A (checkBuiltinCall "BaseException.__getattribute__" ⟨[.ref x,nv],[]⟩) Q E s:=by
 obtain ⟨hh,g,d,t,os⟩:=s;have k1:builtinKind "BaseException.__getattribute__" =some .slot:=by trivial
 have k2:splitId "BaseException.__getattribute__" =some ("BaseException","__getattribute__"):=by trivial
 have L0:=I.type (M:=aX prog w);have L1:=looks_mroIn (M:=aX prog w) kin T.bx;have LI:Looks (aX prog w) hh (isInstance (.ref x) (.type "BaseException")) true:=L0.andThen L1;have ha:=F.args_bexc_ga (.ref x) nv;simp only [checkBuiltinCall,k1,k2];refine aJ (LI.at ?_)
 repeat (any_goals (first | assumption | wp_step))
theorem x_bind {gv a:aa}{tk:Tok}{P:aa→ai→Prop}(kin:K.In s.heap)(I:InstAt s.heap x ox C od)(hf:findObj K C od name=some (.bind gv a))(q:ba (aX prog w) A (call gv [a,.ref x,.ref C]) P E s) :
  ba (aX prog w) A (fu.«object.__getattribute__» ⟨[.ref x,.str name tk],[]⟩) (fun fin s'=>match fin with | .done (.ret v)=>P v s' | _=>False) E s:=by
 obtain ⟨hh,g,d,t,os⟩:=s;have L0:=I.type (M:=aX prog w);have L1:=looks_find (M:=aX prog w) kin I hf;refine aJ (cg (aJ (cg (aJ (L0.at (aJ (L1.at ?_)))))));show ba _ _ (holding [a] (call gv [a,.ref x,.ref C]) >>= ret) _ _ _;exact aJ (eO (bN q (fun v s' z=>cg z) fun _ _ z=>z))
theorem x_by {tk:Tok}{fill ex:Bool}{Q:aa→ai→Prop}(kin:K.In s.heap)(I:InstAt s.heap x ox C od)(T:XCls K C)
  (q:ba (aX prog w) A.in1 (fu.«object.__getattribute__» ⟨[.ref x,.str name tk],[]⟩) (fun fin s'=>match fin with | .done (.ret v)=>ba (aX prog w) A (handedOut v) Q E s' | _=>False) (fun _ _=>False) s) :
  ba (aX prog w) A (getAttrBy (.ref x) (.str name tk) fill ex) Q E s:=by
 obtain ⟨hh,g,d,t,os⟩:=s;have L0:=I.type (M:=aX prog w);have L1:=looks_findIn (M:=aX prog w) kin T.ga;have L2:=looks_findIn (M:=aX prog w) kin T.gh;have f3:=F.excAttr_ValueError.ga.bind (.ref x);have hx0:(ex && onTheHeap (aa.builtin "BaseException.__getattribute__"))=false:=by cases ex <;> rfl
 unfold getAttrBy;refine eO (aJ (L0.at (aJ (L1.at ?_))));show ba _ _ (getAttrByItsOwn _ _ _ _ _ _) _ _ _;unfold getAttrByItsOwn;refine aJ (L2.at ?_);refine aJ (wpAny_attempt (eO ?_));unfold callGetattribute;rw [iE (by rw [hx0];decide)];unfold boundAndCalled;rw [f3];refine aJ (cg ?_);refine wpAny_call (codeAny_call_builtin F.excAttr_ValueError.ga.plain F.entry_bexc_ga (x_check kin I T ?_));refine bN q (fun fin s' z=>?_) fun _ _ z=>z.elim
 rcases fin with (_ | _ | _ | _) | _ <;> first | exact z | exact z.elim
end
section
variable {K:Frag}{x:aj}
theorem xfind {a g:aa}(hc:(clsIn K C).isSome=true)(ha:findIn K (.ref C) name=some (some a))(hg:specialIn K a "__get__" =some (some g))(ht:takesIn K a=some true):findObj K C od name=some (.bind g a):=by
 obtain ⟨cd,hc⟩:=Option.isSome_iff_exists.mp hc;unfold findObj;rw [hc,Option.bind_some,ha,Option.bind_some];simp [hg,ht]
theorem XCls.cls (T:XCls K C):∃ cd,clsIn K C=some cd:=by
 obtain ⟨cd,hc,_⟩:=any_some T.dc;exact ⟨cd,hc⟩
def XAt (x C:aj)(h:bg):Prop:=∃ ox od,InstAt h x ox C od
theorem kitx_exc (T:XCls K C):KitX K (.ref x) (.ref C) (XAt x C) where
 ty:=fun _ _ _ p=>by
  obtain ⟨ox,od,I⟩:=p;exact I.type
 it:=fun _ _ kin _=>by
  obtain ⟨cd,hc⟩:=T.cls;unfold clsIn at hc;split at hc
  ·rename_i ho
   intro A' Q' E' s' k q;unfold isType loadHead;exact aJ (wpAny_loadPart (k _ _ (kin _ _ ho)) (cg q))
  ·cases hc
 ne:=fun h tp dd its n sl kin htp=>by
  obtain ⟨cd,hc⟩:=T.cls;refine bI.mpr fun q=>?_
  have e:C=tp:=aa.ref.inj (beq_iff_eq.mp q);subst e;unfold clsIn at hc;split at hc
  ·rename_i ho
   have z:=(kin _ _ ho).symm.trans htp;cases z
  ·cases hc
 ca:=fun {prog w A E Q s} kin p k=>by
  obtain ⟨ox,od,I⟩:=p;obtain ⟨cd,hc⟩:=T.cls;have hf:findObj K C od "__class__" =some (.bind (.builtin "getset_descriptor.__get__") (.builtin "object.__class__")):=xfind (by rw [hc];rfl) T.cl T.gt T.tk;unfold getAttr? getAttrBy?;refine aJ (wpAny_mkText (aJ (wpAny_attempt ?_)));refine x_by (s:={ s with toks:=s.toks+1 }) kin I T (x_bind (s:={ s with toks:=s.toks+1 }) kin I hf (wpAny_call (class_get (s:={ s with toks:=s.toks+1 }) kin I T.ob ?_)));exact handed_on rfl (cg k)
end
def XD (D:aj)(fs:List (Str×V)):HO:= .ext fun h=>∃ mA,h.Ns1 D mA∧(∀ f,RelO (fs.lookup f) (mA f))∧PySem.Within mA (fs.map (·.1))
theorem Inv.xat {d:Option aj}(I:Inv X ak σ H s)(e:H a=some (gK a C d))(hd:∀ D,d=some D→∃ fs,H D=some (XD D fs)):XAt a C s.heap:=by
 obtain ⟨⟨o,us,p1,p2,p3,p4⟩,_,_⟩:=I.hok a _ e;cases d with
 | none=>exact ⟨o,none,p1,p2,by unfold notCls;rw [p4],by rw [p3];trivial⟩
 | some D =>
  obtain ⟨fs,q⟩:=hd D rfl;obtain ⟨⟨mA,⟨od,es,ep,q1,_⟩,_⟩,_⟩:=I.hok D _ q;exact ⟨o,some od,p1,p2,by unfold notCls;rw [p4],by rw [p3];exact q1⟩
theorem call_isx:eN X (.builtin "isinstance") (fun xs H Q=>∃ a C d b,(∃ D,xs=[.ref a,.ref D]∧kitOne X.K (.ref C) (.ref D)=some b)∧H a=some (gK a C d)∧(∀ D,d=some D→∃ fs,H D=some (XD D fs))∧XCls X.K C∧Q (.bl b) H):=by
 intro ak s σ H vs us Q I r h;obtain ⟨a,C,d,b,⟨D,rfl,ek⟩,e,hd,T,q⟩:=h;cases r with
 | cons r1 r =>
 cases r with
 | cons r2 r =>
 cases r;rename_i u1 u2;obtain rfl:u1=aa.ref a:=r1;obtain rfl:u2=aa.ref D:=r2;exact kia_one (kitx_exc T) I.kIn (I.xat e hd) ek nofun fun tk=>⟨.bl b,H,I.tok tk,rfl,q⟩
theorem call_isxB {T0:String}:eN X (.builtin "isinstance") (fun xs H Q=>∃ a C d b,(xs=[.ref a,.ty T0]∧kitOne X.K (.ref C) (.type T0)=some b)∧H a=some (gK a C d)∧(∀ D,d=some D→∃ fs,H D=some (XD D fs))∧XCls X.K C∧Q (.bl b) H):=by
 intro ak s σ H vs us Q I r h;obtain ⟨a,C,d,b,⟨rfl,ek⟩,e,hd,T,q⟩:=h;cases r with
 | cons r1 r =>
 cases r with
 | cons r2 r =>
 cases r;rename_i u1 u2;obtain rfl:u1=aa.ref a:=r1;obtain rfl:u2=aa.type T0:=r2;exact kia_one (kitx_exc T) I.kIn (I.xat e hd) ek nofun fun tk=>⟨.bl b,H,I.tok tk,rfl,q⟩
end L2
namespace HN
open PySem L2 PyProof.Rows HT2
abbrev sRefused:cE:=top 38
theorem kit_self:aO K (.ref C) (.ref C)=some true:=by unfold aO;simp
theorem boot_VE:er "ValueError" =some (.type "ValueError"):=by trivial
theorem isxK (K:ah)(hK:X.K=K:=by rfl):eN X (.builtin "isinstance") (fun xs H Q=>∃ a C d b,(∃ D,xs=[.ref a,.ref D]∧aO K (.ref C) (.ref D)=some b)∧H a=some (gK a C d)∧(∀ D,d=some D→∃ fs,H D=some (XD D fs))∧XCls K C∧Q (.bl b) H):=by subst hK;exact call_isx
theorem isxBK (K:ah)(T0:String)(hK:X.K=K:=by rfl):eN X (.builtin "isinstance") (fun xs H Q=>∃ a C d b,(xs=[.ref a,.ty T0]∧aO K (.ref C) (.type T0)=some b)∧H a=some (gK a C d)∧(∀ D,d=some D→∃ fs,H D=some (XD D fs))∧XCls K C∧Q (.bl b) H):=by subst hK;exact call_isxB
structure Rf (K:ah)(mg:Str→Option aa)(C U c1 c2 c3 c4 c5 c6:aj):Prop where
 m0:mg "NoText" =some (.ref C)
 m1:mg "NoOrder" =some (.ref c1)
 m2:mg "NoPlan" =some (.ref c2)
 m3:mg "NoWay" =some (.ref c3)
 m4:mg "OtherBeats" =some (.ref c4)
 m5:mg "TooGreat" =some (.ref c5)
 m6:mg "TooWide" =some (.ref c6)
 mv:mg "ValueError" =none
 cl:XCls K C
 un:Under K C U
 kv:aO K (.ref C) (.type "ValueError")=some true
 k1:aO K (.ref C) (.ref c1)=some false
 k2:aO K (.ref C) (.ref c2)=some false
 k3:aO K (.ref C) (.ref c3)=some false
 k4:aO K (.ref C) (.ref c4)=some false
 k5:aO K (.ref C) (.ref c5)=some false
 k6:aO K (.ref C) (.ref c6)=some false
inductive spRefused (vs:List V)(H:Hp)(Q:VK)(_:XK):Prop
 | mk (v:V)(Ty:String)(_:vs=[v])(_:tyn H v=some Ty)(_:(∀ z:Str,v= .str z→z.length≤100000∧∀ b m sp,¬ RdNet z b m sp))(_:∀ H',cL H H'→Q (.bl true) H')
theorem scRefu:cj ["_law_text","_law_error","e"] ["_law_text"] (defScope sRefused):=by trivial
theorem ok_refused {fR U c1 c2 c3 c4 c5 c6:aj}{fdR:aY}(F:Fun K "_law_refused" "_law_refused" sRefused f fd)(T:Nm mg)(TU:Exc K mg "HourError" U)(S:Rf K mg C U c1 c2 c3 c4 c5 c6)
  (GR:Fn K mg "read_net" sNetR ["text"] fR fdR) (FR:da P w K mg base (CXN P w) 6 fR fdR ["text"] (spNetX C)):da P w K mg base CX0 7 f fd ["_law_text"] spRefused:=by
 refine F.ok scRefu (by contradiction) (fun cdv A outer s H vs Q E hr h=>?_);obtain ⟨v,Ty,rfl,hT,hno,k⟩:=h;refine ⟨_,aU (psZ 1 scRefu.nd pe_non)
  (aU (ps_tryAs (iN:=2) rfl rfl scRefu.nd rfl rfl TU (fun pn W σ0 E hp=>(bc (ps_expr (pe_callS FR hr rfl GR.mg GR.F.kp GR.b .nil hp (ae (pv 0) av)))))
   (fun pn e=>(bc (psZ 1 scRefu.nd (pv 2)))))
  (PSl.h (cN ⟨(dO (PW.pt (gW (eP (d5 (bH (isxK K) rfl T.isin bP (ae (pv 1) (ae (fm (v:= .ref C) rfl S.m0 rfl) av))))) (gj (eP (d5 (bH (isxBK K "ValueError") rfl T.isin bP (ae (pv 1) (ae (gZ (v:= .ty "ValueError") rfl S.mv boot_VE rfl) av)))))))) (bc (bM gJ)) bZ)⟩
   (cN ⟨(dO (PW.pt (gW (d5 (bH (isxK K) rfl T.isin bP (ae (pv 1) (ae (fm (v:= .ref c1) rfl S.m1 rfl) av)))) (gW (d5 (bH (isxK K) rfl T.isin bP (ae (pv 1) (ae (fm (v:= .ref c2) rfl S.m2 rfl) av)))) (gj (d5 (bH (isxK K) rfl T.isin bP (ae (pv 1) (ae (fm (v:= .ref c3) rfl S.m3 rfl) av)))))))) (bc (bM gJ)) bZ)⟩
   (l_one ⟨(bM (g6 (pe_not (bH (isxK K) rfl T.isin bP (ae (pv 1) (ae (fm (v:= .ref c4) rfl S.m4 rfl) av)))) (g6 (pe_not (bH (isxK K) rfl T.isin bP (ae (pv 1) (ae (fm (v:= .ref c5) rfl S.m5 rfl) av)))) (pe_one (pe_not (bH (isxK K) rfl T.isin bP (ae (pv 1) (ae (fm (v:= .ref c6) rfl S.m6 rfl) av))))))))⟩))))),?_⟩
 have fin:∀ H3,cL H H3→∀ a,H3 a=none→∀ H4,H4=upd H3 a (gK a C none)→cL H H4∧H4 a=some (gK a C none):=fun H3 S3 a na H4 e=>by
  subst e;exact ⟨S3.trans (cL.put (cL.refl H3) na),bG⟩
 have hd:∀ {H':Hp},∀ D':aj,(none:Option aj)=some D'→∃ fs,H' D'=some (XD D' fs):=fun D' e=>by cases e
 refine ⟨rfl,_,rfl,v,Ty,rfl,hT,fun hz H3 S3=>?_,fun z hz=>⟨(hno z hz).1,fun b m sp u H3 hR=>iG hR ((hno z hz).2 b m sp),fun H3 _ S3=>?_⟩⟩
 ·refine ⟨C,rfl,S.un,fun a na=>?_⟩
  obtain ⟨S4,eA⟩:=fin H3 S3 a na _ rfl;generalize upd H3 a (gK a C none)=H4 at S4 eA ⊢;refine ⟨_,rfl,?_⟩;refine ⟨_,rfl,a,C,none,true,⟨C,rfl,kit_self⟩,eA,hd,S.cl,_,rfl,iteC rfl ?_⟩;refine ⟨_,rfl,a,C,none,true,⟨rfl,S.kv⟩,eA,hd,S.cl,_,rfl,iteC rfl ?_⟩;refine ⟨_,rfl,a,C,none,false,⟨c1,rfl,S.k1⟩,eA,hd,S.cl,_,rfl,iteC rfl ?_⟩;refine ⟨_,rfl,a,C,none,false,⟨c2,rfl,S.k2⟩,eA,hd,S.cl,_,rfl,iteC rfl ?_⟩;refine ⟨_,rfl,a,C,none,false,⟨c3,rfl,S.k3⟩,eA,hd,S.cl,_,rfl,iteC rfl ?_⟩;refine ⟨_,rfl,a,C,none,false,⟨c4,rfl,S.k4⟩,eA,hd,S.cl,_,rfl,_,rfl,iteB rfl ?_⟩;refine ⟨_,rfl,a,C,none,false,⟨c5,rfl,S.k5⟩,eA,hd,S.cl,_,rfl,_,rfl,iteB rfl ?_⟩;exact ⟨_,rfl,a,C,none,false,⟨c6,rfl,S.k6⟩,eA,hd,S.cl,_,rfl,k H4 S4⟩
 ·refine ⟨C,rfl,S.un,fun a na=>?_⟩
  obtain ⟨S4,eA⟩:=fin H3 S3 a na _ rfl;generalize upd H3 a (gK a C none)=H4 at S4 eA ⊢;refine ⟨_,rfl,?_⟩;refine ⟨_,rfl,a,C,none,true,⟨C,rfl,kit_self⟩,eA,hd,S.cl,_,rfl,iteC rfl ?_⟩;refine ⟨_,rfl,a,C,none,true,⟨rfl,S.kv⟩,eA,hd,S.cl,_,rfl,iteC rfl ?_⟩;refine ⟨_,rfl,a,C,none,false,⟨c1,rfl,S.k1⟩,eA,hd,S.cl,_,rfl,iteC rfl ?_⟩;refine ⟨_,rfl,a,C,none,false,⟨c2,rfl,S.k2⟩,eA,hd,S.cl,_,rfl,iteC rfl ?_⟩;refine ⟨_,rfl,a,C,none,false,⟨c3,rfl,S.k3⟩,eA,hd,S.cl,_,rfl,iteC rfl ?_⟩;refine ⟨_,rfl,a,C,none,false,⟨c4,rfl,S.k4⟩,eA,hd,S.cl,_,rfl,_,rfl,iteB rfl ?_⟩;refine ⟨_,rfl,a,C,none,false,⟨c5,rfl,S.k5⟩,eA,hd,S.cl,_,rfl,_,rfl,iteB rfl ?_⟩;exact ⟨_,rfl,a,C,none,false,⟨c6,rfl,S.k6⟩,eA,hd,S.cl,_,rfl,k H4 S4⟩
abbrev sLaw:cE:=top 39
inductive spLaw (K:ah)(vs:List V)(H:Hp)(Q:VK)(_:XK):Prop
 | mk (a:aj)(ns:List Int)(_:vs=[.ref a])(_:SqL K H a (ns.map V.int))(_:ns.length≤63)(_:∀ H',Q (.bl true) H')
theorem calm {sp:Sp}(F:da P w K mg base (CXN P w) k f fd ps sp):da P w K mg base CX0 k f fd ps (fun vs H Q _=>sp vs H Q fun _ _ _=>False) :=
 ⟨fun vs H Q E q=>F.len vs H Q _ q,fun A outer s H args us vs Q E hr he hb hv hs=>codeAny_mono (F.run A outer s H args us vs Q (fun _ _ _=>False) hr he hb hv hs) fun r s' h=>by
  cases r with
  | ok x=>cases x <;> exact h
  | error e =>
   obtain ⟨a,cls,dct,B,H2,_,_,_,_,_,hE⟩:=h;exact hE.elim⟩
theorem netS_w (h:NetN b m sp):NetW b m sp:=by
 have w:∀ {i:Int},W60 i→Wn i:=fun q=>⟨by have:=q.1;lia,by have:=q.2;lia⟩
 exact ⟨w h.b60,w h.m60,by have:=h.few;lia,h.five,fun ns hn i hi=>w (h.s60 ns hn i hi)⟩
theorem fY.I (hb:1≤b)(h:fY b m (ns.map V.int)):gf b m ns=true:=by
 have hH:(upd (fun _=>none) 0 (.tup (ns.map V.int)):Hp) 0=some (.tup (ns.map V.int)):=bG;have h5:gr (upd (fun _=>none) 0 (.tup (ns.map V.int))) b m (.ref 0):=⟨0,_,rfl,hH,h⟩;have q:=h5.ok hb;unfold dA at q;simp only [hH] at q
 match ns,q with
 | [_,_,_,_,_],q=>exact q
theorem NetS.I (h:NetS b m sp):netI b m sp=true:=by
 have h1:=h.b1;have h2:=h.b2;have h3:=h.m1;have h4:=h.m2;unfold netI;simp only [bf,inI,decide_eq_true_eq,cK];exact ⟨⟨h1,by unfold B60;lia⟩,⟨h3,h4⟩,h.few,fun ns hn=>(h.all ns hn).I h1⟩
theorem rows_split (N:NetN b m sp):aD (netT b m sp) nl_=cG b m sp:=net_split N
theorem pls_ints:∀ ns:List Int,pls (ns.map Dt.int)=true
 | []=>by unfold pls;rfl
 | n::r=>by rw [cH];unfold pls;rw [pls_ints r];unfold pl;rfl
theorem pls_spans:∀ sp:List (List Int),pls (sp.map fun ns=>Dt.tup (ns.map Dt.int))=true
 | []=>by unfold pls;rfl
 | n::r=>by rw [cH];unfold pls;rw [pls_spans r];unfold pl;rw [pls_ints n];rfl
theorem deps_ints:∀ ns:List Int,deps (ns.map Dt.int)=0
 | []=>by unfold deps;rfl
 | n::r=>by rw [cH];unfold deps;rw [deps_ints r];unfold dep;rfl
theorem iA:∀ sp:List (List Int),deps (sp.map fun ns=>Dt.tup (ns.map Dt.int))≤1
 | []=>by unfold deps;exact cc _
 | n::r=>by rw [cH];unfold deps;have:=iA r;unfold dep;rw [deps_ints n];lia
theorem scLaw:cj ["_law_script","_law_net_here","_law_text","_law_number","_law_rows","_law_some"] ["_law_script"] (defScope sLaw):=by trivial
theorem ok_law {fN fS fT fP fC fB fF fR:aj}{fdN fdS fdT fdP fdC fdB fdF fdR:aY}(F:Fun K "law" "law" sLaw f fd)(T:Nm mg)(T2:Nm2 mg)(hrange:mg "range" =none)
  (GN:Fn K mg "_law_net" sNetL pzk fN fdN) (FN:da P w K mg base CX0 3 fN fdN pzk (spNetL K)) (GS:Fn K mg "show_net" sShow ["net"] fS fdS)
  (GT:Fn K mg "_law_take" sTake pzd fT fdT) (GP:Fn K mg "_law_pot" sPot pzh fP fdP) (GC:Fn K mg "_law_cell_at" sCell pze fC fdC)
  (GB:Fn K mg "_law_bent" sBentL pzm fB fdB) (FB:da P w K mg base CX0 2 fB fdB pzm spBent)
  (GF:Fn K mg "_law_refused" sRefused ["_law_text"] fF fdF) (FF:da P w K mg base CX0 7 fF fdF ["_law_text"] spRefused)
  (GR:Fn K mg "read_net" sNetR ["text"] fR fdR) (FRX:da P w K mg base (CXN P w) 6 fR fdR ["text"] (spNetX C)):da P w K mg base CX0 8 f fd ["_law_script"] (spLaw K):=by
 have FS:da P w K mg base CX0 1 fS fdS ["net"] spShow:=ok_show GS.F T T2;have FT:da P w K mg base CX0 1 fT fdT pzd spTake:=ok_take GT.F;have FP:da P w K mg base CX0 1 fP fdP pzh spPot:=ok_pot GP.F hrange;have FC:da P w K mg base CX0 1 fC fdC pze (spCell K):=ok_cell GC.F T;have FR:=calm FRX;refine F.ok scLaw (by contradiction) (fun cdv A outer s H vs Q E hr h=>?_);obtain ⟨a,ns,rfl,hS,hlen,k⟩:=h;have hr1:fM 1 _:=hr.mono (by decide);have hr2:fM 2 _:=hr.mono (by decide);have hr3:fM 3 _:=hr.mono (by decide);have hr6:fM 6 _:=hr.mono (by decide);have hr7:fM 7 _:=hr.mono (by decide);refine ⟨_,PSl.h (cN ⟨(psZ 1 scLaw.nd (pc1 GN FN hr3 (ae (pv 0) (ae aA av))))⟩
  (cN ⟨(psZ 2 scLaw.nd (pc1 GS FS hr1 (ae (pv 1) av)))⟩
  (cN ⟨(psZ 3 scLaw.nd (pc1 GT FT hr1 (ae (pc1 GP FP hr1 (ae (pc1 GC FC hr1 (ae (pv 0) (ae aA av))) av)) (ae (bE op_pow aA aA) av))))⟩
  (cN ⟨(psZ 4 scLaw.nd (pc1 GB FB hr2 (ae (pv 1) (ae (gw bb cY cX gp (pv 2) (ae bQ av)) (ae (pv 3) av)))))⟩
  (cN ⟨(dO (eP (d5 (pc1 GF FF hr7 (ae (gw bb cJ cI gx bQ (ae (pv 4) av)) av)))) (bc (bM gJ)) bZ)⟩
  (cN ⟨(psZ 5 scLaw.nd (PEs.h (k_ix cD (k_lst (de ⟨pe_non⟩ (de k_int (de ⟨gJ⟩ (de (k_lst (de ⟨pv 2⟩ a_nil)) (de ⟨pv 1⟩ (de ⟨pe_dnewA⟩ a_nil))))))) (k_op eF ⟨pc1 GC FC hr1 (ae (pv 0) (ae aA av))⟩ k_int) (fun _ _=>rfl))))⟩
  (l_one ⟨(bM (g6 (pc1 GF FF hr7 (ae (pv 5) av)) (pe_one (pe_cmpR (op_eqD hr.units) (pc1 GR FR hr6 (ae (pv 2) av)) (pv 1) (cM _)))))⟩))))))),?_⟩
 refine ⟨_,rfl,a,ns,4,rfl,hS,hlen,by decide,by decide,fun t b m p xs H1 S1 N1=>?_⟩;obtain ⟨sp,NS,hD⟩:=N1.data;have NN:=NS.n;refine ⟨_,rfl,_,b,m,sp,rfl,hD,NN,fun H2 S2=>?_⟩;have S02:=S1.trans S2;refine ⟨_,rfl,a,ns,2,rfl,S02.seq hS,by decide,fun c0=>⟨c0,rfl,fun n0 hd hhd=>?_⟩⟩;have S3:cL H2 (upd H2 hd (.lst [.int n0])):=cL.put (cL.refl H2) hhd;have e3:(upd H2 hd (.lst [.int n0])) hd=some (.lst [.int n0]):=bG;generalize upd H2 hd (.lst [.int n0])=H3 at S3 e3 ⊢;refine ⟨_,_,rfl,rfl,⟨by decide,by decide,by decide⟩,hd,n0,_,rfl,e3,by decide,by decide,fun r H4 r0 r1 M4=>?_⟩;have S4:cL H2 H4:=cL.mv S3 hhd M4;have S04:=S02.trans S4;have S14:=S2.trans S4;have nl1:((nl_:Str).length == 0)=false:=by trivial
 have tl:=net_len NN;refine ⟨_,rfl,_,rfl,rfl,_,_,rfl,rfl,nl1,aR (show _≤1000000 by lia) (by decide),fun L H5 S5 e5=>?_⟩;have e5:H5 L=some (.lst ((aD (netT b m sp) nl_).map V.str)):=e5;rw [rows_split NN] at e5;refine ⟨_,rfl,_,b,m,sp,L,r,rfl,hD.same (S14.trans S5),NS,e5,r0,fun p6 H6 zs O S6 e6=>?_⟩;have S06:=S04.trans (S5.trans S6);have S16:=S14.trans (S5.trans S6);have sum:=O.rows.sum;have few:=O.rows.few;refine ⟨rfl,_,rfl,_,p6,zs,rfl,rfl,SqL.of e6,(by trivial),by lia,_,"str",rfl,rfl,fun z hz=>?_,fun H7 S7=>⟨_,rfl,iteC rfl ?_⟩⟩
 ·cases hz
  exact ⟨O.rows.all,O.no⟩
 have S07:=S06.trans S7;have S17:=S16.trans S7;refine ⟨_,rfl,szZ1,fun p8 H8 S8 e8=>⟨_,rfl,fun p9 H9 S9 e9=>⟨(by show 6≤ax;decide),fun p10 H10 S10 e10=>?_⟩⟩⟩;have S0A:=S07.trans (S8.trans (S9.trans S10));have S1A:=S17.trans (S8.trans (S9.trans S10));refine ⟨_,rfl,a,ns,3,rfl,S0A.seq hS,by decide,fun c1=>?_⟩;have c0':=cf c1 (show (6:Int)≠0 by decide);have c1':=bL c1 (show 0<(6:Int) by decide);have hDA:=hD.same S1A;obtain ⟨v,hv,Ty,hTy,hns⟩:∃ v,atI [V.non,V.int 5,V.bl true,V.ref p8,V.ref t,V.ref p9] (c1 % 6)=some v∧∃ Ty,tyn H10 v=some Ty∧∀ z,v≠ .str z:=by
  rcases (show c1 % 6=0∨c1 % 6=1∨c1 % 6=2∨c1 % 6=3∨c1 % 6=4∨c1 % 6=5 by lia) with q | q | q | q | q | q <;> rw [q]
  ·exact ⟨_,rfl,_,rfl,fun z e=>by cases e⟩
  ·exact ⟨_,rfl,_,rfl,fun z e=>by cases e⟩
  ·exact ⟨_,rfl,_,rfl,fun z e=>by cases e⟩
  ·exact ⟨_,rfl,"list",by simp only [tyn,S10 _ _ (S9 _ _ e8)],fun z e=>by cases e⟩
  ·obtain ⟨_,ht⟩:=(netD_g3 hDA).1
   exact ⟨_,rfl,_,ht,fun z e=>by cases e⟩
  ·exact ⟨_,rfl,"dict",by simp only [tyn,S10 _ _ e9],fun z e=>by cases e⟩
 refine ⟨_,_,rfl,rfl,(by decide:(0:Int)<6),p10,_,_,v,rfl,rfl,SqL.of e10,hv,?_⟩;refine ⟨_,rfl,v,Ty,rfl,hTy,fun z hz=>iG hz (hns z),fun H11 S11=>⟨_,rfl,iteB rfl ?_⟩⟩;have hN:=net_rd (netS_w NN) NS.I;refine ⟨_,rfl,_,"str",rfl,rfl,fun no=>iG rfl (no _),fun z hz=>?_⟩;cases hz;refine ⟨by lia,fun b' m' sp' u H12 hR S12 hu=>?_,fun H12 no _=>iG hN (no b m sp)⟩;obtain ⟨rfl,rfl,rfl,_⟩:=rd_net (netS_w NN) hR;have hD12:=hDA.same (S11.trans S12);have pd:pls [Dt.int b',Dt.int m',.tup (sp'.map fun ns=> .tup (ns.map Dt.int))]=true:=by
  simp only [pls,pl];rw [pls_spans];rfl
 have dd:deps [Dt.int b',Dt.int m',.tup (sp'.map fun ns=> .tup (ns.map Dt.int))]<60:=by
  have:=iA sp';simp only [deps,dep];lia
 refine ⟨_,rfl,_,_,hu,hD12,pd,pd,dd,?_⟩;rw [ib _ pd];exact k H12
end HN
namespace HN
open PySem L2 PyProof.Rows
theorem args0 {P:List aa→Prop}(h:P []):∀ us:List aa,us.length=0→P us:=fun us hl=>by rw [List.length_eq_zero_iff.mp hl];exact h
theorem args1 {P:List aa→Prop}(h:∀ x0,P [x0]):∀ us:List aa,us.length=1→P us:=by
 intro us hl;obtain _ | ⟨x0,us⟩:=us <;> try (cases hl;done)
 obtain _ | ⟨y,us⟩:=us
 ·exact h x0
 ·exact iG hl (by simp only [aN];lia)
theorem args2 {P:List aa→Prop}(h:∀ x0 x1,P [x0,x1]):∀ us:List aa,us.length=2→P us:=by
 intro us hl;obtain _ | ⟨x0,us⟩:=us <;> try (cases hl;done)
 obtain _ | ⟨x1,us⟩:=us <;> try (cases hl;done)
 obtain _ | ⟨y,us⟩:=us
 ·exact h x0 x1
 ·exact iG hl (by simp only [aN];lia)
theorem args3 {P:List aa→Prop}(h:∀ x0 x1 x2,P [x0,x1,x2]):∀ us:List aa,us.length=3→P us:=by
 intro us hl;obtain _ | ⟨x0,us⟩:=us <;> try (cases hl;done)
 obtain _ | ⟨x1,us⟩:=us <;> try (cases hl;done)
 obtain _ | ⟨x2,us⟩:=us <;> try (cases hl;done)
 obtain _ | ⟨y,us⟩:=us
 ·exact h x0 x1 x2
 ·exact iG hl (by simp only [aN];lia)
theorem Df.fn (a:Df K x st f)(X:K.In h)(G:h.Ns aF mg)
  (hb:∀ (kV dc pm:aa) (an:Option aj) (cd ct:aa) (us:List aa),us.length=ps.length→bindArgs (cW x x (gc st) (fq st) (defScope st) .none kV dc pm an cd ct) ⟨us,[]⟩=pure (ps.zip us):=by intro _ _ _ _ _ _;first  | exact args0 rfl | exact args1 fun _=>rfl | exact args2 fun _ _=>rfl | exact args3 fun _ _ _=>rfl):∃ fd,Fn K mg x st ps f fd:=by
 obtain ⟨n,oc,od,an,sl,kV,dc,pm,cd,ct,l,c,k⟩:=a;have F:=fun_mk (st:=st) l c k;exact ⟨_,F,bF X G n,F.binds hb⟩
theorem all_mk {l:PySem.W.OpenLaw}{fa:aj}(X:K.In h)(G:h.Ns aF mg)(hfa:mg "law" =some (.ref fa))(Fc:Facts K)
  : ∃ fd:aY,(∀ (s:ai) (v:aa),BindsTo s fd ⟨[v],[]⟩ [("_law_script",v)])∧∀ base:bg,K.In base→base.Ns aF mg→da l.prog w K mg base CX0 8 fa fd ["_law_script"] (spLaw K):=by
 refine Fc _ ?_;intro f1 f2 f3 f4 f5 f6 f7 f8 f9 f10 f11 f12 f13 f14 f15 f16 f17 f18 f19 f20 f21 f22 t1 t2 t3 t4 t5 x1 x2 xa xb xd xe xf xg a1 a2 a3 a4 a5 a6 a7 a8 a9 a10 a11 a12 a13 a14 a15 a16 a17 a18 a19 a20 a21 a22 y1 y2 y3 y4 y5 z1 z2 z3 z4 z5 z6 z7 z8 z9 z10 z11 w1 w2 w3 w4 w5 w6 w7 w8 w9 w10 w11 w12 w13 w14 w15 w16 w17 w18 w19 w20 w21 w22 w23 w24 w25 w26;have e:=hfa.symm.trans (bF X G a22.n);cases e;obtain ⟨fd1,G1⟩:=a1.fn X G (ps:=[]);obtain ⟨fd2,G2⟩:=a2.fn X G (ps:=pza);obtain ⟨fd3,G3⟩:=a3.fn X G (ps:=pzc);obtain ⟨fd4,G4⟩:=a4.fn X G (ps:=pzf);obtain ⟨fd5,G5⟩:=a5.fn X G (ps:=pzg);obtain ⟨fd6,G6⟩:=a6.fn X G (ps:=pzi);obtain ⟨fd7,G7⟩:=a7.fn X G (ps:=pza);obtain ⟨fd8,G8⟩:=a8.fn X G (ps:=pze);obtain ⟨fd9,G9⟩:=a9.fn X G (ps:=pzh);obtain ⟨fd10,G10⟩:=a10.fn X G (ps:=pzd);obtain ⟨fd11,G11⟩:=a11.fn X G (ps:=pzj);obtain ⟨fd12,G12⟩:=a12.fn X G (ps:=pzk);obtain ⟨fd13,G13⟩:=a13.fn X G (ps:=pzb);obtain ⟨fd14,G14⟩:=a14.fn X G (ps:=pzb);obtain ⟨fd15,G15⟩:=a15.fn X G (ps:=["net"]);obtain ⟨fd16,G16⟩:=a16.fn X G (ps:=["row"]);obtain ⟨fd17,G17⟩:=a17.fn X G (ps:=["row"]);obtain ⟨fd18,G18⟩:=a18.fn X G (ps:=["text"]);obtain ⟨fd19,G19⟩:=a19.fn X G (ps:=pzl);obtain ⟨fd20,G20⟩:=a20.fn X G (ps:=pzm);obtain ⟨fd21,G21⟩:=a21.fn X G (ps:=["_law_text"]);obtain ⟨_,oc,od,an,sl,kV,dc,pm,cd,ct,l22,c22,k22⟩:=a22;have F22:=fun_mk (st:=sLaw) l22 c22 k22;have m1:=bz X G z1;have m2:=bz X G z2;have m3:=bz X G z3;have m4:=bz X G z4;have m5:=bz X G z5;have m6:=bz X G z6;have m7:=bz X G z7;have m8:=bz X G z8;have m9:=bz X G z9;have m10:=bz X G z10;have m11:=bz X G z11;have i1:=bF X G y1;have i2:=bF X G y2;have i3:=bF X G y3;have i4:=bF X G y4;have i5:=bF X G y5;refine ⟨cW "law" "law" (gc sLaw) (fq sLaw) (defScope sLaw) .none kV dc pm an cd ct,fun s v=> .of_eq rfl,fun base _ _=>?_⟩;have T:Nm mg:=⟨m1,m2,m3,m4,m5,m6,m7⟩;have C:Cs mg:=⟨⟨_,i1⟩,⟨_,i2⟩,⟨_,i3⟩⟩;have C2:Cs2 mg:=⟨⟨_,i4⟩,⟨_,i5⟩⟩;have T2:Nm2 mg:=⟨m9,m10⟩;have X1:Exc K mg "HourError" x1:=⟨bF X G w1,w2⟩;have X2:Exc K mg "NoText" x2:=⟨bF X G w3,w4⟩;have R:da l.prog w K mg base (CXN l.prog w) 2 f14 _ pzb (spReadX x2):=ok_readX G14.F T C2 X2 G13;have I:da l.prog w K mg base CX0 5 f7 _ pza spNet:=ok_net G7.F T C G1 G2 G3 G4 G5 G6;have RN:da l.prog w K mg base (CXN l.prog w) 6 f18 _ ["text"] (spNetX x2):=ok_netX G18.F T T2 X2 G16 (ok_headX G16.F T X2 G14 R) G17 (ok_spanX G17.F T X2 G14 R) G7 I;have S:Rf K mg x2 x1 xa xb xd xe xf xg:=⟨X2.mg,bF X G w14,bF X G w15,bF X G w16,bF X G w17,bF X G w18,bF X G w19,m11,⟨w5,w6,w7,w8,w9,w10,w11,w12⟩,⟨w13⟩,w20,w21,w22,w23,w24,w25,w26⟩;exact ok_law F22 T T2 m8 G12 (ok_netL G12.F T m8 G8 G9 G10 G11) G15 G10 G9 G8 G20 (ok_bent G20.F T T2 G19) G21 (ok_refused G21.F T X1 S G18 RN) G18 RN
theorem walk {l:PySem.W.OpenLaw}{d:DefRec}{K:Params→ah}(hn:l.most=some 63)(hdf:d.params.defaults=[])
  (hY:∀ (w:bj) (h:bg),YP w h→(K w.params).In h)
  (F:∀ (w:bj) (mg:Str→Option aa) (fa:aj) (h:bg),(K w.params).In h→h.Ns aF mg→mg d.name=some (.ref fa) →
   ∃ fd:aY,(∀ (s:ai) (u:aa),BindsTo s fd ⟨[u],[]⟩ [("_law_script",u)])∧∀ base:bg,(K w.params).In base→base.Ns aF mg→da l.prog w (K w.params) mg base CX0 8 fa fd ["_law_script"] (spLaw (K w.params))) :
  PySem.W.WalkO q loose XP YP l.row.toRowW d [] (fun f vs=>PySem.call f vs) :=
 L2.walk_of (n:=63) (k:=8) (x := "_law_script") (CX:=fun _=>CX0) (sp:=fun w=>spLaw (K w.params)) hn (by decide) hdf ⟨rfl,by decide,by decide⟩ hY F (fun _ _ a ns hl _ hS=>⟨a,ns,rfl,hS,hl,fun _=>rfl⟩) fun _ _ _ _ _ z=>z
end HN
set_option maxHeartbeats 0 in
theorem PySem.Challenge.cw_hourtable_k03_texts_of_no_net_holds : PySem.Challenge.rw_hourtable_k03_texts_of_no_net.Holds := by
 refine HN.head0 ?_ HN.leftA;intro q loose XP YP d K hdf hd h0 Fc;exact HN.walk (l:=cA) rfl hdf h0 fun w mg fa h KX G hmg=>HN.all_mk KX G (by rw [hd] at hmg;exact hmg) (Fc w)
