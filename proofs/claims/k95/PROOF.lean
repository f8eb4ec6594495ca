import PyProof.Rows.All
import KE.KIsAll
import KE.KBools
import KE.KxBytes
import KE.KEqSeq
import KE.KSortTup
import KE.KLam
import KE.KNestM
import KE.KRevIter
import KE.KIntText
import Wide.FinOn
import PySem.Challenge.RW_hourtable_k95_whole_from_text_to_text
set_option compiler.extract_closed false
set_option Elab.async false
set_option linter.all false
set_option maxRecDepth 100000
set_option maxHeartbeats 0
set_option bootstrap.genMatcherCode false
open List renaming length_map->aa,getD_eq_getElem?_getD->af,map_append->au,getElem?_map->av,getElem?_eq_some_iff->aw,length_append->ax,mem_cons_of_mem->az,take_add_one->aE,take_length->aG,range->aQ,getElem_mem->aY,mem_of_getElem?->aZ,mem_map->bc,mem_singleton->bf,mem_cons->bh,mem_append->bj,mem_append_right->bo,size_toArray->br,replicate->bB,length_take->bD,length_cons->bE,length_range->bL,nodup_iff_pairwise_ne->bM,mem_cons_self->bQ,foldl_cons->bS,getElem?_append_right->bU,map_map->bZ,mem_range->cg,mem_append_left->cn,nodup_cons->cy,map_cons->cz,mem_filter->cQ,pairwise_map->cU,map_congr_left->c9,getElem?_set_ne->d9,dropLast_concat->eI,reverse_cons->e8,getElem?_set_self->fb,length_reverse->fg,append_nil->fk,getElem?_append_left->fu,not_mem_nil->fN,length_eq_zero_iff->fT,foldl_append->fU,getElem?_range->gc,length_drop->gk,all_eq_true->gm,length_replicate->gz,toArray->gQ,any_cons->gX,getElem_map->ia,cons_append->ib,getElem_range->iq,length_singleton->iJ,length_filter_le->iK,any_eq_false->iP,replicate_succ'->iX,getElem?_of_mem->iY,pairwise_iff_getElem->jj,sum_append->jC,length_set->jD,find?_cons->jE,filter_cons->kr,length->kH,getElem_toArray->kI,range_succ->kZ,dropLast_concat_getLast->k3,filterMap_cons->k9,filter_append->lX,nodup_append->mV,set_eq_take_append_cons_drop->qq
open PySem renaming Value->ae, Addr->ai, wpAny_bind->ak, Shared->aq, Program->aL, FuncData->aM, sizeLine->aO, wpAny_pure->aP, World->bp, wpAny->bz, model->bC, starEach->bF, mainGlobals->bG, Heap->bI, Str->bO, Around->bT, Stmt->bY, wpAny_mono->cj, mem_of_lookup->cx, Spec->cG, sizeLine_eq->cT, wpAny_holding->cX, compareOp->cZ, Builtin->dm, importedModules->dJ, eval->eO, wpAny_Call_Name_kw->eP, lookup_relabel_local->eX, boot_len->eY, wpAny_newObj_type->fm, Scope->ft, NameKind->fY, wpAny_truthy_bool->gg, foldedSetIterable->gh, Arguments->gi, binaryOp->gq, backTo->gw, wpAny_field->hV, wpAny_seqItems->ir, wpAny_call_entry->iu, wpAny_callSpecial?_slot->iw, wpAny_pyIter_tuple->iL, wpAny_passesOwn->iS, call_meets->jx, wpAny_newList->jR, wpAny_loadPart'->jW, sysModules->j5, treeTable->kf, sliceBounds->kg, wpAny_tryCatch->kt, wpAny_newTuple->ku, codeAny->kD, Paired->kE, letOwnedTupleGo->mr, codeAny_builtin->mB, wpAny_setField_rec->mY
open PySem.W renaming Frag->ag,nsIn->bW,mg_none_of->cb,findIn->cJ,keepIn->dh,mg_of->dk,kia_one->dW,codeHdIn->d5,fnOf->eQ,emptyDict->eR,instObj->gC,codeIn->gY,openGood->iU,kitOne->jL,plainGet->j9,openSeen->kz,callWith_K->k7,fencedOpening->lH
open PySem.Heap renaming get?_push_of_some->ao,get?_push_size->aR,lt_size->aS,SameBut->df,size_push->fc,get?_update_ne->jv,get?_update_other->jZ
open Nat renaming le_refl->ay,le_trans->aU,lt_of_lt_of_le->aW,zero_le->bq,ne_of_lt->bP,lt_of_le_of_lt->bV,lt_of_le_of_ne->dt,ne_of_gt->fO,lt_irrefl->g6,mul_assoc->iI,le_succ->jP,mul_comm->ka,le_of_eq->kb,add_le_add_left->lL,lt_succ_iff_lt_or_eq->mZ
open Option renaming map_eq_some_iff->aX,map_some->gH,ne_none_iff_exists'->lJ
open Bool renaming false_ne_true->bK,eq_false_iff->gR,and_eq_true->jf,eq_iff_iff->jF,not_eq_true'->j4,false_eq_true->lY
open PyProof.Rows renaming seqObj->bR,slot_tuple_getitem->c6,callWith_type1->dX,get?_update_seq->fM,listUpdate_at->iV,sortedHeap->k5,boot_isinstance->mE
open Array renaming getElem?_eq_getElem->cq,length_toList->cN,getElem?_toList->iH
open Int renaming eq_ofNat_of_zero_le->cu,toNat_natCast->cw,emod_nonneg->cS,mul_le_mul_of_nonneg_left->cW,emod_lt_of_pos->cY,zero_add->gj,mul_ediv_add_emod->gF,le_refl->gW,zero_mul->jo,sub_eq_add_neg->mH
open PySem.Obj renaming mapSeq->cE
open Ne renaming symm->cM
open False renaming elim->cR
open Option.some renaming inj->cV
open Classical renaming byContradiction->dv,propDecidable->jw
open PySem.W.Fast renaming te14364793385576792824->dE,te14289696077712309145->dF,te11892475500146522536->dG,te10274390034422433532->dH,te10156331382660048174->dI,te6613529449190102663->dN,te1435165496053646825->dO,tw4187177175401517315->fW,te4187177175401517315->fX
open PySem.Builtin.Str renaming occurrences->dY,partsBetween->gB
open PySem.F renaming plainAttrs_str->eS,plainAttrs_list->gZ,slot_tuple_iterator_next->jq,type_str_join->jX,slot_str_join->jY,plain_min_loop->kY,args_tuple_add_2->mG,entry_tuple_add->mU
open PySem.Challenge renaming rw_hourtable_k95_whole_from_text_to_text->fe
open PySem.Builtin.Range renaming rangeSize->fv,small->j3
open PySem.Builtin.SmallTypes renaming nextOf->fQ
open Pure renaming pure->gv
open PySem.Heap.SameBut renaming update->gJ
open PySem.Str renaming empty->gP,join->jB
open Lean renaming maxHeartbeats->ie,mkIdent->jd
open PySem.Txt renaming split->ij,join->j8
open PySem.StrLaws renaming glued_eq_join->iB
open PySem.Builtin.List renaming listTooLong->iR
open PySem.Builtin.Int renaming intBits->ki
open ToString renaming toString->kx
noncomputable section
local macro_rules (kind:=Lean.Parser.Command.declaration)
 |s=>if s[1][0].getPos?.isNone then Lean.Macro.throwUnsupported else pure (s.setArg 1 (s[1].setArg 0 (Lean.mkAtom s[1][0].getAtomVal)))
namespace Lake
section
variable {Z:Prop}
theorem xX0_2 (h:P/\Q)(f:P->Q->Z):Z:=f h.1 h.2
theorem xX0_3 (h:P/\Q/\R)(f:P->Q->R->Z):Z:=xX0_2 h.2 (f h.1)
theorem xX0_4 (h:P/\Q/\R/\S)(f:P->Q->R->S->Z):Z:=xX0_3 h.2 (f h.1)
theorem xX0_5 (h:P/\Q/\R/\S/\T)(f:P->Q->R->S->T->Z):Z:=xX0_4 h.2 (f h.1)
theorem xX0_6 (h:P/\Q/\R/\S/\T/\U)(f:P->Q->R->S->T->U->Z):Z:=xX0_5 h.2 (f h.1)
theorem xX0_7 (h:P/\Q/\R/\S/\T/\U/\V)(f:P->Q->R->S->T->U->V->Z):Z:=xX0_6 h.2 (f h.1)
theorem xX0_8 (h:P/\Q/\R/\S/\T/\U/\V/\W)(f:P->Q->R->S->T->U->V->W->Z):Z:=xX0_7 h.2 (f h.1)
theorem xX0_9 (h:P/\Q/\R/\S/\T/\U/\V/\W/\X)(f:P->Q->R->S->T->U->V->W->X->Z):Z:=xX0_8 h.2 (f h.1)
theorem xX0_10 (h:P/\Q/\R/\S/\T/\U/\V/\W/\X/\Y)(f:P->Q->R->S->T->U->V->W->X->Y->Z):Z:=xX0_9 h.2 (f h.1)
theorem xX0_11 (h:P/\Q/\R/\S/\T/\U/\V/\W/\X/\Y/\J)(f:P->Q->R->S->T->U->V->W->X->Y->J->Z):Z:=xX0_10 h.2 (f h.1)
theorem xX0_12 (h:P/\Q/\R/\S/\T/\U/\V/\W/\X/\Y/\J/\K)(f:P->Q->R->S->T->U->V->W->X->Y->J->K->Z):Z:=xX0_11 h.2 (f h.1)
theorem xX1_1 {P:A->Prop}(h:∃a,P a)(f:∀a,P a->Z):Z:=h.elim f
theorem xX2_1 {P:A->B->Prop}(h:∃a b,P a b)(f:∀a b,P a b->Z):Z:=h.elim λa h=>xX1_1 h (f a)
theorem xX3_1 {P:A->B->C->Prop}(h:∃a b c,P a b c)(f:∀a b c,P a b c->Z):Z:=h.elim λa h=>xX2_1 h (f a)
theorem xX4_1 {P:A->B->C->D->Prop}(h:∃a b c d,P a b c d)(f:∀a b c d,P a b c d->Z):Z:=h.elim λa h=>xX3_1 h (f a)
theorem xX5_1 {P:A->B->C->D->E->Prop}(h:∃a b c d e,P a b c d e)(f:∀a b c d e,P a b c d e->Z):Z:=h.elim λa h=>xX4_1 h (f a)
theorem xX6_1 {P:A->B->C->D->E->F->Prop}(h:∃a b c d e g,P a b c d e g)(f:∀a b c d e g,P a b c d e g->Z):Z:=h.elim λa h=>xX5_1 h (f a)
theorem xX7_1 {P:A->B->C->D->E->F->G->Prop}(h:∃a b c d e g i,P a b c d e g i)(f:∀a b c d e g i,P a b c d e g i->Z):Z:=h.elim λa h=>xX6_1 h (f a)
theorem xX8_1 {P:A->B->C->D->E->F->G->H->Prop}(h:∃a b c d e g i j,P a b c d e g i j)(f:∀a b c d e g i j,P a b c d e g i j->Z):Z:=h.elim λa h=>xX7_1 h (f a)
theorem xX9_1 {P:A->B->C->D->E->F->G->H->I->Prop}(h:∃a b c d e g i j k,P a b c d e g i j k)(f:∀a b c d e g i j k,P a b c d e g i j k->Z):Z:=h.elim λa h=>xX8_1 h (f a)
theorem xX1_2 {P Q:A->Prop}(h:∃a,P a/\Q a)(f:∀a,P a->Q a->Z):Z:=xX1_1 h λa h=>xX0_2 h (f a)
theorem xX1_3 {P Q R:A->Prop}(h:∃a,P a/\Q a/\R a)(f:∀a,P a->Q a->R a->Z):Z:=xX1_1 h λa h=>xX0_3 h (f a)
theorem xX1_4 {P Q R S:A->Prop}(h:∃a,P a/\Q a/\R a/\S a)(f:∀a,P a->Q a->R a->S a->Z):Z:=xX1_1 h λa h=>xX0_4 h (f a)
theorem xX1_5 {P Q R S T:A->Prop}(h:∃a,P a/\Q a/\R a/\S a/\T a)(f:∀a,P a->Q a->R a->S a->T a->Z):Z:=xX1_1 h λa h=>xX0_5 h (f a)
theorem xX2_2 {P Q:A->B->Prop}(h:∃a b,P a b/\Q a b)(f:∀a b,P a b->Q a b->Z):Z:=xX2_1 h λa b h=>xX0_2 h (f a b)
theorem xX2_3 {P Q R:A->B->Prop}(h:∃a b,P a b/\Q a b/\R a b)(f:∀a b,P a b->Q a b->R a b->Z):Z:=xX2_1 h λa b h=>xX0_3 h (f a b)
theorem xX2_4 {P Q R S:A->B->Prop}(h:∃a b,P a b/\Q a b/\R a b/\S a b)(f:∀a b,P a b->Q a b->R a b->S a b->Z):Z:=xX2_1 h λa b h=>xX0_4 h (f a b)
theorem xX2_5 {P Q R S T:A->B->Prop}(h:∃a b,P a b/\Q a b/\R a b/\S a b/\T a b)(f:∀a b,P a b->Q a b->R a b->S a b->T a b->Z):Z:=xX2_1 h λa b h=>xX0_5 h (f a b)
theorem xX2_6 {P Q R S T U:A->B->Prop}(h:∃a b,P a b/\Q a b/\R a b/\S a b/\T a b/\U a b)(f:∀a b,P a b->Q a b->R a b->S a b->T a b->U a b->Z):Z:=xX2_1 h λa b h=>xX0_6 h (f a b)
theorem xX3_2 {P Q:A->B->C->Prop}(h:∃a b c,P a b c/\Q a b c)(f:∀a b c,P a b c->Q a b c->Z):Z:=xX3_1 h λa b c h=>xX0_2 h (f a b c)
theorem xX3_3 {P Q R:A->B->C->Prop}(h:∃a b c,P a b c/\Q a b c/\R a b c)(f:∀a b c,P a b c->Q a b c->R a b c->Z):Z:=xX3_1 h λa b c h=>xX0_3 h (f a b c)
theorem xX3_4 {P Q R S:A->B->C->Prop}(h:∃a b c,P a b c/\Q a b c/\R a b c/\S a b c)(f:∀a b c,P a b c->Q a b c->R a b c->S a b c->Z):Z:=xX3_1 h λa b c h=>xX0_4 h (f a b c)
theorem xX3_5 {P Q R S T:A->B->C->Prop}(h:∃a b c,P a b c/\Q a b c/\R a b c/\S a b c/\T a b c)(f:∀a b c,P a b c->Q a b c->R a b c->S a b c->T a b c->Z):Z:=xX3_1 h λa b c h=>xX0_5 h (f a b c)
theorem xX4_4 {P Q R S:A->B->C->D->Prop}(h:∃a b c d,P a b c d/\Q a b c d/\R a b c d/\S a b c d)(f:∀a b c d,P a b c d->Q a b c d->R a b c d->S a b c d->Z):Z:=xX4_1 h λa b c d h=>xX0_4 h (f a b c d)
theorem xX5_5 {P Q R S T:A->B->C->D->E->Prop}(h:∃a b c d e,P a b c d e/\Q a b c d e/\R a b c d e/\S a b c d e/\T a b c d e)(f:∀a b c d e,P a b c d e->Q a b c d e->R a b c d e->S a b c d e->T a b c d e->Z):Z:=xX5_1 h λa b c d e h=>xX0_5 h (f a b c d e)
end
abbrev tP:=@if_neg
abbrev tQ:=@if_pos
abbrev tR:=@absurd
abbrev tS:=@decide_eq_true
abbrev tU:=@decide_eq_false
abbrev tV:=@of_decide_eq_true
abbrev tW:=@congrArg
def au0 (_:True:=by rfl):True:=trivial
def au1 (_:True:=by decide):True:=trivial
def au2 (_:True:=by intro _;rfl):True:=trivial
def au3 (_:True:=by first | exact .inl rfl | exact .inr rfl | assumption):True:=trivial
def au4 (_:True:=by first | exact Or.inl rfl | exact Or.inr (Or.inl rfl) | exact Or.inr (Or.inr rfl)):True:=trivial
def au5 (_:True:=by first | decide | lia):True:=trivial
def Ωa:=au0._auto_1
def Ωb:=au1._auto_1
def Ωc:=au2._auto_1
def Ωd:=au3._auto_1
def Ωe:=au4._auto_1
def Ωf:=au5._auto_1
theorem gE {α:Type}{l:List α}{i:Nat}(h:i<l.length):l[i]? =some l[i]:=List.getElem?_eq_getElem h
variable {A:bT}{B:Prop}{C Da La Ls T0 T1 T3 Tb0 a dx f f0 f1 f2 f3 f4 f5 kS:ai}{E Q:ae->aq->Prop}{K:ag}{M:PySem.Model}{N fr loose ps:List PySem.Str}{P prog:aL}{R:PySem.Result->aq->Prop}{T:String}{Ts ch fp:List ai}{XE:List (PySem.Str×ai)->ai->ae->aq->Prop}{XP:(PySem.Str->Option ae)->bI->Prop}{YP:bp->bI->Prop}{aN pins':List (ai×PySem.Obj)}{apos lp p0 p1 p2 pos pos' tpos:PySem.Pos}{b b' be d lo z:Int}{base h h':bI}{body e ea elt iter tg value:PySem.Expr}{cd u:ae}{cl:List (PySem.Str×ai)}{d':PySem.Drawn}{e1 i j m t':Nat}{env:PySem.Env}{es ifs:List PySem.Expr}{fd fd0 fd1 fd2 fd3 fd4 fd5:aM}{fz:ai->Option PySem.Obj}{g':Array PySem.GenState}{gs ns os ts:List Int}{hi:Option Int}{items:Array ae}{its us vs:List ae}{js l tk π:List Nat}{key:Nat->Int}{keys:List (Option PySem.Expr)}{ks:List (Int×Int)}{kw:List (PySem.Str×ae)}{lq name q q0 q1 qual x:PySem.Str}{mA mg:PySem.Str->Option ae}{o':Option (List Int)}{oI:PySem.Obj}{op:PySem.CmpOp}{osl:Array (Option ae)}{outer:List PySem.Env}{p:Array Nat}{params:gi}{s s':aq}{sc scope:ft}{st:bY}{sts:List bY}{w:bp}{α:Type}
abbrev _root_.zZ:=Option Int
abbrev _root_.zX:=List ai
abbrev _root_.zJ:=Option ae
abbrev _root_.zH:=List bO
abbrev _root_.zD:=List ae
abbrev _root_.zC:=List Nat
abbrev _root_.zB:=List (Int×Int)
abbrev _root_.zI:=List Int
abbrev _root_.zY:=List zI
open PySem PySem.Spec PyProof.Rows
def kU (s:bY):gi:=match s with
 | .FunctionDef _ a _ _ _ _ _ _ _ _=>a
 | _=>{ posonlyargs:=[],args:=[],vararg:=none,kwonlyargs:=[],kw_defaults:=[],kwarg:=none,defaults:=[] }
def gp (s:bY):List bY:=match s with
 | .FunctionDef _ _ b _ _ _ _ _ _ _=>b
 | _=>[]
def defScope (s:bY):ft:=match s with
 | .FunctionDef _ _ _ _ _ _ sc _ _ _=>sc
 | _=>{ kind:=.function,names:=[],isGenerator:=false,isCoroutine:=false }
namespace HN
noncomputable def top (i:Nat):bY:=PySem.Challenge.pw_hourtable_k95_whole_from_text_to_text.main.body.getD i (.Pass ⟨0,0,0,0⟩)
def clsOf (s:bY)(i:Nat):bY:=match s with
 | .ClassDef _ _ _ body _ _ _ _ _ _ _=>body.getD i (.Pass ⟨0,0,0,0⟩)
 | s=>s
structure Df (K:ag)(x:Str)(st:bY)(f:ai):Prop where
 n:bW K bG x=some (some (.ref f))
 l:∃ (oc:ae) (od an:Option ai) (sl:Array zJ) (kV dc pm cd ct:ae),K.lookup f=some ⟨oc,od,.func (eQ x x (kU st) (gp st) (defScope st) .none kV dc pm an cd ct),sl⟩/\gY K cd x=true/\dh K (.ref f)=true
def rf0:Option zJ->ai | some (some (.ref f))=>f | _=>0
def tk0:Option zJ->Nat | some (some (.int _ t))=>t | some (some (.str _ t))=>t | _=>0
noncomputable def adr (K:ag)(x:Str):ai:=rf0 (bW K bG x)
def reb (x y:Str)(st:bY):Option Obj->Option Obj | some ⟨oc,od,.func d,sl⟩=>some ⟨oc,od,.func (eQ x y (kU st) (gp st) (defScope st) .none d.kwdefaults d.doc d.pyModule d.annotations d.code d.closureTuple),sl⟩ | _=>none
def cdO:Option Obj->ae | some ⟨_,_,.func d,_⟩=>d.code | _=>.none
def isO:Option Obj->Bool | some ⟨_,_,.func _,_⟩=>true | _=>false
def dfL (K:ag)(e:Str×bY):Option zJ×Bool×Option Obj×Bool×Bool:=(bW K bG e.1,isO (K.lookup (adr K e.1)),K.lookup (adr K e.1),gY K (cdO (K.lookup (adr K e.1))) e.1,dh K (.ref (adr K e.1)))
def dfR (K:ag)(e:Str×bY):Option zJ×Bool×Option Obj×Bool×Bool:=(some (some (.ref (adr K e.1))),true,reb e.1 e.1 e.2 (K.lookup (adr K e.1)),true,true)
theorem reb_of {x y:Str}{o:Option Obj}{c:ae}(h:o=reb x y st o)(i:isO o=true)(hc:cdO o=c):∃ (oc:ae) (od an:Option ai) (sl:Array zJ) (kV dc pm ct:ae),o=some ⟨oc,od,.func (eQ x y (kU st) (gp st) (defScope st) .none kV dc pm an c ct),sl⟩:=by
 cases o with
 | none=>cases i
 | some o=>obtain ⟨oc,od,d,sl⟩:=o;cases d <;> first | (cases i;done) | (cases hc;exact ⟨oc,od,_,sl,_,_,_,_,h⟩)
theorem df_of (h:dfL K (x,st)=dfR K (x,st)):Df K x st (adr K x):=by
 unfold dfL dfR at h;simp only[Prod.mk.injEq] at h;obtain ⟨h1,h2,h3,h4,h5⟩:=h;obtain ⟨oc,od,an,sl,kV,dc,pm,ct,e⟩:=reb_of h3 h2 rfl;exact ⟨h1,oc,od,an,sl,kV,dc,pm,_,ct,e,h4,h5⟩
def Fcx (K:ag):List (Str×bY)->(zX->Prop)->Prop
 | [],C=>C []
 | (x,st)::r,C=>∀ f:ai,Df K x st f->Fcx K r fun l=>C (f::l)
theorem fcx_of {K:ag}:∀ {L:List (Str×bY)} {C:zX->Prop},L.map (dfL K)=L.map (dfR K)->Fcx K L C->C (L.map fun e=>adr K e.1)
 | [],_,_,k=>k
 | (x,st)::r,C,h,k=>by
  rw[cz,cz] at h;injection h with h1 h2
  exact fcx_of (L:=r) (C:=fun l=>C (adr K x::l)) h2 (k _ (df_of h1))
def Facts (K:ag)(w:bp):Prop:=∀ C:Prop,Fcx K (("width_of",top 21)::("leads_from",top 24)::("leads_to",top 25)::("first_bounds",top 28)::("sum_of",top 29)::("beats_of",top 30)::("is_dead",top 31)::("spans_by_width",top 34)::("forest_of",top 35)::("steps_from",top 36)::("way_between",top 37)::("ring_by",top 38)::("cases_of",top 39)::("rings_of",top 40)::("spread_of",top 41)::("rest_by",top 43)::("with_bound",top 57)::("rings_over",top 65)::("middle_of",top 67)::("dead_leaf",top 68)::("table_by",top 69)::("tables_that_fit",top 70)::("tree_from",top 71)::("tree_by",top 72)::("table_for",top 73)::("is_sure",top 32)::("wait_in",top 44)::("waits_of",top 45)::("wait_of",top 48)::("own_prices",top 61)::("worth_of",top 62)::("price_leaf",top 75)::("leaf_by",top 76)::("best_for",top 77)::("greatest_whole",top 8)::("is_whole",top 9)::("is_within",top 10)::("are_ends",top 17)::("are_lengths",top 18)::("is_span",top 19)::("is_net",top 20)::("is_step",top 23)::("is_way",top 26)::("is_ring",top 27)::("is_headed",top 53)::("is_cut",top 54)::("is_row",top 55)::("is_leaf",top 56)::("sides_of",top 58)::("leaves_in",top 59)::("is_tree",top 60)::("broken_in",top 46)::("fits",top 47)::("moved_by",top 49)::("mirrored_span",top 79)::("mirrored",top 80)::("table_mirrored",top 81)::("span_named",top 82)::("is_order",top 83)::("check_order",top 84)::("named_anew",top 85)::("is_numeral",top 11)::("read_whole",top 12)::("show_net",top 87)::("read_head",top 88)::("read_span",top 89)::("read_net",top 90)::("_law_numbers",top 92)::("_law_draw",top 93)::("_law_span",top 94)::("_law_net",top 95)::("_law_leads",top 96)::("_law_beats",top 97)::("_law_bounds",top 98)::("_law_met",top 99)::("_law_forest",top 100)::("_law_leaves",top 101)::("_law_is_right",top 102)::("_law_worth",top 103)::("_law_shown",top 104)::("_law_waits",top 105)::("_law_fits",top 106)::("_law_wait",top 107)::("_law_text",top 108)::("_law_few",top 109)::("_law_best",top 110)::("law",top 111)::[]) (fun l=>∀ {t1 t2 t3 t4 t5 t6 t7 t8:Tok} {xC xi xs xt:ai} {odI anI odS anS odT anT:Option ai} {slI slS slT:Array zJ} {ocI kVI dcI pmI ctI ocS kVS dcS pmS cdS ctS ocT kVT dcT pmT cdT ctT:ae},(bW K bG "MOST_CASES" =some (some (.int 4096 t1))) ->
 (bW K bG "MOST_ROWS" =some (some (.int 40 t2))) ->
 (bW K bG "MOST_LEAVES_WALKED" =some (some (.int 20000 t3))) ->
 (bW K bG "MOST_HAPPENINGS" =some (some (.int 16 t4))) ->
 (bW K bG "MOST_SPANS" =some (some (.int 40 t5))) ->
 (bW K bG "MOST_WEIGHT" =some (some (.int 1000000000000 t6))) ->
 (bW K bG "FIGURES" =some (some (.str "0123456789" t7))) ->
 (bW K bG "MOST_FIGURES" =some (some (.int 60 t8))) ->
 (bW K bG "isinstance" =some none) ->
 (bW K bG "int" =some none) ->
 (bW K bG "bool" =some none) ->
 (bW K bG "tuple" =some none) ->
 (bW K bG "len" =some none) ->
 (bW K bG "min" =some none) ->
 (bW K bG "all" =some none) ->
 (bW K bG "range" =some none) ->
 (bW K bG "enumerate" =some none) ->
 (bW K bG "zip" =some none) ->
 (bW K bG "sum" =some none) ->
 (bW K bG "list" =some none) ->
 (bW K bG "max" =some none) ->
 (bW K bG "set" =some none) ->
 (bW K bG "sorted" =some none) ->
 (bW K bG "reversed" =some none) ->
 (bW K bG "str" =some none) ->
 (bW K bG "Cuts" =some (some (.ref xC))) ->
 (j9 K xC gP=true) ->
 (PySem.W.hasDictIn K xC=true) ->
 (PySem.W.plainOver K xC=true) ->
 (cJ K (.ref xC) "__setattr__" =some (some (.builtin "object.__setattr__"))) ->
 (cJ K (.ref xC) "first_case" =some none) ->
 (cJ K (.ref xC) "touched" =some none) ->
 (cJ K (.ref xC) "order" =some none) ->
 (PySem.W.makesIn K xC=true) ->
 (cJ K (.ref xC) "__init__" =some (some (.ref xi))) ->
 (PySem.W.isFn K (.ref xi)=true) ->
 (dh K (.ref xC)=true) ->
 (K.lookup xi=some ⟨ocI,odI,.func (eQ "__init__" "Cuts.__init__" (kU (clsOf (top 66) 0)) (gp (clsOf (top 66) 0)) (defScope (clsOf (top 66) 0)) .none kVI dcI pmI anI (.ref 373) ctI),slI⟩) ->
 (gY K (.ref 373) "Cuts.__init__" =true) ->
 (dh K (.ref xi)=true) ->
 (cJ K (.ref xC) "span_to_cut" =some (some (.ref xs))) ->
 (PySem.W.isFn K (.ref xs)=true) ->
 (dh K (.ref xs)=true) ->
 (K.lookup xs=some ⟨ocS,odS,.func (eQ "span_to_cut" "Cuts.span_to_cut" (kU (clsOf (top 66) 1)) (gp (clsOf (top 66) 1)) (defScope (clsOf (top 66) 1)) .none kVS dcS pmS anS cdS ctS),slS⟩) ->
 (gY K cdS "Cuts.span_to_cut" =true) ->
 (cJ K (.ref xC) "sides" =some (some (.ref xt))) ->
 (PySem.W.isFn K (.ref xt)=true) ->
 (dh K (.ref xt)=true) ->
 (K.lookup xt=some ⟨ocT,odT,.func (eQ "sides" "Cuts.sides" (kU (clsOf (top 66) 2)) (gp (clsOf (top 66) 2)) (defScope (clsOf (top 66) 2)) .none kVT dcT pmT anT cdT ctT),slT⟩) ->
 (gY K cdT "Cuts.sides" =true) ->
 (cdO (K.lookup (l.getD 7 0))=ae.ref 206) ->
 (d5 K 206 202=true) ->
 (d5 K 373 371=true) ->
 (cdO (K.lookup (l.getD 24 0))=ae.ref 441) ->
 (d5 K 441 437=true) ->
 (cdO (K.lookup (l.getD 33 0))=ae.ref 460) ->
 (d5 K 460 456=true)->C)->C
def Wp:Prop:=∀ {q:aL} {loose:List Str} {XP:(Str->zJ)->bI->Prop} {YP:bp->bI->Prop} {d:DefRec} {K:bp->ag},d.params.defaults=[]->d.name = "law" ->(∀ (w:bp) (h:bI),YP w h->(K w).In h/\∀ T∈([202,371,437,456]:zX),h.get? T=some (PySem.W.tabObj #[]))->(∀ w:bp,∀ T∈([202,371,437,456]:zX),∃ c,d5 (K w) c T=true)->(∀ w:bp,PySem.W.noTabs (K w)=true)->(∀ w:bp,Facts (K w) w)->PySem.W.WalkO q loose XP YP (fe).row.toRowW d [] (fun f vs=>PySem.call f vs)
end HN
section
open PySem.W
def HN.seenOf:aL:={ PySem.Challenge.pw_hourtable_k95_whole_from_text_to_text with main:={ PySem.Challenge.pw_hourtable_k95_whole_from_text_to_text.main with body:=[1,2,3,4,6,7,8,9,10,11,12,14,15,16,17,18,19,20,21,23,24,25,26,27,28,29,30,31,32,34,35,36,37,38,39,40,41,43,44,45,46,47,48,49,51,52,53,54,55,56,57,58,59,60,61,62,64,65,66,67,68,69,70,71,72,73,75,76,77,79,80,81,82,83,84,85,87,88,89,90,92,93,94,95,96,97,98,99,100,101,102,103,104,105,106,107,108,109,110,111].map HN.top } }
def HN.isSeen (s:aq):Bool:=xlAt HN.seenOf [] s && recOk (RowW.records (OpenRow.toRowW (OpenLaw.row fe))) s
local macro_rules
 | `(tactic| o_head $H:term)=>`(tactic| (refine holds_open (q:=HN.seenOf) (loose:=[]) (XP:=XL HN.seenOf []) (Xt:=HN.isSeen) (Yf:=Hook.obs $H) (Ya:=Hook.val $H) (YP:=Hook.says $H) (N:=4048) ?_ (Hook.of $H) (Hook.keeps $H) (fun s e=>xl_of s (Bool.and_eq_true_iff.mp e).1) XL.keeps (by rfl) (by rfl) (by rfl) (fun s e=>recFacts_of (Bool.and_eq_true_iff.mp e).2) ?_ ?_ ?_ ?_ ?_ ?_))
theorem HN.left_two {σ β:Type}{e:Option σ}{f:σ->α}{g:σ->β}{a:α}{b:β}(h1:e.map f=some a)(h2:e.map g=some b):e.map (fun s=>(f s,g s))=some (a,b):=by
 cases e with
 | none=>cases h1
 | some s=>injection h1 with h1;injection h2 with h2;show some (f s,g s)=_;rw[h1,h2]
namespace HN
open PySem.W
def topRunG (st:SharedT->Thread->Option (SharedT×Thread))(ok:Thread->Bool):Nat->SharedT->Thread->Option SharedT
 | 0,_,_=>none
 | n+1,s,t=>match through t with
  | true=>some s
  | false=>match ok t with
   | false=>none
   | true=>match st s t with
    | some r=>topRunG st ok n r.1 r.2
    | none=>none
theorem topRun_of {tb:String->Option dm}{p:aL}{w:bp}{n₀:Nat}{ann:zJ}:∀ {n:Nat} {s s':SharedT} {t:Thread},topRunG (stepT (denote tb) p w) (stepOk n₀ ann) n s t=some s'->topRun tb p w n₀ ann n s.abs t=some s'.abs
 | 0,_,_,_,h=>by cases h
 | n+1,s,s',t,h=>by
  unfold topRunG at h;unfold topRun;cases ht:through t with
  | true=>rw[ht] at h;cases h;rfl
  | false =>
   rw[ht] at h;cases hk:stepOk n₀ ann t with
   | false=>rw[hk] at h;cases h
   | true =>
    rw[hk] at h;cases hs:stepT (denote tb) p w s t with
    | none=>rw[hs] at h;cases h
    | some r=>obtain ⟨s₂,t₂⟩:=r;rw[hs] at h;rw[stepT_spec hs];exact topRun_of h
def ofL:List Obj->Nat->BT->BT
 | [],_,T=>T
 | o::l,n,T=>ofL l (n+1) (T.ins n o)
def Ful (n:Nat)(T:BT):Prop:=∀ i,i<n->(T.get i).isSome=true
theorem ful_ins (o:Obj):∀ {T:BT} {n:Nat},Ful n T->((T.ins n o).get n).isSome=true
 | .nil,0,_=>rfl
 | .nil,n+1,h=>by cases h 0 (Nat.succ_pos _)
 | .node v l r,n,h=>by
  rw[BT.ins_node]
  by_cases h0:n=0
  ·subst h0;rfl
  rw[tP h0]
  by_cases h1:n % 2=1
  ·rw[tQ h1,BT.get_node,tP h0,tQ h1]
   refine ful_ins o fun j hj=>?_
   have:=h (2 * j+1) (by lia)
   rwa [BT.get_node,tP (by lia),tQ (by lia),show (2 * j+1) / 2=j by lia] at this
  ·rw[tP h1,BT.get_node,tP h0,tP h1]
   refine ful_ins o fun j hj=>?_
   have:=h (2 * j+2) (by lia)
   rwa [BT.get_node,tP (by lia),tP (by lia),show (2 * j+2) / 2 - 1=j by lia] at this
theorem ofL_get:∀ {l:List Obj} {n:Nat} {T:BT},Ful n T->∀ i,i<n+l.length->(ofL l n T).get i=if i<n then T.get i else l[i - n]?
 | [],n,T,_,i,hi=>by rw[tQ (by simpa using hi)];rfl
 | o::l,n,T,h,i,hi=>by
  have hg:=BT.get_ins o T n (ful_ins o h);show (ofL l (n+1) (T.ins n o)).get i=_;rw[ofL_get (l:=l) (n:=n+1) (T:=T.ins n o) (fun j hj=>by
   rw[hg]
   by_cases e:j=n
   ·rw[tQ e];rfl
   ·rw[tP e];exact h j (by lia)) i (by rw[bE] at hi;lia),hg]
  by_cases h1:i<n
  ·rw[tQ (by lia),tP (by lia),tQ h1]
  ·rw[tP h1]
   by_cases e:i=n
   ·rw[tQ (by lia),tQ e,e,Nat.sub_self];rfl
   ·rw[tP (by lia),show i - n=(i - (n+1))+1 by lia];rfl
theorem ofL_abs (h:bI):absHeap (ofL h.objs.toList 0 .nil) h.objs.size h.life=h:=by
 have e:(absHeap (ofL h.objs.toList 0 .nil) h.objs.size h.life).objs=h.objs:=by
  apply Array.ext_getElem?
  intro i;rw[absHeap_at]
  by_cases hi:i<h.objs.size
  ·rw[tQ hi,ofL_get (n:=0) (fun j hj=>tR hj (Nat.not_lt_zero _)) i (by rw[cN];lia),tP (Nat.not_lt_zero _),Nat.sub_zero,iH,cq hi]
   rfl
  ·rw[tP hi,Array.getElem?_eq_none (by lia)]
 exact tW (bI.mk · h.life) e
def topFromT (tb:String->Option dm)(p:aL)(w:bp)(N:Nat)(s₀:aq):Option aq:=
 match s₀.heap.isNs bG && s₀.gens.size == 0 with
 | true=>(topRunG (stepT (denote tb) p w) (stepOk s₀.heap.objs.size (s₀.heap.nsMap bG "__annotations__")) N ⟨ofL s₀.heap.objs.toList 0 .nil,s₀.heap.objs.size,s₀.heap.life,s₀.gens,s₀.drawn,s₀.toks,s₀.os⟩ (topStub p)).bind fun s₁=>match staticsOk (dJ p.main.body) s₀.heap s₁.abs.heap && namesBound p s₁.abs.heap && gensDone s₁.abs && laidKept s₀.heap s₁.abs.heap with
   | true=>some s₁.abs
   | false=>none
 | false=>none
theorem topFrom_of {tb:String->Option dm}{p:aL}{N:Nat}{s₀ s₁:aq}(h:topFromT tb p w N s₀=some s₁):topFrom tb p w N s₀=some s₁:=by
 unfold topFromT at h;unfold topFrom;cases e:(s₀.heap.isNs bG && s₀.gens.size == 0) with
 | false=>rw[e] at h;cases h
 | true =>
  rw[e] at h;obtain ⟨s₂,h6,h7⟩:=Option.bind_eq_some_iff.mp h;have q:=topRun_of h6;have ea:(SharedT.abs ⟨ofL s₀.heap.objs.toList 0 .nil,s₀.heap.objs.size,s₀.heap.life,s₀.gens,s₀.drawn,s₀.toks,s₀.os⟩)=s₀:=by
   unfold SharedT.abs;rw[ofL_abs]
  rw[ea] at q;exact Option.bind_eq_some_iff.mpr ⟨_,q,h7⟩
def openT (p:aL)(w:bp)(N:Nat):Option aq:=(lH kf p w N).bind (topFromT kf p w N)
theorem open_of {p:aL}{N:Nat}{f:aq->α}{a:α}(h:(openT p w N).map f=some a):(openEnds kf p w N).map f=some a:=by
 obtain ⟨s,h1,h2⟩:=aX.mp h;obtain ⟨s₀,h3,h4⟩:=Option.bind_eq_some_iff.mp h1;unfold openEnds;rw[h3];show (topFrom kf p w N s₀).map f=_;rw[topFrom_of h4];exact tW some h2
noncomputable def runP:(f:bp->Option aq) ×' ∀ w,openT fe.row.prog w 4048=f w:=by
 apply PSigma.mk
 intro w;unfold openT lH topFromT;rewrite[dH,dF,dE,dO,dI,dG,dN];exact rfl
noncomputable def frL (h:bI)(n:Nat):ag->ag:=n.rec (motive:=fun _=>ag->ag) id fun n r K=>(h.get? n).elim (r K) fun o=>r (bif noTabs [(n,o)] then (n,o)::K else K)
theorem frL_in {h:bI}:∀ {n:Nat} {K:ag},K.In h->ag.In (frL h n K) h
 | 0,_,k=>k
 | n+1,K,k=>by
  show ag.In ((h.get? n).elim (frL h n K) fun o=>frL h n (bif noTabs [(n,o)] then (n,o)::K else K)) h
  cases e:h.get? n with
  | none=>exact frL_in k
  | some o =>
   refine frL_in (K:=bif noTabs [(n,o)] then (n,o)::K else K) ?_;cases noTabs [(n,o)] with
   | false=>exact k
   | true =>
    intro a o' e';simp only[cond_true,List.lookup] at e';split at e'
    ·rename_i q;cases e';rw[beq_iff_eq.mp q];exact e
    ·exact k _ _ e'
theorem says_of {s:aq}{n:Nat}{X:ag}{S:zX}(x:(frL s.heap n [],S.map s.heap.get?)=(X,S.map fun _=>some (tabObj #[]))):X.In s.heap/\∀ T∈S,s.heap.get? T=some (tabObj #[]):=by
 injection x with x y;subst x;exact ⟨frL_in (fun _ _ e=>by cases e),List.map_inj_left.mp y⟩
theorem map_get {A B:Type}{o:Option aq}{f:aq->A}{g:aq->B}{d:A}{c:B}(h:o.map g=some c):o.map (fun s=>(f s,g s))=some ((o.map f).getD d,c):=by
 cases o with
 | none=>cases h
 | some s=>injection h with h;subst h;rfl
noncomputable def KW (w:bp):ag:=((runP.1 w).map fun s=>frL s.heap 655 []).getD []
noncomputable def hk:Hook where
 α:=ag×List (Option Obj)
 obs:=fun s=>(frL s.heap 655 [],List.map s.heap.get? [202,371,437,456])
 val:=fun w=>(KW w,List.map (fun _=>some (tabObj #[])) [202,371,437,456])
 says:=fun w h=>(KW w).In h/\∀ T∈([202,371,437,456]:zX),h.get? T=some (tabObj #[])
 of:=fun w s=>says_of
 keeps:=fun w h h' x k=>⟨Frag.In.keeps x.1 k,fun P hP=>k _ _ (x.2 P hP)⟩
theorem fct (w:bp):(Facts (KW w) w/\noTabs (KW w)=true/\∀ T∈([202,371,437,456]:zX),∃ c,d5 (KW w) c T=true)/\(runP.1 w).map (fun s=>List.map s.heap.get? [202,371,437,456])=some (List.map (fun _=>some (tabObj #[])) [202,371,437,456]):=by
 refine ⟨⟨?_,by kernel_rfl,?_⟩,by kernel_rfl⟩
 ·intro C k
  obtain ⟨_,_,_,_,_,_,_,_,hi⟩:=reb_of (x:="__init__") (y:="Cuts.__init__") (st:=clsOf (top 66) 0) (o:=(KW w).lookup (rf0 (cJ (KW w) (.ref (adr (KW w) "Cuts")) "__init__"))) (c:=(.ref 373)) (by kernel_rfl) (by kernel_rfl) (by kernel_rfl)
  obtain ⟨_,_,_,_,_,_,_,_,hs⟩:=reb_of (x:="span_to_cut") (y:="Cuts.span_to_cut") (st:=clsOf (top 66) 1) (o:=(KW w).lookup (rf0 (cJ (KW w) (.ref (adr (KW w) "Cuts")) "span_to_cut"))) (c:=_) (by kernel_rfl) (by kernel_rfl) (rfl)
  obtain ⟨_,_,_,_,_,_,_,_,ht⟩:=reb_of (x:="sides") (y:="Cuts.sides") (st:=clsOf (top 66) 2) (o:=(KW w).lookup (rf0 (cJ (KW w) (.ref (adr (KW w) "Cuts")) "sides"))) (c:=_) (by kernel_rfl) (by kernel_rfl) (rfl)
  apply fcx_of (by kernel_rfl) k (t1:=tk0 (bW (KW w) bG "MOST_CASES")) (t2:=tk0 (bW (KW w) bG "MOST_ROWS")) (t3:=tk0 (bW (KW w) bG "MOST_LEAVES_WALKED")) (t4:=tk0 (bW (KW w) bG "MOST_HAPPENINGS")) (t5:=tk0 (bW (KW w) bG "MOST_SPANS")) (t6:=tk0 (bW (KW w) bG "MOST_WEIGHT")) (t7:=tk0 (bW (KW w) bG "FIGURES")) (t8:=tk0 (bW (KW w) bG "MOST_FIGURES")) (xC:=adr (KW w) "Cuts") (xi:=(rf0 (cJ (KW w) (.ref (adr (KW w) "Cuts")) "__init__"))) (xs:=(rf0 (cJ (KW w) (.ref (adr (KW w) "Cuts")) "span_to_cut"))) (xt:=(rf0 (cJ (KW w) (.ref (adr (KW w) "Cuts")) "sides"))) <;> first | with_reducible assumption | kernel_rfl
 ·intro T hT;simp only[bh,fN,or_false] at hT
  rcases hT with rfl | rfl | rfl | rfl
  ·exact ⟨206,by kernel_rfl⟩
  ·exact ⟨373,by kernel_rfl⟩
  ·exact ⟨441,by kernel_rfl⟩
  ·exact ⟨460,by kernel_rfl⟩
end HN
def HN.said:fe.wellSaid=true:=by
 rewrite[PySem.W.Fast.te9446332074065402090]
 decide +kernel
def HN.head0:(P:bp->Prop) ×' (HN.Wp->(∀ w:bp,(openEnds kf fe.row.prog w 4048).map (kz HN.seenOf [] (dJ fe.row.prog.main.body) HN.isSeen true)=some (iU HN.seenOf []))->(∀ w,P w)->fe.Holds):=by
 apply PSigma.mk
 intro W Lf Sc
 w_on;refine holds_law HN.said fun said=>?_;o_head HN.hk
 ·exact fun w=>HN.left_two (Lf w) (Sc w)
 ·rfl
 ·assumption
 ·decide +kernel
 ·exact ⟨rfl,rfl,rfl,rfl,rfl,by decide +kernel⟩
 ·w_witness2
 exact W rfl rfl (fun w h Y=>Y) (fun w=>(HN.fct w).1.2.2) (fun w=>(HN.fct w).1.2.1) fun w=>(HN.fct w).1.1
def HN.sc0 (w:bp):HN.head0.1 w:=by
 show _=_;refine HN.open_of ?_;rw[HN.runP.2 w];exact HN.map_get (f:=fun s=>HN.frL s.heap 655 []) (d:=[]) (HN.fct w).2
theorem HN.left_q {σ A B C D E F G H:Type}{e:Option σ}{f:σ->A×B×C×D×E×F×G×H}{a:A×B×C×D×E×F×G×H}(h1:e.map (fun s=>((f s).1,(f s).2.1))=some (a.1,a.2.1))(h2:e.map (fun s=>((f s).2.2.2.1,(f s).2.2.2.2.1))=some (a.2.2.2.1,a.2.2.2.2.1))(h3:e.map (fun s=>((f s).2.2.2.2.2.1,(f s).2.2.2.2.2.2.1))=some (a.2.2.2.2.2.1,a.2.2.2.2.2.2.1))(h4:e.map (fun s=>((f s).2.2.1,(f s).2.2.2.2.2.2.2))=some (a.2.2.1,a.2.2.2.2.2.2.2)):e.map f=some a:=by
 cases e with
 | none=>cases h1
 | some s =>
  injection h1 with h1;injection h2 with h2;injection h3 with h3;injection h4 with h4
  injection h1 with p1 p2;injection h4 with p3 h4;injection h2 with p4 p5;injection h3 with p6 p7
  exact tW some (Prod.ext p1 (Prod.ext p2 (Prod.ext p3 (Prod.ext p4 (Prod.ext p5 (Prod.ext p6 (Prod.ext p7 h4)))))))
theorem HN.left1 (w:bp):(HN.runP.1 w).map (fun s=>((kz HN.seenOf [] (dJ fe.row.prog.main.body) HN.isSeen true s).1,(kz HN.seenOf [] (dJ fe.row.prog.main.body) HN.isSeen true s).2.1))=some ((iU HN.seenOf []).1,(iU HN.seenOf []).2.1):=by
 rewrite[fX];dsimp only[fW,iU];kernel_rfl
theorem HN.left2 (w:bp):(HN.runP.1 w).map (fun s=>((kz HN.seenOf [] (dJ fe.row.prog.main.body) HN.isSeen true s).2.2.2.1,(kz HN.seenOf [] (dJ fe.row.prog.main.body) HN.isSeen true s).2.2.2.2.1))=some ((iU HN.seenOf []).2.2.2.1,(iU HN.seenOf []).2.2.2.2.1):=by
 rewrite[fX];dsimp only[fW,iU];kernel_rfl
theorem HN.left3 (w:bp):(HN.runP.1 w).map (fun s=>((kz HN.seenOf [] (dJ fe.row.prog.main.body) HN.isSeen true s).2.2.2.2.2.1,(kz HN.seenOf [] (dJ fe.row.prog.main.body) HN.isSeen true s).2.2.2.2.2.2.1))=some ((iU HN.seenOf []).2.2.2.2.2.1,(iU HN.seenOf []).2.2.2.2.2.2.1):=by
 rewrite[fX];dsimp only[fW,iU];kernel_rfl
theorem HN.left4 (w:bp):(HN.runP.1 w).map (fun s=>((kz HN.seenOf [] (dJ fe.row.prog.main.body) HN.isSeen true s).2.2.1,(kz HN.seenOf [] (dJ fe.row.prog.main.body) HN.isSeen true s).2.2.2.2.2.2.2))=some ((iU HN.seenOf []).2.2.1,(iU HN.seenOf []).2.2.2.2.2.2.2):=by
 rewrite[fX];dsimp only[fW,iU];kernel_rfl
theorem HN.leftA (w:bp):(openEnds kf fe.row.prog w 4048).map (kz HN.seenOf [] (dJ fe.row.prog.main.body) HN.isSeen true)=some (iU HN.seenOf []):=by
 refine HN.open_of ?_;rw[HN.runP.2 w];exact HN.left_q (f:=kz HN.seenOf [] (dJ fe.row.prog.main.body) HN.isSeen true) (HN.left1 w) (HN.left2 w) (HN.left3 w) (HN.left4 w)
end
set_option hygiene false in
local macro_rules
 |`(tactic|sleep 0)=>`(tactic|first|(refine sg ?_;intros;first|(refine sq8 ?_;intros)|(refine sq7 ?_;intros)|(refine sq6 ?_;intros)|(refine sq5 ?_;intros)|(refine sq4 ?_;intros)|(refine sq3 ?_;intros)|(refine sq2 ?_;intros)|(refine sq1 ?_;intros)|skip)|(refine sgT ?_;intros)|(refine sw ?_;intros)|(refine sq8 ?_;intros)|(refine sq7 ?_;intros)|(refine sq6 ?_;intros)|(refine sq5 ?_;intros)|(refine sq4 ?_;intros)|(refine sq3 ?_;intros)|(refine sq2 ?_;intros)|(refine sq1 ?_;intros)|(refine sq0 ?_;intros)|skip)
local macro_rules
|`(⇑$_)=>`(by trivial)
set_option hygiene false in
local macro_rules
|`(‹$_›)=>`(bX P w K mg base CX0)
set_option hygiene false in
local macro_rules
|`(‹_›)=>`(bX l.prog w K mg base CX0)
set_option hygiene false in
local macro_rules
|`(tactic|erw[$e,*])=>do
  let es:=e.getElems
  let some n:=es[0]!.raw[1].isNatLit?|Lean.Macro.throwUnsupported
  let mut s<-`(tactic|skip)
  for i in [1:es.size] do s<-`(tactic|($s;obtain⟨_,$(Lean.mkIdent (.mkSimple s!"G{n+i-1}")):ident⟩:=$(Lean.mkIdent (.mkSimple s!"a{n+i-1}")).fn X G (ps:=$(⟨es[i]!.raw[1]⟩))))
  return s
set_option hygiene false in
local macro_rules
 |`(⟨$x,*⟩)=>do
  let mut b:Array Lean.Term:=#[];let r:Lean.Term<-`(rfl);let u:Lean.Term<-`(_);let mut c:=false
  for y in x.getElems do
   let i:=y.raw.getId;let h:=y.raw[0].getId
   if i==`ς then b:=b++#[u,r];c:=true
   else if i==`τ then b:=b++#[u,u,r,r];c:=true
   else if i==`ϱ then b:=b++#[u,u,u,r,r];c:=true
   else if h==`ϲ||h==`ϐ then
    let a:Array Lean.Term:=y.raw[1].getArgs.map (⟨·⟩);let e:=a[0]!;let p:=a[2]?.getD r
    let s:Lean.Term<-if h==`ϲ then `(zT $e) else `(zL $e)
    let t:Lean.Term<-if a.size>1&&!(a[1]!.raw.isOfKind `Lean.Parser.Term.hole) then `(ar (j:=$(a[1]!)) $p) else `(ar $p)
    b:=b++#[u,u,u,u,r,r,s,t];c:=true
   else b:=b.push y
  if c then `(⟨$b,*⟩) else Lean.Macro.throwUnsupported
local macro_rules
 | `(⋯)=>`(by lia)
local macro_rules
 | `(∅)=>`(by simp)
local macro_rules
 | `(↥$_)=>`(by decide)
set_option hygiene false in
local macro_rules
 |`(tactic|left)=>`(tactic|intro aN s σ H x y v u Q I rx ry h)
 |`(tactic|right)=>`(tactic|intro X hP hw hK hc i aN s σ H E I hf st hg)
 |`(tactic|injections)=>`(tactic|intro aN s σ H Q I h)
 |`(tactic|norm_cast)=>`(tactic|intro aN s σ H xs us Q I r h)
 |`(tactic|push_cast)=>`(tactic|intro aN s σ H x vs v us Q I rx rv h)
local macro_rules
 |`(↥2)=>`(by simp_all)
local macro_rules
 |`(↥1)=>`(by grind)
local macro_rules
 | `(tactic|apply $e)=>`(tactic|refine $e)
set_option hygiene false in
local macro_rules
 | `(tactic|specialize $e)=>`(tactic|refine $e (by contradiction) (fun cdv A outer s H vs Q E hr h=>?_))
set_option hygiene false in
def zq1 (s t:Lean.TSyntax `tactic):Lean.MacroM (Lean.TSyntax `tactic):=`(tactic|first|$s:tactic|$t:tactic)
set_option hygiene false in
def zq2 (e:Lean.Term):Lean.MacroM (Lean.TSyntax `tactic):=`(tactic|with_reducible refine' $e)
def zq3 (n:Lean.Name)(k:Nat):Lean.MacroM (Lean.TSyntax `tactic):=do zq2 (Lean.Syntax.mkApp (jd n) (Array.replicate k (<-`(?_))))
def xXs (s t:Lean.TSyntax `tactic):Lean.MacroM (Lean.TSyntax `tactic):=`(tactic|($s:tactic;$t:tactic))
def xXl (p:Lean.Syntax):Lean.Syntax:=.node .none `Lean.Parser.Tactic.rcasesPatLo #[.node .none `Lean.Parser.Tactic.rcasesPatMed #[Lean.mkNullNode #[p]],Lean.mkNullNode]
def xXt (a:Array Lean.Syntax):Lean.Syntax:=.node .none `Lean.Parser.Tactic.rcasesPat.tuple #[Lean.mkAtom "⟨",Lean.mkNullNode (Lean.Syntax.mkSep a (Lean.mkAtom ",")).getArgs,Lean.mkAtom "⟩"]
def xXp:Nat->Lean.Syntax->Lean.Syntax
 |0,s=>s
 |n+1,s=>if s.isOfKind `Lean.Parser.Term.anonymousCtor then xXt (s[1].getSepArgs.map fun s=>xXl (xXp n s)) else .node .none (if s.isIdent then `Lean.Parser.Tactic.rcasesPat.one else `Lean.Parser.Tactic.rcasesPat.ignore) #[if s.isIdent then s else Lean.mkAtom "_"]
local macro_rules
 |`(tactic|obtain⟨$p,*⟩:=$e:term)=>do
  let p:Array Lean.Syntax:=p.getElems.map (·.raw);let n:=p.size
  if n<2 then Lean.Macro.throwUnsupported
  let mut s<-`(tactic|fail)
  for j in [2:n+1] do
   let r<-`(tactic|rintro $(((p.extract 0 (j-1)).push (if j<n then xXl (xXt (p.extract (j-1) n)) else p[n-1]!)).map fun p=>⟨.node .none `Lean.Parser.Tactic.rintroPat.one #[if p[1].isNone&&p[0][0].getNumArgs==1 then p[0][0][0] else .node .none `Lean.Parser.Tactic.rcasesPat.paren #[Lean.mkAtom "(",p,Lean.mkAtom ")"]]⟩)*)
   let r<-if e.raw.isIdent then `(tactic|((try clear $(⟨e.raw⟩):ident);$r:tactic)) else pure r
   for k in [0:j] do if k==0||k+1==j||[12,13,14,15,22,23,24,25,26,32,33,34,35,44,55].contains (9*k+j) then s<-zq1 (<-xXs (<-`(tactic|refine $(Lean.mkIdent (.mkSimple s!"xX{k}_{j-k}")) $e ?_)) r) s
  return s
 |`(tactic|let⟨$p,*⟩:=$e)=>do `(tactic|obtain $(⟨xXp 9 (<-`(⟨$p,*⟩))⟩):rcasesPat :=$e)
 |`(tactic|rintro $p*)=>do
  let t:=fun p:Lean.TSyntax `rintroPat=>p.raw[0].isOfKind `Lean.Parser.Tactic.rcasesPat.tuple
  if !p.any t then Lean.Macro.throwUnsupported
  let mut s<-`(tactic|skip)
  for p in p do s<-xXs s (<-if t p then `(tactic|(intro h;obtain $(⟨p.raw[0]⟩):rcasesPat :=h)) else `(tactic|rintro $p))
  return s
 |`(tactic|cases $e:term)=>if e.raw.isIdent then `(tactic|subst $e) else `(tactic|(have h:=$e;subst h))
 |`(tactic|rwa[$r,*])=>do
  let a:Array Lean.Term:=r.getElems.map fun r=>⟨r.raw[1]⟩
  if a.size==1 then `(tactic|refine $(a[0]!)) else `(tactic|refine⟨$a,*⟩)
set_option hygiene false in
local macro_rules
 |`(‹1›)=>`(Inv X aN σ H s)
 |`(‹2›)=>`(bz (bC X.prog X.w) X.A)
 |`(‹3›)=>`(bs.getD k (0,0))
 |`(‹4›)=>`(IsD H v (jz b m sp))
 |`(‹5›)=>`(bz (bC prog w) A)
 |`(‹6›)=>`(some (bR "list" ks.toArray e))
 |`(tactic|cbv)=>`(tactic|simp_all)
set_option hygiene false in
def zq4 (k:Lean.Name)(p:String)(r:Lean.Name)(a:String):Lean.MacroM (Lean.TSyntax `tactic):=do
 let u<-`(_)
 let q:Lean.Term<-if p.startsWith "=" then `(.Call (.Name $(Lean.quote (p.drop 1).toString) _) _ _ _) else if p.startsWith "." then `(.Call (.Attribute _ $(Lean.quote (p.drop 1).toString) _) _ _ _) else if p=="[" then `(.Assign [.Name _ _] _ _) else if p=="" then gv u else
  gv (Lean.Syntax.mkApp (<-`(.$(jd (.mkSimple (p.dropEnd 1).toString)):ident)) (Array.replicate ((p.toList.getLastD '0').toNat-48) u))
 let b<-a.toList.mapM fun c=>if c=='?' then `(?_) else if c=='i' then `(by ac_nf) else if c=='f' then `(fun _ _=>rfl) else if c=='m' then `(qf _) else gv (jd (([('l',`iG),('L',`T.len),('b',`eY),('t',`call_tupA),('T',`T.ttup),('B',`boot_tuple),('a',`gZ),('A',`PySem.F.slot_list_append),('1',`PySem.F.type_list_append),('2',`mt_append),('3',`PySem.F.slot_list_pop),('4',`PySem.F.type_list_pop),('P',`mt_pop),('R',`T2.range),('z',`zE),('n',`zN),('r',`rfl),('p',`PassesOwn.never),('u',`qV)].lookup c).getD `rfl))
 `(tactic|((with_reducible refine(?_:$(Lean.Syntax.mkApp (jd k) (if k==`PI then #[u,u,q,u] else #[u,q,u]))));refine' $(Lean.Syntax.mkApp (jd r) b.toArray)))
set_option hygiene false in
local macro_rules
 |`(tactic|ac_nf)=>do
 let mut s<-`(tactic|fail)
 for n in [`iq0,`iq1,`iq2,`iq3,`iq4,`iq5,`iq6,`iq7,`iq8,`iq9,`iq10,`iq11,`iq12] do s<-zq1 s (<-zq3 n 0)
 return s
set_option hygiene false in
local macro_rules
 |`(tactic|infer_instance)=>`(tactic|((fail_if_success(fail_if_success(with_reducible refine(?_:(_:_)->_))));rotate_left))
set_option hygiene false in
local macro_rules
 |`(tactic|simp_arith)=>do
 let mut s<-`(tactic|fail)
 for t in [zq4 `PA "" `aV "??",zq4 `PE "Name2" `pvX "zi",zq3 `dQ 0,zq3 `g9 0,zq3 `op_add 0,zq3 `op_sub 0,zq3 `op_eq 0,zq3 `op_ne 0,zq3 `op_gt 0,zq3 `op_mul 0,zq3 `op_lt 0,zq3 `op_mod 0,zq3 `op_le 0,zq3 `op_pow 0,zq3 `op_fdiv 0,zq3 `pe_str 0,zq3 `pe_bl 0,zq3 `pe_non 0,zq3 `pss_nil 0,zq3 `pgs_nil 0,zq3 `dU 0,zq3 `po_none 0,zq3 `ip_add 0,zq3 `ip_sub 0,zq3 `sl_tupN 0,zq3 `b9 0,zq3 `pe_slice 4,zq3 `sQ 3,zq3 `jS 1,zq3 `ps_ret 1,zq3 `ps_if 3,zq3 `pss_one 1,zq3 `pt_not 1,zq3 `pw_or1 1,zq3 `pw_or 2,zq3 `pw_and1 1,zq3 `pw_and 2,zq3 `pe_lst 1,zq3 `pe_ifExp 3,zq3 `pe_one 1,zq3 `pe_and 2,zq3 `oq 1,zq3 `po_some 1,zq4 `PE "Subscript3" `jH "???f",zq4 `PS "[" `ps_setX "zni?",zq4 `PT "Compare4" `lP "???m",zq4 `PE "Compare4" `pe_cmpR "???m",zq4 `PE "UnaryOp3" `pe_un "u?",zq4 `PS "While4" `ps_while "p??",zq4 `PE "=len" `cP "lrLb?",zq4 `PE "=tuple" `fP "trTB?",zq4 `PE ".append" `qj "aA12??",zq4 `PE ".pop" `pe_bm0 "a34P?",zq4 `PS "Expr2" `ps_expr "?",zq4 `PS "For5" `ps_for "pr???",zq4 `PS "AugAssign4" `ps_augX "zni??",zq4 `PS "" `ps_asg "??",zq4 `PT "BoolOp3" `PW.pt "?",zq4 `PT "" `pt_val "?",zq4 `PI "=range" `kQ "rR?",zq4 `PI "" `jO "?",zq4 `PG "Name2" `pg_nameX "zni",zq4 `PG "" `pg_tup "r?",zq4 `PGs "" `pgs_cons "??"] do s<-zq1 s (<-t)
 `(tactic|first|$s:tactic|((with_reducible refine(?_:PSl _ _ _));first|refine' l_one (.mk ?_)|refine' l_cons (.mk ?_) ?_)|((with_reducible refine(?_:PSs _ _ _));first|refine' pss_one ?_|refine' PSl.h ?_)|(infer_instance;simp_arith))
set_option hygiene false in
local macro_rules
 |`(tactic|exists $e,*)=>do
 let es:=e.getElems
 let some q:=es[0]!.raw.isNatLit?|Lean.Macro.throwUnsupported
 let mut s<-`(tactic|refine' wE cxN (fun zE=>?_))
 if es[1]!.raw.isIdent then s<-`(tactic|(have zN:=$(jd (es[1]!.raw.getId++`nd));$s))
 for x in es[2:] do
  match x.raw.isNatLit? with
  |some n=>for _ in [0:n] do s<-`(tactic|($s;simp_arith))
  |none=>
  let y:=x.raw.getId.toString
  if y.startsWith "G" then s<-`(tactic|($s;(repeat infer_instance);refine' pc1 $x $(jd (.mkSimple ("F"++y.drop 1))) hr ?_))
  else s<-`(tactic|($s;(repeat infer_instance);first|exact $x|refine' $x))
 s<-`(tactic|refine⟨_,by ($s;repeat simp_arith),?_⟩)
 if q<99 then s<-`(tactic|($s;try dsimp only[cxK]))
 if q<98 then s<-`(tactic|($s;refine' $(jd (.mkSimple s!"sq{q}")) ?_;intros))
 return s
abbrev Key:=Sum Int Str
def keyIs:Key->ae->Bool
 | .inl k,v=>ae.isInt k v
 | .inr x,v=>ae.isStrOf x v
noncomputable def keyH (w:bp):Key->Int
 | .inl k=>hashInt k
 | .inr x=>hashStr w x
theorem hW:∀{k:Key} {v:ae},keyIs k v=true->(∃i t,k=Sum.inl i/\v=ae.int i t)\/(∃x t,k=Sum.inr x/\v=ae.str x t)
 | .inl i,v,h=>by
  let⟨t,e⟩:=ae.isInt_shape (k:=i) (v:=v) h;rwa[.inl ⟨i,t,rfl,e⟩]
 | .inr x,v,h=>by
  let⟨t,e⟩:=ae.isStrOf_shape (x:=x) (v:=v) h;rwa[.inr ⟨x,t,rfl,e⟩]
def keyIs_int (i:Int)(t:Tok):keyIs (.inl i) (.int i t)=true:=by simp[keyIs,ae.isInt]
def keyIs_str (x:Str)(t:Tok):keyIs (.inr x) (.str x t)=true:=by simp[keyIs,ae.isStrOf]
theorem key_ll (a b:Int):decide ((Sum.inl a:Key)=Sum.inl b)=(a == b):=by
 lia
theorem key_rr (a b:Str):decide ((Sum.inr a:Key)=Sum.inr b)=decide (a=b):=by
 cbv
theorem key_lr (a:Int)(b:Str):decide ((Sum.inl a:Key)=Sum.inr b)=false:=by (constructor <;> lia)
theorem key_rl (a:Str)(b:Int):decide ((Sum.inr a:Key)=Sum.inl b)=false:=by (constructor <;> lia)
def ji (prog:aL)(w:bp):PySem.KeyKind prog w Key where
 is:=keyIs
 hash:=keyH w
 inj:=λv a b ha hb=>by
  rcases hW ha with ⟨i,t,rfl,rfl⟩ | ⟨x,t,rfl,rfl⟩
  ·rcases hW hb with ⟨j,u,rfl,e⟩ | ⟨y,u,rfl,e⟩
   ·injection e with e1 _;rw[e1]
   ·rwa[nomatch e]
  ·rcases hW hb with ⟨j,u,rfl,e⟩ | ⟨y,u,rfl,e⟩
   ·rwa[nomatch e]
   ·injection e with e1 _;rw[e1]
 byValue:=λk v h=>by
  rcases hW h with ⟨i,t,rfl,rfl⟩ | ⟨x,t,rfl,rfl⟩ <;> rfl
 pyHash:=λhv h=>by
  rcases hW hv with ⟨i,t,rfl,rfl⟩ | ⟨x,t,rfl,rfl⟩
  ·rwa[wpAny_pyHash_int h]
  ·rwa[wpAny_pyHash_str h]
 eqBool:=λhu hv h=>by
  rcases hW hu with ⟨i,t,rfl,rfl⟩ | ⟨x,t,rfl,rfl⟩
  ·rcases hW hv with ⟨j,u,rfl,rfl⟩ | ⟨y,u,rfl,rfl⟩
   ·rw[key_ll] at h;rwa[wpAny_eqBool_int h]
   ·rw[key_lr] at h;rwa[SeqAt.EqAt.int_str i t y u _ _ _ _ h]
  ·rcases hW hv with ⟨j,u,rfl,rfl⟩ | ⟨y,u,rfl,rfl⟩
   ·rw[key_rl] at h;rwa[SeqAt.EqAt.str_int x t j u _ _ _ _ h]
   ·rw[key_rr] at h;rwa[wpAny_eqBool_str h]
 «strs»:=λk x t v h=>by
  rcases hW h with ⟨i,u,rfl,e⟩ | ⟨y,u,rfl,e⟩
  ·rwa[nomatch e]
  ·injection e with e1 _
   subst e1;cases v <;> rfl
theorem mixKind_int (prog:aL)(w:bp)(i:Int)(t:Tok):(ji prog w).is (.inl i) (.int i t)=true:=keyIs_int i t
theorem mixKind_str (prog:aL)(w:bp)(x:Str)(t:Tok):(ji prog w).is (.inr x) (.str x t)=true:=keyIs_str x t
inductive V where
 | non | bl (b:Bool) | int (i:Int) | str (x:Str) | byt (b:Array UInt8) | flt (b:UInt64) | ref (a:ai) | ty (n:String)
 deriving DecidableEq
abbrev _root_.za:=List (Key×V)
abbrev _root_.zU:=Option V
abbrev _root_.zA:=List V
def gN:V->ae->Prop
 | .non,u=>u=ae.none
 | .bl b,u=>u=ae.bool b
 | .int i,u=>∃t,u=ae.int i t
 | .str x,u=>∃t,u=ae.str x t
 | .byt b,u=>∃t,u=ae.bytes b t
 | .flt b,u=>∃t,u=ae.float b t
 | .ref a,u=>u=ae.ref a
 | .ty n,u=>u=ae.type n
noncomputable abbrev fZ:zA->zD->Prop:=kE gN
theorem fZ.length {xs:zA}(r:fZ xs us):xs.length=us.length:=Paired.length r
theorem fZ.get:∀{xs:zA} {us:zD} {i:Nat} {x:V},fZ xs us->xs[i]? =some x->∃u,us[i]? =some u/\gN x u
 | _,_,_,_,.nil,e=>by simp at e
 | _,_,0,_,.cons r _,e=>by simp at e;subst e;rwa[ς,r]
 | _,_,i+1,x,.cons _ t,e=>by
  let⟨u,h1,h2⟩:=fZ.get (i:=i) (x:=x) t (by simpa using e);rwa[u,by simpa using h1,h2]
theorem fZ.set {x:V}{u:ae}(r:gN x u):∀{xs:zA} {us:zD} (i:Nat),fZ xs us->fZ (xs.set i x) (us.set i u)
 | _,_,_,.nil=>.nil
 | _,_,0,.cons _ t=>.cons r t
 | _,_,i+1,.cons q t=>.cons q (fZ.set r i t)
theorem fZ.append:∀{xs ys:zA} {us ws:zD},fZ xs us->fZ ys ws->fZ (xs++ys) (us++ws)
 | _,_,_,_,.nil,s=>s
 | _,_,_,_,.cons r t,s=>.cons r (fZ.append t s)
theorem fZ.take:∀{xs:zA} {us:zD} (n:Nat),fZ xs us->fZ (xs.take n) (us.take n)
 | _,_,0,_=>.nil
 | _,_,_+1,.nil=>.nil
 | _,_,n+1,.cons r t=>.cons r (fZ.take n t)
theorem fZ.drop:∀{xs:zA} {us:zD} (n:Nat),fZ xs us->fZ (xs.drop n) (us.drop n)
 | _,_,0,r=>r
 | _,_,_+1,.nil=>.nil
 | _,_,n+1,.cons _ t=>fZ.drop n t
def RelO:zU->zJ->Prop
 | some v,some u=>gN v u
 | none,none=>True
 | _,_=>False
def KV {κ:Type}:List (κ×V)->List (κ×ae)->Prop:=kE λ(p:κ×V) (q:κ×ae)=>p.1=q.1/\gN p.2 q.2
def kV:Key->V
 | .inl i=>.int i
 | .inr x=>.str x
inductive HO where
 | lst (xs:zA)
 | tup (xs:zA)
 | dK (kvs:za) | dT (kvs:List (List Key×V))
 | set (S:Int->Bool) (n:Nat)
 | ins (C dx:ai) (fs:List (Str×V))
 | own (x:ai)
 | xd (fs:List (Str×V))
 | met (f x:ai)
 | rng (lo hi:Int)
 | frz (o:Obj) (u:HO)
 | tbl (ps:Array ae)
 | ext (φ:bI->Prop)
abbrev Hp:=ai->Option HO
def upd (H:Hp)(a:ai)(o:HO):Hp:=λb=>if b=a then some o else H b
theorem aJ {H:Hp}{o:HO}:upd H a o a=some o:=by unfold upd;cbv
theorem bw {H:Hp}{b:ai}{o:HO}(h:b≠a):upd H a o b=H b:=by unfold upd;rw[tP h]
theorem fj {H:Hp}{b:ai}{o u:HO}(h:H a=some o)(h':H b=some u)(d:o≠u):a≠b:=by
 lia
theorem bJ {H:Hp}{b:ai}{o:HO}(h:H a=some o)(h':H b=none):a≠b:=by
 lia
def nS (h:bI)(a:ai)(items:Array ae):Prop:=∃o,h.get? a=some o/\o.cls= .type "tuple" /\o.dict=none/\∃n,o.data= .seq items n
theorem nS.tup {h:bI}{a:ai}{items:Array ae}(p:nS h a items):IsTup h a items:=let ⟨o,e,c,_,n,d⟩:=p;⟨o,e,c,n,d⟩
theorem nS.lt (p:nS h a items):a<h.objs.size:=p.tup.lt
def nS.new (h:bI)(items:Array ae):nS (h.push { cls:=.type "tuple",data:=.seq items }) h.objs.size items:=⟨_,aR _ rfl,rfl,rfl,ς⟩
section
variable (P:aL) (w:bp)
def km (H:Hp)(h:bI)(a:ai):HO->Prop
 | .lst xs=>xs.length<=aO/\∃(its:zD) (n:Nat),fZ xs its/\h.get? a=some { cls:=.type "list",data:=.seq its.toArray n }
 | .tup xs=>xs.length<=aO/\∃its:zD,fZ xs its/\nS h a its.toArray
 | .dK kvs=>kvs.length<=aO/\(a == j5)=false/\∃vs,KV kvs vs/\h.DictOf (ji P w) a vs
 | .dT kvs=>kvs.length<=aO/\(a == j5)=false/\∃xs:List (List Key×ai×ae),
   kE (λ(p:List Key×V) (q:List Key×ai×ae)=>p.1=q.1/\H q.2.1=some (.tup (p.1.map kV))/\gN p.2 q.2.2) kvs xs /\
   ∃o es ep,h.get? a=some o/\o.ExactDict/\o.data= .dict es ep/\es.toList=xs.map (entryOfKey (tupleKind (ji P w)))/\(xs.map (·.1)).Nodup
 | .set S n=>h.SetOf (intKind P w) a S n
 | .ins C dx fs=>H dx=some (.own a)/\fs.length<=1000/\dx≠a/\h.get? a=some (gC C dx) /\
   ∃mA,h.Ns1 dx mA/\(∀f,RelO (fs.lookup f) (mA f))/\PySem.Within mA (fs.map (·.1))
 | .own _=>∃o,h.get? a=some o
 | .xd fs=>∃mA,h.Ns1 a mA/\∀f,RelO (fs.lookup f) (mA f)
 | .rng lo hi=>∃t u v,h.get? a=some { cls:=.type "range",data:=.fields #[.int lo t,.int hi u,.int 1 v] }
 | .frz o u=>h.get? a=some o/\km H h a u
 | .tbl ps=>h.get? a=some { cls:=.none,data:=.fields ps }
 | .met f x=>h.get? a=some (PySem.W.methodObj (.ref f) (.ref x))
 | .ext φ=>φ h/\(∃o,h.get? a=some o)/\∀h1 h2:bI,φ h1->(∀o,h1.get? a=some o->h2.get? a=some o)->φ h2
def HOk (H:Hp)(h:bI):Prop:=∀a o,H a=some o->km P w H h a o
end
section
variable {H H':Hp}{o:HO}
theorem km.lt (x:km P w H h a o):a<h.objs.size:=by
 cases o with
 | lst xs=>let⟨_,_,_,_,e⟩:=x;rwa[aS e]
 | tup xs=>let⟨_,_,_,p⟩:=x;rwa[p.lt]
 | dK kvs=>let⟨_,_,_,_,o,_,_,e,_⟩:=x;rwa[aS e]
 | dT kvs=>let⟨_,_,_,_,o,_,_,e,_⟩:=x;rwa[aS e]
 | set S n=>let⟨o,_,_,_,e,_⟩:=x;rwa[aS e]
 | ins C dx fs=>let⟨_,_,_,e,_⟩:=x;rwa[aS e]
 | own y=>let⟨_,e⟩:=x;rwa[aS e]
 | xd fs=>let⟨_,⟨_,_,_,e,_⟩,_⟩:=x;rwa[aS e]
 | rng lo hi=>let⟨_,_,_,e⟩:=x;rwa[aS e]
 | frz ob u=>let⟨e,_⟩:=x;rwa[aS e]
 | tbl ps=>rwa[aS (x)]
 | met f y=>rwa[aS (x)]
 | ext φ=>let⟨_,⟨_,e⟩,_⟩:=x;rwa[aS e]
theorem Paired.mapP {α β:Type}{F G:α->β->Prop}:∀{l₁:List α} {l₂:List β},kE F l₁ l₂->(∀a b,F a b->G a b)->kE G l₁ l₂
 | _,_,.nil,_=>.nil
 | _,_,.cons r t,f=>.cons (f _ _ r) (Paired.mapP t f)
theorem km.stay (x:km P w H h a o)(k:∀b u,(b=a\/H b=some (.own a))->h.get? b=some u->h'.get? b=some u)
  (ho:∀b,H b=some (.own a)->H' b=some (.own a)) (ht:∀b xs,H b=some (.tup xs)->H' b=some (.tup xs)):km P w H' h' a o:=by
 induction o with
 | lst xs=>let⟨z,its,n,r,e⟩:=x;rwa[z,its,n,r,k _ _ (.inl rfl) e]
 | tup xs=>let⟨z,its,r,ob,e,c⟩:=x;rwa[z,its,r,ob,k _ _ (.inl rfl) e,c]
 | dK kvs=>let⟨z,y,vs,r,ob,es,ep,e,c⟩:=x;rwa[z,y,vs,r,ob,es,ep,k _ _ (.inl rfl) e,c]
 | dT kvs =>
  let⟨z,y,xs,r,ob,es,ep,e,c⟩:=x;rwa[z,y,xs,Paired.mapP r λp q z=>⟨z.1,ht _ _ z.2.1,z.2.2⟩,ob,es,ep,k _ _ (.inl rfl) e,c]
 | set S n=>let⟨ob,es,ep,t,e,c⟩:=x;rwa[ob,es,ep,t,k _ _ (.inl rfl) e,c]
 | ins C dx fs =>
  let⟨d,z,ne,e,mA,⟨od,es,ep,e2,c⟩,r⟩:=x;rwa[ho _ d,z,ne,k _ _ (.inl rfl) e,mA,⟨od,es,ep,k _ _ (.inr d) e2,c⟩,r]
 | own y=>let⟨ob,e⟩:=x;rwa[ob,k _ _ (.inl rfl) e]
 | xd fs=>let⟨mA,⟨od,es,ep,e,c⟩,r⟩:=x;rwa[mA,⟨od,es,ep,k _ _ (.inl rfl) e,c⟩,r]
 | rng lo hi=>let⟨t,u,v,e⟩:=x;rwa[t,u,v,k _ _ (.inl rfl) e]
 | frz ob u ih=>let⟨e,q⟩:=x;rwa[k _ _ (.inl rfl) e,ih q]
 | tbl ps =>
  have e:h.get? a=some { cls:=.none,data:=.fields ps }:=x;show h'.get? a=some { cls:=.none,data:=.fields ps };rwa[k a _ (.inl rfl) e]
 | met f y =>
  have e:h.get? a=some (PySem.W.methodObj (.ref f) (.ref y)):=x;show h'.get? a=some (PySem.W.methodObj (.ref f) (.ref y));rwa[k a _ (.inl rfl) e]
 | ext φ=>let⟨p,⟨o,e⟩,st⟩:=x;rwa[st _ _ p λo q=>k _ _ (.inl rfl) q,⟨o,k _ _ (.inl rfl) e⟩,st]
theorem HOk.lt (x:HOk P w H h)(e:H a=some o):a<h.objs.size:=(x a o e).lt
theorem HOk.fresh (x:HOk P w H h)(e:h.objs.size<=a):H a=none:=by
 cases q:H a with
 | none=>rfl
 | some u=>rwa[tR (aW (x.lt q) e) (g6 _)]
theorem HOk.kept (x:HOk P w H h)(k:∀b u,h.get? b=some u->h'.get? b=some u):HOk P w H h':=λa o e =>
 (x a o e).stay (λb u _ q=>k b u q) (λ_ q=>q) λ_ _ q=>q
theorem HOk.laid (x:HOk P w H h)(k:∀b u,h.get? b=some u->h'.get? b=some u)(hp:h.objs.size<=a)(new:km P w (upd H a o) h' a o):HOk P w (upd H a o) h':=λb u e=>by
 have hn:=x.fresh hp
 by_cases hb:b=a
 ·grind [aJ]
 ·rw[bw hb] at e
  exact(x b u e).stay (λc v _ q=>k c v q) (λc q=>by rw[bw (bJ q hn)];rwa[q]) λc xs q=>by rw[bw (bJ q hn)];rwa[q]
end
def Rd (H:Hp)(a:ai)(u:HO):Prop:=H a=some u\/∃o,H a=some (.frz o u)
theorem Rd.of {H:Hp}{u:HO}(h:H a=some u):Rd H a u:=.inl h
theorem Rd.ok {H:Hp}{u:HO}(r:Rd H a u)(x:HOk P w H h):km P w H h a u:=by
 rcases r with r | ⟨o,r⟩
 ·rwa[x a u r]
 ·let⟨_,q⟩:=x a _ r
  rwa[q]
def Mut:Option HO->Prop
 | some (.lst _)=>True
 | some (.dK _)=>True
 | some (.dT _)=>True
 | some (.set _ _)=>True
 | some (.ins _ _ _)=>True
 | some (.ext _)=>True
 | _=>False
section
variable {H:Hp}{x e:ai}{o':HO}
theorem HOk.write (ok:HOk P w H h)(mu:Mut (H x))(he:e=x\/H e=some (.own x))(k:∀b u,b≠e->h.get? b=some u->h'.get? b=some u)(heo:∃u,h'.get? e=some u)
  (new:km P w (upd H x o') h' x o'):HOk P w (upd H x o') h':=λb u q=>by
 have nown:∀c y,H c=some (.own y)->c≠x:=λc y r z=>by subst z;rw[r] at mu;rwa[mu]
 have ntup:∀c xs,H c=some (.tup xs)->c≠x:=λc xs r z=>by subst z;rw[r] at mu;rwa[mu]
 by_cases hb:b=x
 ·grind [aJ]
 ·rw[bw hb] at q
  by_cases hbe:b=e
  ·have q':H b=some (.own x):=by
    lia
   rw[q] at q';cases q';let⟨v,hv⟩:=heo;rwa[v,↥2]
  ·apply(ok b u q).stay (λc v hc r=>k c v ?_ r) (λc r=>by grind [bw]) λc xs r=>by grind [bw]
   grind
end
structure Un (fs ex:zX)(H H':Hp)(h h':bI):Prop where
 keep:∀b o,h.get? b=some o->H b=none->b ∉ fs->b ∉ ex->h'.get? b=some o
 slot:∀b o,h.get? b=some o->H b=none->b∈fs->b ∉ ex->∃sl,h'.get? b=some { o with slots:=sl }
 free:∀b o,h.get? b=some o->H b=none->b ∉ ex->H' b=none
 there:∀b o,h.get? b=some o->b ∉ ex->∃o',h'.get? b=some o'
 tups:∀b xs,H b=some (.tup xs)->H' b=some (.tup xs)
 frzs:∀b o u,H b=some (.frz o u)->H' b=some (.frz o u)
 tbls:∀b ps,H b=some (.tbl ps)->∃more,H' b=some (.tbl (ps++more))
section
variable {fs fs' ex ex':zX}{H H1 H2:Hp}{h1 h2:bI}{x e:ai}{o:HO}
theorem Un.any (u:Un fs ex H H1 h h1){b:ai}{ob:Obj}(q:h.get? b=some ob)(n:H b=none)(hx:b ∉ ex):∃sl,h1.get? b=some { ob with slots:=sl }:=by
 by_cases hb:b∈fs
 ·rwa[u.slot b ob q n hb hx]
 ·rwa[ob.slots,u.keep b ob q n hb hx]
theorem Un.kept (k:∀b u,h.get? b=some u->h'.get? b=some u):Un fs ex H H h h':=
 ⟨↥1,λb ob q _ _ _=>⟨ob.slots,k b ob q⟩,λ_ _ _ n _=>n,↥1,λ_ _ q=>q,λ_ _ _ q=>q,λ_ ps q=>⟨#[],by rw[q];simp⟩⟩
theorem Un.refl:Un fs ex H H h h:=Un.kept λ_ _ q=>q
theorem Un.laid (k:∀b u,h.get? b=some u->h'.get? b=some u)(hp:h.objs.size<=a)(hn:H a=none):Un fs ex H (upd H a o) h h' where
 keep:=↥1
 slot:=λb u q _ _ _=>⟨u.slots,k b u q⟩
 free:=λb u q n _=>by rw[bw (bP (aW (aS q) hp))];rwa[n]
 there:=↥1
 tups:=λb xs q=>by rw[bw (bJ q hn)];rwa[q]
 frzs:=λb u xs q=>by rw[bw (bJ q hn)];rwa[q]
 tbls:=λb ps q=>⟨#[],by rw[bw (bJ q hn),q];simp⟩
theorem Un.write (mu:Mut (H x))(he:e=x\/H e=some (.own x))(k:∀b u,b≠e->h.get? b=some u->h'.get? b=some u)(heo:∃u,h'.get? e=some u):Un fs ex H (upd H x o) h h':=by
 have hx:∀b,H b=none->b≠x:=λb n z=>by subst z;rw[n] at mu;rwa[mu]
 have hb:∀b,H b=none->b≠e:=λb n z=>by
  cbv
 have hm:∀b u,H b=some u->¬Mut (some u)->b≠x:=by lia
 apply ⟨↥2,fun b u q n _ _=>⟨u.slots,k b u (hb b n) q⟩,fun b u q n _=>by rw[bw (hx b n)];rwa[n],fun b u q _=>?_,
  fun b xs q=>by rw[bw (hm b _ q fun z=>z)];rwa[q],fun b u xs q=>by rw[bw (hm b _ q fun z=>z)];rwa[q],fun b ps q=>⟨#[],by rw[bw (hm b _ q fun z=>z),q];simp⟩⟩
 grind
end
noncomputable def trk (h:bI)(H:Hp):zX:=(aQ h.objs.size).filter λa=>(H a).isSome
def hidT (h:bI)(H:Hp):bI:=PySem.W.hideAll h (trk h H)
def hidT_size (h:bI)(H:Hp):(hidT h H).objs.size=h.objs.size:=PySem.W.hideAll_size _ _
theorem hidT_get {H:Hp}{b:ai}{o:Obj}(e:h.get? b=some o)(n:H b=none):(hidT h H).get? b=some o:=
 PySem.W.hideAll_get _ e λhm=>by
  have q :=(cQ.mp hm).2
  cbv
theorem of_hidT {H:Hp}{b:ai}{o:Obj}(e:(hidT h H).get? b=some o):h.get? b=some o/\H b=none:=by
 have e' :=PySem.W.of_hideAll (trk h H) e;rwa[e',?_];cases q:H b with
 | none=>rfl
 | some x =>
  grind [trk,cQ,cg,aS,hidT,PySem.W.hideAll_none]
structure Mod (K:ag)(mg:Str->zJ)(base:bI):Prop where
 kin:K.In base
 glob:base.Ns bG mg
 blt:∃mb,base.Ns builtinsNs mb/\∀x:Str,x ≠ "__name__" ->mb x=bootBuiltins x
 nolimit:base.NoLimit
structure Cx where
 prog:aL
 w:bp
 K:ag
 mg:Str->zJ
 base:bI
 A:bT
 N:List Str
 s₀:aq
 H₀:Hp
 env:Env
 outer:List Env
 stack:List Env
 ex:zX
 fn:Str->Bool
 calm:Bool
 pn:List (ai×Obj)
 xe:ae->aq->Prop
noncomputable def frs (l:List Env):zX:=l.filterMap (·.frame)
abbrev Cx.fs (X:Cx):zX:=frs X.outer
def Vis (sc:ft)(x:Str):Prop:=sc.names.lookup x=some .local\/sc.names.lookup x=some .cell\/sc.names.lookup x=some .free
def Loc (sc:ft)(x:Str):Prop:=sc.names.lookup x=some .local\/sc.names.lookup x=some .cell
def Look (env:Env)(h:bI)(m:Str->zJ)(x:Str)(u:ae):Prop:=
 (env.kindOf x=some .local/\m x=some u)\/((env.kindOf x=some .cell\/env.kindOf x=some .free)/\∃c,env.cells.lookup x=some c/\h.IsCell c (some u))
structure Cx.Ok (X:Cx):Prop where
 mod:Mod X.K X.mg X.base
 kind:X.env.scope.kind= .function
 glob:X.env.globals=bG
 blt:X.env.builtins=builtinsNs
 above:X.s₀.heap.objs.size<=X.env.locals
 inj:∀x y c,X.env.cells.lookup x=some c->X.env.cells.lookup y=some c->x=y
 has:∀x,(X.env.kindOf x=some .cell\/X.env.kindOf x=some .free)->∃c,X.env.cells.lookup x=some c
 cab:∀x c,X.fn x=true->X.env.cells.lookup x=some c->X.s₀.heap.objs.size<=c
 hd:X.calm=true->X.A.handled=none
 frames:X.A.frames=some X.stack
 stk:X.stack=X.outer\/(X.stack=X.env::X.outer/\X.env.frame=some X.env.locals)
 exf:∀b∈X.ex,b≠X.env.locals/\∀x c,X.env.cells.lookup x=some c->c≠b
 bs:∀b o,X.base.get? b=some o->X.s₀.heap.get? b=some o/\X.H₀ b=none
 bsz:X.base.objs.size<=X.s₀.heap.objs.size
 noex:∀b o,X.base.get? b=some o->b ∉ X.ex
 exfs:∀b∈X.ex,b ∉ X.fs
 funs:X.s₀.heap.FunFrames X.base X.outer
 frf:∀b∈X.fs,X.H₀ b=none
structure Inv (X:Cx)(aN:List (ai×Obj))(σ:List zU)(H:Hp)(s:aq):Prop where
 ok:X.Ok
 os:s.os=X.s₀.os
 bare:AllBare s.gens
 base:Un X.fs X.ex X.H₀ H X.s₀.heap s.heap
 loc:∃m,s.heap.Ns X.env.locals m/\∀(i:Nat) (x:Str) (v:V),X.N[i]? =some x->σ[i]? =some (some v)->Vis X.env.scope x->∃u,gN v u/\Look X.env s.heap m x u
 cell:∀x c,X.env.cells.lookup x=some c->∃v,s.heap.IsCell c v
 free:H X.env.locals=none
 freeC:∀x c,X.env.cells.lookup x=some c->H c=none
 pin:∀p∈X.pn++aN,s.heap.get? p.1=some p.2/\H p.1=none/\p.1≠X.env.locals/\p.1 ∉ X.fs/\∀v,p.2.data≠ .cell v
 hok:HOk X.prog X.w H s.heap
 len:σ.length=X.N.length
section
variable {X:Cx}{σ:List zU}{H H':Hp}
theorem Cx.Ok.nofr (ok:X.Ok){b:ai}{o:Obj}(e:X.base.get? b=some o):b ∉ X.fs:=λhb=>by
 have:=(ok.funs.mem hb).1
 cbv
theorem Inv.bs (I:‹1›):∀b o,X.base.get? b=some o->s.heap.get? b=some o/\H b=none:=λb o e =>
 ⟨I.base.keep b o (I.ok.bs b o e).1 (I.ok.bs b o e).2 (I.ok.nofr e) (I.ok.noex b o e),I.base.free b o (I.ok.bs b o e).1 (I.ok.bs b o e).2 (I.ok.noex b o e)⟩
theorem Inv.bk (I:‹1›):∀b o,X.base.get? b=some o->s.heap.get? b=some o:=λb o e=>(I.bs b o e).1
theorem Inv.mod (I:‹1›):Mod X.K X.mg X.base:=I.ok.mod
def Inv.kIn (I:‹1›):X.K.In s.heap:=I.ok.mod.kin.keeps I.bk
theorem Inv.nolimit (I:‹1›):s.heap.NoLimit:=I.ok.mod.nolimit.keeps I.bk
theorem Inv.lt (I:‹1›):X.env.locals<s.heap.objs.size:=let ⟨_,hn,_⟩:=I.loc;hn.lt
theorem Inv.sz (I:‹1›):X.s₀.heap.objs.size<=s.heap.objs.size:=aU I.ok.above (Nat.le_of_lt I.lt)
theorem Inv.nofs (I:‹1›)(h:s.heap.objs.size<=a):a ∉ X.fs:=λhb=>by
 let⟨_,o,ho,_⟩:=I.ok.funs.mem hb;rwa[tR (aW (aS ho) (aU I.sz h)) (g6 _)]
theorem Inv.cne (I:‹1›):∀x c,X.env.cells.lookup x=some c->c≠X.env.locals:=λx c e z=>by
 let⟨v,o,ho,hd⟩:=I.cell x c e;let⟨m,⟨o',es,ep,ho',hd',_⟩,_⟩:=I.loc
 cbv
theorem Inv.funs (I:‹1›):s.heap.FunFrames X.base X.outer:=by
 have all:∀(l:List Env),(∀b∈frs l,b∈X.fs)->X.s₀.heap.FunFrames X.base l->s.heap.FunFrames X.base l:=by
  intro l
  induction l with
  | nil=>intro _ _;trivial
  | cons env r ih =>
   intro hs hl;let⟨hk,⟨L,o,hf,hn,ho,hd⟩,hr⟩:=hl;have hL:L∈X.fs:=hs L (by unfold frs;rw[k9,hf];rwa[bQ]);let⟨sl,e⟩:=I.base.slot L o ho (I.ok.frf L hL) hL λz=>I.ok.exfs L z hL
   rwa[hk,⟨L,_,hf,hn,e,hd⟩,ih (λb hb=>hs b (by unfold frs;rw[k9,hf];rwa[az _ hb])) hr]
 rwa[all X.outer (λ_ hb=>hb) I.ok.funs]
theorem Inv.stack (I:‹1›):s.heap.FunFrames X.base X.stack:=by
 rcases I.ok.stk with e | ⟨e,hf⟩
 ·rw[e];rwa[I.funs]
 ·rw[e]
  let⟨m,hn,_⟩:=I.loc;rwa[.cons (by rw[I.ok.kind];decide) hf hn ?_ I.funs];rwa[bI.get?_none_of_le (aU I.ok.bsz I.ok.above)]
theorem Inv.stkSub (I:‹1›):∀b∈frs X.stack,b∈X.env.locals::X.fs:=λb hb=>by
 rcases I.ok.stk with e | ⟨e,hf⟩
 ·cbv
 grind [frs,k9]
theorem Inv.stkFree (I:‹1›):∀b∈frs X.stack,H b=none:=λb hb=>by
 rcases bh.mp (I.stkSub b hb) with e | hb
 ·rw[e];rwa[I.free]
 ·let⟨_,o,ho,_⟩:=I.ok.funs.mem hb
  rwa[I.base.free b o ho (I.ok.frf b hb) λz=>I.ok.exfs b z hb]
theorem Inv.step (I:‹1›)
  (hch:∀b∈ch,(b∈X.ex\/X.s₀.heap.objs.size<=b)/\b≠X.env.locals/\(∀x c,X.env.cells.lookup x=some c->c≠b)/\∀p∈X.pn++aN,p.1≠b)
  (keep:∀b o,b≠X.env.locals->b ∉ X.fs->b ∉ ch->s.heap.get? b=some o->H b=none->h'.get? b=some o)
  (slot:∀b o,b≠X.env.locals->b∈X.fs->b ∉ ch->s.heap.get? b=some o->H b=none->∃sl,h'.get? b=some { o with slots:=sl }) (free:∀b o,b ∉ ch->s.heap.get? b=some o->H b=none->H' b=none)
  (there:∀b o,b ∉ ch->s.heap.get? b=some o->∃o',h'.get? b=some o')
  (tups:∀b xs,H b=some (.tup xs)->H' b=some (.tup xs)) (frzs:∀b o u,H b=some (.frz o u)->H' b=some (.frz o u)) (tbls:∀b ps,H b=some (.tbl ps)->∃more,H' b=some (.tbl (ps++more)))
  (ns:∀m,s.heap.Ns X.env.locals m->h'.Ns X.env.locals m) (hok:HOk X.prog X.w H' h') (hg:AllBare g') :
  Inv X aN σ H' { s with heap:=h',gens:=g',drawn:=d',toks:=t' }:=by
 have neL:∀b o,X.s₀.heap.get? b=some o->b≠X.env.locals:=λb o e=>bP (aW (aS e) I.ok.above)
 have neC:∀b o,X.s₀.heap.get? b=some o->b ∉ X.ex->b ∉ ch:=λb o e hx hb=>by
  rcases(hch b hb).1 with z | z
  ·rwa[hx z]
  ·rwa[tR (aW (aS e) z) (g6 _)]
 have cellK:∀x c,X.env.cells.lookup x=some c->∀v,s.heap.IsCell c v->h'.IsCell c v:=λx c e v ⟨o,ho,hd⟩=>by
  have nch:c ∉ ch:=λz=>(hch c z).2.2.1 x c e rfl
  by_cases hc:c∈X.fs
  ·let⟨sl,q⟩:=slot c o (I.cne x c e) hc nch ho (I.freeC x c e)
   rwa[_,q,hd]
  ·rwa[o,keep c o (I.cne x c e) hc nch ho (I.freeC x c e),hd]
 rwa[I.ok,I.os,hg,⟨λb o e n hb hx=>?_,λb o e n hb hx=>?_,λb o e n hx=>?_,λb o e hx=>?_,λb xs e=>tups b xs (I.base.tups b xs e),λb o xs e=>frzs b o xs (I.base.frzs b o xs e),λb ps e=>?_⟩,?_,λx c e=>?_,?_,λx c e=>?_,λp hp=>?_,hok,I.len]
 ·rwa[keep b o (neL b o e) hb (neC b o e hx) (I.base.keep b o e n hb hx) (I.base.free b o e n hx)]
 ·let⟨sl,e1⟩:=I.base.slot b o e n hb hx
  let⟨sl',e2⟩:=slot b _ (neL b o e) hb (neC b o e hx) e1 (I.base.free b o e n hx);rwa[sl',e2]
 ·let⟨o',e1⟩:=I.base.there b o e hx
  rwa[free b o' (neC b o e hx) e1 (I.base.free b o e n hx)]
 ·let⟨o',e1⟩:=I.base.there b o e hx
  rwa[there b o' (neC b o e hx) e1]
 ·let⟨m1,e1⟩:=I.base.tbls b ps e
  let⟨m2,e2⟩:=tbls b _ e1;rwa[m1++m2,by rw[e2,Array.append_assoc]]
 ·let⟨m,hn,hl⟩:=I.loc
  rwa[m,ns m hn,λi x v e1 e2 e3=>?_];let⟨u,r,l⟩:=hl i x v e1 e2 e3;rwa[u,r,?_]
  rcases l with l | ⟨k,c,e,z⟩
  ·rwa[.inl l]
  ·rwa[.inr ⟨k,c,e,cellK x c e _ z⟩]
 ·let⟨v,z⟩:=I.cell x c e
  rwa[v,cellK x c e v z]
 ·let⟨m,⟨o,_,_,ho,_⟩,_⟩:=I.loc
  rwa[free _ o (λz=>(hch _ z).2.1 rfl) ho I.free]
 ·let⟨v,o,ho,hd⟩:=I.cell x c e
  rwa[free c o (λz=>(hch c z).2.2.1 x c e rfl) ho (I.freeC x c e)]
 ·let⟨e,n,ne,nf,d⟩:=I.pin p hp
  have nch:p.1 ∉ ch:=λz=>(hch p.1 z).2.2.2 p hp rfl
  rwa[keep p.1 p.2 ne nf nch e n,free p.1 p.2 nch e n,ne,nf,d]
theorem Inv.un (I:‹1›)(u:Un X.fs [] H H' s.heap h')(hok:HOk X.prog X.w H' h'):Inv X aN σ H' { s with heap:=h',toks:=t' }:=by
 obtain ⟨m,⟨o,es,ep,ho,r⟩,_⟩:=id I.loc;obtain ⟨sl,hL⟩:=u.any ho I.free ∅;exact I.step (g':=s.gens) (d':=s.drawn) (ch:=[]) (fun _ z=>nomatch z) (fun b o _ hb _ e n=>u.keep b o e n hb ∅) (fun b o _ hb _ e n=>u.slot b o e n hb ∅) (fun b o _ e n=>u.free b o e n ∅) (fun b o _ e=>u.there b o e ∅) u.tups u.frzs u.tbls (fun m' hm=>by
  obtain ⟨o',es',ep',ho',r'⟩:=hm;rw[ho] at ho';cases ho';exact ⟨_,es',ep',hL,r'⟩) hok I.bare
theorem Inv.call (I:‹1›)(u:Un (frs X.stack) ch H H' s.heap h')(hok:HOk X.prog X.w H' h')(hg:AllBare g')
  (hch:∀b∈ch,(b∈X.ex\/X.s₀.heap.objs.size<=b)/\b≠X.env.locals/\(∀x c,X.env.cells.lookup x=some c->c≠b)/\∀p∈X.pn++aN,p.1≠b) :
  Inv X aN σ H' { s with heap:=h',gens:=g',drawn:=d',toks:=t' }:=by
 let⟨m,⟨o,es,ep,ho,r⟩,_⟩:=id I.loc;let⟨sl,hL⟩:=u.any ho I.free λz=>(hch _ z).2.1 rfl
 exact I.step (ch:=ch) hch (fun b o hL hb hc e n=>u.keep b o e n (fun z=>(bh.mp (I.stkSub b z)).elim hL hb) hc) (fun b o _ _ hc e n=>u.any e n hc) (fun b o hc e n=>u.free b o e n hc) (fun b o hc e=>u.there b o e hc) u.tups u.frzs u.tbls (fun m' hm=>by
  obtain ⟨o',es',ep',ho',r'⟩:=hm;rw[ho] at ho';cases ho';exact ⟨_,es',ep',hL,r'⟩) hok hg
theorem Inv.turned {it:ai}(I:‹1›)(k:∀b o,b≠it->s.heap.get? b=some o->h'.get? b=some o)(hn:H it=none)(hL:it≠X.env.locals)
  (h1:it∈X.ex\/X.s₀.heap.objs.size<=it) (h2:∀x c,X.env.cells.lookup x=some c->c≠it) (h3:∀p∈X.pn++aN,p.1≠it):Inv X aN σ H { s with heap:=h',toks:=t' }:=by
 have nit:∀b u,H b=some u->b≠it:=λb u e z=>by cbv
 apply I.step (g':=s.gens) (d':=s.drawn) (ch:=[it]) (λb hb=>?_) (λb o _ _ hc e _=>k b o (λz=>hc (by simp[z])) e) (λb o _ _ hc e _=>⟨o.slots,k b o (λz=>hc (by simp[z])) e⟩) (λ_ _ _ _ n=>n)
  (λb o hc e=>⟨o,k b o (λz=>hc (by simp[z])) e⟩) (λ_ _ e=>e) (λ_ _ _ e=>e) (λb ps e=>⟨#[],by rw[e];simp⟩) (λm hm=>?_) (λb u e=>?_) I.bare
 ·grind
 ·let⟨o,es,ep,ho,r⟩:=hm
  rwa[o,es,ep,k _ o (cM hL) ho,r]
 ·apply(I.hok b u e).stay (λc v hc q=>k c v ?_ q) (λ_ q=>q) λ_ _ q=>q
  lia
def Inv.tok (I:‹1›)(t:Nat):Inv X aN σ H { s with toks:=t }:=I.un Un.refl I.hok
theorem Inv.kept (I:‹1›)(k:∀b u,s.heap.get? b=some u->h'.get? b=some u):Inv X aN σ H { s with heap:=h',toks:=t' }:=I.un (Un.kept k) (I.hok.kept k)
theorem Inv.laid {o:HO}(I:‹1›)(k:∀b u,s.heap.get? b=some u->h'.get? b=some u)(hp:s.heap.objs.size<=a)(new:km X.prog X.w (upd H a o) h' a o) :
  Inv X aN σ (upd H a o) { s with heap:=h',toks:=t' }:=I.un (Un.laid k hp (I.hok.fresh hp)) (I.hok.laid k hp new)
theorem Inv.write {x e:ai}{o:HO}(I:‹1›)(mu:Mut (H x))(he:e=x\/H e=some (.own x))(k:∀b u,b≠e->s.heap.get? b=some u->h'.get? b=some u)(heo:∃u,h'.get? e=some u)
  (new:km X.prog X.w (upd H x o) h' x o):Inv X aN σ (upd H x o) { s with heap:=h',toks:=t' }:=I.un (Un.write mu he k heo) (I.hok.write mu he k heo new)
theorem Inv.pins_of (I:‹1›)(h:∀p∈pins',s.heap.get? p.1=some p.2/\H p.1=none/\p.1≠X.env.locals/\p.1 ∉ X.fs/\∀v,p.2.data≠ .cell v):Inv X pins' σ H s:=
 ⟨I.ok,I.os,I.bare,I.base,I.loc,I.cell,I.free,I.freeC,λp hp=>(bj.mp hp).elim (λz=>I.pin p (cn _ z)) (h p),I.hok,I.len⟩
theorem nodup_ix (hN:N.Nodup)(a:N[i]? =some x)(b:N[j]? =some x):i=j:=by
 let⟨h1,e1⟩:=aw.mp a;let⟨h2,e2⟩:=aw.mp b;rwa[(List.getElem_inj hN).mp (e1.trans e2.symm)]
theorem store_ok2 {v:V}{Q:Unit->aq->Prop}(I:‹1›)(hN:X.N.Nodup)(hi:X.N[i]? =some x)(hx:Loc X.env.scope x)(r:gN v u)
  (h:∀s',Inv X aN (σ.set i (some v)) H s'->(∃a,df a s.heap s'.heap/\(a=X.env.locals\/X.env.cells.lookup x=some a))->Q () s') (hf:autoParam (X.fn x=true\/X.env.scope.names.lookup x=some .local) Ωd):bz M A (storeName X.env x u) Q E s:=by
 let⟨m,hn,hl⟩:=id I.loc;have hcls:(X.env.scope.kind == .class || (X.env.scope.kind == .module && X.env.locals != X.env.globals))=false:=by rw[I.ok.kind];rfl
 have hiσ:i<σ.length:=by rw[I.len];grind
 have cne:=I.cne;have tracked:∀{a:ai} {h':bI},(∃o,s.heap.get? a=some o/\H a=none)->df a s.heap h'->HOk X.prog X.w H h':=λ{a h'} ha hs b ob e=>by
  let⟨_,_,hfree⟩:=ha;rwa[(I.hok b ob e).stay (λc w' hc q=>(hs.2 c ?_).trans q) (λ_ q=>q) λ_ _ q=>q]
  lia
 rcases hx with hk | hk
 ·apply wpAny_storeName_local hk hn (λh' hn' hs=>?_) hcls
  let⟨oL,_,_,hoL,_⟩:=id hn;rwa[h _ ⟨I.ok,I.os,I.bare,⟨λb o e n hb hx=>?_,λb o e n hb hx=>?_,I.base.free,λb o e hx=>?_,I.base.tups,I.base.frzs,I.base.tbls⟩,⟨_,hn',λj y v' e1 e2 e3=>?_⟩,λy c e=>?_,I.free,I.freeC,λp hp=>?_,tracked ⟨oL,hoL,I.free⟩ hs,by simpa using I.len⟩ ⟨_,hs,.inl rfl⟩]
  ·rwa[(hs.2 b (bP (aW (aS e) I.ok.above))).trans (I.base.keep b o e n hb hx)]
  ·let⟨sl,e1⟩:=I.base.slot b o e n hb hx
   rwa[sl,(hs.2 b (bP (aW (aS e) I.ok.above))).trans e1]
  ·let⟨o',e1⟩:=I.base.there b o e hx
   rwa[o',(hs.2 b (bP (aW (aS e) I.ok.above))).trans e1]
  ·by_cases hj:j=i
   ·subst hj
    rw[hi] at e1;cases e1;rw[fb hiσ] at e2;cases e2;rwa[u,r,.inl ⟨hk,∅⟩]
   ·rw[d9 (cM hj)] at e2
    let⟨u',r',q⟩:=hl j y v' e1 e2 e3;rwa[u',r',?_]
    rcases q with ⟨k,e⟩ | ⟨k,c,e,z⟩
    ·apply .inl ⟨k,?_⟩
     grind [nodup_ix]
    ·rwa[.inr ⟨k,c,e,z.sameBut hs (cne y c e)⟩]
  ·let⟨w',z⟩:=I.cell y c e
   rwa[w',z.sameBut hs (cne y c e)]
  ·let⟨e,n,ne,nf,d⟩:=I.pin p hp
   rwa[(hs.2 p.1 ne).trans e,n,ne,nf,d]
 ·have hfn:X.fn x=true:=by
   cbv
  let⟨c,hc⟩:=I.ok.has x (.inl hk);let⟨w',z⟩:=I.cell x c hc;rwa[wpAny_storeName_cell I.ok.kind hk hc z (λh' hc' hs=>?_)];let⟨oc,hoc,hocd⟩:=id z;rwa[h { s with heap:=h' } ⟨I.ok,I.os,I.bare,⟨λb o e n hb hx=>?_,λb o e n hb hx=>?_,I.base.free,λb o e hx=>?_,I.base.tups,I.base.frzs,I.base.tbls⟩,⟨m,hn.sameBut hs (cM (cne x c hc)),λj y v' e1 e2 e3=>?_⟩,λy c' e=>?_,I.free,I.freeC,λp hp=>?_,tracked ⟨oc,hoc,I.freeC x c hc⟩ hs,by simpa using I.len⟩ ⟨c,hs,.inr hc⟩]
  ·rwa[(hs.2 b (bP (aW (aS e) (I.ok.cab x c hfn hc)))).trans (I.base.keep b o e n hb hx)]
  ·let⟨sl,e1⟩:=I.base.slot b o e n hb hx
   rwa[sl,(hs.2 b (bP (aW (aS e) (I.ok.cab x c hfn hc)))).trans e1]
  ·let⟨o',e1⟩:=I.base.there b o e hx
   rwa[o',(hs.2 b (bP (aW (aS e) (I.ok.cab x c hfn hc)))).trans e1]
  ·by_cases hj:j=i
   ·subst hj
    rw[hi] at e1;cases e1;rw[fb hiσ] at e2;cases e2;rwa[u,r,.inr ⟨.inl hk,c,hc,hc'⟩]
   ·rw[d9 (cM hj)] at e2
    let⟨u',r',q⟩:=hl j y v' e1 e2 e3;rwa[u',r',?_]
    rcases q with q | ⟨k,c',e,z'⟩
    ·rwa[.inl q]
    ·apply .inr ⟨k,c',e,z'.sameBut hs ?_⟩
     rintro rfl;rwa[hj (nodup_ix hN e1 (I.ok.inj _ _ _ e hc ▸ hi))]
  ·by_cases hcc:c'=c
   ·grind
   ·let⟨w2,z2⟩:=I.cell y c' e
    rwa[w2,z2.sameBut hs hcc]
  ·let⟨e,n,ne,nf,d⟩:=I.pin p hp
   rwa[(hs.2 p.1 ?_).trans e,n,ne,nf,d]
   grind
theorem store_ok {v:V}{Q:Unit->aq->Prop}(I:‹1›)(hN:X.N.Nodup)(hi:X.N[i]? =some x)(hx:Loc X.env.scope x)(r:gN v u)
  (h:∀s',Inv X aN (σ.set i (some v)) H s'->Q () s') (hf:autoParam (X.fn x=true\/X.env.scope.names.lookup x=some .local) Ωd):bz M A (storeName X.env x u) Q E s:=
 store_ok2 I hN hi hx r (λs' I' _=>h s' I') hf
theorem Inv.call' (I:‹1›)(ho:s'.os=s.os)(u:Un (frs X.stack) ch H H' s.heap s'.heap)(hok:HOk X.prog X.w H' s'.heap)(hg:AllBare s'.gens)
  (hch:∀b∈ch,(b∈X.ex\/X.s₀.heap.objs.size<=b)/\b≠X.env.locals/\(∀x c,X.env.cells.lookup x=some c->c≠b)/\∀p∈X.pn++aN,p.1≠b):Inv X aN σ H' s':=by
 let⟨h',g',d',t',o'⟩:=s';have e:o'=s.os:=ho;subst e;rwa[I.call (g':=g') (t':=t') (d':=d') u hok hg hch]
end
abbrev XK:=ae->Option ai->Hp->Prop
abbrev St:=List zU
abbrev VK:=V->Hp->Prop
abbrev TE:=St->Hp->VK->Prop
abbrev TT:=St->Hp->(Bool->Hp->Prop)->Prop
abbrev TA:=St->Hp->(zA->Hp->Prop)->Prop
structure ke where
 nx:St->Hp->Prop
 rt:VK
 bk:St->Hp->Prop:=λ_ _=>False
 ct:St->Hp->Prop:=λ_ _=>False
abbrev TS:=ke->St->Hp->Prop
variable {H H' H1 H2 Hc:Hp}{Hf:Hp->Prop}{PASS:List (PySem.Str×ai)->ai->aq->Hp->zX->Prop}{X:Cx}{a0 a1 a2 a3:TS}{kvs:List (List Key×V)}{o:HO}{r r':V->zZ->zZ->Hp->VK->Prop}{t:TA}{ta te tl to:TE}{tget:V->V->Hp->VK->Prop}{trs:List (TE×TE)}{tt:TT}{xs ys zs:List V}{y:V}{σ:St}
def EP (X:Cx)(aN:List (ai×Obj))(σ:St)(Q:VK)(u:ae)(s':aq):Prop:=∃v H',Inv X aN σ H' s'/\gN v u/\Q v H'
def TP (X:Cx)(aN:List (ai×Obj))(σ:St)(Q:Bool->Hp->Prop)(b:Bool)(s':aq):Prop:=∃H',Inv X aN σ H' s'/\Q b H'
def AP (X:Cx)(aN:List (ai×Obj))(σ:St)(Q:zA->Hp->Prop)(us:zD)(s':aq):Prop:=∃vs H',Inv X aN σ H' s'/\fZ vs us/\Q vs H'
def SP (X:Cx)(aN:List (ai×Obj))(D:ke)(f:Flow)(s':aq):Prop:=
 match f with
 | .next=>∃σ' H',Inv X aN σ' H' s'/\D.nx σ' H'
 | .brk=>∃σ' H',Inv X aN σ' H' s'/\D.bk σ' H'
 | .cont=>∃σ' H',Inv X aN σ' H' s'/\D.ct σ' H'
 | .ret u=>∃v σ' H',Inv X aN σ' H' s'/\gN v u/\D.rt v H'
def PE (X:Cx)(e:Expr)(t:TE):Prop:=
 ∀(aN:List (ai×Obj)) (s:aq) (σ:St) (H:Hp) (Q:VK),‹1›->t σ H Q->‹2› (eO e X.env) (EP X aN σ Q) X.xe s
def PT (X:Cx)(e:Expr)(t:TT):Prop:=
 ∀(aN:List (ai×Obj)) (s:aq) (σ:St) (H:Hp) (Q:Bool->Hp->Prop),‹1›->t σ H Q->‹2› (isTrue e X.env (eO e X.env)) (TP X aN σ Q) X.xe s
def PW (X:Cx)(e:Expr)(t:TT):Prop:=
 ∀(whole:Sem ae) (aN:List (ai×Obj)) (s:aq) (σ:St) (H:Hp) (Q:Bool->Hp->Prop),‹1›->t σ H Q->‹2› (isTrue e X.env whole) (TP X aN σ Q) X.xe s
theorem PW.pt {t:TT}(h:PW X e t):PT X e t:=h _
def PA (X:Cx)(es:List Expr)(t:TA):Prop:=
 ∀(pos:Pos) (aN:List (ai×Obj)) (s:aq) (σ:St) (H:Hp) (Q:zA->Hp->Prop),‹1›->t σ H Q->‹2› (spliced (gw pos (bF es X.env))) (AP X aN σ Q) X.xe s
def PS (X:Cx)(st:bY)(t:TS):Prop:=
 ∀(aN:List (ai×Obj)) (s:aq) (σ:St) (H:Hp) (D:ke),‹1›->t D σ H->‹2› (exec st X.env) (SP X aN D) X.xe s
def PSs (X:Cx)(st:List bY)(t:TS):Prop:=
 ∀(aN:List (ai×Obj)) (s:aq) (σ:St) (H:Hp) (D:ke),‹1›->t D σ H->‹2› (execs st X.env) (SP X aN D) X.xe s
theorem thn {t:Sem α}{Q Q':α->aq->Prop}(h:bz M A t Q E s)(hQ:∀a s,Q a s->Q' a s):bz M A t Q' E s:=cj h hQ λ_ _ x=>x
section
inductive HasV (o:Option zU)(k:V->Prop):Prop
 | mk (v:V)(h:o=some (some v))(q:k v):HasV o k
inductive IsBl (x:V)(k:Bool->Prop):Prop
 | mk (c:Bool)(h:x= .bl c)(q:k c):IsBl x k
def tVar (i:Nat):TE:=λσ H Q=>HasV σ[i]? λv=>Q v H
def tC (v:V):TE:=λ_ H Q=>Q v H
theorem pe_var (hN:X.N[i]? =some x)(hv:Vis X.env.scope x)(hd:autoParam ((x == ("__debug__" :Str))=false) Ωb)(hcd:autoParam ((x == ("__classdict__" :Str))=false) Ωb):PE X (.Name x pos) (tVar i):=by
 injections;let⟨v,e,h⟩:=h;let⟨m,hn,hl⟩:=I.loc;let⟨u,r,l⟩:=hl i x v hN e hv;have fin:EP X aN σ Q u s:=⟨v,H,I,r,h⟩
 rcases l with ⟨hk,hm⟩ | ⟨hk,c,hc,jK⟩
 ·rwa[wpAny_Name (wpAny_loadName_local I.ok.kind hk hn hm fin) hd]
 ·rcases hk with hk | hk
  ·rwa[wpAny_Name (wpAny_loadName_cell I.ok.kind hk hc jK fin) hd]
  ·rwa[wpAny_Name (wpAny_loadName_free I.ok.kind hk hc jK fin hcd) hd]
theorem dQ {i j pos}:PE X (.Constant (.int i) j pos) (tC (.int i)):=λ_ _ _ H _ I h=>wpAny_Constant_int ⟨.int i,H,I.tok _,⟨ς⟩,h⟩
theorem pe_bl {b j pos}:PE X (.Constant (.bool b) j pos) (tC (.bl b)):=λ_ _ _ H _ I h=>Constant_bool ⟨.bl b,H,I,rfl,h⟩
theorem pe_non {j pos}:PE X (.Constant .none j pos) (tC .non):=λ_ _ _ H _ I h=>Constant_none ⟨.non,H,I,rfl,h⟩
theorem pe_str {x j pos}:PE X (.Constant (.str x) j pos) (tC (.str x)):=λ_ _ _ H _ I h=>Calls.Constant_str ⟨.str x,H,I.tok _,⟨ς⟩,h⟩
def Gl (X:Cx)(x:Str):Prop:=X.env.kindOf x=some .globalImplicit
theorem sh (I:‹1›)(hg:Gl X x)(hm:X.mg x=some u)(h:Q u s)
  (hd:autoParam ((x == ("__debug__" :Str))=false) Ωb):‹2› (eO (.Name x pos) X.env) Q E s:=
 Calls.Name_function_global I.ok.kind hg (Calls.loadGlobal_global (by rw[I.ok.glob];rwa[I.mod.glob.keeps I.bk]) hm h) hd
theorem oj (I:‹1›)(hg:Gl X x)(hm:X.mg x=none)(hv:bootBuiltins x=some u)(h:Q u s)
  (hn:autoParam (x ≠ "__name__") Ωb) (hd:autoParam ((x == ("__debug__" :Str))=false) Ωb):‹2› (eO (.Name x pos) X.env) Q E s:=by
 let⟨mb,h1,h2⟩:=I.mod.blt;rwa[Calls.Name_function_global I.ok.kind hg (Calls.loadGlobal_builtin (by rw[I.ok.glob];exact I.mod.glob.keeps I.bk) hm (by rw[I.ok.blt];exact h1.keeps I.bk) ((h2 x hn).trans hv) h) hd]
theorem pe_glob {v:V}(hg:Gl X x)(hm:X.mg x=some u)(r:gN v u)(hd:autoParam ((x == ("__debug__" :Str))=false) Ωb):PE X (.Name x pos) (tC v):=
 λ_ _ _ H _ I h=>sh I hg hm ⟨v,H,I,r,h⟩ hd
theorem rS {v:V}(hg:Gl X x)(hm:X.mg x=none)(hv:bootBuiltins x=some u)(r:gN v u)(hn:autoParam (x ≠ "__name__") Ωb)(hd:autoParam ((x == ("__debug__" :Str))=false) Ωb):PE X (.Name x pos) (tC v):=
 λ_ _ _ H _ I h=>oj I hg hm hv ⟨v,H,I,r,h⟩ hn hd
variable {a b:Expr}{tb:TE}
def PC (X:Cx)(op:CmpOp)(a b:Expr)(t:TE):Prop:=
 ∀(aN:List (ai×Obj)) (s:aq) (σ:St) (H:Hp) (Q:VK),‹1›->t σ H Q ->
  ‹2› (eO a X.env) (λv s₁=>‹2› (eO b X.env) (λu s₂=>‹2› (cZ op v u) (EP X aN σ Q) X.xe s₂) X.xe s₁) X.xe s
def tB (t:TE):TT:=λσ H Q=>t σ H λx H1=>IsBl x λc=>Q c H1
theorem tj {t:TE}(h:PC X op a b t)(h1:behindInMarks op b=false:=by first | rwa[nobehind _ ↥0 ↥0]| rfl):PT X (.Compare a [op] [b] pos) (tB t):=by
 intro aN s σ H Q I hw;rwa[wpAny_isTrue_Compare1 (thn (h aN s σ H _ I hw) λv s1 h1=>thn h1 λu s2 h2=>thn h2 λc s3 hz0=>?_) h1];let⟨x,H1,I1,r1,q1⟩:=hz0;let⟨d,rfl,q⟩:=q1;cases r1;rwa[gg ⟨H1,I1,q⟩]
theorem pt_val {t:TE}(h:PE X e t)(he:autoParam (∀whole,isTrue e X.env whole=(do let v <- whole;standAt e.pos;holding [v] (truthy v))) Ωc):PT X e (tB t):=by
 intro aN s σ H Q I hw;rwa[isTrue_plain (thn (h aN s σ H _ I hw) λv s1 hz0=>?_) (he _)];let⟨x,H1,I1,r1,q1⟩:=hz0;let⟨d,rfl,q⟩:=q1;cases r1;rwa[gg ⟨H1,I1,q⟩]
variable {tA tB':TT} {rest:List Expr}
def tAnd (t u:TT):TT:=λσ H Q=>t σ H λc H1=>if c=true then u σ H1 Q else Q false H1
def tOr (t u:TT):TT:=λσ H Q=>t σ H λc H1=>if c=true then Q true H1 else u σ H1 Q
def tNot (t:TT):TT:=λσ H Q=>t σ H λc H1=>Q (!c) H1
theorem pw_and1 (ha:PT X a tA):PW X (.BoolOp .And [a] pos) tA:=by
 intro wh aN s σ H Q I h;rwa[isTrue_and (thn (ha aN s σ H Q I h) λc s1 e=>?_)]
 grind [isTrue_and_nil]
theorem pw_or1 (ha:PT X a tA):PW X (.BoolOp .Or [a] pos) tA:=by
 intro wh aN s σ H Q I h;rwa[isTrue_or (thn (ha aN s σ H Q I h) λc s1 e=>?_)]
 grind [isTrue_or_nil]
theorem pw_and (ha:PT X a tA)(hb:PW X (.BoolOp .And (b::rest) pos) tB'):PW X (.BoolOp .And (a::b::rest) pos) (tAnd tA tB'):=by
 intro wh aN s σ H Q I h;rwa[isTrue_and (thn (ha aN s σ H _ I h) λc s1 hz0=>?_)];let⟨H1,I1,q1⟩:=hz0;cases c with
 | true=>rwa[hb wh aN s1 σ H1 Q I1 q1]
 | false=>rwa[H1,I1,q1]
theorem pw_or (ha:PT X a tA)(hb:PW X (.BoolOp .Or (b::rest) pos) tB'):PW X (.BoolOp .Or (a::b::rest) pos) (tOr tA tB'):=by
 intro wh aN s σ H Q I h;rwa[isTrue_or (thn (ha aN s σ H _ I h) λc s1 hz0=>?_)];let⟨H1,I1,q1⟩:=hz0;cases c with
 | true=>rwa[H1,I1,q1]
 | false=>rwa[hb wh aN s1 σ H1 Q I1 q1]
theorem pt_not (ha:PT X a tA):PT X (.UnaryOp .Not a pos) (tNot tA):=by
 injections;rwa[isTrue_not (ha aN s σ H (λc H1=>Q (!c) H1) I h)]
def tAndV (ta tb:TE):TE:=λσ H Q=>ta σ H λx H1=>IsBl x λc=>if c=true then tb σ H1 Q else Q (.bl false) H1
def tNotV (ta:TE):TE:=λσ H Q=>ta σ H λx H1=>IsBl x λc=>Q (.bl (!c)) H1
theorem pe_one {op}{t:TE}(h:PE X a t):PE X (.BoolOp op [a] pos) t:=λaN s σ H Q I hw=>BoolOp_one (h aN s σ H Q I hw)
theorem pe_and (ha:PE X a ta)(hb:PE X (.BoolOp .And (b::rest) pos) tb):PE X (.BoolOp .And (a::b::rest) pos) (tAndV ta tb):=by
 injections;rwa[BoolOp_and (thn (ha aN s σ H _ I h) λv s1 hz0=>?_)];let⟨x,H1,I1,r1,q1⟩:=hz0;let⟨c,rfl,q1⟩:=q1;cases r1;rwa[gg ?_];cases c with
 | true=>rwa[hb aN s1 σ H1 Q I1 q1]
 | false=>rwa[.bl false,H1,I1,rfl,q1]
theorem pe_not (ha:PE X a ta):PE X (.UnaryOp .Not a pos) (tNotV ta):=by
 injections;rwa[UnaryOp_ (thn (ha aN s σ H _ I h) λv s1 hz0=>?_)];let⟨x,H1,I1,r1,q1⟩:=hz0;let⟨c,rfl,q1⟩:=q1;cases r1;rwa[not_of (gg ⟨.bl (!c),H1,I1,rfl,q1⟩)]
def tIf (t:TT)(ta tb:TE):TE:=λσ H Q=>t σ H λc H1=>if c=true then ta σ H1 Q else tb σ H1 Q
theorem pe_ifExp {c:Expr}(hc:PT X c tA)(ha:PE X a ta)(hb:PE X b tb):PE X (.IfExp c a b pos) (tIf tA ta tb):=by
 injections;rwa[wpAny_IfExp (thn (hc aN s σ H _ I h) λd s1 hz0=>?_)];let⟨H1,I1,q1⟩:=hz0;cases d with
 | true=>rwa[ha aN s1 σ H1 Q I1 q1]
 | false=>rwa[hb aN s1 σ H1 Q I1 q1]
end
def SqL (K:ag)(H:Hp)(a:ai)(xs:zA):Prop:=
 Rd H a (.lst xs) \/
  ∃(o:Obj) (its:Array ae) (n:Nat),K.lookup a=some o/\o.cls= .type "list" /\o.dict=none/\o.data= .seq its n/\its.size<=aO/\fZ xs its.toList
def SqT (K:ag)(H:Hp)(a:ai)(xs:zA):Prop:=
 Rd H a (.tup xs) \/
  ∃(o:Obj) (its:Array ae) (n:Nat),K.lookup a=some o/\o.cls= .type "tuple" /\o.data= .seq its n/\its.size<=aO/\fZ xs its.toList
noncomputable def absV:ae->zU
 | .none=>some .non
 | .bool b=>some (.bl b)
 | .int i _=>some (.int i)
 | .str x _=>some (.str x)
 | .bytes b _=>some (.byt b)
 | .float b _=>some (.flt b)
 | .ref a=>some (.ref a)
 | .type n=>some (.ty n)
 | _=>none
theorem gN.abs {x:V}(r:gN x u):absV u=some x:=by
 cases x with
 | non=>cases r;rfl
 | bl _=>cases r;rfl
 | int _=>let⟨t,rfl⟩:=r;rfl
 | str _=>let⟨t,rfl⟩:=r;rfl
 | byt _=>let⟨t,rfl⟩:=r;rfl
 | flt _=>let⟨t,rfl⟩:=r;rfl
 | ref _=>cases r;rfl
 | ty _=>cases r;rfl
theorem gN.inj {x:V}(r:gN x u)(q:gN y u):x=y:=cV (r.abs.symm.trans q.abs)
theorem fZ.inj:∀{xs ys:zA} {us:zD},fZ xs us->fZ ys us->xs=ys
 | _,_,_,.nil,.nil=>rfl
 | _,_,_,.cons r t,.cons r' t'=>by rw[r.inj r',fZ.inj t t']
theorem zL (h:H a=some (.lst xs)):SqL K H a xs:=.inl (.inl h)
theorem zT (h:H a=some (.tup xs)):SqT K H a xs:=.inl (.inl h)
theorem Inv.list (I:‹1›)(h:SqL X.K H a xs):∃its:zD,fZ xs its/\PlainL s.heap a its.toArray/\xs.length<=aO:=by
 rcases h with h | ⟨o,its,n,hk,hc,hd,hs,hz,r⟩
 ·let⟨z,its,n,r,e⟩:=h.ok I.hok
  rwa[its,r,⟨_,n,e,rfl,rfl,rfl⟩,z]
 ·rwa[its.toList,r,⟨o,n,I.kIn a o hk,hc,hd,by simpa using hs⟩,?_]
  have e:=r.length
  cbv
theorem Inv.tuple (I:‹1›)(h:SqT X.K H a xs):∃its:zD,fZ xs its/\IsTup s.heap a its.toArray/\xs.length<=aO:=by
 rcases h with h | ⟨o,its,n,hk,hc,hs,hz,r⟩
 ·let⟨z,its,r,p⟩:=h.ok I.hok
  rwa[its,r,p.tup,z]
 ·rwa[its.toList,r,⟨o,I.kIn a o hk,hc,n,by simpa using hs⟩,?_]
  have e:=r.length
  cbv
theorem Inv.list_inj (I:‹1›)(h:SqL X.K H a xs)(h':SqL X.K H a ys):xs=ys:=by
 let⟨its,r,⟨o,n,e,_,_,d⟩,_⟩:=I.list h;let⟨its',r',⟨o',n',e',_,_,d'⟩,_⟩:=I.list h';rw[e] at e';have:its=its':=by cbv
 subst this;rwa[r.inj r']
theorem Inv.tuple_inj (I:‹1›)(h:SqT X.K H a xs)(h':SqT X.K H a ys):xs=ys:=by
 let⟨its,r,⟨o,e,_,n,d⟩,_⟩:=I.tuple h;let⟨its',r',⟨o',e',_,n',d'⟩,_⟩:=I.tuple h';rw[e] at e';have:its=its':=by cbv
 subst this;rwa[r.inj r']
noncomputable abbrev Cx.wish (X:Cx)(E:ae->aq->Prop):Cx:={ X with xe:=E }
abbrev Cx.nox (X:Cx):Cx:=X.wish λ_ _=>False
def Cx.Ok.wish (ok:X.Ok)(E:ae->aq->Prop):(X.wish E).Ok:=
 ⟨ok.mod,ok.kind,ok.glob,ok.blt,ok.above,ok.inj,ok.has,ok.cab,ok.hd,ok.frames,ok.stk,ok.exf,ok.bs,ok.bsz,ok.noex,ok.exfs,ok.funs,ok.frf⟩
def Cx.Ok.unwish (ok:(X.wish E).Ok):X.Ok:=
 ⟨ok.mod,ok.kind,ok.glob,ok.blt,ok.above,ok.inj,ok.has,ok.cab,ok.hd,ok.frames,ok.stk,ok.exf,ok.bs,ok.bsz,ok.noex,ok.exfs,ok.funs,ok.frf⟩
theorem Inv.wish (I:‹1›)(E:ae->aq->Prop):Inv (X.wish E) aN σ H s:=⟨I.ok.wish E,I.os,I.bare,I.base,I.loc,I.cell,I.free,I.freeC,I.pin,I.hok,I.len⟩
theorem Inv.unwish (I:Inv (X.wish E) aN σ H s):‹1›:=⟨I.ok.unwish,I.os,I.bare,I.base,I.loc,I.cell,I.free,I.freeC,I.pin,I.hok,I.len⟩
theorem SP.unwish {D:ke}{f:Flow}(h:SP (X.wish E) aN D f s'):SP X aN D f s':=by
 cases f with
 | next=>let⟨σ',H',I,q⟩:=h;rwa[σ',H',I.unwish,q]
 | brk=>let⟨σ',H',I,q⟩:=h;rwa[σ',H',I.unwish,q]
 | cont=>let⟨σ',H',I,q⟩:=h;rwa[σ',H',I.unwish,q]
 | ret u=>let⟨v,σ',H',I,r,q⟩:=h;rwa[v,σ',H',I.unwish,r,q]
theorem PSs.nox {st:List bY}{t:TS}(h:PSs X.nox st t):PSs X st t:=λaN s σ H D I hw =>
 cj (h aN s σ H D (I.wish _) hw) (λ_ _ q=>q.unwish) ⋯
section
variable {rest:List bY}{t u:TS}
def tNext:TS:=λD σ H=>D.nx σ H
def ik (t u:TS):TS:=λD σ H=>t { D with nx:=u D } σ H
theorem pss_nil:PSs X [] tNext:=λ_ _ σ H _ I h=>wpAny_execs_nil ⟨σ,H,I,h⟩
theorem sq0 {D:ke}(h:let d:=D;let z:=σ;a0 d z H):a0 D σ H:=h
theorem sq1 {D:ke}(h:let d:=D;let z:=σ;let r1:=a1;ik a0 r1 d z H):(ik a0 a1) D σ H:=h
theorem sq2 {D:ke}(h:let d:=D;let z:=σ;let r2:=a2;let r1:=ik a1 r2;ik a0 r1 d z H):(ik a0 (ik a1 a2)) D σ H:=h
theorem sq3 {D:ke}(h:let d:=D;let z:=σ;let r3:=a3;let r2:=ik a2 r3;let r1:=ik a1 r2;ik a0 r1 d z H):(ik a0 (ik a1 (ik a2 a3))) D σ H:=h
theorem sq4 {a4:TS}{D:ke}(h:let d:=D;let z:=σ;let r4:=a4;let r3:=ik a3 r4;let r2:=ik a2 r3;let r1:=ik a1 r2;ik a0 r1 d z H):(ik a0 (ik a1 (ik a2 (ik a3 a4)))) D σ H:=h
theorem sq5 {a4 a5:TS}{D:ke}(h:let d:=D;let z:=σ;let r5:=a5;let r4:=ik a4 r5;let r3:=ik a3 r4;let r2:=ik a2 r3;let r1:=ik a1 r2;ik a0 r1 d z H):(ik a0 (ik a1 (ik a2 (ik a3 (ik a4 a5))))) D σ H:=h
theorem sq6 {a4 a5 a6:TS}{D:ke}(h:let d:=D;let z:=σ;let r6:=a6;let r5:=ik a5 r6;let r4:=ik a4 r5;let r3:=ik a3 r4;let r2:=ik a2 r3;let r1:=ik a1 r2;ik a0 r1 d z H):(ik a0 (ik a1 (ik a2 (ik a3 (ik a4 (ik a5 a6)))))) D σ H:=h
theorem sq7 {a4 a5 a6 a7:TS}{D:ke}(h:let d:=D;let z:=σ;let r7:=a7;let r6:=ik a6 r7;let r5:=ik a5 r6;let r4:=ik a4 r5;let r3:=ik a3 r4;let r2:=ik a2 r3;let r1:=ik a1 r2;ik a0 r1 d z H):(ik a0 (ik a1 (ik a2 (ik a3 (ik a4 (ik a5 (ik a6 a7))))))) D σ H:=h
theorem sq8 {a4 a5 a6 a7 a8:TS}{D:ke}(h:let d:=D;let z:=σ;let r8:=a8;let r7:=ik a7 r8;let r6:=ik a6 r7;let r5:=ik a5 r6;let r4:=ik a4 r5;let r3:=ik a3 r4;let r2:=ik a2 r3;let r1:=ik a1 r2;ik a0 r1 d z H):(ik a0 (ik a1 (ik a2 (ik a3 (ik a4 (ik a5 (ik a6 (ik a7 a8)))))))) D σ H:=h
theorem pss_cons (h1:PS X st t)(h2:PSs X rest u):PSs X (st::rest) (ik t u):=by
 intro aN s σ H D I h;rwa[wpAny_execs_cons (thn (h1 aN s σ H { D with nx:=u D } I h) λf s1 q=>?_)];cases f with
 | next =>
  let⟨σ',H',I',q⟩:=q;rwa[h2 aN s1 σ' H' D I' q]
 | ret v=>rwa[q]
 | brk=>rwa[q]
 | cont=>rwa[q]
theorem pss_one (h1:PS X st t):PSs X [st] t:=by
 intro aN s σ H D I h;rwa[wpAny_execs_cons (thn (h1 aN s σ H D I h) λf s1 q=>?_)]
 grind [wpAny_execs_nil]
def Inv.quiet (I:‹1›):interactive X.env=false:=by simp[interactive,I.ok.kind]
def tDrop (te:TE):TS:=λD σ H=>te σ H λ_ H1=>D.nx σ H1
theorem ps_expr (he:PE X e te)(hs:autoParam (swapsWith e none pos.line X.env=gv false) Ωa):PS X (.Expr e pos) (tDrop te):=by
 intro aN s σ H D I h;rwa[wpAny_Expr_any (thn (he aN s σ H _ I h) λv s1 ⟨x,H1,I1,r1,q1⟩=>⟨σ,H1,I1,q1⟩) I.quiet hs]
def tRet (te:TE):TS:=λD σ H=>te σ H D.rt
theorem ps_ret (he:PE X e te):PS X (.Return (some e) pos) (tRet te):=by
 intro aN s σ H D I h;rwa[wpAny_Return_some (thn (he aN s σ H _ I h) λv s1 ⟨x,H1,I1,r1,q1⟩=>⟨x,σ,H1,I1,r1,q1⟩)]
def tIfS (c:TT)(t u:TS):TS:=λD σ H=>c σ H λb H1=>if b=true then t D σ H1 else u D σ H1
theorem ps_if {c:Expr}{a b:List bY}{tc:TT}(hc:PT X c tc)(ha:PSs X a t)(hb:PSs X b u):PS X (.If c a b pos) (tIfS tc t u):=by
 intro aN s σ H D I h;rwa[wpAny_If (thn (hc aN s σ H _ I h) λd s1 hz0=>?_)];let⟨H1,I1,q1⟩:=hz0;cases d with
 | true=>rwa[ha aN s1 σ H1 D I1 q1]
 | false=>rwa[hb aN s1 σ H1 D I1 q1]
def tNever:TS:=λ_ _ _=>False
theorem oV:PS X st tNever:=λ_ _ _ _ _ _ h=>h.elim
end
abbrev TG:=V->St->Hp->(St->Hp->Prop)->Prop
abbrev TGs:=zA->St->Hp->(St->Hp->Prop)->Prop
def PG (X:Cx)(target:Expr)(t:TG):Prop:=
 ∀(aN:List (ai×Obj)) (s:aq) (σ:St) (H:Hp) (v:V) (u:ae) (Q:St->Hp->Prop),‹1›->gN v u->t v σ H Q ->
  ‹2› (assign target X.env u) (λ_ s'=>∃σ' H',Inv X aN σ' H' s'/\Q σ' H') X.xe s
def PGs (X:Cx)(ts:List Expr)(t:TGs):Prop:=
 ∀(aN:List (ai×Obj)) (s:aq) (σ:St) (H:Hp) (vs:zA) (us:zD) (Q:St->Hp->Prop),‹1›->fZ vs us->t vs σ H Q ->
  ‹2› (assignInOrder ((assignEach ts X.env).map (·.2)) us) (λ_ s'=>∃σ' H',Inv X aN σ' H' s'/\Q σ' H') X.xe s
abbrev TSet:=V->V->V->Hp->(Hp->Prop)->Prop
def PSet (X:Cx)(t:TSet):Prop:=
 ∀(aN:List (ai×Obj)) (s:aq) (σ:St) (H:Hp) (o i v:V) (ov iv u:ae) (Q:Hp->Prop),‹1›->gN o ov->gN i iv->gN v u->t o i v H Q ->
  ‹2› (setItem ov iv u) (λ_ s'=>∃H',Inv X aN σ H' s'/\Q H') X.xe s
abbrev TIp:=V->V->Hp->VK->Prop
def PIp (X:Cx)(op:Operator)(t:TIp):Prop:=
 ∀(aN:List (ai×Obj)) (s:aq) (σ:St) (H:Hp) (x y:V) (v u:ae) (Q:VK),‹1›->gN x v->gN y u->t x y H Q ->
  ‹2› (inplaceOp op v u) (EP X aN σ Q) X.xe s
def o9 (i:Nat):TG:=λv σ H Q=>Q (σ.set i (some v)) H
theorem oy (hN:X.N.Nodup)(hi:X.N[i]? =some x)(hx:Loc X.env.scope x)(hf:autoParam (X.fn x=true\/X.env.scope.names.lookup x=some .local) Ωd):PG X (.Name x pos) (o9 i):=by
 intro aN s σ H v u Q I r h;rwa[wpAny_assign_Name (store_ok I hN hi hx r (λs' I'=>⟨_,H,I',h⟩) hf)]
def gNil:TGs:=λvs σ H Q=>vs=[]/\Q σ H
def gCons (t:TG)(u:TGs):TGs:=λvs σ H Q=>∃v r,vs=v::r/\t v σ H λσ' H'=>u r σ' H' Q
theorem pgs_nil:PGs X [] gNil:=by
 intro aN s σ H vs us Q I r h;let⟨e,h⟩:=h;subst e;rwa[assignInOrder_nil ⟨σ,H,I,h⟩]
theorem pgs_cons {t:TG}{u:TGs}(h1:PG X e t)(h2:PGs X es u)
  (hs:autoParam ((assignEach (e::es) X.env).map (·.2)=assign e X.env::(assignEach es X.env).map (·.2)) Ωa):PGs X (e::es) (gCons t u):=by
 intro aN s σ H vs us Q I r h;let⟨v,vr,e1,h⟩:=h;subst e1;cases r with
 | cons r rr =>
  rw[hs];rwa[assignInOrder_cons (thn (h1 aN s σ H _ _ _ I r h) λ_ s1 hz0=>?_)];let⟨σ1,H1,I1,q1⟩:=hz0;rwa[h2 aN s1 σ1 H1 _ _ Q I1 rr q1]
def gTup (K:ag)(n:Nat)(t:TGs):TG:=λv σ H Q=>∃a xs,v= .ref a/\SqT K H a xs/\xs.length=n/\t xs σ H Q
theorem pg_tup {k:Nat}{t:TGs}{n:Nat}(hc:X.calm=true)(h:PGs X es t)
  (hn:autoParam ((assignEach es X.env).length=n) Ωa) (hst:autoParam ((assignEach es X.env).findIdx? (·.1)=none) Ωa):PG X (.Tuple es k pos) (gTup X.K n t):=by
 intro aN s σ H v u Q I r hw;let⟨a,xs,e1,hq,hl,hw⟩:=hw;subst e1;cases r;let⟨its,rv,ht,hz⟩:=I.tuple hq;rwa[assign_Tuple_tuple (I.ok.hd hc) ht (by simp[hn,<-hl,rv.length]) hst λh' hx=>?_]
 have I1 :=I.kept (t':=s.toks) λb o e=>hx b o (bP (aS e)) e
 rwa[h aN _ σ H xs _ Q I1 (by omega) hw]
def gSub (to ti:TE)(t:TSet):TG:=λv σ H Q=>to σ H λo H1=>ti σ H1 λi H2=>t o i v H2 λH3=>Q σ H3
theorem pg_sub {o i:Expr}{ti:TE}{t:TSet}(ho:PE X o to)(hi:PE X i ti)(hs:PSet X t)
  (ha:autoParam (∀ v,assign (.Subscript o i pos) X.env v=(do
   let ov <- holding [v] (eO o X.env)
   let iv <- holding [v,ov] (eO i X.env)
   standAt pos
   holding [v,ov,iv] (setItem ov iv v)
   release [v,ov,iv] [])) Ωc):PG X (.Subscript o i pos) (gSub to ti t):=by
 intro aN s σ H v u Q I r h;rw[ha];rwa[ak (cX (thn (ho aN s σ H _ I h) λov s1 hz0=>?_))];let⟨x,H1,I1,r1,q1⟩:=hz0;rwa[ak (cX (thn (hi aN s1 σ H1 _ I1 q1) λiv s2 hz0=>?_))];let⟨y,H2,I2,r2,q2⟩:=hz0;rwa[ak (wpAny_standAt (ak (cX (thn (hs aN s2 σ H2 x y v ov iv u _ I2 r1 r2 r q2) λ_ s3 hz0=>?_))))];let⟨H3,I3,q3⟩:=hz0;rwa[wpAny_release ⟨σ,H3,I3,q3⟩]
def tAsg (te:TE)(g:TG):TS:=λD σ H=>te σ H λx H1=>g x σ H1 D.nx
theorem ps_asg {g:TG}(he:PE X e te)(hg:PG X tg g)(hs:autoParam (swapsWithSole [tg] e pos.line X.env=gv false) Ωa)(hw:autoParam (swappedStores [tg] e X.env=gv none) Ωa)
  (h1:autoParam ((assignEach [tg] X.env).map (·.2)=[assign tg X.env]) Ωa):PS X (.Assign [tg] e pos) (tAsg te g):=by
 intro aN s σ H D I h;rwa[wpAny_Assign_stores (thn (he aN s σ H _ I h) λv s1 hz0=>?_) hs hw];let⟨x,H1,I1,r1,q1⟩:=hz0;rw[h1];rwa[thn (hg aN s1 σ H1 x v _ I1 r1 q1) λ_ s2 q=>q]
theorem ps_set (hN:X.N.Nodup)(hi:X.N[i]? =some x)(hx:Loc X.env.scope x)(he:PE X e te)(hs:autoParam (swapsWith e (some (.Name x pos')) pos.line X.env=gv false) Ωa)(hf:autoParam (X.fn x=true\/X.env.scope.names.lookup x=some .local) Ωd) :
  PS X (.Assign [.Name x pos'] e pos) (tAsg te (o9 i)):=by
 intro aN s σ H D I h;rwa[wpAny_Assign_Name (thn (he aN s σ H _ I h) λv s1 hz0=>?_) hs];let⟨y,H1,I1,r1,q1⟩:=hz0;rwa[store_ok I1 hN hi hx r1 (λs2 I2=>⟨_,H1,I2,q1⟩) hf]
def tAug (i:Nat)(te:TE)(ti:TIp):TS:=λD σ H=>∃x,σ[i]? =some (some x)/\te σ H λy H1=>ti x y H1 λz H2=>D.nx (σ.set i (some z)) H2
theorem ps_aug {op:Operator}{ti:TIp}(hN:X.N.Nodup)(hi:X.N[i]? =some x)(hx:Loc X.env.scope x)(he:PE X e te)(ho:PIp X op ti)(hf:autoParam (X.fn x=true\/X.env.scope.names.lookup x=some .local) Ωd) :
  PS X (.AugAssign (.Name x pos') op e pos) (tAug i te ti):=by
 intro aN s σ H D I h;let⟨v,e1,h⟩:=h;let⟨m,hn,hl⟩:=I.loc;have vis:Vis X.env.scope x:=by rcases hx with k | k;rwa[.inl k];rwa[.inr (.inl k)]
 let⟨u,r,l⟩:=hl i x v hi e1 vis;rwa[wpAny_AugAssign_Name ?_];have go:‹2› (eO e X.env) (λw s₂=>‹2› (inplaceOp op u w) (λr s₃=>‹2› (storeName X.env x r) (λ_=>SP X aN D .next) X.xe s₃) X.xe s₂) X.xe s:=by
  rwa[thn (he aN s σ H _ I h) λw s1 hz0=>?_]
  let⟨y,H1,I1,r1,q1⟩:=hz0;rwa[thn (ho aN s1 σ H1 v y u w _ I1 r r1 q1) λz s2 hz0=>?_]
  let⟨zv,H2,I2,r2,q2⟩:=hz0;rwa[store_ok I2 hN hi hx r2 (λs3 I3=>⟨_,H2,I3,q2⟩) hf]
 rcases l with ⟨hk,hm⟩ | ⟨hk,c,hc,jK⟩
 ·rwa[wpAny_loadName_local I.ok.kind hk hn hm go]
 ·rcases hk with hk | hk
  ·rwa[wpAny_loadName_cell I.ok.kind hk hc jK go]
  ·rcases hx with k | k
   ·have:X.env.scope.names.lookup x=some .free:=hk
    cbv
   ·have:X.env.scope.names.lookup x=some .free:=hk
    cbv
def tAugS (to ti te:TE)(tget:V->V->Hp->VK->Prop)(tip:TIp)(tset:TSet):TS:=λD σ H=>to σ H λo H1=>ti σ H1 λi H2=>tget o i H2 λx H3=>te σ H3 λy H4=>tip x y H4 λz H5=>tset o i z H5 λH6=>D.nx σ H6
def PGet (X:Cx)(t:V->V->Hp->VK->Prop):Prop:=
 ∀(aN:List (ai×Obj)) (s:aq) (σ:St) (H:Hp) (o i:V) (ov iv:ae) (Q:VK),‹1›->gN o ov->gN i iv->t o i H Q ->
  ‹2› (getItem ov iv) (EP X aN σ Q) X.xe s
theorem ps_augS {o i:Expr}{ti:TE}{tip:TIp}{tset:TSet}{op:Operator}(ho:PE X o to)(hi:PE X i ti)(hg:PGet X tget)(he:PE X e te)(hp:PIp X op tip)(hs:PSet X tset)
  (ha:∀ov iv new,augStore i ov iv new=(do holding [new,ov,iv] (setItem ov iv new);release [new,ov,iv] [];gv .next):=by intros;rfl):PS X (.AugAssign (.Subscript o i tpos) op e pos) (tAugS to ti te tget tip tset):=by
 intro aN s σ H D I h;rwa[wpAny_AugAssign_SubscriptAny (thn (ho aN s σ H _ I h) λov s1 hz0=>?_) ha];let⟨x1,H1,I1,r1,q1⟩:=hz0;rwa[thn (hi aN s1 σ H1 _ I1 q1) λiv s2 hz0=>?_]
 let⟨x2,H2,I2,r2,q2⟩:=hz0;rwa[thn (hg aN s2 σ H2 x1 x2 ov iv _ I2 r1 r2 q2) λold s3 hz0=>?_]
 let⟨x3,H3,I3,r3,q3⟩:=hz0;rwa[thn (he aN s3 σ H3 _ I3 q3) λv s4 hz0=>?_]
 let⟨x4,H4,I4,r4,q4⟩:=hz0;rwa[thn (hp aN s4 σ H4 x3 x4 old v _ I4 r3 r4 q4) λnew s5 hz0=>?_]
 let⟨x5,H5,I5,r5,q5⟩:=hz0;rwa[thn (hs aN s5 σ H5 x1 x2 x5 ov iv new _ I5 r1 r2 r5 q5) λ_ s6 ⟨H6,I6,q6⟩=>⟨σ,H6,I6,q6⟩]
def ipI (f:Int->Int->Int):TIp:=λx y H Q=>∃i j,x= .int i/\y= .int j/\Q (.int (f i j)) H
theorem ip_add:PIp X .Add (ipI λi j=>i+j):=by
 intro aN s σ H x y v u Q I r1 r2 h;let⟨i,j,e1,e2,q⟩:=h;subst e1;subst e2;let⟨t,rfl⟩:=r1;let⟨t',rfl⟩:=r2;rwa[iadd_int ⟨.int _,H,I.tok _,⟨ς⟩,q⟩]
theorem ip_sub:PIp X .Sub (ipI λi j=>i - j):=by
 intro aN s σ H x y v u Q I r1 r2 h;let⟨i,j,e1,e2,q⟩:=h;subst e1;subst e2;let⟨t,rfl⟩:=r1;let⟨t',rfl⟩:=r2;rwa[isub_int ⟨.int _,H,I.tok _,⟨ς⟩,q⟩]
def tWhile (c:TT)(tb:TS):TS:=λD σ H=>∃W:Nat->St->Hp->Prop,(∃m,W m σ H)/\∀m σ H,W m σ H ->
 c σ H λb H1=>if b=true then ∃N:St->Hp->Prop,(∀σ' H',N σ' H'->∃m',m'<m/\W m' σ' H')/\tb { D with nx:=N,ct:=N,bk:=D.nx } σ H1 else D.nx σ H1
theorem ps_while {c:Expr}{body:List bY}{tc:TT}{tb:TS}(hp:PassesOwn (bC X.prog X.w) X.A X.env X.xe)(hc:PT X c tc)(hb:PSs X body tb):PS X (.While c body [] pos) (tWhile tc tb):=by
 intro aN s σ H D I h;let⟨W,⟨m0,w0⟩,turn⟩:=h;rwa[wpAny_While (codeAny_whileLoop (λn s'=>∃σ' H',Inv X aN σ' H' s'/\W n σ' H') ?_ m0 ⟨σ,H,I,w0⟩)];rintro n s1 ⟨σ1,H1,I1,w1⟩;rwa[iS hp (thn (hc aN s1 σ1 H1 _ I1 (turn n σ1 H1 w1)) λb s2 hz0=>?_)];let⟨H2,I2,q2⟩:=hz0;cases b with
 | true =>
  let⟨N,hN,q2⟩:=q2;rwa[iS hp (thn (hb aN s2 σ1 H2 _ I2 q2) λf s3 q3=>?_)];cases f with
  | next =>
   let⟨σ3,H3,I3,n3⟩:=q3
   grind
  | cont =>
   let⟨σ3,H3,I3,n3⟩:=q3
   grind
  | brk=>rwa[q3]
  | ret v=>rwa[q3]
 | false =>
  rwa[wpAny_execs_nil ⟨σ1,H2,I2,q2⟩]
structure It where
 go:Nat->Hp->Prop
 yld:Nat->Hp->V->Hp->Prop
 stop:Nat->Hp->Prop
def FpOk (X:Cx)(aN:List (ai×Obj))(H:Hp)(b:ai):Prop:=
 H b=none/\b≠X.env.locals/\b ∉ X.fs/\(b∈X.ex\/X.s₀.heap.objs.size<=b)/\(∀x c,X.env.cells.lookup x=some c->c≠b)/\∀p∈X.pn++aN,p.1≠b
theorem Inv.fpOk {b:ai}(I:‹1›)(hb:s.heap.objs.size<=b)(hn:H' b=none):FpOk X aN H' b:=by
 rwa[hn,fO (aW I.lt hb),I.nofs hb,.inr (aU I.sz hb),λx c e z=>?_,λp hp z=>?_]
 ·let⟨v,q⟩:=I.cell x c e
  rwa[tR (aW q.lt (by rw[z];exact hb)) (g6 _)]
 ·rwa[tR (aW (aS (I.pin p hp).1) (by rw[z];exact hb)) (g6 _)]
structure Turn (P:aL)(w:bp)(K:ag)(tg:Expr)(J:It)(fp:zX)(it:ai)(tn:Nat->bI->Prop):Prop where
 mem:it∈fp
 obj:∀i h,tn i h->∀b∈fp,∃o,h.get? b=some o/\∀v,o.data≠ .cell v
 keep:∀i h h',tn i h->(∀b∈fp,∀o,h.get? b=some o->h'.get? b=some o)->tn i h'
 item:∀(X:Cx),X.prog=P->X.w=w->X.K=K->X.calm=true->∀(i:Nat) (aN:List (ai×Obj)) (s:aq) (σ:St) (H:Hp) (E:ae->aq->Prop),‹1›->(∀b∈fp,FpOk X aN H b)->tn i s.heap->J.go i H ->
  bz (bC P w) X.A (pyNext (.ref it)) (fun r s1=>∃ u,r=some u /\
   bz (bC P w) X.A (mr tg (.ref it) u) (fun _ s2=>∃ x H',Inv X aN σ H' s2/\gN x u/\J.yld i H x H'/\tn (i+1) s2.heap/\∀ b∈fp,H' b=none) E s1) E s
 done:∀(X:Cx),X.prog=P->X.w=w->X.K=K->X.calm=true->∀(i:Nat) (aN:List (ai×Obj)) (s:aq) (σ:St) (H:Hp) (E:ae->aq->Prop),‹1›->(∀b∈fp,FpOk X aN H b)->tn i s.heap->J.stop i H ->
  bz (bC P w) X.A (pyNext (.ref it)) (λr s1=>r=none/\Inv X aN σ H s1) E s
 self:∀(A:bT) (i:Nat) (s:aq) (Q:ae->aq->Prop) (E:ae->aq->Prop),tn i s.heap->Q (.ref it) s->bz (bC P w) A (pyIter (.ref it)) Q E s
abbrev TI:=St->Hp->(It->Hp->Prop)->Prop
def PIE (X:Cx)(aN:List (ai×Obj))(σ:St)(tg:Expr)(R:It->Hp->Prop)(itv:ae)(s2:aq):Prop:=
 ∃(it:ai) (fp:zX) (tn:Nat->bI->Prop) (J:It) (H':Hp),itv= .ref it/\Inv X aN σ H' s2/\Turn X.prog X.w X.K tg J fp it tn/\tn 0 s2.heap/\(∀b∈fp,FpOk X aN H' b)/\R J H'
def PI (X:Cx)(tg iter:Expr)(wi:TI):Prop:=
 ∀(aN:List (ai×Obj)) (s:aq) (σ:St) (H:Hp) (R:It->Hp->Prop),‹1›->wi σ H R ->
  ‹2› (eO iter X.env) (λv s1=>‹2› (pyIter v) (PIE X aN σ tg R) X.xe s1) X.xe s
theorem go_of {it:ai}{o:Obj}{n:String}{vs:Array ae}{Q:Unit->aq->Prop}(ho:s.heap.get? it=some o)(hc:o.cls= .type n)(hd:o.data= .fields vs)
  (hn:["enumerate","zip","dict_itemiterator","dict_reverseitemiterator","odict_iterator","itertools.zip_longest","itertools.pairwise"].contains n=false) (hQ:Q () s):bz M A (mr tg (.ref it) u) Q E s:=by
 unfold mr;cases tg <;> first
  | rwa[aP hQ]
  | (cases u <;> first
    | rwa[aP hQ]
    | (apply ak (wpAny_load ho ?_)
       rw[hc,hd];show bz M A (if (["enumerate","zip","dict_itemiterator","dict_reverseitemiterator","odict_iterator","itertools.zip_longest","itertools.pairwise"].contains n && vs[0]? == some (rawInt _))=true then _ else _) Q E s;rw[tP ⋯];rwa[aP hQ]))
def Itl (K:ag)(a:ai):It:=
 ⟨λi H=>∃xs x,SqL K H a xs/\xs[i]? =some x,λi H x H'=>H'=H/\∀xs,SqL K H a xs->xs[i]? =some x,λi H=>∃xs,SqL K H a xs/\xs.length<=i⟩
def Itt (K:ag)(a:ai):It:=
 ⟨λi H=>∃xs x,SqT K H a xs/\xs[i]? =some x,λi H x H'=>H'=H/\∀xs,SqT K H a xs->xs[i]? =some x,λi H=>∃xs,SqT K H a xs/\xs.length<=i⟩
def Itr (lo:Int)(n:Nat):It:=⟨λi _=>i<n,λi H x H'=>H'=H/\x= .int (lo+i),λi _=>n<=i⟩
theorem turn_list (a it:ai):Turn P w K tg (Itl K a) [it] it (λi h=>h.IsListIter it a i) where
 mem:=by simp
 obj:=λi h st b hb=>by
  have e:b=it:=by simpa using hb
  let⟨o,e,c,d⟩:=st
  cbv
 keep:=λi h h' st k=>st.at ↥1
 item:=by
  right;subst hP hw hK;let⟨xs,x,hq,hx⟩:=hg;let⟨its,rv,p,hz⟩:=I.list hq;let⟨u,hu,ru⟩:=rv.get hx;let⟨f0,f1,f2,f3,f4,f5⟩:=hf it ∅;rwa[wpAny_pyNext_list_item st p.isList (by simpa using hu) λh' st' sb=>?_]
  have I1 :=I.turned (t':=s.toks) (λb o hb e=>(sb.2 b hb).trans e) f0 f1 f3 f4 f5;let⟨o,e,c,d⟩:=id st';rwa[u,rfl,go_of e c d ↥0 ⟨x,H,I1,ru,⟨rfl,λys hy=>by rw[I.list_inj hy hq];rwa[hx]⟩,st',λb hb=>(hf b hb).1⟩]
 done:=by
  right;subst hP hw hK;let⟨xs,hq,hx⟩:=hg;let⟨its,rv,p,hz⟩:=I.list hq;let⟨f0,f1,f2,f3,f4,f5⟩:=hf it ∅;have hl:=rv.length;rwa[wpAny_pyNext_list_end (I.ok.hd hc) st p.isList (by simp;cbv) λh' eb=>⟨rfl,I.turned (λb o hb e=>eb b o hb e) f0 f1 f3 f4 f5⟩]
 self:=λ_ _ _ _ _ st h=>wpAny_pyIter_listiter st h
theorem turn_tuple (a it:ai):Turn P w K tg (Itt K a) [it] it (λi h=>h.IsTupleIter it a i) where
 mem:=by simp
 obj:=λi h st b hb=>by
  have e:b=it:=by simpa using hb
  let⟨o,e,c,d⟩:=st
  cbv
 keep:=λi h h' st k=>st.at ↥1
 item:=by
  right;subst hP hw hK;let⟨xs,x,hq,hx⟩:=hg;let⟨its,rv,p,hz⟩:=I.tuple hq;let⟨u,hu,ru⟩:=rv.get hx;let⟨f0,f1,f2,f3,f4,f5⟩:=hf it ∅;rwa[wpAny_pyNext_tuple_item st (p) (by simpa using hu) λh' st' sb=>?_]
  have I1 :=I.turned (t':=s.toks) (λb o hb e=>(sb.2 b hb).trans e) f0 f1 f3 f4 f5;let⟨o,e,c,d⟩:=id st';rwa[u,rfl,go_of e c d ↥0 ⟨x,H,I1,ru,⟨rfl,λys hy=>by rw[I.tuple_inj hy hq];rwa[hx]⟩,st',λb hb=>(hf b hb).1⟩]
 done:=by
  right;subst hP hw hK;let⟨xs,hq,hx⟩:=hg;let⟨its,rv,p,hz⟩:=I.tuple hq;let⟨f0,f1,f2,f3,f4,f5⟩:=hf it ∅;have hl:=rv.length;rwa[wpAny_pyNext_tuple_end (I.ok.hd hc) st (p) (by simp;cbv) λh' eb=>⟨rfl,I.turned (λb o hb e=>eb b o hb e) f0 f1 f3 f4 f5⟩]
 self:=λ_ _ _ _ _ st h=>wpAny_pyIter_tupleiter st h
theorem turn_range (it:ai)(lo:Int)(n:Nat):Turn P w K tg (Itr lo n) [it] it (λi h=>IsRangeIter h it (lo+(i:Nat) * 1) ((n:Int) - (i:Nat)) 1) where
 mem:=by simp
 obj:=↥2
 keep:=↥2
 item:=by
  right;subst hP hw hK;let⟨f0,f1,f2,f3,f4,f5⟩:=hf it ∅;have W:=Walks.range (prog:=X.prog) (w:=X.w) (I.ok.hd hc) it lo 1 n;rwa[W.item i s _ _ hg st λv h' tk hv st' kk=>?_]
  let⟨t,rfl⟩:=hv;have I1:Inv X aN σ H { s with heap:=h',toks:=tk }:=I.turned ↥1 f0 f1 f3 f4 f5;rwa[ς,go_of st' rfl rfl ↥0 ⟨.int (lo+i),H,I1,⟨t,?_⟩,⟨rfl,rfl⟩,st',λb hb=>(hf b hb).1⟩]
  cbv
 done:=by
  right;let⟨f0,f1,f2,f3,f4,f5⟩:=hf it ∅;rwa[wpAny_pyNext_range_end (I.ok.hd hc) st (by have:n<=i:=hg;lia) λh' eb=>⟨rfl,I.turned (λb o hb e=>eb b o hb e) f0 f1 f3 f4 f5⟩]
 self:=λ_ _ _ _ _ st h=>wpAny_pyIter_rangeiter st h
def iList (K:ag)(tl:TE):TI:=λσ H R=>tl σ H λx H1=>∃a,x= .ref a/\(∃xs,SqL K H1 a xs)/\R (Itl K a) H1
def iTup (K:ag)(tl:TE):TI:=λσ H R=>tl σ H λx H1=>∃a,x= .ref a/\(∃xs,SqT K H1 a xs)/\R (Itt K a) H1
theorem gU {l:Expr}(hl:PE X l tl):PI X tg l (iList X.K tl):=by
 intro aN s σ H R I h;rwa[thn (hl aN s σ H _ I h) λv s1 hz0=>?_]
 let⟨x,H1,I1,r1,q1⟩:=hz0;let⟨a,e,⟨xs,hq⟩,q⟩:=q1;subst e;cases r1;let⟨its,rv,p,hz⟩:=I1.list hq;rwa[wpAny_pyIter_list p.isList ?_];rwa[s1.heap.objs.size,[s1.heap.objs.size],_,_,H1,rfl,I1.kept λb o e=>ao _ e,turn_list a _,⟨_,aR _ rfl,rfl,rfl⟩,λb hb=>?_,q];have e:b=s1.heap.objs.size:=by simpa using hb
 subst e;rwa[I1.fpOk (ay _) (I1.hok.fresh (ay _))]
theorem jO {l:Expr}(hl:PE X l tl):PI X tg l (iTup X.K tl):=by
 intro aN s σ H R I h;rwa[thn (hl aN s σ H _ I h) λv s1 hz0=>?_]
 let⟨x,H1,I1,r1,q1⟩:=hz0;let⟨a,e,⟨xs,hq⟩,q⟩:=q1;subst e;cases r1;let⟨its,rv,p,hz⟩:=I1.tuple hq;rwa[iL (p) ?_];rwa[s1.heap.objs.size,[s1.heap.objs.size],_,_,H1,rfl,I1.kept λb o e=>ao _ e,turn_tuple a _,⟨_,aR _ rfl,rfl,rfl⟩,λb hb=>?_,q];have e:b=s1.heap.objs.size:=by simpa using hb
 subst e;rwa[I1.fpOk (ay _) (I1.hok.fresh (ay _))]
theorem range_it {R:It->Hp->Prop}{hi:Int}{t u v:Tok}{tk:Nat}(I:‹1›)(h1: -(2 ^ 62)<=lo)(h2:lo<2 ^ 62)(h3: -(2 ^ 62)<=hi)(h4:hi<2 ^ 62)
  (q:R (Itr lo (hi - lo).toNat) H):‹2› (pyIter (.ref s.heap.objs.size)) (PIE X aN σ tg R) E { s with heap:=s.heap.push { cls:=.type "range",data:=.fields #[.int lo t,.int hi u,.int 1 v] },toks:=tk }:=by
 rwa[wpAny_pyIter_range (IsRange.new ..) (small_one h1 h2 h3 h4) ?_];have I1:Inv X aN σ H { s with heap:=s.heap.push { cls:=.type "range",data:=.fields #[.int lo t,.int hi u,.int 1 v] },toks:=tk }:=I.kept λb o e=>ao _ e
 apply ⟨(s.heap.push { cls:=.type "range",data:=.fields #[.int lo t,.int hi u,.int 1 v] }).objs.size,[(s.heap.push { cls:=.type "range",data:=.fields #[.int lo t,.int hi u,.int 1 v] }).objs.size],_,_,H,rfl,
  I1.kept (t':=tk) fun b o e=>ao _ e,turn_range _ lo (hi - lo).toNat,?_,fun b hb=>?_,q⟩
 ·have e1:lo+((0:Nat):Int) * 1=lo:=by simp
  have e2:(((hi - lo).toNat:Nat):Int) - ((0:Nat):Int)=fv lo hi 1:=by rw[rangeSize_one];split <;> lia
  show IsRangeIter _ _ (lo+((0:Nat):Int) * 1) ((((hi - lo).toNat:Nat):Int) - ((0:Nat):Int)) 1;rw[e1,e2];rwa[aR _ rfl]
 ·have e:b=(s.heap.push { cls:=.type "range",data:=.fields #[.int lo t,.int hi u,.int 1 v] }).objs.size:=by simpa using hb
  subst e;rwa[I1.fpOk (ay _) (I1.hok.fresh (ay _))]
def iRng1 (ta:TA):TI:=λσ H R=>ta σ H λvs H1=>∃j:Int,vs=[.int j]/\ -(2 ^ 62)<=j/\j<2 ^ 62/\R (Itr 0 j.toNat) H1
theorem kQ {a:Expr}{ta:TA}{p:Pos}(hg:Gl X "range")(hm:X.mg "range" =none)(ha:PA X [a] ta)(hs:autoParam (bF [a] X.env=[(false,eO a X.env)]) Ωa):PI X tg (.Call (.Name "range" p) [a] [] pos) (iRng1 ta):=by
 intro aN s σ H R I h;rwa[Call_ (oj I hg hm boot_range (dX (thn (ha pos aN s σ H _ I h) λus s1 hz0=>?_) hs rfl))];let⟨vs,H1,I1,r1,q1⟩:=hz0;let⟨j,e,q1,q2,q⟩:=q1;subst e;cases r1 with
 | cons r rr =>
  cases rr;let⟨t,rfl⟩:=r;rwa[call_range_1 (range_it I1 (by (constructor <;> lia)) ↥2 q1 q2 (by simpa using q))]
theorem sg {b:TS}{D:ke}(h:let d:=D;let z:=σ.set i (some y);b d z H):o9 i y σ H (λσ2 H2=>b D σ2 H2):=h
theorem sgT {g:TG}{b:TS}{D:ke}(h:let d:=D;let z:=σ;let r:=b;g y z H λσ2 H2=>r d σ2 H2):g y σ H (λσ2 H2=>b D σ2 H2):=h
theorem sw {c:TT}{D:ke}{W:Nat->St->Hp->Prop}{b:TS}(h:let d:=D;let z:=σ;let r:=b;c z H λb1 H1=>if b1=true then ∃N:St->Hp->Prop,(∀σ' H',N σ' H'->∃m',m'<m/\W m' σ' H')/\r { d with nx:=N,ct:=N,bk:=d.nx } z H1 else d.nx z H1):c σ H λb1 H1=>if b1=true then ∃N:St->Hp->Prop,(∀σ' H',N σ' H'->∃m',m'<m/\W m' σ' H')/\b { D with nx:=N,ct:=N,bk:=D.nx } σ H1 else D.nx σ H1:=h
def tFor (wi:TI)(g:TG)(tb:TS):TS:=λD σ H=>wi σ H λJ H1=>∃W:Nat->Nat->St->Hp->Prop,(∃m,W 0 m σ H1)/\∀i m σ H,W i m σ H ->
 (J.stop i H/\D.nx σ H)\/(J.go i H/\∃N:St->Hp->Prop,(∀σ' H',N σ' H'->∃m',m'<m/\W (i+1) m' σ' H')/\∀x H',J.yld i H x H'->g x σ H' λσ2 H2=>tb { D with nx:=N,ct:=N,bk:=D.nx } σ2 H2)
def pinsAt (fp:zX)(h:bI):List (ai×Obj):=fp.filterMap λb=>(h.get? b).map λo=>(b,o)
theorem n4 {b:ai}{o:Obj}(hb:b∈fp)(e:h.get? b=some o):(b,o)∈pinsAt fp h:=List.mem_filterMap.mpr ⟨b,hb,by rw[e];rfl⟩
theorem of_pinsAt {p:ai×Obj}(hp:p∈pinsAt fp h):p.1∈fp/\h.get? p.1=some p.2:=by
 let⟨b,hb,e⟩:=List.mem_filterMap.mp hp;cases q:h.get? b with
 | none=>rw[q] at e;cases e
 | some o =>
  grind
theorem Inv.pinned (I:‹1›)(hf:∀b∈fp,FpOk X aN H b)(ho:∀b∈fp,∃o,s.heap.get? b=some o/\∀v,o.data≠ .cell v):Inv X (aN++pinsAt fp s.heap) σ H s:=
 I.pins_of λp hp=>(bj.mp hp).elim (λz=>I.pin p ↥2) λz=>by
  let⟨hb,e⟩:=of_pinsAt z;let⟨f0,f1,f2,_⟩:=hf p.1 hb
  grind
theorem Inv.unpinned {pl:List (ai×Obj)}(I:Inv X (aN++pl) σ H s):‹1›:=I.pins_of λp hp=>I.pin p ↥2
theorem ps_for {body:List bY}{wi:TI}{g:TG}{tb:TS}(hp:PassesOwn (bC X.prog X.w) X.A X.env X.xe)(hc:X.calm=true)(hi:PI X tg iter wi)(hg:PG X tg g)(hb:PSs X body tb)
  (hs:autoParam (∀x,gh iter X.env x=gv x) Ωc):PS X (.For tg iter body [] pos) (tFor wi g tb):=by
 intro aN s σ H D I h;rwa[wpAny_For (thn (hi aN s σ H _ I h) λv s1 h1=>thn h1 λitv s2 h2=>?_) hs];let⟨it,fp,tn,J,H2,e,I2,T,st2,f2,W,⟨m0,w0⟩,turn⟩:=h2;subst e;have stat:∀{H':Hp},(∀b∈fp,H' b=none)->∀b∈fp,FpOk X aN H' b:=λhn b hb=>⟨hn b hb,(f2 b hb).2⟩
 rwa[codeAny_forLoop_any (λn s'=>∃i σ' H',Inv X aN σ' H' s'/\tn i s'.heap/\(∀b∈fp,H' b=none)/\W i n σ' H') ?_ m0 ⟨0,σ,H2,I2,st2,λb hb=>(f2 b hb).1,w0⟩];rintro n s3 ⟨i,σ3,H3,I3,st3,fr3,w3⟩
 rcases turn i n σ3 H3 w3 with ⟨stop,qn⟩ | ⟨go,N,hN,step⟩
 ·apply iS hp (thn (T.done X rfl rfl rfl hc i aN s3 σ3 H3 X.xe I3 (stat fr3) st3 stop) λr s4 hz0=>?_)
  let⟨hr,I4⟩:=hz0;subst hr;rwa[wpAny_execs_nil ⟨σ3,H3,I4,qn⟩]
 ·apply iS hp (thn (T.item X rfl rfl rfl hc i aN s3 σ3 H3 X.xe I3 (stat fr3) st3 go) λr s4 hz0=>?_)
  let⟨u,hr,h4⟩:=hz0;subst hr;rwa[iS hp (thn h4 λ_ s5 hz0=>?_)];let⟨x,H5,I5,r5,y5,st5,fr5⟩:=hz0;have I5':=I5.pinned (stat fr5) (T.obj _ _ st5);rwa[iS hp (thn (hg _ s5 σ3 H5 x u _ I5' r5 (step x H5 y5)) λ_ s6 hz0=>?_)];let⟨σ6,H6,I6,q6⟩:=hz0;rwa[iS hp (thn (hb _ s6 σ6 H6 _ I6 q6) λf s7 q7=>?_)];have again:∀{σ7:St} {H7:Hp},Inv X (aN++pinsAt fp s5.heap) σ7 H7 s7->N σ7 H7->∃m,m<n/\∃i σ' H',Inv X aN σ' H' s7/\tn i s7.heap/\(∀b∈fp,H' b=none)/\W i m σ' H':=λ{σ7 H7} I7 n7=>by
   let⟨m',hm,w7⟩:=hN σ7 H7 n7;rwa[m',hm,i+1,σ7,H7,I7.unpinned,T.keep _ _ _ st5 λb hb o e=>(I7.pin (b,o) (bo _ (bo _ (n4 hb e)))).1,λb hb=>?_,w7];let⟨o,e,d⟩:=T.obj _ _ st5 b hb;rwa[(I7.pin (b,o) (bo _ (bo _ (n4 hb e)))).2.1]
  cases f with
  | next=>let⟨σ7,H7,I7,n7⟩:=q7;rwa[again I7 n7]
  | cont=>let⟨σ7,H7,I7,n7⟩:=q7;rwa[again I7 n7]
  | brk=>let⟨σ7,H7,I7,q7⟩:=q7;rwa[σ7,H7,I7.unpinned,q7]
  | ret v=>let⟨x7,σ7,H7,I7,r7,q7⟩:=q7;rwa[x7,σ7,H7,I7.unpinned,r7,q7]
theorem jb {g:TG}{tb:TS}{D:ke}(Pv:Nat->St->Hp->Prop)(h0:Pv 0 σ H)(hl:∀i σ H,i<=xs.length->Pv i σ H->SqL K H a xs)
  (hs:∀i x σ H,xs[i]? =some x->Pv i σ H->g x σ H λσ2 H2=>tb { D with nx:=Pv (i+1),ct:=Pv (i+1),bk:=D.nx } σ2 H2) (hd:∀σ H,Pv xs.length σ H->D.nx σ H) :
  ∃W:Nat->Nat->St->Hp->Prop,(∃m,W 0 m σ H)/\∀i m σ H,W i m σ H ->
   ((Itl K a).stop i H/\D.nx σ H)\/((Itl K a).go i H/\∃N:St->Hp->Prop,(∀σ' H',N σ' H'->∃m',m'<m/\W (i+1) m' σ' H')/\∀x H',(Itl K a).yld i H x H'->g x σ H' λσ2 H2=>tb { D with nx:=N,ct:=N,bk:=D.nx } σ2 H2):=by
 rwa[λi m σ H=>m=xs.length - i/\i<=xs.length/\Pv i σ H,⟨xs.length,∅,bq _,h0⟩,?_];rintro i m σ H ⟨rfl,hi,p⟩;have q:=hl i σ H hi p
 by_cases hlt:i<xs.length
 ·apply .inr ⟨⟨xs,xs[i],q,by simp[hlt]⟩,Pv (i+1),λσ' H' p'=>⟨xs.length - (i+1),⋯,rfl,hlt,p'⟩,λx H' y=>?_⟩
  let⟨e,y⟩:=y
  grind
 ·have e:i=xs.length:=by lia
  subst e;rwa[.inl ⟨⟨xs,q,ay _⟩,hd σ H p⟩]
theorem jU {g:TG}{tb:TS}{D:ke}(Pv:Nat->St->Hp->Prop)(h0:Pv 0 σ H)(hl:∀i σ H,i<=xs.length->Pv i σ H->SqT K H a xs)
  (hs:∀i x σ H,xs[i]? =some x->Pv i σ H->g x σ H λσ2 H2=>tb { D with nx:=Pv (i+1),ct:=Pv (i+1),bk:=D.nx } σ2 H2) (hd:∀σ H,Pv xs.length σ H->D.nx σ H) :
  ∃W:Nat->Nat->St->Hp->Prop,(∃m,W 0 m σ H)/\∀i m σ H,W i m σ H ->
   ((Itt K a).stop i H/\D.nx σ H)\/((Itt K a).go i H/\∃N:St->Hp->Prop,(∀σ' H',N σ' H'->∃m',m'<m/\W (i+1) m' σ' H')/\∀x H',(Itt K a).yld i H x H'->g x σ H' λσ2 H2=>tb { D with nx:=N,ct:=N,bk:=D.nx } σ2 H2):=by
 rwa[λi m σ H=>m=xs.length - i/\i<=xs.length/\Pv i σ H,⟨xs.length,∅,bq _,h0⟩,?_];rintro i m σ H ⟨rfl,hi,p⟩;have q:=hl i σ H hi p
 by_cases hlt:i<xs.length
 ·apply .inr ⟨⟨xs,xs[i],q,by simp[hlt]⟩,Pv (i+1),λσ' H' p'=>⟨xs.length - (i+1),⋯,rfl,hlt,p'⟩,λx H' y=>?_⟩
  let⟨e,y⟩:=y;subst e;rwa[hs i x σ _ (y xs q) p]
 ·have e:i=xs.length:=by lia
  subst e;rwa[.inl ⟨⟨xs,q,ay _⟩,hd σ H p⟩]
theorem su {n:Nat}{g:TG}{tb:TS}{D:ke}(Pv:Nat->St->Hp->Prop)(h0:Pv 0 σ H)
  (hs:∀i σ H,i<n->Pv i σ H->g (.int (lo+i)) σ H λσ2 H2=>tb { D with nx:=Pv (i+1),ct:=Pv (i+1),bk:=D.nx } σ2 H2) (hd:∀σ H,Pv n σ H->D.nx σ H) :
  ∃W:Nat->Nat->St->Hp->Prop,(∃m,W 0 m σ H)/\∀i m σ H,W i m σ H ->
   ((Itr lo n).stop i H/\D.nx σ H)\/((Itr lo n).go i H/\∃N:St->Hp->Prop,(∀σ' H',N σ' H'->∃m',m'<m/\W (i+1) m' σ' H')/\∀x H',(Itr lo n).yld i H x H'->g x σ H' λσ2 H2=>tb { D with nx:=N,ct:=N,bk:=D.nx } σ2 H2):=by
 rwa[λi m σ H=>m=n - i/\i<=n/\Pv i σ H,⟨n,∅,bq _,h0⟩,?_];rintro i m σ H ⟨rfl,hi,p⟩
 by_cases hlt:i<n
 ·apply .inr ⟨hlt,Pv (i+1),λσ' H' p'=>⟨n - (i+1),⋯,rfl,hlt,p'⟩,λx H' y=>?_⟩
  let⟨e,y⟩:=y;subst e y;rwa[hs i σ _ hlt p]
 ·have e:i=n:=by lia
  subst e;rwa[.inl ⟨ay _,hd σ H p⟩]
abbrev R2:=V->V->Hp->VK->Prop
def OpR (X:Cx)(f:ae->ae->Sem ae)(r:R2):Prop:=
 ∀(aN:List (ai×Obj)) (s:aq) (σ:St) (H:Hp) (x y:V) (v u:ae) (Q:VK),‹1›->gN x v->gN y u->r x y H Q ->
  ‹2› (f v u) (EP X aN σ Q) X.xe s
def UnR (X:Cx)(f:ae->Sem ae)(r:V->Hp->VK->Prop):Prop:=
 ∀(aN:List (ai×Obj)) (s:aq) (σ:St) (H:Hp) (x:V) (v:ae) (Q:VK),‹1›->gN x v->r x H Q ->
  ‹2› (f v) (EP X aN σ Q) X.xe s
def jy (X:Cx)(f:ae)(r:zA->Hp->VK->Prop):Prop:=
 ∀(aN:List (ai×Obj)) (s:aq) (σ:St) (H:Hp) (xs:zA) (us:zD) (Q:VK),‹1›->fZ xs us->r xs H Q ->
  ‹2› (call f us) (EP X aN σ Q) X.xe s
def tOp (r:R2)(ta tb:TE):TE:=λσ H Q=>ta σ H λx H1=>tb σ H1 λy H2=>r x y H2 Q
def tUn (r:V->Hp->VK->Prop)(ta:TE):TE:=λσ H Q=>ta σ H λx H1=>r x H1 Q
inductive rI (C:Int->Int->Prop)(g:Int->Int->V)(x:V)(y:V)(H:Hp)(Q:VK):Prop
 | mk (i j:_)(_:x= .int i)(_:y= .int j)(_:C i j)(_:Q (g i j) H)
inductive rI0 (g:Int->Int->V)(x:V)(y:V)(H:Hp)(Q:VK):Prop
 | mk (i j:_)(_:x= .int i)(_:y= .int j)(_:Q (g i j) H)
inductive rU (g:Int->V)(x:V)(H:Hp)(Q:VK):Prop
 | mk (i:_)(_:x= .int i)(_:Q (g i) H)
section
variable {a b c:Expr}{tb tc:TE}
theorem binT (ha:PE X a ta)(hb:PE X b tb){R:V->V->Hp->Prop}(I:‹1›)
  (h:ta σ H λx H1=>tb σ H1 λy H2=>R x y H2) {f:ae->ae->Sem ae}
  (hf:∀v u s2 x y H2,Inv X aN σ H2 s2->gN x v->gN y u->R x y H2->‹2› (f v u) Q X.xe s2) :
  ‹2› (eO a X.env) (λv s₁=>‹2› (eO b X.env) (λu s₂=>‹2› (f v u) Q X.xe s₂) X.xe s₁) X.xe s:=by
 rwa[thn (ha aN s σ H _ I h) λv s1 hz0=>?_]
 let⟨x,H1,I1,r1,q1⟩:=hz0;rwa[thn (hb aN s1 σ H1 _ I1 q1) λu s2 hz0=>?_]
 let⟨y,H2,I2,r2,q2⟩:=hz0;rwa[hf v u s2 x y H2 I2 r1 r2 q2]
theorem sQ {op:Operator}{r:R2}(ho:OpR X (gq op) r)(ha:PE X a ta)(hb:PE X b tb):PE X (.BinOp a op b pos) (tOp r ta tb):=by
 injections;rwa[wpAny_BinOp (binT ha hb I h λv u s2 x y H2 I2 rx ry q=>ho aN s2 σ H2 x y v u Q I2 rx ry q)]
theorem pe_un {op:UnaryOp}{r:V->Hp->VK->Prop}(ho:UnR X (unaryOp op) r)(ha:PE X a ta):PE X (.UnaryOp op a pos) (tUn r ta):=by
 injections;rwa[UnaryOp_ (thn (ha aN s σ H _ I h) λv s1 ⟨x,H1,I1,r1,q1⟩=>ho aN s1 σ H1 x v Q I1 r1 q1)]
theorem opI {f:ae->ae->Sem ae}{C:Int->Int->Prop}{g:Int->Int->Int}
  (rule:∀(i j:Int) (t u:Tok) (s:aq) (Q:ae->aq->Prop) (E:ae->aq->Prop),C i j->Q (.int (g i j) s.toks) { s with toks:=s.toks+1 }->‹2› (f (.int i t) (.int j u)) Q E s) :
  OpR X f (rI C λi j=>.int (g i j)):=by
 left;let⟨i,j,rfl,rfl,hc,q⟩:=h;let⟨t,rfl⟩:=rx;let⟨t',rfl⟩:=ry;rwa[rule i j t t' s _ _ hc ⟨.int (g i j),H,I.tok _,⟨ς⟩,q⟩]
theorem opI0 {f:ae->ae->Sem ae}{g:Int->Int->Int}
  (rule:∀(i j:Int) (t u:Tok) (s:aq) (Q:ae->aq->Prop) (E:ae->aq->Prop),Q (.int (g i j) s.toks) { s with toks:=s.toks+1 }->‹2› (f (.int i t) (.int j u)) Q E s) :
  OpR X f (rI0 λi j=>.int (g i j)):=by
 left;let⟨i,j,rfl,rfl,q⟩:=h;let⟨t,rfl⟩:=rx;let⟨t',rfl⟩:=ry;rwa[rule i j t t' s _ _ ⟨.int (g i j),H,I.tok _,⟨ς⟩,q⟩]
theorem opB0 {f:ae->ae->Sem ae}{g:Int->Int->Bool}
  (rule:∀(i j:Int) (t u:Tok) (s:aq) (Q:ae->aq->Prop) (E:ae->aq->Prop),Q (.bool (g i j)) s->‹2› (f (.int i t) (.int j u)) Q E s) :
  OpR X f (rI0 λi j=>.bl (g i j)):=by
 left;let⟨i,j,rfl,rfl,q⟩:=h;let⟨t,rfl⟩:=rx;let⟨t',rfl⟩:=ry;rwa[rule i j t t' s _ _ ⟨.bl (g i j),H,I,rfl,q⟩]
def CDiv (i j:Int):Prop:=0<j/\j<1073741824
def CPow (i j:Int):Prop:=0<=j/\j<=1000000/\i.natAbs<2 ^ 64
def CMul (i j:Int):Prop:=(-(2 ^ 64)<i/\i<2 ^ 64)\/(-(2 ^ 64)<j/\j<2 ^ 64)
theorem CMul.ok {i j:Int}(h:CMul i j):IntMulOk i j:=by
 rcases h with ⟨h1,h2⟩ | ⟨h1,h2⟩
 ·rwa[.of_left (intBits_le_64 h1 h2)]
 ·rwa[.of_right (intBits_le_64 h1 h2)]
theorem op_add:OpR X (gq .Add) (rI0 λi j=>.int (i+j)):=opI0 λ_ _ _ _ _ _ _ q=>add_int q
theorem op_sub:OpR X (gq .Sub) (rI0 λi j=>.int (i - j)):=opI0 λ_ _ _ _ _ _ _ q=>sub_int q
theorem op_mul:OpR X (gq .Mult) (rI CMul λi j=>.int (i * j)):=opI λ_ _ _ _ _ _ _ hc q=>mul_int q hc.ok
theorem op_fdiv:OpR X (gq .FloorDiv) (rI CDiv λi j=>.int (i / j)):=opI λi j _ _ _ _ _ hc q=>by
 have h1:(0:Int)<j:=hc.1;have h2:j<1073741824:=hc.2;rwa[floordiv_int ⋯ (by rw[Int.fdiv_eq_ediv_of_nonneg i ⋯];exact q) (.inl (PyProof.noPylong_small ⋯))]
theorem op_mod:OpR X (gq .Mod) (rI (λ_ j=>0<j) λi j=>.int (i % j)):=opI λi j _ _ _ _ _ hc q=>by
 have h1:(0:Int)<j:=hc;rwa[mod_int' ⋯ (by rw[Int.fmod_eq_emod_of_nonneg i ⋯];exact q)]
theorem op_pow:OpR X (gq .Pow) (rI CPow λi j=>.int (i ^ j.toNat)):=opI λ_ _ _ _ _ _ _ hc q=>pow_int_small hc.1 hc.2.1 hc.2.2 q
theorem unI {f:ae->Sem ae}{g:Int->Int}
  (rule:∀(i:Int) (t:Tok) (s:aq) (Q:ae->aq->Prop) (E:ae->aq->Prop),Q (.int (g i) s.toks) { s with toks:=s.toks+1 }->‹2› (f (.int i t)) Q E s) :
  UnR X f (rU λi=>.int (g i)):=by
 intro aN s σ H x v Q I rx h;let⟨i,rfl,q⟩:=h;let⟨t,rfl⟩:=rx;rwa[rule i t s _ _ ⟨.int (g i),H,I.tok _,⟨ς⟩,q⟩]
theorem qV:UnR X (unaryOp .USub) (rU λi=>.int (-i)):=unI λ_ _ _ _ _ q=>neg_int q
end
noncomputable def scal:V->V->Bool
 | .non,.non=>true | .non,.int _=>true | .int _,.non=>true | .non,.bl _=>true | .bl _,.non=>true | .non,.str _=>true | .str _,.non=>true
 | .int _,.int _=>true | .bl _,.bl _=>true | .str _,.str _=>true | .byt _,.byt _=>true
 | .int _,.str _=>true | .str _,.int _=>true | .bl _,.str _=>true | .str _,.bl _=>true
 | _,_=>false
def rEq:R2:=λx y H Q=>scal x y=true/\Q (.bl (decide (x=y))) H
def rNe:R2:=λx y H Q=>scal x y=true/\Q (.bl (!decide (x=y))) H
def dec_int {i j:Int}:decide (V.int i=V.int j)=(i == j):=by
 rw[jF];simp
def dec_bl {i j:Bool}:decide (V.bl i=V.bl j)=(i == j):=by
 rw[jF];simp
def dec_str {i j:Str}:decide (V.str i=V.str j)=(i == j):=by
 rw[jF];simp
theorem dec_byt {i j:Array UInt8}:decide (V.byt i=V.byt j)=(i.toList == j.toList):=by
 rw[jF];cases i;cases j;simp
section
variable {a b c:Expr}{tb tc:TE}
theorem dZ {Q:VK}{k k':Bool}(I:‹1›)(q:Q (.bl k) H)(e:k=k'):EP X aN σ Q (.bool k') s:=by
 subst e;rwa[.bl k,H,I,rfl,q]
theorem op_eq:OpR X (cZ .Eq) rEq:=by
 left;let⟨hs,q⟩:=h;cases x with
 | non =>
  cases rx;cases y with
  | non=>cases ry;rwa[PySem.EqNone.eq_none_none (dZ I q ∅)]
  | bl j=>cases ry;rwa[PySem.EqNone.eq_none_bool (dZ I q ∅)]
  | int j=>let⟨t',rfl⟩:=ry;rwa[PySem.EqNone.eq_none_int (dZ I q ∅)]
  | str j=>let⟨t',rfl⟩:=ry;rwa[PySem.EqNone.eq_none_str (dZ I q ∅)]
  | _=>rwa[tR (hs) bK]
 | bl i =>
  cases rx;cases y with
  | non=>cases ry;rwa[PySem.EqNone.eq_bool_none (dZ I q ∅)]
  | bl j=>cases ry;rwa[eq_bool (dZ I q dec_bl)]
  | str j=>let⟨t',rfl⟩:=ry;rwa[PySem.EqMixed.eq_bool_str (dZ I q ∅)]
  | _=>rwa[tR (hs) bK]
 | int i =>
  let⟨t,rfl⟩:=rx;cases y with
  | non=>cases ry;rwa[PySem.EqNone.eq_int_none (dZ I q ∅)]
  | int j=>let⟨t',rfl⟩:=ry;rwa[eq_int (dZ I q dec_int)]
  | str j=>let⟨t',rfl⟩:=ry;rwa[PySem.EqMixed.eq_int_str (dZ I q ∅)]
  | _=>rwa[tR (hs) bK]
 | str i =>
  let⟨t,rfl⟩:=rx;cases y with
  | non=>cases ry;rwa[PySem.EqNone.eq_str_none (dZ I q ∅)]
  | bl j=>cases ry;rwa[PySem.EqMixed.eq_str_bool (dZ I q ∅)]
  | int j=>let⟨t',rfl⟩:=ry;rwa[PySem.EqMixed.eq_str_int (dZ I q ∅)]
  | str j=>let⟨t',rfl⟩:=ry;rwa[eq_str (dZ I q dec_str)]
  | _=>rwa[tR (hs) bK]
 | byt i =>
  let⟨t,rfl⟩:=rx;cases y with
  | byt j=>let⟨t',rfl⟩:=ry;rwa[PySem.W.eq_bytes (dZ I q dec_byt)]
  | _=>rwa[tR (hs) bK]
 | _=>cases y <;> rwa[tR (hs) bK]
theorem op_ne:OpR X (cZ .NotEq) rNe:=by
 left;let⟨hs,q⟩:=h;cases x with
 | non =>
  cases rx;cases y with
  | non=>cases ry;rwa[PySem.EqNone.ne_none_none (dZ I q ∅)]
  | bl j=>cases ry;rwa[PySem.EqNone.ne_none_bool (dZ I q ∅)]
  | int j=>let⟨t',rfl⟩:=ry;rwa[PySem.EqNone.ne_none_int (dZ I q ∅)]
  | str j=>let⟨t',rfl⟩:=ry;rwa[PySem.EqNone.ne_none_str (dZ I q ∅)]
  | _=>rwa[tR (hs) bK]
 | bl i =>
  cases rx;cases y with
  | non=>cases ry;rwa[PySem.EqNone.ne_bool_none (dZ I q ∅)]
  | bl j=>cases ry;rwa[ne_bool (dZ I q (tW not dec_bl))]
  | str j=>let⟨t',rfl⟩:=ry;rwa[PySem.EqMixed.ne_bool_str (dZ I q ∅)]
  | _=>rwa[tR (hs) bK]
 | int i =>
  let⟨t,rfl⟩:=rx;cases y with
  | non=>cases ry;rwa[PySem.EqNone.ne_int_none (dZ I q ∅)]
  | int j=>let⟨t',rfl⟩:=ry;rwa[ne_int (dZ I q (tW not dec_int))]
  | str j=>let⟨t',rfl⟩:=ry;rwa[PySem.EqMixed.ne_int_str (dZ I q ∅)]
  | _=>rwa[tR (hs) bK]
 | str i =>
  let⟨t,rfl⟩:=rx;cases y with
  | non=>cases ry;rwa[PySem.EqNone.ne_str_none (dZ I q ∅)]
  | bl j=>cases ry;rwa[PySem.EqMixed.ne_str_bool (dZ I q ∅)]
  | int j=>let⟨t',rfl⟩:=ry;rwa[PySem.EqMixed.ne_str_int (dZ I q ∅)]
  | str j=>let⟨t',rfl⟩:=ry;rwa[ne_str (dZ I q (tW not dec_str))]
  | _=>rwa[tR (hs) bK]
 | byt i =>
  let⟨t,rfl⟩:=rx;cases y with
  | byt j=>let⟨t',rfl⟩:=ry;rwa[PySem.W.ne_bytes (dZ I q (tW not dec_byt))]
  | _=>rwa[tR (hs) bK]
 | _=>cases y <;> rwa[tR (hs) bK]
theorem op_lt:OpR X (cZ .Lt) (rI0 λi j=>.bl (decide (i<j))):=opB0 λ_ _ _ _ _ _ _ q=>lt_int q
theorem op_le:OpR X (cZ .LtE) (rI0 λi j=>.bl (decide (i<=j))):=opB0 λ_ _ _ _ _ _ _ q=>le_int q
theorem op_gt:OpR X (cZ .Gt) (rI0 λi j=>.bl (decide (j<i))):=opB0 λ_ _ _ _ _ _ _ q=>gt_int q
theorem op_ge:OpR X (cZ .GtE) (rI0 λi j=>.bl (decide (j<=i))):=opB0 λ_ _ _ _ _ _ _ q=>ge_int q
theorem op_in_str:OpR X (cZ .In) (λx y H Q=>∃i j,x= .str i/\y= .str j/\Q (.bl (!(dY j i 0 j.length 1).isEmpty)) H):=by
 left;let⟨i,j,rfl,rfl,q⟩:=h;let⟨t,rfl⟩:=rx;let⟨t',rfl⟩:=ry;rwa[in_str (dZ I q rfl)]
theorem op_isN:OpR X (cZ .Is) (λx y H Q=>y= .non/\Q (.bl (decide (x= .non))) H):=by
 left;let⟨rfl,q⟩:=h;cases ry;rwa[is_none_gen (dZ I q ?_)];cases x <;> first
  | (cases rx;rfl)
  | (let⟨t,rfl⟩:=rx;rfl)
theorem op_notN:OpR X (cZ .IsNot) (λx y H Q=>y= .non/\Q (.bl (!decide (x= .non))) H):=by
 left;let⟨rfl,q⟩:=h;cases ry;rwa[isnot_none_gen (dZ I q ?_)];cases x <;> first
  | (rfl)
  | (let⟨t,rfl⟩:=rx;rfl)
theorem qf (b:Expr)(h:autoParam (op≠ .In) Ωb)(h2:autoParam (op≠ .NotIn) Ωb):behindInMarks op b=false:=by
 have e1:(op == CmpOp.In)=false:=by cases op <;> first | rfl | lia
 have e2:(op == CmpOp.NotIn)=false:=by cases op <;> first | rfl | lia
 cases b <;> simp[behindInMarks,e1,e2]
theorem pe_cmpR {r:R2}(ho:OpR X (cZ op) r)(ha:PE X a ta)(hb:PE X b tb)(hm:behindInMarks op b=false):PE X (.Compare a [op] [b] pos) (tOp r ta tb):=by
 injections;rwa[wpAny_Compare1 (binT ha hb I h λv u s2 x y H2 I2 rx ry q=>ho aN s2 σ H2 x y v u Q I2 rx ry q) hm]
def tTest (t:TE):TT:=λσ H Q=>t σ H λx H'=>IsBl x λk=>Q k H'
theorem lP {r:R2}(ho:OpR X (cZ op) r)(ha:PE X a ta)(hb:PE X b tb)(hm:behindInMarks op b=false):PT X (.Compare a [op] [b] pos) (tTest (tOp r ta tb)):=by
 injections;apply wpAny_isTrue_Compare1 (thn (ha aN s σ H _ I h) fun v s1 ⟨x,H1,I1,r1,q1⟩=>thn (hb aN s1 σ H1 _ I1 q1) fun u s2 ⟨y,H2,I2,r2,q2⟩ =>
  thn (ho aN s2 σ H2 x y v u _ I2 r1 r2 q2) fun c s3 ⟨z,H3,I3,r3,k,e,q3⟩=>?_) hm
 subst e;cases r3;rwa[gg ⟨H3,I3,q3⟩]
def tChain (r r':R2)(ta tb tc:TE):TE:=λσ H Q=>ta σ H λx H1=>tb σ H1 λy H2=>r x y H2 λz H3=>∃k,z= .bl k /\
 (if k=true then tc σ H3 λw' H4=>r' y w' H4 Q else Q (.bl false) H3)
theorem pe_chain {op':CmpOp}{r r':R2}(ho:OpR X (cZ op) r)(ho':OpR X (cZ op') r')(ha:PE X a ta)(hb:PE X b tb)(hc:PE X c tc)
  (hm:lastMarks [op,op'] [b,c]=false:=by with_unfolding_all rfl):PE X (.Compare a [op,op'] [b,c] pos) (tChain r r' ta tb tc):=by
 injections;apply Compare_chain (thn (ha aN s σ H _ I h) fun v s1 ⟨x,H1,I1,r1,q1⟩=>chain_link (thn (hb aN s1 σ H1 _ I1 q1) fun u s2 ⟨y,H2,I2,r2,q2⟩ =>
  thn (ho aN s2 σ H2 x y v u _ I2 r1 r2 q2) fun d s3 ⟨z,H3,I3,r3,k,e,q3⟩=>?_)) hm
 subst e;cases r3;rwa[gg ?_];cases k with
 | false=>rwa[ite_ff ⟨.bl false,H3,I3,rfl,q3⟩]
 | true=>rwa[ite_tt (chain_last (thn (hc aN s3 σ H3 _ I3 q3) λw' s4 ⟨z',H4,I4,r4,q4⟩=>ho' aN s4 σ H4 y z' u w' Q I4 r2 r4 q4))]
def se:(aO:Nat)<2 ^ 63:=by decide
theorem pT:OpR X (gq .Add) (λx y H Q=>∃i j,x= .str i/\y= .str j/\i.length+j.length<=aO/\Q (.str (i++j)) H):=by
 left;let⟨i,j,rfl,rfl,hz,q⟩:=h;let⟨t,rfl⟩:=rx;let⟨t',rfl⟩:=ry;rwa[add_str (λt' tk=>⟨.str (i++j),H,I.tok _,⟨ς⟩,q⟩) hz]
theorem lZ {x:V}(r:fZ [x] us):∃u,us=[u]/\gN x u:=by
 cases r with
 | cons r1 r2=>cases r2;rwa[ς,r1]
theorem vals2 {x:V}(r:fZ [x,y] us):∃u w',us=[u,w']/\gN x u/\gN y w':=by
 cases r with
 | cons r1 r2 =>
  cases r2 with
  | cons r3 r4=>cases r4;rwa[_,ς,r1,r3]
theorem sH (hc:X.calm=true):jy X (.builtin "min") (λxs H Q=>∃i j,xs=[.int i,.int j]/\Q (.int (if j<i then j else i)) H):=by
 norm_cast;let⟨i,j,rfl,q⟩:=h;let⟨u,w',rfl,⟨t,rfl⟩,⟨t',rfl⟩⟩:=vals2 r;rwa[min_two_ints (I.ok.hd hc) λh' tk k=>⟨_,H,I.kept k,?_,q⟩]
 by_cases hj:j<i
 ·rw[tQ hj,tQ hj];exact⟨ς⟩
 ·rw[tP hj,tP hj];exact⟨ς⟩
theorem call_int1:jy X (.type "int") (λxs H Q=>(∃i,xs=[.int i]/\Q (.int i) H)\/∃k,xs=[.bl k]/\Q (.int (if k then 1 else 0)) H):=by
 norm_cast
 rcases h with ⟨i,rfl,q⟩ | ⟨k,rfl,q⟩
 ·let⟨u,rfl,t,rfl⟩:=lZ r
  rwa[call_int_int ⟨.int i,H,I,⟨ς⟩,q⟩]
 ·let⟨u,rfl,r1⟩:=lZ r
  cases r1;rwa[call_int_bool ⟨.int (if k then 1 else 0),H,I.tok _,⟨ς⟩,q⟩]
theorem lI:jy X (.type "str") (λxs H Q=>∃i,xs=[.int i]/\i.natAbs.log2<1920/\Q (.str (kx i)) H):=by
 norm_cast;let⟨i,rfl,hz,q⟩:=h;let⟨u,rfl,t,rfl⟩:=lZ r;rwa[PySem.P.str_of_int hz ⟨.str _,H,I.tok _,⟨ς⟩,q⟩]
end
structure ObjM (h:bI)(x dx C:ai)(mA:Str->zJ):Prop where
 obj:h.get? x=some (gC C dx)
 ns:h.Ns1 dx mA
 ne:dx≠x
theorem lookIn_ns (n:h.Ns1 dx mA):∃od,h.get? dx=some od/\∀name,PySem.W.lookIn name od=some (mA name):=by
 let⟨o,es,ep,ho,hd,hk,_,hm⟩:=n;rwa[o,ho,λname=>?_];have e:=hm name;unfold nsFind findBy at e;rw[<-Array.find?_toList] at e;unfold PySem.W.lookIn;rw[hd]
 dsimp only
 split
 ·cbv
 ·have a:es.toList.any (·.refKey)=false:=by
   rw[iP];intro y hy;let⟨z,t,hkey⟩:=hk y ↥2;simp[DictEntry.refKey,hkey]
  grind
theorem ObjM.look {x:ai}(I:ObjM h x dx C mA):∃od,PySem.W.InstAt h x (gC C dx) C (some od)/\∀name,PySem.W.lookIn name od=some (mA name):=
 let ⟨od,ho,hl⟩:=lookIn_ns I.ns
 ⟨od,⟨I.obj,rfl,rfl,ho⟩,hl⟩
section
variable {x:ai}{v:ae}
theorem get_map {expr:Bool}(X:K.In s.heap)(I:ObjM s.heap x dx C mA)(hg:j9 K C name=true)(hh:PySem.W.hasDictIn K C=true)
  (ha:cJ K (.ref C) name=some none) (hv:mA name=some v) (hv':PySem.W.handedIn v=true) (h:Q v { s with toks:=s.toks+1 }) :
  ‹5› (getAttr (.ref x) name expr) Q E s:=by
 let⟨od,J,hl⟩:=I.look;rwa[PySem.W.get_value X J (PySem.W.plainGet_of hg).1 (PySem.W.findObj_own hh ha rfl (by rw[hl,hv])) hv' h]
theorem get_meth {pl:Sem Bool}{Q:ae×zD->aq->Prop}(X:K.In s.heap)(I:ObjM s.heap x dx C mA)(hg:j9 K C name=true)
  (hf:cJ K (.ref C) name=some (some (.ref f))) (ht:PySem.W.isFn K (.ref f)=true) (hv:mA name=none) (h:Q (.ref f,[.ref x]) s) :
  ‹5› (getMethod (.ref x) name pl) Q E s:=by
 let⟨od,J,hl⟩:=I.look;rwa[PySem.W.method_fn X J (PySem.W.plainGet_of hg).1 (PySem.W.plainGet_of hg).2 hf (beq_iff_eq.mp ht) (by show(PySem.W.lookIn name od).map (·.isSome)=some false;rw[hl,hv];rfl) h]
theorem set_map {ns:List Str}{Q:Unit->aq->Prop}(X:K.In s.heap)(I:ObjM s.heap x dx C mA)
  (hs:cJ K (.ref C) "__setattr__" =some (some (.builtin "object.__setattr__"))) (hp:PySem.W.plainOver K C=true) (ht:PySem.W.takerIn K C name=some none) (hh:PySem.W.hasDictIn K C=true)
  (hw:PySem.Within mA ns) (hsz:ns.length<=aO)
  (h:∀h',ObjM h' x dx C (λy=>if y=name then some v else mA y)->df dx s.heap h'->Q () { s with heap:=h',toks:=s.toks+2 }) :
  ‹5› (setAttr (.ref x) name v) Q E s:=by
 let⟨od,J,hl⟩:=I.look;rwa[PySem.W.set_plain X J hs (PySem.W.osa_open X J hp ht λb=>?_)];let⟨cd,hc,hd'⟩:=PySem.W.any_some hh;have hx :=I.obj;rwa[ak (aP (ak (ak (wpAny_loadPart hx (ak (PySem.W.Looks.here (PySem.W.looks_clsIn X hc) ?_))))))];rw[hd'];rwa[aP (ak (aP (ak ?_)))];rwa[wpAny_nsSet1 I.ns λh' hn2 hs2=>?_]
 let⟨oD,esD,epD,hoD,hdD,hcD⟩:=hn2.count (PySem.Within.cons name v hw);rwa[ak (wpAny_lookBehind hoD (by grind [pastItsLine_dict,aU,bE]) ?_)];rwa[aP (h _ ⟨(hs2.2 _ (cM I.ne)).trans I.obj,hn2,I.ne⟩ hs2)]
theorem make_map (X:K.In s.heap)(hm:PySem.W.makesIn K C=true)
  (hi:cJ K (.ref C) "__init__" =some (some (.ref f))) (hf:PySem.W.typeIn K (.ref f)=some (.type "function"))
  (h:kD (bC prog w) (A.under (.builtin "type.__call__" ⟨.ref C::vs,kw⟩)) (.call (.ref f) ⟨.ref (s.heap.objs.size+1)::vs,kw⟩) (PySem.W.InitBack (s.heap.objs.size+1) R)
   {s with heap:=(s.heap.push eR).push (gC C s.heap.objs.size) }) :
  kD (bC prog w) A (.call (.ref C) ⟨vs,kw⟩) R s:=by
 let⟨hh,g,d,t,os⟩:=s;rwa[PySem.W.make_core (PySem.W.makes_of X hm) (PySem.W.looks_findIn X hi) (λself=>PySem.W.bind_fn X self hf) (.inl rfl) h]
end
noncomputable def oU (f:Str)(v:V):List (Str×V)->List (Str×V)
 | []=>[(f,v)]
 | (g,x)::r=>if g=f then (g,v)::r else (g,x)::oU f v r
theorem rZ (f g:Str)(v:V):∀fs:List (Str×V),(oU f v fs).lookup g=if g=f then some v else fs.lookup g
 | []=>by
  show List.lookup g [(f,v)]=_
  grind
 | (k,x)::r=>by
  have ih:=rZ f g v r;rw[show oU f v ((k,x)::r)=(if k=f then (k,v)::r else (k,x)::oU f v r) from rfl]
  grind
theorem sk (f:Str)(v:V):∀fs:List (Str×V),f∈(oU f v fs).map (·.1)/\∀g,g∈fs.map (·.1)->g∈(oU f v fs).map (·.1)
 | []=>⟨by simp[oU],λg h=>by simp at h⟩
 | (k,x)::r=>by
  let⟨i1,i2⟩:=sk f v r;rw[show oU f v ((k,x)::r)=(if k=f then (k,v)::r else (k,x)::oU f v r) from rfl]
  grind
theorem sf (f:Str)(v:V):∀fs:List (Str×V),(oU f v fs).length<=fs.length+1
 | []=>by simp[oU]
 | (k,x)::r=>by
  have ih:=sf f v r;rw[show oU f v ((k,x)::r)=(if k=f then (k,v)::r else (k,x)::oU f v r) from rfl]
  grind
theorem RelO.some_of {v:V}{o:zJ}(r:RelO (some v) o):∃u,o=some u/\gN v u:=by
 cases o with
 | none=>rwa[(r).elim]
 | some u=>rwa[u,rfl,r]
theorem RelO.none_of {o:zJ}(r:RelO none o):o=none:=by
 cases o with
 | none=>rfl
 | some u=>rwa[(r).elim]
theorem handed_of {v:V}(r:gN v u):PySem.W.handedIn u=true:=by
 cases v with
 | non=>cases(r);rfl
 | bl b=>cases(r);rfl
 | int i=>let⟨t,e⟩:=(r);cases e;rfl
 | str x=>let⟨t,e⟩:=(r);cases e;rfl
 | byt b=>let⟨t,e⟩:=(r);cases e;rfl
 | flt b=>let⟨t,e⟩:=(r);cases e;rfl
 | ref a=>cases(r);rfl
 | ty n=>cases(r);rfl
section
variable {fs fs':List (Str×V)}
theorem ins_get (hok:HOk P w H h)(e:H a=some (.ins C dx fs)):∃mA,ObjM h a dx C mA/\(∀f,RelO (fs.lookup f) (mA f))/\PySem.Within mA (fs.map (·.1))/\fs.length<=1000/\H dx=some (.own a):=by
 let⟨d,z,ne,ob,mA,n,r,q⟩:=(hok a _ e);rwa[mA,⟨ob,n,ne⟩,r,q,z,d]
end
structure Cls (K:ag)(C:ai):Prop where
 pg:j9 K C gP=true
 hd:PySem.W.hasDictIn K C=true
 po:PySem.W.plainOver K C=true
 sa:cJ K (.ref C) "__setattr__" =some (some (.builtin "object.__setattr__"))
theorem Cls.get (c:Cls K C)(f:Str):j9 K C f=true:=c.pg
def pA (K:ag)(C:ai)(f:Str):Prop:=cJ K (.ref C) f=some none
def pA.taker {f:Str}(n:pA K C f):PySem.W.takerIn K C f=some none:=by
 unfold PySem.W.takerIn;rw[n];rfl
structure Meth (K:ag)(C:ai)(m:Str)(f:ai):Prop where
 at_:cJ K (.ref C) m=some (some (.ref f))
 fn:PySem.W.isFn K (.ref f)=true
 kp:dh K (.ref f)=true
section
variable {fs:List (Str×V)}{f:Str}{v:V}
theorem getattr_ok {b:Bool}(I:‹1›)(e:H a=some (.ins C dx fs))(c:Cls X.K C)(n:pA X.K C f)(l:fs.lookup f=some v)
  (h:∀u s',Inv X aN σ H s'->gN v u->Q u s'):bz (bC X.prog X.w) A (getAttr (.ref a) f b) Q E s:=by
 let⟨mA,O,r,_,_,_⟩:=ins_get I.hok e;let⟨u,hu,ru⟩:=RelO.some_of (v:=v) (o:=mA f) ↥1;rwa[get_map I.kIn O (c.get f) c.hd n hu (handed_of ru) (h u _ (I.tok _) ru)]
theorem getmeth_ok {m:Str}{g:ai}{pl:Sem Bool}{Q:ae×zD->aq->Prop}(I:‹1›)(e:H a=some (.ins C dx fs))(c:Cls X.K C)(k:Meth X.K C m g)(l:fs.lookup m=none)
  (h:Q (.ref g,[.ref a]) s):bz (bC X.prog X.w) A (getMethod (.ref a) m pl) Q E s:=by
 let⟨mA,O,r,_,_,_⟩:=ins_get I.hok e;have hn:mA m=none:=RelO.none_of ↥1;rwa[get_meth I.kIn O (c.get m) k.at_ k.fn hn h]
theorem setattr_ok {Q:Unit->aq->Prop}(I:‹1›)(e:H a=some (.ins C dx fs))(c:Cls X.K C)(n:pA X.K C f)(hl:fs.length<1000)(ry:gN y u)
  (h:∀s',Inv X aN σ (upd H a (.ins C dx (oU f y fs))) s'->Q () s'):bz (bC X.prog X.w) A (setAttr (.ref a) f u) Q E s:=by
 let⟨mA,O,r,wi,_,ho⟩:=ins_get I.hok e;have hz:(fs.map (·.1)).length<=aO:=by rw[aa,cT];lia
 rwa[set_map I.kIn O c.sa c.po n.taker c.hd wi hz λh' O' sb=>h _ ?_]
 have hd:∃o,h'.get? dx=some o:=let ⟨o,_,_,e',_⟩:=O'.ns;⟨o,e'⟩;rwa[I.write (by rw[e];exact True.intro) (.inr ho) (λb q hb z=>(sb.2 b hb).trans z) hd ?_];rwa[by rw[bw O.ne];rwa[ho],?_,O.ne,O'.obj,_,O'.ns,λg=>?_,λg hg=>?_]
 ·have:=sf f y fs;lia
 ·rw[rZ]
  by_cases q:g=f
  ·rw[tQ q,tQ q];rwa[ry]
  cbv
 ·by_cases q:g=f
  ·grind [sk]
  ·apply(sk f y fs).2 g (wi g λz=>hg ?_)
   cbv
theorem Inv.made (I:‹1›):Inv X aN σ (upd (upd H s.heap.objs.size (.own (s.heap.objs.size+1))) (s.heap.objs.size+1) (.ins C s.heap.objs.size []))
  {s with heap:=(s.heap.push eR).push (gC C s.heap.objs.size) }:=by
 have e1:(s.heap.push eR).get? s.heap.objs.size=some eR:=aR s.heap rfl;have e2:((s.heap.push eR).push (gC C s.heap.objs.size)).get? (s.heap.objs.size+1)=some (gC C s.heap.objs.size):=by
  have:=aR (s.heap.push eR) (o:=gC C s.heap.objs.size) rfl
  rw[fc] at this;rwa[this]
 have e3:(s.heap.push eR).Ns s.heap.objs.size (λ_=>none):=⟨eR,#[],_,e1,rfl,(λe he=>tR he ∅),λ_=>rfl⟩;have I1:=I.laid (a:=s.heap.objs.size) (o:=.own (s.heap.objs.size+1)) (h':=s.heap.push eR) (t':=s.toks) (λb u q=>ao _ q) (ay _) ⟨_,e1⟩;rwa[I1.laid (a:=s.heap.objs.size+1) (o:=.ins C s.heap.objs.size []) (t':=s.toks) (λb u q=>ao _ q) (kb (fc _ _)) ?_];have ne:s.heap.objs.size≠s.heap.objs.size+1:=bP (Nat.lt_succ_self _);rwa[by rw[bw ne,aJ],bq _,ne,e2,λ_=>none,(bI.Ns1.of_empty e3).at λo q=>ao _ q,λ_=>True.intro,λy hy=>tR rfl hy]
theorem attr_of {f:Str}(hb:attributeBase e f env (eO e env)=eO e env)
  (h:‹5› (eO e env) (λo s₁=>‹5› (getAttr o f true) Q E s₁) E s):‹5› (eO (.Attribute e f pos) env) Q E s:=
 Attribute_any_ h (by rw[arm_eval_Attribute,hb])
end
def tFld (K:ag)(ta:TE)(f:Str):TE:=λσ H Q=>ta σ H λx H1=>∃a C dx fs v,x= .ref a/\H1 a=some (.ins C dx fs)/\Cls K C/\pA K C f/\fs.lookup f=some v/\Q v H1
def sFld (K:ag)(ta tv:TE)(f:Str):TS:=λD σ H=>tv σ H λy H1=>ta σ H1 λx H2=>∃a C dx fs,x= .ref a/\H2 a=some (.ins C dx fs)/\Cls K C/\pA K C f/\fs.length<1000 /\
 D.nx σ (upd H2 a (.ins C dx (oU f y fs)))
section
variable {o:Expr}{f:Str}{tv:TE}
theorem pe_fld (he:PE X e ta)(hb:attributeBase e f X.env (eO e X.env)=eO e X.env):PE X (.Attribute e f pos) (tFld X.K ta f):=by
 injections;rwa[attr_of hb (thn (he aN s σ H _ I h) λu s1 hz0=>?_)];let⟨x,H1,I1,rx,a,C,dx,fs,v,ex,ea,c,n,l,q⟩:=hz0;subst ex;obtain rfl:u=ae.ref a:=rx;rwa[getattr_ok I1 ea c n l λu' s2 I2 ru=>⟨v,H1,I2,ru,q⟩]
theorem ps_fld (ha:PE X o ta)(hv:PE X value tv)(hs:swapsWith value (some (.Attribute o f pos')) pos.line X.env=gv false):PS X (.Assign [.Attribute o f pos'] value pos) (sFld X.K ta tv f):=by
 intro aN s σ H D I h;rwa[plainObj_wpAny_Assign_Attribute (thn (hv aN s σ H _ I h) λu s1 ⟨y,H1,I1,ry,q⟩=>thn (ha aN s1 σ H1 _ I1 q) λov s2 hz0=>?_) hs];let⟨x,H2,I2,rx,a,C,dx,fs,ex,ea,c,n,l,q2⟩:=hz0;subst ex;obtain rfl:ov=ae.ref a:=rx;rwa[setattr_ok I2 ea c n l ry λs3 I3=>⟨σ,_,I3,q2⟩]
end
section
variable {c:ae}{b:Bool}
inductive TyOf (K:ag)(H:Hp):V->ae->Prop where
 | non:TyOf K H .non (.type "NoneType")
 | bl (x:Bool):TyOf K H (.bl x) (.type "bool")
 | int (i:Int):TyOf K H (.int i) (.type "int")
 | str (x:Str):TyOf K H (.str x) (.type "str")
 | flt (x:UInt64):TyOf K H (.flt x) (.type "float")
 | lst {a:ai} {xs:zA} (e:H a=some (.lst xs)):TyOf K H (.ref a) (.type "list")
 | frz {a:ai} {o:Obj} {xs:zA} (e:H a=some (.frz o (.lst xs))):TyOf K H (.ref a) (.type "list")
 | tup {a:ai} {xs:zA} (e:H a=some (.tup xs)):TyOf K H (.ref a) (.type "tuple")
 | dK {a:ai} {kvs:za} (e:H a=some (.dK kvs)):TyOf K H (.ref a) (.type "dict")
 | dT {a:ai} {kvs:List (List Key×V)} (e:H a=some (.dT kvs)):TyOf K H (.ref a) (.type "dict")
 | ins {a C dx:ai} {fs:List (Str×V)} (e:H a=some (.ins C dx fs)) (cl:Cls K C) (ha:cJ K (.ref C) "__class__" =some (some (.builtin "object.__class__")))
   (hn:PySem.W.specialIn K (.builtin "object.__class__") "__get__" =some (some (.builtin "getset_descriptor.__get__"))) (htk:PySem.W.takesIn K (.builtin "object.__class__")=some true)
   (hm:PySem.W.mroIn K C (.type "object")=some true):TyOf K H (.ref a) (.ref C)
theorem isinst_ok {x:V}{t:ae}(I:‹1›)(rx:gN x u)(ty:TyOf X.K H x t)(e:jL X.K t c=some b)(h:∀tk,Q (.bool b) { s with toks:=tk }) :
  bz (bC X.prog X.w) A (call (.builtin "isinstance") [u,c]) Q E s:=by
 cases ty with
 | non=>cases(show u=ae.none from rx);rwa[dW PySem.W.kitx_none I.kIn True.intro e (λz=>nomatch z) h]
 | bl y=>cases(show u=ae.bool y from rx);rwa[dW PySem.W.kitx_bool I.kIn True.intro e (λz=>nomatch z) h]
 | int i=>let⟨t,q⟩:=(show ∃t,u=ae.int i t from rx);cases q;rwa[dW PySem.W.kitx_int I.kIn True.intro e (λz=>nomatch z) h]
 | str y=>let⟨t,q⟩:=(show ∃t,u=ae.str y t from rx);cases q;rwa[dW PySem.W.kitx_str I.kIn True.intro e (λz=>nomatch z) h]
 | flt y=>let⟨t,q⟩:=(show ∃t,u=ae.float y t from rx);cases q;rwa[dW PySem.W.kitx_float I.kIn True.intro e (λz=>nomatch z) h]
 | @lst a xs ea =>
  cases(show u=ae.ref a from rx);let⟨_,_,n,_,h1⟩:=(show km X.prog X.w H s.heap a (.lst xs) from I.hok a _ ea);rwa[dW PySem.W.kitx_list I.kIn ⟨_,h1,rfl⟩ e (λz=>nomatch z) h]
 | @frz a ob xs ea =>
  cases(show u=ae.ref a from rx);let⟨_,_,_,n,_,h1⟩:=(show km X.prog X.w H s.heap a (.frz ob (.lst xs)) from I.hok a _ ea);rwa[dW PySem.W.kitx_list I.kIn ⟨_,h1,rfl⟩ e (λz=>nomatch z) h]
 | @tup a xs ea =>
  cases(show u=ae.ref a from rx);let⟨_,_,_,p⟩:=(show km X.prog X.w H s.heap a (.tup xs) from I.hok a _ ea);let⟨o,h1,h2,_⟩:=p;rwa[dW PySem.W.kitx_tuple I.kIn ⟨o,h1,h2⟩ e (λz=>nomatch z) h]
 | @dK a kvs ea =>
  cases(show u=ae.ref a from rx);let⟨_,_,vs,_,p⟩:=(show km X.prog X.w H s.heap a (.dK kvs) from I.hok a _ ea);let⟨o,es,ep,h1,h2,_⟩:=p;rwa[dW PySem.W.kitx_dict I.kIn ⟨o,h1,h2.1⟩ e (λz=>nomatch z) h]
 | @dT a kvs ea =>
  cases(show u=ae.ref a from rx);let⟨_,_,xs,_,o,es,ep,h1,h2,_⟩:=(show km X.prog X.w H s.heap a (.dT kvs) from I.hok a _ ea);rwa[dW PySem.W.kitx_dict I.kIn ⟨o,h1,h2.1⟩ e (λz=>nomatch z) h]
 | @ins a C dx fs ea cl ha hn htk hm =>
  cases(show u=ae.ref a from rx);let⟨mA,O,_⟩:=ins_get I.hok ea;let⟨od,J,_⟩:=O.look;rwa[dW (PySem.W.kitx_own (cl.get _) cl.hd ha hn htk hm) I.kIn J e (λz=>nomatch z) h]
end
structure kX (k:Nat)(A:bT):Prop where
 hd:A.handled=none
 dp:A.depth+3 * k+5<recursionLimit
 un:A.units+16 * k+200<cLine
theorem kX.mono {k:Nat}(r:kX k A)(h:j<=k):kX j A:=⟨r.hd,by have:=r.dp;lia,by have:=r.un;lia⟩
theorem kX.deeper {k:Nat}(r:kX (k+1) A)(env:Env):kX k (A.deeper env):=
 ⟨r.hd,by have:=r.dp;show A.depth+1+3 * k+5<_;lia,by have:=r.un;show A.units+3+16 * k+200<_;lia⟩
theorem kX.in1 {k:Nat}(r:kX (k+1) A):kX k A.in1:=
 ⟨r.hd,by have:=r.dp;lia,by have:=r.un;lia⟩
theorem make_depth:(A.under (.builtin "type.__call__" ⟨.ref C::us,kw⟩)).depth=A.depth+1:=by
 first | rfl | simp[bT.under,Code.weight,Code.isCreation,Code.isGuard,Code.isCaller,Code.frames,Code.isFrame,guardIds]
theorem make_units:(A.under (.builtin "type.__call__" ⟨.ref C::us,kw⟩)).units=A.units+1:=by
 first | rfl | simp[bT.under,Code.cUnits,Code.frames,Code.isFrame]
theorem kX.make {k:Nat}(r:kX (k+1) A)(C:ai)(us:zD)(kw:List (Str×ae)):kX k (A.under (.builtin "type.__call__" ⟨.ref C::us,kw⟩)):=
 ⟨r.hd,by have:=r.dp;rw[make_depth];lia,by have:=r.un;rw[make_units];lia⟩
theorem kX.depth {k:Nat}(r:kX k A):A.depth<recursionLimit:=by have:=r.dp;lia
theorem kX.units {k:Nat}(r:kX k A):A.units+64<cLine:=by have:=r.un;lia
theorem kX.units0 {k:Nat}(r:kX k A):A.units<cLine:=by have:=r.un;lia
def tNil:TA:=λ_ H Q=>Q [] H
def om (ta:TE)(tr:TA):TA:=λσ H Q=>ta σ H λx H1=>tr σ H1 λxs H2=>Q (x::xs) H2
theorem b9:PA X [] tNil:=λ_ _ _ _ H Q I h=>Calls.spliced_nil ⟨[],H,I,.nil,h⟩
theorem aV (ha:PE X e te)(hr:PA X es t)(hs:autoParam (bF (e::es) X.env=(false,eO e X.env)::bF es X.env) Ωa):PA X (e::es) (om te t):=by
 intro pos aN s σ H Q I h;rw[hs];rwa[Calls.spliced_cons (thn (ha aN s σ H _ I h) λu s1 hz0=>?_)];let⟨x,H1,I1,r1,q1⟩:=hz0;rwa[thn (hr pos aN s1 σ H1 _ I1 q1) λus s2 ⟨xs,H2,I2,r2,q2⟩=>⟨x::xs,H2,I2,.cons r1 r2,q2⟩]
def tTup (t:TA):TE:=λσ H Q=>t σ H λxs H1=>xs.length<=aO/\∀p,H1 p=none->Q (.ref p) (upd H1 p (.tup xs))
def tLst (t:TA):TE:=λσ H Q=>t σ H λxs H1=>xs.length<=aO/\∀p,H1 p=none->Q (.ref p) (upd H1 p (.lst xs))
theorem pe_tup {x1}(h:PA X es t):PE X (.Tuple es x1 pos) (tTup t):=by
 intro aN s σ H Q I hq;rwa[wpAny_Tuple_spliced (thn (h pos aN s σ H _ I hq) λus s1 ⟨xs,H1,I1,r,z,q⟩=>⟨by rw[<-r.length];exact z,?_⟩)];have hf :=I1.hok.fresh (ay _);rwa[.ref s1.heap.objs.size,upd H1 s1.heap.objs.size (.tup xs),I1.laid (λb u e=>ao _ e) (ay _) ?_,rfl,q _ hf];rwa[z,us,r,⟨_,aR _ rfl,rfl,rfl,ς⟩]
theorem pe_lst (h:PA X es t):PE X (.List es pos) (tLst t):=by
 intro aN s σ H Q I hq;rwa[wpAny_List_spliced (thn (h pos aN s σ H _ I hq) λus s1 ⟨xs,H1,I1,r,z,q⟩=>⟨by rw[<-r.length];exact z,?_⟩)];have hf :=I1.hok.fresh (ay _);rwa[.ref s1.heap.objs.size,upd H1 s1.heap.objs.size (.lst xs),I1.laid (λb u e=>ao _ e) (ay _) ?_,rfl,q _ hf];rwa[z,us,0,r,aR _ rfl]
abbrev Sp:=zA->Hp->VK->XK->Prop
abbrev CXT:=List Env->Hp->aq->XK->ae->aq->Prop
structure Env0 (P:aL)(w:bp)(K:ag)(mg:Str->zJ)(base:bI)(A:bT)(outer:List Env)(s:aq)(H:Hp):Prop where
 frames:A.frames=some outer
 mod:Mod K mg base
 bs:∀b o,base.get? b=some o->s.heap.get? b=some o/\H b=none
 bsz:base.objs.size<=s.heap.objs.size
 funs:s.heap.FunFrames base outer
 frf:∀b∈frs outer,H b=none
 hok:HOk P w H s.heap
 bare:AllBare s.gens
def CE (outer:List Env)(P:aL)(w:bp)(H:Hp)(s:aq)(Q:VK)(u:ae)(s':aq):Prop:=
 ∃v H',s'.os=s.os/\AllBare s'.gens/\Un (frs outer) [] H H' s.heap s'.heap/\HOk P w H' s'.heap/\gN v u/\Q v H'
def CR (CX:CXT)(outer:List Env)(P:aL)(w:bp)(H:Hp)(s:aq)(Q:VK)(E:XK)(r:Result)(s':aq):Prop:=
 match r with
 | .ok (.ret u)=>CE outer P w H s Q u s'
 | .ok _=>False
 | .error e=>CX outer H s E e s'
structure bX (P:aL)(w:bp)(K:ag)(mg:Str->zJ)(base:bI)(CX:CXT)(k:Nat)(f:ai)(fd:aM)(ps:List Str)(sp:Sp):Prop where
 len:∀vs H Q E,sp vs H Q E->vs.length=ps.length
 run:∀(A:bT) (outer:List Env) (s:aq) (H:Hp) (args:Args) (us:zD) (vs:zA) (Q:VK) (E:XK),kX k A->Env0 P w K mg base A outer s H->BindsTo s fd args (ps.zip us)->fZ vs us->sp vs H Q E ->
  kD (bC P w) A (.call (.ref f) args) (CR CX outer P w H s Q E) s
theorem Env0.make (e:Env0 P w K mg base A outer s H)(C:ai)(us:zD)(kw:List (Str×ae)) :
  Env0 P w K mg base (A.under (.builtin "type.__call__" ⟨.ref C::us,kw⟩)) outer s H:=⟨by first | rwa[e.frames]| (simpa [bT.under,Code.envs,Code.isFrame,pushEnvs] using e.frames),e.mod,e.bs,e.bsz,e.funs,e.frf,e.hok,e.bare⟩
def Inv.env0 (I:‹1›):Env0 X.prog X.w X.K X.mg X.base X.A X.stack s H:=
 ⟨I.ok.frames,I.ok.mod,I.bs,aU I.ok.bsz I.sz,I.stack,I.stkFree,I.hok,I.bare⟩
theorem Inv.after {Q:VK}(I:‹1›)(h:CE X.stack X.prog X.w H s Q u s'):EP X aN σ Q u s':=by
 let⟨v,H',os,bare,un,hok,r,q⟩:=h;let⟨hh,g,d,t,os'⟩:=s';obtain rfl:os'=s.os:=os;rwa[v,H',I.call (h':=hh) (g':=g) (d':=d) (t':=t) (ch:=[]) un hok bare (λb z=>tR z ∅),r,q]
def tCall (sp:Sp)(dvs:zA)(E:XK)(t:TA):TE:=λσ H Q=>t σ H λvs H1=>sp (vs++dvs) H1 Q E
def tMeth (C:ai)(m:Str)(sp:Sp)(dvs:zA)(E:XK)(ta:TE)(t:TA):TE:=λσ H Q=>ta σ H λx H1=>∃a dx fs,x= .ref a/\H1 a=some (.ins C dx fs)/\fs.lookup m=none /\
 t σ H1 λvs H2=>sp (x::(vs++dvs)) H2 Q E
def tMake (C:ai)(sp:Sp)(dvs:zA)(E:XK)(t:TA):TE:=λσ H Q=>t σ H λvs H1=>∀x dx,H1 x=none->H1 dx=none->dx≠x ->
 sp (.ref x::(vs++dvs)) (upd (upd H1 dx (.own x)) x (.ins C dx [])) (λv H2=>v= .non/\Q (.ref x) H2) E
def pE (K:ag)(fd:aM)(ps:List Str)(ds:zD):Prop:=
 ∀(s:aq) (us:zD),K.In s.heap->(us++ds).length=ps.length->BindsTo s fd ⟨us,[]⟩ (ps.zip (us++ds))
theorem pE.all (h:∀us:zD,us.length=ps.length->bindArgs fd ⟨us,[]⟩=gv (ps.zip us)):pE K fd ps []:=λs us _ hl=>by
 rw[fk] at hl ⊢;rwa[.of_eq (h us hl)]
def sN (CX:CXT)(X:Cx)(E:XK):Prop:=∀(aN:List (ai×Obj)) (σ:St) (H:Hp) (s:aq) (e:ae) (s':aq),‹1›->CX X.stack H s E e s'->X.xe e s'
section
variable {CX:CXT}{k:Nat}{sp:Sp}{dvs:zA}{ds:zD}{E:XK}{m:Str}{p:Pos}{o:Expr}
theorem run_fn {Q:VK}{vs:zA}(F:bX X.prog X.w X.K X.mg X.base CX k f fd ps sp)(hr:kX k X.A)(hb:pE X.K fd ps ds)(hd:fZ dvs ds)(hx:sN CX X E)
  (I:‹1›) (r:fZ vs us) (h:sp (vs++dvs) H Q E):‹2› (call (.ref f) us) (EP X aN σ Q) X.xe s:=by
 have r2:fZ (vs++dvs) (us++ds):=r.append hd;have hl:(us++ds).length=ps.length:=by rw[<-r2.length];rwa[F.len _ _ _ _ h]
 rwa[wpAny_call (codeAny_mono (F.run X.A X.stack s H ⟨us,[]⟩ (us++ds) (vs++dvs) Q E hr I.env0 (hb s us I.kIn hl) r2 h) λr s' hq=>?_)];cases r with
 | error e=>rwa[hx aN σ H s e s' I hq]
 | ok fl =>
  cases fl with
  | ret u=>rwa[I.after hq]
  | next=>rwa[cR hq]
  | brk=>rwa[cR hq]
  | cont=>rwa[cR hq]
theorem pe_call (F:bX X.prog X.w X.K X.mg X.base CX k f fd ps sp)(hr:kX k X.A)(hg:Gl X x)(hm:X.mg x=some (.ref f))(hk:dh X.K (.ref f)=true)(hb:pE X.K fd ps ds)(hd:fZ dvs ds)(hx:sN CX X E)
  (ha:PA X (e::es) t) (hdb:autoParam ((x == ("__debug__" :Str))=false) Ωb) (he:autoParam (bF (e::es) X.env=(false,eO e X.env)::bF es X.env) Ωa) (hpl:autoParam ((gw pos (bF es X.env)).any (·.1)=false) Ωa) :
  PE X (.Call (.Name x p) (e::es) [] pos) (tCall sp dvs E t):=by
 injections;rwa[eP (sh I hg hm ?_ hdb)];rwa[k7 (h₀:=X.base) I.ok.mod.kin hk (thn (ha pos aN s σ H _ I h) λus s1 hz0=>?_) he hpl];let⟨vs,H1,I1,r,q⟩:=hz0;rwa[I1.kIn,?_];rwa[run_fn F hr hb hd hx I1 r q]
theorem pe_call0 (F:bX X.prog X.w X.K X.mg X.base CX k f fd ps sp)(hr:kX k X.A)(hg:Gl X x)(hm:X.mg x=some (.ref f))(hk:dh X.K (.ref f)=true)(hb:pE X.K fd ps ds)(hd:fZ dvs ds)(hx:sN CX X E)
  (hdb:autoParam ((x == ("__debug__" :Str))=false) Ωb):PE X (.Call (.Name x p) [] [] pos) (tCall sp dvs E tNil):=by
 injections;rwa[eP (sh I hg hm ?_ hdb)];rwa[PySem.W.callWith_K0 I.kIn hk (run_fn F hr hb hd hx I .nil h)]
theorem pe_meth {pl:Sem Bool}(he:PE X o ta)(c:Cls X.K C)(hm:Meth X.K C m f)(F:bX X.prog X.w X.K X.mg X.base CX k f fd ps sp)(hr:kX k X.A)(hb:pE X.K fd ps ds)(hd:fZ dvs ds)(hx:sN CX X E)(ha:PA X (e::es) t)
  (hst:autoParam (bF (e::es) X.env=(false,eO e X.env)::bF es X.env) Ωa) (hpl:autoParam ((gw pos (bF es X.env)).any (·.1)=false) Ωa)
  (ht:autoParam (eO (.Call (.Attribute o m apos) (e::es) [] pos) X.env=(do
   let ov <- eO o X.env
   standAt apos.atName
   let (f,first) <- holding [ov] (getMethod ov m pl)
   callWith pos f first (gw pos (bF (e::es) X.env)) (backToKw pos (keywordEach [] X.env)))) Ωa) :
  PE X (.Call (.Attribute o m apos) (e::es) [] pos) (tMeth C m sp dvs E ta t):=by
 injections;rwa[PySem.W.methodCall_KW (pl:=pl) (thn (he aN s σ H _ I h) λu s1 hz0=>?_) ht];let⟨x,H1,I1,rx,a,dx,fs,ex,ea,l,q⟩:=hz0;subst ex;obtain rfl:u=ae.ref a:=rx;rwa[getmeth_ok I1 ea c hm l ?_];rwa[k7 (first:=[.ref a]) (h₀:=X.base) I.ok.mod.kin hm.kp (thn (ha pos aN s1 σ H1 _ I1 q) λus s2 hz0=>?_) hst hpl];let⟨vs,H2,I2,r,q2⟩:=hz0;rwa[I2.kIn,?_];rwa[run_fn (us:=.ref a::us) (vs:=.ref a::vs) F hr hb hd hx I2 (.cons rfl r) q2]
structure Mk (K:ag)(C f:ai):Prop where
 makes:PySem.W.makesIn K C=true
 init:cJ K (.ref C) "__init__" =some (some (.ref f))
 fn:PySem.W.isFn K (.ref f)=true
 kp:dh K (.ref C)=true
theorem run_make {Q:VK}{vs:zA}(M:Mk X.K C f)(F:bX X.prog X.w X.K X.mg X.base CX k f fd ps sp)(hr:kX (k+1) X.A)(hb:pE X.K fd ps ds)(hd:fZ dvs ds)
  (hx:sN CX X E) (I:‹1›) (r:fZ vs us)
  (h:∀x dx,H x=none->H dx=none->dx≠x->sp (.ref x::(vs++dvs)) (upd (upd H dx (.own x)) x (.ins C dx [])) (λv H2=>v= .non/\Q (.ref x) H2) E) :
  ‹2› (call (.ref C) us) (EP X aN σ Q) X.xe s:=by
 have hq:=h (s.heap.objs.size+1) s.heap.objs.size (I.hok.fresh (jP _)) (I.hok.fresh (ay _)) ↥2;have I2:=Inv.made (C:=C) I;have r2:fZ (V.ref (s.heap.objs.size+1)::(vs++dvs)) (ae.ref (s.heap.objs.size+1)::(us++ds)):=.cons rfl (r.append hd);have hl:(ae.ref (s.heap.objs.size+1)::us++ds).length=ps.length:=by
  have e:=r2.length;rw[F.len _ _ _ _ hq] at e;rwa[e.symm]
 apply wpAny_call (make_map I.kIn M.makes M.init (beq_iff_eq.mp M.fn) (codeAny_mono (F.run _ X.stack _ _ ⟨ae.ref (s.heap.objs.size+1)::us,[]⟩ (ae.ref (s.heap.objs.size+1)::(us++ds)) _ _ E (hr.make C us [])
  (I2.env0.make C us []) (hb _ (ae.ref (s.heap.objs.size+1)::us) I2.kIn hl) r2 hq) fun r s' hq'=>?_))
 cases r with
 | error e=>rwa[hx aN σ _ _ e s' I2 hq']
 | ok fl =>
  cases fl with
  | ret u =>
   let⟨v,H',I3,rv,ev,q3⟩:=I2.after hq';subst ev;rwa[rv,⟨V.ref (s.heap.objs.size+1),H',I3,rfl,q3⟩]
  | next=>rwa[cR hq']
  | brk=>rwa[cR hq']
  | cont=>rwa[cR hq']
theorem pe_make (M:Mk X.K C f)(F:bX X.prog X.w X.K X.mg X.base CX k f fd ps sp)(hr:kX (k+1) X.A)(hg:Gl X x)(hm:X.mg x=some (.ref C))(hb:pE X.K fd ps ds)(hd:fZ dvs ds)(hx:sN CX X E)
  (ha:PA X (e::es) t) (hdb:autoParam ((x == ("__debug__" :Str))=false) Ωb) (he:autoParam (bF (e::es) X.env=(false,eO e X.env)::bF es X.env) Ωa) (hpl:autoParam ((gw pos (bF es X.env)).any (·.1)=false) Ωa) :
  PE X (.Call (.Name x p) (e::es) [] pos) (tMake C sp dvs E t):=by
 injections;rwa[eP (sh I hg hm ?_ hdb)];rwa[k7 (h₀:=X.base) I.ok.mod.kin M.kp (thn (ha pos aN s σ H _ I h) λus s1 hz0=>?_) he hpl];let⟨vs,H1,I1,r,q⟩:=hz0;rwa[I1.kIn,?_];rwa[run_make M F hr hb hd hx I1 r q]
end
structure bH (N P:List Str)(sc:ft):Prop where
 kind:sc.kind= .function
 co:sc.isCoroutine=false
 gen:sc.isGenerator=false
 nd:N.Nodup
 pre:N.take P.length=P
 par:∀x∈P,sc.names.lookup x=some .local\/sc.names.lookup x=some .cell
 nofree:∀y∈sc.names,y.2≠ .free
theorem bindL_out {kindOf:Str->Option fY}{x:Str}:∀{binds:List (Str×ae)} {m:Str->zJ},(∀v,(x,v) ∉ binds)->bindL kindOf binds m x=m x
 | [],_,_=>rfl
 | (n,v)::r,m,h=>by
  unfold bindL;rw[bindL_out ↥1];split
  ·grind
  ·rfl
theorem bindC_out {kindOf:Str->Option fY}{x:Str}:∀{binds:List (Str×ae)} {m:Str->zJ},(∀v,(x,v) ∉ binds)->bindC kindOf binds m x=m x
 | [],_,_=>rfl
 | (n,v)::r,m,h=>by
  unfold bindC;rw[bindC_out ↥1];split
  ·rfl
  grind
theorem bindL_get {kindOf:Str->Option fY}{x:Str}{v:ae}:∀{P:List Str} {vs:zD} {i:Nat} {m:Str->zJ},P.Nodup->P[i]? =some x->vs[i]? =some v->kindOf x=some .local ->
  bindL kindOf (P.zip vs) m x=some v
 | [],_,_,_,_,h,_,_=>by simp at h
 | _::_,[],_,_,_,_,h,_=>by simp at h
 | p::P,w::vs,0,m,nd,h1,h2,hk=>by
  simp at h1 h2;subst h1;subst h2;show bindL kindOf ((p,w)::P.zip vs) m p=_;unfold bindL;rw[bindL_out λv hv=>(cy.mp nd).1 (List.of_mem_zip hv).1,tQ hk];simp
 | p::P,w::vs,i+1,m,nd,h1,h2,hk=>by
  unfold bindL;rwa[bindL_get ↥2 (by simpa using h1) (by simpa using h2) hk]
theorem bindC_get {kindOf:Str->Option fY}{x:Str}{v:ae}:∀{P:List Str} {vs:zD} {i:Nat} {m:Str->zJ},P.Nodup->P[i]? =some x->vs[i]? =some v->kindOf x≠some .local ->
  bindC kindOf (P.zip vs) m x=some v
 | [],_,_,_,_,h,_,_=>by simp at h
 | _::_,[],_,_,_,_,h,_=>by simp at h
 | p::P,w::vs,0,m,nd,h1,h2,hk=>by
  simp at h1 h2;subst h1;subst h2;show bindC kindOf ((p,w)::P.zip vs) m p=_;unfold bindC;rw[bindC_out λv hv=>(cy.mp nd).1 (List.of_mem_zip hv).1,tP hk];simp
 | p::P,w::vs,i+1,m,nd,h1,h2,hk=>by
  unfold bindC;rwa[bindC_get ↥2 (by simpa using h1) (by simpa using h2) hk]
noncomputable def start (N:List Str)(vs:zA):St:=vs.map some++bB (N.length - vs.length) none
noncomputable def cxOf (CX:CXT)(P:aL)(w:bp)(K:ag)(mg:Str->zJ)(base:bI)(N:List Str)(qual:Str)(scope:ft)(f:ai)(cd:ae)(A:bT)(outer:List Env)(s:aq)(H:Hp)(E:XK):Cx where
 prog:=P
 w:=w
 K:=K
 mg:=mg
 base:=base
 A:=A.deeper (envOfC qual scope s.heap.objs.size f cd)
 N:=N
 s₀:=s
 H₀:=H
 env:=envOfC qual scope s.heap.objs.size f cd
 outer:=outer
 stack:=envOfC qual scope s.heap.objs.size f cd::outer
 ex:=[]
 calm:=true
 fn:=λ_=>true
 pn:=[]
 xe:=λe s'=>bz (bC P w) (A.deeper (envOfC qual scope s.heap.objs.size f cd)) (leaving (envOfC qual scope s.heap.objs.size f cd) e) (λ_ s''=>CX outer H s E e s'') (λe' s''=>CX outer H s E e' s'') s'
theorem cell_has {n:Nat}(h:sc.names.lookup x=some .cell):∃c,(cellsFrom n sc.names []).lookup x=some c:=by
 have q:=PySem.W.cellsFrom_some sc.names n [] (.inl h);rwa[Option.isSome_iff_exists.mp q]
theorem inv_start {CX:CXT}{s1:aq}{E:XK}{vs:zA}
  (S:bH N ps scope) (hd:A.handled=none) (e0:Env0 P w K mg base A outer s H) (hl:vs.length=ps.length) (r:fZ vs us)
  (x:InCallC s s.heap.objs.size (bindL (envOfC qual scope s.heap.objs.size f cd).kindOf (ps.zip us) λ_=>none) (cellsFrom (s.heap.objs.size+1) scope.names []) (bindC (envOfC qual scope s.heap.objs.size f cd).kindOf (ps.zip us) λ_=>none) s1) :
  Inv (cxOf CX P w K mg base N qual scope f cd A outer s H E) [] (start N vs) H s1:=by
 have hpl:ps.length<=N.length:=by have:=tW kH S.pre;grind
 let⟨h1,tk,rfl,hk⟩:=x.done;have noA:∀b:ai,b ∉ (cxOf CX P w K mg base N qual scope f cd A outer s H E).ex:=λb z=>tR (show b∈([]) from z) ∅
 apply ⟨⟨e0.mod,S.kind,rfl,rfl,ay _,fun y z c h1 h2=>?_,fun y hy=>?_,fun y c _ h=>?_,fun _=>hd,bT.frames_deeper e0.frames,.inr ⟨rfl,rfl⟩,↥2,e0.bs,e0.bsz,fun b _ _=>noA b,↥2,e0.funs,e0.frf⟩,
  rfl,e0.bare,Un.kept hk,⟨_,x.toInCall.ns,fun i y v h1 h2 h3=>?_⟩,fun y c h=>⟨_,x.cell y c h⟩,e0.hok.fresh (ay _),fun y c h=>?_,fun p hp=>tR (show p∈([]) from hp) ∅,e0.hok.kept hk,?_⟩
 ·rwa[name_of_addr x.apart (cx h1) (cx h2)]
 ·rcases hy with hy | hy
  ·rwa[cell_has hy]
  ·rwa[tR rfl (S.nofree _ (cx hy))]
 ·rwa[Nat.le_of_lt (x.above y c (cx h))]
 ·have hi:i<vs.length:=by
   grind [start,bU,List.getElem?_replicate]
  have ha:vs[i]? =some v:=by
   grind [start,fu,av]
  let⟨u,hu,rv⟩:=r.get ha;have hp:ps[i]? =some y:=by
   rw[<-S.pre,List.getElem?_take_of_lt ↥2];rwa[h1]
  have ndP:ps.Nodup:=by rw[<-S.pre];rwa[S.nd.sublist (List.take_sublist _ _)]
  rwa[u,rv,?_]
  rcases S.par y (aZ hp) with k | k
  ·rwa[.inl ⟨k,bindL_get ndP hp hu k⟩]
  ·let⟨c,e⟩:=cell_has k
   rwa[.inr ⟨.inl k,c,e,?_⟩];have q:=x.cell y c e;rw[bindC_get ndP hp hu (by show scope.names.lookup y≠_;cbv)] at q;rwa[q]
 ·rwa[e0.hok.fresh (Nat.le_of_lt (x.above y c (cx h)))]
 ·unfold start
  show _=N.length
  cbv
theorem fn_of {CX:CXT}{k:Nat}{body:List bY}{dV kV doc pm cdv ct oc:ae}{an od:Option ai}
  {sp:Sp} (lk:K.lookup f=some ⟨oc,od,.func (eQ name qual params body scope dV kV doc pm an cdv ct),osl⟩) (hcd:gY K cdv qual=true) (S:bH N ps scope)
  (len:∀vs H Q E,sp vs H Q E->vs.length=ps.length)
  (hbody:∀ (A:bT) (outer:List Env) (s:aq) (H:Hp) (vs:zA) (Q:VK) (E:XK),kX k (A.deeper (envOfC qual scope s.heap.objs.size f cdv))->sp vs H Q E ->
   ∃ t,PSs (cxOf CX P w K mg base N qual scope f cdv A outer s H E) body t/\t { nx:=fun _ H'=>Q .non H',rt:=Q } (start N vs) H) :
  bX P w K mg base CX (k+1) f (eQ name qual params body scope dV kV doc pm an cdv ct) ps sp:=by
 rwa[len,λA outer s H args us vs Q E hr e0 hb r hsp=>?_];have hl:=len _ _ _ _ hsp;have KX:K.In s.heap:=e0.mod.kin.keeps λb o e=>(e0.bs b o e).1
 have lim:s.heap.NoLimit:=e0.mod.nolimit.keeps λb o e=>(e0.bs b o e).1
 have oB:∀y∈ps.zip us,scope.names.lookup y.1=some .local\/(scope.names.lookup y.1=some .cell/\((cellsFrom (s.heap.objs.size+1) scope.names []).lookup y.1).isSome=true):=λ⟨n,v⟩ hy=>by
  rcases S.par n (List.of_mem_zip hy).1 with q | q
  ·rwa[.inl q]
  ·rwa[.inr ⟨q,PySem.W.cellsFrom_some _ _ _ (.inl q)⟩]
 rwa[codeAny_call_function hr.depth (KX _ _ lk) rfl S.co S.gen rfl (PySem.W.codeRec_of KX hcd) (hb _ _ _ _ ?_)];rwa[wpAny_newFunctionEnv_cells S.kind oB λenv he s1 x=>?_]
 subst he;rwa[lim.keeps x.toInCall.keep,codeAny_func ?_];let⟨t,ht,hq⟩:=hbody A outer s H vs Q E (hr.deeper _) hsp;have I:Inv (cxOf CX P w K mg base N qual scope f cdv A outer s H E) [] (start N vs) H s1:=inv_start S hr.hd e0 hl r x;rwa[cj (ht [] s1 (start N vs) H _ I hq) (λfl s' hs=>?_) λe s' hs=>hs]
 have fin:∀{σ':St} {H':Hp} {v:V} {u:ae},Inv (cxOf CX P w K mg base N qual scope f cdv A outer s H E) [] σ' H' s'->gN v u->Q v H'->CE outer P w H s Q u s':=
  λ{σ' H' v u} J rv q=>⟨v,H',J.os,J.bare,J.base,J.hok,rv,q⟩
 cases fl with
 | ret u =>
  let⟨v,σ',H',J,rv,q⟩:=hs;rwa[fin J rv q]
 | next =>
  let⟨σ',H',J,q⟩:=hs;rwa[fin (v:=V.non) (u:=ae.none) J rfl q]
 | brk =>
  let⟨_,_,_,q⟩:=hs;rwa[cR q]
 | cont =>
  let⟨_,_,_,q⟩:=hs;rwa[cR q]
section
variable {p:Pos}{id:String}{r:zA->Hp->VK->Prop}
def tCB (r:zA->Hp->VK->Prop)(t:TA):TE:=λσ H Q=>t σ H λvs H1=>r vs H1 Q
theorem cP (hc:jy X (.builtin id) r)(hg:Gl X x)(hm:X.mg x=none)(hv:bootBuiltins x=some (.builtin id))(ha:PA X (e::es) t)(hn:autoParam (x ≠ "__name__") Ωb)(hdb:autoParam ((x == ("__debug__" :Str))=false) Ωb)
  (he:autoParam (bF (e::es) X.env=(false,eO e X.env)::bF es X.env) Ωa) (hpl:autoParam ((gw pos (bF es X.env)).any (·.1)=false) Ωa):PE X (.Call (.Name x p) (e::es) [] pos) (tCB r t):=by
 injections;rwa[eP (oj I hg hm hv ?_ hn hdb)];rwa[PyProof.Rows.callWith_builtin1 (thn (ha pos aN s σ H _ I h) λus s1 ⟨vs,H1,I1,r1,q1⟩=>hc aN s1 σ H1 vs us Q I1 r1 q1) he hpl]
theorem fP (hc:jy X (.type T) r)(hg:Gl X x)(hm:X.mg x=none)(hv:bootBuiltins x=some (.type T))(ha:PA X (e::es) t)(hn:autoParam (x ≠ "__name__") Ωb)(hdb:autoParam ((x == ("__debug__" :Str))=false) Ωb)
  (he:autoParam (bF (e::es) X.env=(false,eO e X.env)::bF es X.env) Ωa) (hpl:autoParam ((gw pos (bF es X.env)).any (·.1)=false) Ωa):PE X (.Call (.Name x p) (e::es) [] pos) (tCB r t):=by
 injections;rwa[eP (oj I hg hm hv ?_ hn hdb)];rwa[dX (thn (ha pos aN s σ H _ I h) λus s1 ⟨vs,H1,I1,r1,q1⟩=>hc aN s1 σ H1 vs us Q I1 r1 q1) he hpl]
end
variable {CX:CXT}{g:TG}{wi:TI}
namespace HT
theorem cat_tup {t b:ai}{ws:zD}(ht:IsTup s.heap t vs.toArray)(hb:IsTup s.heap b ws.toArray)(hv:vs≠[])
  (h1:ws=[]->Q (.ref t) s) (h2:ws≠[]->Q (.ref s.heap.objs.size) { s with heap:=s.heap.push { cls:=.type "tuple",data:=.seq (vs++ws).toArray } })
  (hsz:vs.length+ws.length<=aO):‹5› (gq .Add (.ref t) (.ref b)) Q E s:=by
 let⟨⟨cls,dd,data,sl⟩,ho,hc,n,hd⟩:=id ht;let⟨⟨cls2,dd2,data2,sl2⟩,ho2,hc2,n2,hd2⟩:=id hb;simp only at hc hd hc2 hd2;subst hc hd hc2 hd2;have e:vs.toArray++ws.toArray=(vs++ws).toArray:=by simp
 by_cases hw:ws=[]
 ·exact concat_meets ⟨_,ho,rfl⟩ ⟨_,ho2,rfl⟩ noFill_tuple_add seq_tuple_add PySem.F.slot_tuple_add mU (mG _ _)
   (tuple_addW1 t b vs.toArray ws.toArray n n2 dd dd2 sl sl2 (by simpa using hv) (by simp[hw])) ⟨ho,ho2,h1 hw⟩
 ·apply concat_meets ⟨_,ho,rfl⟩ ⟨_,ho2,rfl⟩ noFill_tuple_add seq_tuple_add PySem.F.slot_tuple_add mU (mG _ _)
   (tuple_addW2 t b vs.toArray ws.toArray n n2 dd dd2 sl sl2 (by simpa using hv) (by simpa using hw) (by rw[br,br];rwa[hsz])) ⟨ho,ho2,?_⟩
  rw[e];rwa[h2 hw]
noncomputable def sIx (n d:Nat):zZ->Nat
 | none=>d
 | some v=>if v<0 then (v+(n:Int)).toNat else min v.toNat n
theorem sIx_none (n d:Nat):sIx n d none=d:=rfl
theorem sIx_nat (n d k:Nat):sIx n d (some (k:Int))=min k n:=by
 show(if (k:Int)<0 then ((k:Int)+(n:Int)).toNat else min (k:Int).toNat n)=min k n;rw[tP ↥2,cw]
theorem clip_eq (v:Int)(n d:Nat):(if v<0 then max (v+(n:Int)) 0 else min v (n:Int))=((sIx n d (some v):Nat):Int):=by
 show(if v<0 then max (v+n) 0 else min v n)=((if v<0 then (v+(n:Int)).toNat else min v.toNat n))
 lia
theorem adjust_gen (lo hi:zZ)(n:Nat):dm.Slice.sliceAdjust lo hi 1 (n:Int)=(((sIx n 0 lo:Nat):Int),((sIx n n hi:Nat):Int)):=by
 have h1:¬(1<0):=by cbv
 unfold dm.Slice.sliceAdjust;rwa[Prod.ext ?_ ?_]
 ·cases lo with
  | none=>rfl
  | some v=>rwa[clip_eq v n 0]
 ·cases hi with
  | none=>rfl
  | some v=>rwa[clip_eq v n n]
theorem places_gen (i j:Nat):dm.Slice.slicePlaces (i:Int) (j:Int) 1=j - i:=by
 unfold dm.Slice.slicePlaces
 lia
theorem slicePart_ {v:ae}{o:zZ}{Q:zZ->aq->Prop}(p:IsPart v o)(h:Q o s):‹5› (dm.Slice.slicePartIndex v) Q E s:=by
 cases p with
 | none=>rwa[slicePart_none h]
 | int i t=>rwa[slicePart_int h]
theorem sliceApplied_gen {sl:ai}{vl vu:ae}{lo:zZ}{n:Nat}{Q:Int×Int×Nat->aq->Prop}(hs:s.heap.IsSliceOf sl vl vu .none)(pl:IsPart vl lo)(pu:IsPart vu hi)
  (h:Q (((sIx n 0 lo:Nat):Int),1,sIx n n hi - sIx n 0 lo) s):‹5› (dm.Slice.sliceApplied (.ref sl) (gv (n:Int))) Q E s:=by
 let⟨os,hos,hcs,hds⟩:=id hs;rwa[ak (ak (hV hos hds rfl (ak (hV hos hds rfl (ak (hV hos hds rfl (aP ?_)))))))];rwa[ak (slicePart_none ?_)]
 grind [ak,slicePart_,aP,adjust_gen,places_gen]
theorem pick_gen (xs:Array ae)(i k:Nat):((aQ k).filterMap λ(m:Nat)=>xs[((i:Int)+(m:Int) * 1).toNat]?).toArray=((xs.toList.drop i).take k).toArray:=by
 have e:(λ(m:Nat)=>xs[(i+(m:Int) * 1).toNat]?)=λm=>xs[i+m]?:=by
  grind
 have:=pick_run xs i k;rw[List.filterMap_map] at this;have e2:((λx=>xs[x]?) ∘ λx=>i+x)=λm=>xs[i+m]?:=rfl
 cbv
theorem getItem_tuple_cut {t sl:ai}{vl vu:ae}{lo:zZ}(ht:IsTup s.heap t items)(hs:s.heap.IsSliceOf sl vl vu .none)(pl:IsPart vl lo)(pu:IsPart vu hi)
  (hw:¬(sIx items.size 0 lo=0/\sIx items.size items.size hi=items.size))
  (h:Q (.ref s.heap.objs.size) { s with heap:=s.heap.push { cls:=.type "tuple",data:=.seq ((items.toList.drop (sIx items.size 0 lo)).take (sIx items.size items.size hi - sIx items.size 0 lo)).toArray } })
  (hsz:items.size<=aO):‹5› (getItem (.ref t) (.ref sl)) Q E s:=by
 have htake:sizeOk (.seq ((items.toList.drop (sIx items.size 0 lo)).take (sIx items.size items.size hi - sIx items.size 0 lo)).toArray):=by
  show((items.toList.drop (sIx items.size 0 lo)).take (sIx items.size items.size hi - sIx items.size 0 lo)).toArray.size<=aO
  grind
 let⟨os,hos,hcs,hds⟩:=id hs;have hTs:s.TypeIs (.ref sl) "slice":=⟨os,hos,hcs⟩;unfold getItem
 try with_reducible rwa[cX ?_]
 rwa[ak (wpAny_sequenceKey ht.typeIs ↥0 ?_)];apply ak (iw ht.typeIs c6
  (iu c6 ht.typeIs entry_tuple_getitem ?_ (args_tuple_getitem _ _)))
 show bz _ _ (dm.Tuple.tupleItemsOf (.ref t) >>= _) _ _ s;rwa[ak (tupleItemsOf_ ht ?_)];rwa[ak (wpAny_typeOf hTs ?_)];rwa[ak (sliceApplied_gen hs pl pu ?_)];have hno:¬((((sIx items.size 0 lo):Int) == 0 && (1:Int) == 1 && (sIx items.size items.size hi - sIx items.size 0 lo) == items.size)=true):=by
  cbv
 show bz _ _ (if (((sIx items.size 0 lo):Int) == 0 && 1 == 1 && (sIx items.size items.size hi - sIx items.size 0 lo) == items.size)=true then _ else _) _ _ s;rw[tP hno,pick_gen]
 first
  | rwa[ak (fm (aP ⟨ς,aP h⟩) htake)]
  | rwa[ak (fm (ak (aP (aP ⟨ς,aP h⟩))) htake)]
  | rwa[ak (ak (fm (aP (aP ⟨ς,aP h⟩)) htake))]
  | rwa[ak (ak (fm (aP ⟨ς,aP h⟩) htake))]
end HT
abbrev TO:=St->Hp->(zZ->Hp->Prop)->Prop
def PO (X:Cx)(e:Option Expr)(t:TO):Prop:=
 ∀(aN:List (ai×Obj)) (s:aq) (σ:St) (H:Hp) (Q:zZ->Hp->Prop),‹1›->t σ H Q ->
  ‹2› (evalPart e X.env) (λu s'=>∃o H',Inv X aN σ H' s'/\IsPart u o/\Q o H') X.xe s
def tNoPart:TO:=λ_ H Q=>Q none H
def tPart (t:TE):TO:=λσ H Q=>t σ H λx H1=>∃i,x= .int i/\Q (some i) H1
section
variable {lo hi:Option Expr}{tl th:TO}
theorem po_none:PO X none tNoPart:=by
 injections;rwa[aP ⟨none,H,I,.none,h⟩]
theorem po_some (h:PE X e te):PO X (some e) (tPart te):=by
 intro aN s σ H Q I hw;rwa[thn (h aN s σ H _ I hw) λu s1 hz0=>?_]
 let⟨x,H1,I1,r1,q1⟩:=hz0;let⟨i,rfl,q⟩:=q1;let⟨t,rfl⟩:=r1;rwa[some i,H1,I1,.int i t,q]
def SlR (X:Cx)(r:V->zZ->zZ->Hp->VK->Prop):Prop:=
 ∀(aN:List (ai×Obj)) (s:aq) (σ:St) (H:Hp) (x:V) (v vl vu:ae) (lo hi:zZ) (sl:ai) (Q:VK),‹1›->gN x v->s.heap.IsSliceOf sl vl vu .none->IsPart vl lo->IsPart vu hi->r x lo hi H Q ->
  ∃T id,typeLookup (.type T) "__getitem__" =gv (some (.builtin id))/\s.TypeIs v T/\‹2› (getItem v (.ref sl)) (EP X aN σ Q) X.xe s
def tSl (r:V->zZ->zZ->Hp->VK->Prop)(te:TE)(tl th:TO):TE:=λσ H Q=>te σ H λx H1=>tl σ H1 λl H2=>th σ H2 λu H3=>r x l u H3 Q
theorem pe_slice (hr:SlR X r)(he:PE X e te)(hl:PO X lo tl)(hu:PO X hi th):PE X (.Subscript e (.Slice lo hi none p2) pos) (tSl r te tl th):=by
 injections;rwa[Subscript_ (thn (he aN s σ H _ I h) λv s1 hz0=>?_)];let⟨x,H1,I1,r1,q1⟩:=hz0;rwa[wpAny_Slice (thn (hl aN s1 σ H1 _ I1 q1) λvl s2 ⟨l,H2,I2,pl,q2⟩=>thn (hu aN s2 σ H2 _ I2 q2) λvu s3 hz0=>?_)];let⟨u,H3,I3,pu,q3⟩:=hz0;rw[evalPart_none];rwa[aP ?_];have I4:Inv X aN σ H3 { s3 with heap:=s3.heap.push { cls:=.type "slice",data:=.fields #[vl,vu,.none] } }:=I3.kept (t':=s3.toks) λb ob q=>ao _ q
 let⟨T,id,hT,ht,hg⟩:=hr aN { s3 with heap:=s3.heap.push { cls:=.type "slice",data:=.fields #[vl,vu,.none] } } σ H3 x v vl vu l u s3.heap.objs.size Q I4 r1 (bI.IsSliceOf.new ..) pl pu q3;show ‹2› (subscriptTail e (.Slice lo hi none p2) v (.ref s3.heap.objs.size)) (EP X aN σ Q) X.xe { s3 with heap:=s3.heap.push { cls:=.type "slice",data:=.fields #[vl,vu,.none] } };rwa[tail_any (ops:=[.ref s3.heap.objs.size,v]) ht hT hg (by with_unfolding_all rfl)]
def cutV (xs:zA)(lo hi:zZ):zA:=(xs.drop (HT.sIx xs.length 0 lo)).take (HT.sIx xs.length xs.length hi - HT.sIx xs.length 0 lo)
theorem sF (xs:zA)(lo hi:zZ):(cutV xs lo hi).length<=xs.length:=by
 unfold cutV;rw[bD,gk];lia
def rSlT (K:ag):V->zZ->zZ->Hp->VK->Prop:=λx lo hi H Q=>∃a xs,x= .ref a/\SqT K H a xs /\
 ¬(HT.sIx xs.length 0 lo=0/\HT.sIx xs.length xs.length hi=xs.length)/\∀p,H p=none->Q (.ref p) (upd H p (.tup (cutV xs lo hi)))
theorem sl_tup:SlR X (rSlT X.K):=by
 intro aN s σ H x v vl vu lo hi sl Q I rx hs pl pu h;let⟨a,xs,rfl,hx,hw,q⟩:=h;cases rx;let⟨its,r,ht,hz⟩:=I.tuple hx;have hlen:its.toArray.size=xs.length:=by rwa[r.length.symm]
 rwa["tuple",_,c6.lookup,ht.typeIs,?_];rwa[HT.getItem_tuple_cut ht hs pl pu ⋯ ?_ ↥2];rw[hlen];rwa[.ref s.heap.objs.size,_,I.laid (λb ob q=>ao _ q) (ay _) ?_,rfl,q _ (I.hok.fresh (ay _))];rwa[aU (sF xs lo hi) hz,_,(r.drop (HT.sIx xs.length 0 lo)).take (HT.sIx xs.length xs.length hi - HT.sIx xs.length 0 lo),nS.new _ _]
inductive rCatT (K:ag)(x:V)(y:V)(H:Hp)(Q:VK):Prop
 | mk (a b xs ys:_)(_:x= .ref a)(_:y= .ref b)(_:SqT K H a xs)(_:SqT K H b ys)(_:xs≠[])(_:xs.length+ys.length<=aO)(_:(ys=[]->Q (.ref a) H))(_:(ys≠[]->∀p,H p=none->Q (.ref p) (upd H p (.tup (xs++ys)))))
theorem fZ.nil_iff (r:fZ xs us):us=[]↔xs=[]:=by
 cases r with
 | nil=>simp
 | cons _ _=>simp
theorem op_catT:OpR X (gq .Add) (rCatT X.K):=by
 left;let⟨a,b,xs,ys,rfl,rfl,ha,hb,hx,hz,q1,q2⟩:=h;cases rx;cases ry;let⟨its,r1,p1,_⟩:=I.tuple ha;let⟨its2,r2,p2,_⟩:=I.tuple hb;rwa[HT.cat_tup p1 p2 (λz=>hx (r1.nil_iff.mp z)) (λz=>⟨.ref a,H,I,rfl,q1 (r2.nil_iff.mp z)⟩) (λz=>?_) (by rw[<-r1.length,<-r2.length];exact hz)];rwa[.ref s.heap.objs.size,_,I.laid (λb ob q=>ao _ q) (ay _) ?_,rfl,q2 (λw=>z (r2.nil_iff.mpr w)) _ (I.hok.fresh (ay _))];rwa[↥2,_,r1.append r2,nS.new _ _]
end
noncomputable def ixN (n:Nat)(i:Int):Option Nat:=if 0<=i then (if i<n then some i.toNat else none) else if -(n:Int)<=i then some (i+n).toNat else none
def atI {α:Type}(xs:List α)(i:Int):Option α:=(ixN xs.length i).bind λj=>xs[j]?
theorem ixN_seq {n:Nat}{i:Int}(h:ixN n i=some j):seqIndex? i n=some j/\j<n/\ -(n:Int)<=i/\i<n:=by
 unfold ixN at h
 by_cases h0:0<=i
 ·rw[tQ h0] at h
  by_cases h1:i<n
  ·rw[tQ h1] at h
   have e:i.toNat=j:=cV h;rwa[by rw[seqIndex_of h0 h1,e],⋯,⋯,h1]
  ·rw[tP h1] at h;cases h
 ·rw[tP h0] at h
  by_cases h1: -(n:Int)<=i
  ·rw[tQ h1] at h
   have e:(i+n).toNat=j:=cV h;rwa[by rw[seqIndex_neg ↥2 h1,e],⋯,h1,⋯]
  ·rw[tP h1] at h;cases h
theorem atI_get {xs:List α}{i:Int}{v:α}(h:atI xs i=some v):∃j,seqIndex? i xs.length=some j/\xs[j]? =some v/\j<xs.length/\ -(xs.length:Int)<=i/\i<xs.length:=by
 unfold atI at h;cases e:ixN xs.length i with
 | none=>rw[e] at h;cases h
 | some j =>
  rw[e] at h;let⟨h1,h2,h3,h4⟩:=ixN_seq e;rwa[j,h1,h,h2,h3,h4]
theorem ar {xs:List α}{v:α}(h:xs[j]? =some v):atI xs (j:Int)=some v:=by
 have hj:j<xs.length:=(aw.mp h).1;have e:ixN xs.length (j:Int)=some j:=by
  unfold ixN;rw[tQ (by (constructor <;> lia)),tQ ↥2];simp
 unfold atI;rw[e];rwa[h]
def PlainIx (b:Expr):Prop:=∀o i,subscripted b false o i=operate [o,i] (getItem o i)
def IxR (X:Cx)(r:R2):Prop:=
 ∀(value slice:Expr) (aN:List (ai×Obj)) (s:aq) (σ:St) (H:Hp) (x y:V) (v u:ae) (Q:VK),‹1›->gN x v->gN y u->r x y H Q ->
  subscripted slice false v u=operate [v,u] (getItem v u)->‹2› (subscriptTail value slice v u) (EP X aN σ Q) X.xe s
def MtR (X:Cx)(id:String)(r:V->zA->Hp->VK->Prop):Prop:=
 ∀(aN:List (ai×Obj)) (s:aq) (σ:St) (H:Hp) (x:V) (xs:zA) (v:ae) (us:zD) (Q:VK),‹1›->gN x v->fZ xs us->r x xs H Q ->
  ‹2› (call (.builtin id) (v::us)) (EP X aN σ Q) X.xe s
section
variable {a b:Expr}{tb:TE}
theorem jH {r:R2}(hr:IxR X r)(ha:PE X a ta)(hb:PE X b tb)(hs:PlainIx b:=by rwa[λ_ _=>rfl]):PE X (.Subscript a b pos) (tOp r ta tb):=by
 injections;rwa[Subscript_ (binT ha hb I h λv u s2 x y H2 I2 rx ry q=>hr a b aN s2 σ H2 x y v u Q I2 rx ry q (hs _ _))]
inductive rIxL (K:ag)(x:V)(y:V)(H:Hp)(Q:VK):Prop
 | mk (p xs i v:_)(_:x= .ref p)(_:y= .int i)(_:SqL K H p xs)(_:atI xs i=some v)(_:Q v H)
inductive qd (K:ag)(x:V)(y:V)(H:Hp)(Q:VK):Prop
 | mk (p xs i v:_)(_:x= .ref p)(_:y= .int i)(_:SqT K H p xs)(_:atI xs i=some v)(_:Q v H)
inductive rIxS (x:V)(y:V)(H:Hp)(Q:VK):Prop
 | mk (z i c:_)(_:x= .str z)(_:y= .int i)(_:z.length<=aO)(_:atI z.cps.toList i=some c)(_:Q (.str ⟨#[c]⟩) H)
theorem fR:IxR X (rIxL X.K):=by
 intro value slice aN s σ H x y v u Q I rx ry h hs;let⟨p,xs,i,z,rfl,rfl,hq,he,q⟩:=h;cases rx;let⟨t,rfl⟩:=ry;let⟨its,r,pl,hz⟩:=I.list hq;let⟨j,h1,h2,h3,h4,h5⟩:=atI_get he;let⟨w,ew,rw'⟩:=r.get h2;have hl:=r.length;have hn:=se;have fin:EP X aN σ Q w s:=⟨z,H,I,rw',q⟩
 by_cases h0:0<=i
 ·have hj:i.toNat=j:=by
   rw[seqIndex_of h0 h5] at h1;rwa[cV h1]
  rwa[item_listR pl.isList h0 ⋯ (by rw[hj];simpa using ew) fin hs]
 ·have hj:(i+(its.toArray.size:Int)).toNat=j:=by
   rw[seqIndex_neg ↥2 h4] at h1;rw[br,<-hl];rwa[cV h1]
  exact subscriptTail_builtinR (x:=w) pl.isList.typeIs slot_list_getitem.lookup
   (wpAny_getItem_list_neg (Q:=λr s'=>r=w/\EP X aN σ Q r s') pl.isList ↥2 (by rw[br] <;> cbv) ⋯ (by rw[hj];simpa using ew) ⟨rfl,fin⟩) hs
theorem g9:IxR X (qd X.K):=by
 intro value slice aN s σ H x y v u Q I rx ry h hs;let⟨p,xs,i,z,rfl,rfl,hq,he,q⟩:=h;cases rx;let⟨t,rfl⟩:=ry;let⟨its,r,pl,hz⟩:=I.tuple hq;let⟨j,h1,h2,h3,h4,h5⟩:=atI_get he;let⟨w,ew,rw'⟩:=r.get h2;have hl:=r.length;have hn:=se;have fin:EP X aN σ Q w s:=⟨z,H,I,rw',q⟩;exact subscriptTail_builtinR pl.typeIs slot_tuple_getitem.lookup
  (getItem_tuple (j:=j) pl ⋯ ⋯ ↥2 (by simpa using ew) ⟨rfl,fin⟩) hs
theorem ix_str:IxR X rIxS:=by
 intro value slice aN s σ H x y v u Q I rx ry h hs;let⟨z,i,c,rfl,rfl,hz,he,q⟩:=h;let⟨t,rfl⟩:=rx;let⟨t',rfl⟩:=ry;let⟨j,h1,h2,h3,h4,h5⟩:=atI_get he;have hl:z.cps.toList.length=z.length:=by simp[Str.length]
 have hn:=se;exact tail_any (typeIs_str s z t) slot_str_getitem.lookup (getItem_str (by
  lia) ↥1 ⟨.str ⟨#[c]⟩,H,I.tok _,⟨ς⟩,q⟩) hs
def mapSeq_set (its:zD)(n j:Nat)(u:ae):cE (·.setIfInBounds j u) { cls:=.type "list",data:=.seq its.toArray n }={ cls:=.type "list",data:=.seq (its.set j u).toArray n }:=by
 simp[cE]
theorem Inv.lst {aN:List (ai×Obj)}{σ:St}{H:Hp}{s:aq}{p:ai}{xs:zA}(I:‹1›)(h:H p=some (.lst xs)) :
  ∃(its:zD) (n:Nat),fZ xs its/\s.heap.get? p=some { cls:=.type "list",data:=.seq its.toArray n }/\xs.length<=aO:=by
 let⟨z,its,n,r,e⟩:=I.hok p _ h;rwa[its,n,r,e,z]
theorem Inv.lstUpd {p:ai}{its':zD}{n n':Nat}{f:Obj->Obj}(I:‹1›)(h:H p=some (.lst xs))
  (ho:s.heap.get? p=some { cls:=.type "list",data:=.seq its.toArray n }) (hf:f { cls:=.type "list",data:=.seq its.toArray n }={ cls:=.type "list",data:=.seq its'.toArray n' }) (r:fZ ys its') (hz:ys.length<=aO) (t:Nat) :
  Inv X aN σ (upd H p (.lst ys)) { s with heap:=s.heap.update p f,toks:=t }:=by
 have e:(s.heap.update p f).get? p=some { cls:=.type "list",data:=.seq its'.toArray n' }:=by
  rw[bI.get?_update_self f ho (by rw[hf] <;> rfl),hf]
 rwa[I.write (x:=p) (e:=p) (by rw[h];trivial) (.inl rfl) (λb u hb q=>(jZ _ _ (cM hb)).trans q) ⟨_,e⟩ ?_];rwa[hz,its',n',r,e]
def rSetL:V->V->V->Hp->(Hp->Prop)->Prop:=λo i v H Q=>∃p xs k j,o= .ref p/\i= .int k/\H p=some (.lst xs)/\ixN xs.length k=some j/\Q (upd H p (.lst (xs.set j v)))
theorem set_list:PSet X rSetL:=by
 intro aN s σ H o i v ov iv u Q I ro ri rv h;let⟨p,xs,k,j,rfl,rfl,hp,hj,q⟩:=h;cases ro;let⟨t,rfl⟩:=ri;let⟨its,n,r,ho,hz⟩:=I.lst hp;let⟨h1,h2,h3,h4⟩:=ixN_seq hj;have hl:=r.length;have hn:=se;have I' :=
  I.lstUpd hp ho (mapSeq_set its n j u) (r.set rv j) ↥2 s.toks
 by_cases h0:0<=k
 ·grind [seqIndex_of,cV,PySem.W.ki_setAt,br]
 grind [seqIndex_neg,br,cV,PySem.W.ki_setBack]
theorem slice_bounds (lo hi:zZ)(n:Nat):(kg lo hi none n).1=((HT.sIx n 0 lo:Nat):Int)/\(kg lo hi none n).2.1=((HT.sIx n n hi:Nat):Int)/\(kg lo hi none n).2.2=1:=by
 rwa[?_,?_,rfl]
 ·cases lo with
  | none=>simp[kg,HT.sIx]
  | some i =>
   simp only[kg,HT.sIx,Option.getD_none,show 1 > 0 by decide,if_true]
   lia
 ·cases hi with
  | none=>simp[kg,HT.sIx]
  | some i =>
   simp only[kg,HT.sIx,Option.getD_none,show 1 > 0 by decide,if_true]
   lia
theorem slicePick_cut (its:zD)(lo hi:zZ):slicePick its.toArray lo hi none=((its.drop (HT.sIx its.length 0 lo)).take (HT.sIx its.length its.length hi - HT.sIx its.length 0 lo)).toArray:=by
 let⟨h1,h2,h3⟩:=slice_bounds lo hi its.toArray.size;unfold slicePick;rw[h1,h2,h3];simp only[sliceRange_one,pick_run,br] <;> rfl
def rSlL (K:ag):V->zZ->zZ->Hp->VK->Prop:=λx lo hi H Q=>∃a xs,x= .ref a/\SqL K H a xs/\∀p,H p=none->Q (.ref p) (upd H p (.lst (cutV xs lo hi)))
theorem sl_list:SlR X (rSlL X.K):=by
 intro aN s σ H x v vl vu lo hi sl Q I rx hs pl pu h;let⟨a,xs,rfl,hx,q⟩:=h;cases rx;let⟨its,r,ht,hz⟩:=I.list hx;have hlen:=r.length;rwa["list",_,slot_list_getitem.lookup,ht.isList.typeIs,?_];rwa[wpAny_getItem_list_slice ht.isList hs pl pu .none ∅ ?_ ↥2];rw[slicePick_cut,<-hlen];rwa[.ref s.heap.objs.size,_,I.laid (λb ob q=>ao _ q) (ay _) ?_,rfl,q _ (I.hok.fresh (ay _))];rwa[aU (sF xs lo hi) hz,_,0,(r.drop (HT.sIx xs.length 0 lo)).take (HT.sIx xs.length xs.length hi - HT.sIx xs.length 0 lo),aR _ rfl]
def flatV:V->Bool
 | .non=>true
 | .bl _=>true
 | .int _=>true
 | .str _=>true
 | _=>false
noncomputable def eqV:V->V->Bool
 | .non,.non=>true
 | .bl a,.bl b=>a == b
 | .bl a,.int b=>(if a then 1 else 0) == b
 | .int a,.bl b=>a == (if b then 1 else 0)
 | .int a,.int b=>a == b
 | .str a,.str b=>a == b
 | _,_=>false
theorem j6 {x:V}{v:ae}(ry:gN y u)(rx:gN x v)(fy:flatV y=true)(fx:flatV x=true):SeqAt.EqAt A s u v (eqV y x):=by
 cases y with
 | non =>
  cases ry;cases x with
  | non=>cases rx;rwa[SeqAt.EqAt.same _]
  | bl b=>cases rx;rwa[SeqAt.EqAt.none_bool b]
  | int b=>let⟨t,rfl⟩:=rx;rwa[SeqAt.EqAt.none_int b t]
  | str b=>let⟨t,rfl⟩:=rx;rwa[SeqAt.EqAt.none_str b t]
  | _=>rwa[tR (fx) bK]
 | bl a =>
  cases ry;cases x with
  | non=>cases rx;rwa[SeqAt.EqAt.bool_none a]
  | bl b=>cases rx;rwa[SeqAt.EqAt.bool_bool a b]
  | int b=>let⟨t,rfl⟩:=rx;rwa[SeqAt.EqAt.bool_int a b t]
  | str b=>let⟨t,rfl⟩:=rx;rwa[SeqAt.EqAt.bool_str a b t]
  | _=>rwa[tR (fx) bK]
 | int a =>
  let⟨t',rfl⟩:=ry;cases x with
  | non=>cases rx;rwa[SeqAt.EqAt.int_none a t']
  | bl b=>cases rx;rwa[SeqAt.EqAt.int_bool a t' b]
  | int b=>let⟨t,rfl⟩:=rx;rwa[SeqAt.EqAt.int_int a t' b t]
  | str b=>let⟨t,rfl⟩:=rx;rwa[SeqAt.EqAt.int_str a t' b t]
  | _=>rwa[tR (fx) bK]
 | str a =>
  let⟨t',rfl⟩:=ry;cases x with
  | non=>cases rx;rwa[SeqAt.EqAt.str_none a t']
  | bl b=>cases rx;rwa[SeqAt.EqAt.str_bool a t' b]
  | int b=>let⟨t,rfl⟩:=rx;rwa[SeqAt.EqAt.str_int a t' b t]
  | str b=>let⟨t,rfl⟩:=rx;rwa[SeqAt.EqAt.str_str a t' b t]
  | _=>rwa[tR (fx) bK]
 | _=>rwa[tR (fy) bK]
def eqU (x:V)(u:ae):Bool:=match u with
 | .none=>eqV .non x
 | .bool b=>eqV (.bl b) x
 | .int i _=>eqV (.int i) x
 | .str z _=>eqV (.str z) x
 | _=>false
theorem eqU_of {x:V}(r:gN y u)(f:flatV y=true):eqU x u=eqV y x:=by
 cases y with
 | non=>cases r;rfl
 | bl b=>cases r;rfl
 | int i=>let⟨t,rfl⟩:=r;rfl
 | str z=>let⟨t,rfl⟩:=r;rfl
 | _=>rwa[tR (f) bK]
theorem sI {x:V}:∀{xs:zA} {us:zD},fZ xs us->xs.all flatV=true->us.any (eqU x)=xs.any λy=>eqV y x
 | _,_,.nil,_=>rfl
 | y::xs,u::us,.cons r t,f=>by
  rw[List.all_cons,jf] at f;rw[gX,gX,eqU_of r f.1,sI t f.2]
theorem oY {A:bT}{s:aq}{x:V}{v:ae}(rx:gN x v)(fx:flatV x=true):∀{xs:zA} {us:zD},fZ xs us->xs.all flatV=true->∀u∈us,SeqAt.EqAt A s u v (eqU x u)
 | _,_,.nil,_=>λu hu=>by cases hu
 | y::xs,u::us,.cons r t,f=>λu' hu=>by
  rw[List.all_cons,jf] at f
  rcases bh.mp hu with rfl | hu
  ·rw[eqU_of r f.1];rwa[j6 r rx f.1 fx]
  ·rwa[oY rx fx t f.2 u' hu]
def inV (x:V)(xs:zA):Bool:=xs.any λy=>eqV y x
inductive rIn (K:ag)(neg:Bool)(x:V)(y:V)(H:Hp)(Q:VK):Prop
 | mk (p xs:_)(_:y= .ref p)(_:(SqL K H p xs\/SqT K H p xs))(_:flatV x=true)(_:xs.all flatV=true)(_:Q (.bl (if neg then !inV x xs else inV x xs)) H)
theorem op_in_seq:OpR X (cZ .In) (rIn X.K false):=by
 left;let⟨p,xs,rfl,hq,fx,fs,q⟩:=h;cases ry
 rcases hq with hq | hq
 ·let⟨its,r,pl,hz⟩:=I.list hq
  rwa[SeqAt.in_listAt (eqU x) pl.isList (λw hw=>oY rx fx r fs w (by simpa using hw)) ⟨.bl _,H,I,rfl,?_⟩];rw[show its.toArray.any (eqU x)=its.any (eqU x) by simp,sI r fs];rwa[q]
 ·let⟨its,r,pl,hz⟩:=I.tuple hq
  rwa[SeqAt.in_tupleAt (eqU x) pl (λw hw=>oY rx fx r fs w (by simpa using hw)) ⟨.bl _,H,I,rfl,?_⟩];rw[show its.toArray.any (eqU x)=its.any (eqU x) by simp,sI r fs];rwa[q]
theorem op_notIn_seq:OpR X (cZ .NotIn) (rIn X.K true):=by
 left;let⟨p,xs,rfl,hq,fx,fs,q⟩:=h;cases ry
 rcases hq with hq | hq
 ·let⟨its,r,pl,hz⟩:=I.list hq
  rwa[SeqAt.notIn_listAt (eqU x) pl.isList (λw hw=>oY rx fx r fs w (by simpa using hw)) ⟨.bl _,H,I,rfl,?_⟩];rw[show its.toArray.any (eqU x)=its.any (eqU x) by simp,sI r fs];rwa[q]
 ·let⟨its,r,pl,hz⟩:=I.tuple hq
  rwa[SeqAt.notIn_tupleAt (eqU x) pl (λw hw=>oY rx fx r fs w (by simpa using hw)) ⟨.bl _,H,I,rfl,?_⟩];rw[show its.toArray.any (eqU x)=its.any (eqU x) by simp,sI r fs];rwa[q]
theorem iG:jy X (.builtin "len") (λxs H Q=>∃p ys,xs=[.ref p]/\(SqL X.K H p ys\/SqT X.K H p ys)/\Q (.int ys.length) H):=by
 norm_cast;let⟨p,ys,rfl,hq,q⟩:=h;let⟨u,rfl,rx⟩:=lZ r;cases rx;have hn:=se
 rcases hq with hq | hq
 ·let⟨its,r',pl,hz⟩:=I.list hq
  have hlen:=r'.length;rwa[Calls.call_len_list pl.isList ↥1 ⟨.int ys.length,H,I.tok _,⟨s.toks+1,↥2⟩,q⟩]
 ·let⟨its,r',pl,hz⟩:=I.tuple hq
  have hlen:=r'.length;rwa[len_tuple pl ↥1 ⟨.int ys.length,H,I.tok _,⟨s.toks+1,↥2⟩,q⟩]
theorem nP:jy X (.builtin "len") (λxs H Q=>∃z,xs=[.str z]/\z.length<=aO/\Q (.int z.length) H):=by
 norm_cast;let⟨z,rfl,hz,q⟩:=h;let⟨u,rfl,t,rfl⟩:=lZ r;have hn:=se;rwa[len_str ⋯ ⟨.int z.length,H,I.tok _,⟨ς⟩,q⟩]
theorem call_list_of:jy X (.type "list") (λxs H Q=>∃p ys,xs=[.ref p]/\(SqL X.K H p ys\/SqT X.K H p ys)/\∀l,H l=none->Q (.ref l) (upd H l (.lst ys))):=by
 norm_cast;let⟨p,ys,rfl,hq,q⟩:=h;let⟨u,rfl,rx⟩:=lZ r;cases rx;have fin:∀(its:zD),fZ ys its->ys.length<=aO->∀(h':bI) (c':Nat),(∀b o',s.heap.get? b=some o'->h'.get? b=some o') ->
   h'.get? s.heap.objs.size=some { cls:=.type "list",dict:=none,data:=.seq its.toArray c',slots:=#[] }->EP X aN σ Q (.ref s.heap.objs.size) { s with heap:=h' }:=λits r' hz h' c' kp e =>
  ⟨.ref s.heap.objs.size,_,I.laid (t':=s.toks) kp (ay _) (show km X.prog X.w _ h' _ (.lst ys) from ⟨hz,its,c',r',e⟩),rfl,q _ (I.hok.fresh (ay _))⟩
 rcases hq with hq | hq
 ·let⟨its,r',pl,hz⟩:=I.list hq
  have hlen:=r'.length;let⟨o,ho,hc,n,hd⟩:=pl.isList;rwa[call_list_seq p (.inl rfl) ho hc hd (λh' c' kp e=>fin its r' hz h' c' kp e) (by simp only[br] <;> cbv)]
 ·let⟨its,r',pl,hz⟩:=I.tuple hq
  have hlen:=r'.length;let⟨o,ho,hc,n,hd⟩:=pl;rwa[call_list_seq p (.inr rfl) ho hc hd (λh' c' kp e=>fin its r' hz h' c' kp e) (by simp only[br] <;> cbv)]
theorem call_tuple_of:jy X (.type "tuple") (λxs H Q=>∃p ys,xs=[.ref p]/\((SqL X.K H p ys/\∀l,H l=none->Q (.ref l) (upd H l (.tup ys)))\/(SqT X.K H p ys/\Q (.ref p) H))):=by
 norm_cast;let⟨p,ys,rfl,h⟩:=h;let⟨u,rfl,rx⟩:=lZ r;cases rx
 rcases h with ⟨hq,q⟩ | ⟨hq,q⟩
 ·let⟨its,r',pl,hz⟩:=I.list hq
  have hlen:=r'.length;rwa[call_tuple_list pl.isList (λh' kp=>?_) ↥2];have I1 :=I.kept (t':=s.toks) kp;have I2 :=
   I1.laid (t':=s.toks) (λb o e=>ao _ e) (ay _) (show km X.prog X.w _ _ _ (.tup ys) from ⟨hz,its,r',nS.new _ _⟩)
  rwa[.ref h'.objs.size,_,I2,rfl,q _ (I1.hok.fresh (ay _))]
 ·let⟨its,r',pl,hz⟩:=I.tuple hq
  rwa[call_tuple_same pl ⟨.ref p,H,I,rfl,q⟩]
def tyV (K:ag)(T:String)(x:V)(H:Hp):Prop:=match x with
 | .str _=>T = "str"
 | .int _=>T = "int"
 | .ref p=>(T = "list" ∧∃xs,SqL K H p xs)∨(T = "tuple" ∧∃o,K.lookup p=some o∧o.cls= .type "tuple" ∧o.dict=none) ∨
   (T = "dict" ∧((∃kvs,H p=some (.dK kvs))∨∃kvs,H p=some (.dT kvs)))∨(T = "set" ∧∃S n,H p=some (.set S n))
 | _=>False
theorem tyV_is {x:V}{v:ae}(I:‹1›)(r:gN x v)(ty:tyV X.K T x H) :
  s.TypeIs v T/\∀a,v= .ref a->∃ob,s.heap.get? a=some ob/\ob.dict=none:=by
 cases x with
 | str z =>
  let⟨t,rfl⟩:=r;cases(ty)
  grind [typeIs_str]
 | int i =>
  let⟨t,rfl⟩:=r;cases(ty)
  grind [typeIs_int]
 | ref p =>
  cases r
  rcases ty with ⟨rfl,xs,hq⟩ | ⟨rfl,o,hk,hc,hd⟩ | ⟨rfl,hk⟩ | ⟨rfl,S,n,hk⟩
  ·let⟨its,_,pl,_⟩:=I.list hq
   rwa[pl.isList.typeIs,λa e=>?_];cases e;let⟨o,n,e,c,hd,_⟩:=pl;rwa[o,e,hd]
  ·rwa[⟨o,I.kIn p o hk,hc⟩,λa e=>?_]
   cases e;rwa[o,I.kIn _ o hk,hd]
  ·have z:∃o,s.heap.get? p=some o/\o.ExactDict:=by
    rcases hk with ⟨kvs,hk⟩ | ⟨kvs,hk⟩
    ·let⟨_,_,_,_,o,_,_,e,ex,_⟩:=I.hok p _ hk
     rwa[o,e,ex]
    ·let⟨_,_,_,_,o,_,_,e,ex,_⟩:=I.hok p _ hk
     rwa[o,e,ex]
   let⟨o,e,ex⟩:=z;rwa[⟨o,e,ex.1⟩,λa e2=>?_];cases e2;rwa[o,e,ex.2.1]
  ·let⟨o,_,_,_,e,ex,_⟩:=I.hok p _ hk
   rwa[⟨o,e,ex.1⟩,λa e2=>?_];cases e2;rwa[o,e,ex.2.1]
 | _=>rwa[cR ty]
def tBM0 (K:ag)(T:String)(r:V->zA->Hp->VK->Prop)(to:TE):TE:=λσ H Q=>to σ H λx H1=>tyV K T x H1/\r x [] H1 Q
def tBM (K:ag)(T:String)(r:V->zA->Hp->VK->Prop)(to:TE)(t:TA):TE:=λσ H Q=>to σ H λx H1=>tyV K T x H1/\t σ H1 λxs H2=>r x xs H2 Q
variable {o:Expr}{cpos:Pos}{id:String}{r:V->zA->Hp->VK->Prop}
theorem pe_bm0 (pa:PlainAttrs T)(slot:Slot T name id)(hty:typeOf (.builtin id)=gv (.type "method_descriptor"))(hm:MtR X id r)(ho:PE X o to)
  (hbase:autoParam (attributeBase o name X.env (eO o X.env)=eO o X.env) Ωa) (hline:autoParam ((apos.endLine == cpos.line)=true) Ωa):PE X (.Call (.Attribute o name apos) [] [] cpos) (tBM0 X.K T r to):=by
 injections;rwa[wpAny_Call_method0_late hbase hline (thn (ho aN s σ H _ I h) λv s1 hz0=>?_)];let⟨x,H1,I1,r1,ty,q1⟩:=hz0;let⟨h1,h2⟩:=tyV_is I1 r1 ty;rwa[T,id,pa,slot,hty,h1,h2,Calls.callWith_builtin rfl (PySem.evalArgs_none (hm aN s1 σ H1 x [] v [] Q I1 r1 .nil q1))]
theorem qj (pa:PlainAttrs T)(slot:Slot T name id)(hty:typeOf (.builtin id)=gv (.type "method_descriptor"))(hm:MtR X id r)(ho:PE X o to)(ha:PA X (e::es) t)
  (hbase:autoParam (attributeBase o name X.env (eO o X.env)=eO o X.env) Ωa)
  (hfew:autoParam (((gw cpos (bF (e::es) X.env)).all (fun x=>!x.1) && (backToKw cpos (keywordEach [] X.env)).all (fun x=>x.1.isSome)
   && decide ((e::es).length+([]:List Keyword).length+(if ([]:List Keyword).isEmpty then 0 else 1)<30))=true) Ωa)
  (hline:autoParam ((apos.endLine == cpos.line)=true) Ωa) (hs:autoParam (bF (e::es) X.env=(false,eO e X.env)::bF es X.env) Ωa) (hplain:autoParam ((gw cpos (bF es X.env)).any (·.1)=false) Ωa) :
  PE X (.Call (.Attribute o name apos) (e::es) [] cpos) (tBM X.K T r to t):=by
 injections;rwa[wpAny_Call_method_late hbase hfew hline rfl (thn (ho aN s σ H _ I h) λv s1 hz0=>?_)];let⟨x,H1,I1,r1,ty,q1⟩:=hz0;let⟨h1,h2⟩:=tyV_is I1 r1 ty;rwa[T,id,pa,slot,hty,h1,h2,?_];have hA:=ha cpos aN s1 σ H1 _ I1 q1;rw[hs] at hA ⊢;rwa[Calls.callWith_builtin (by show(false || (gw cpos (bF es X.env)).any (·.1))=false;rw[hplain] <;> rfl) (Calls.evalArgs_plain ?_)];rwa[thn hA λus s2 ⟨vs,H2,I2,r2,q2⟩=>hm aN s2 σ H2 x vs v us Q I2 r1 r2 q2]
end
def MtM (X:Cx)(id:String)(r:V->zA->Hp->VK->Prop):Prop:=
 ∀(aN:List (ai×Obj)) (s:aq) (σ:St) (H:Hp) (x:V) (xs:zA) (v:ae) (us:zD) (Q:VK),‹1›->gN x v->fZ xs us->r x xs H Q ->
  ‹2› (call (.builtin id) (v::us)) (EP X aN σ Q) X.xe s
theorem fZ.one {x:V}(h:fZ [x] us):∃u,us=[u]/\gN x u:=by
 cases h with
 | cons r h=>cases h;rwa[ς,r]
theorem fZ.zero:∀{us:zD},fZ [] us->us=[]
 | _,.nil=>rfl
theorem fZ.dropLast (h:fZ xs us):fZ xs.dropLast us.dropLast:=by
 induction h with
 | nil=>rwa[.nil]
 | cons r t ih =>
  cases t with
  | nil=>rwa[.nil]
  | cons q t'=>rwa[.cons r ih]
theorem fZ.eraseIdx:∀{xs:zA} {us:zD} (i:Nat),fZ xs us->fZ (xs.eraseIdx i) (us.eraseIdx i)
 | _,_,_,.nil=>.nil
 | _,_,0,.cons _ t=>t
 | _,_,i+1,.cons r t=>.cons r (fZ.eraseIdx i t)
theorem fZ.rep {xs:zA}{us:zD}(h:fZ xs us):∀k:Nat,fZ (bB k xs).flatten (bB k us).flatten
 | 0=>.nil
 | k+1=>by
  rwa[fZ.append h (fZ.rep h k)]
theorem foldl_rep (its:zD):∀(k:Nat) (acc:zD),
  List.foldl (λx1 x2=>x1++x2) acc.toArray (bB k its.toArray)=(acc++(bB k its).flatten).toArray
 | 0,acc=>by simp
 | k+1,acc=>by
  have e:acc.toArray++its.toArray=(acc++its).toArray:=by simp
  have e2:(acc++its)++(bB k its).flatten=acc++(bB (k+1) its).flatten:=by
   grind
  rw[<-e2,<-foldl_rep its k (acc++its),<-e,List.replicate_succ,bS]
section
variable {l b:ai}
theorem Inv.lset {its':zD}{n:Nat}{f:Array ae->Array ae}(I:‹1›)(hH:H l=some (.lst xs))
  (e:s.heap.get? l=some { cls:=.type "list",data:=.seq its.toArray n }) (hf:f its.toArray=its'.toArray) (hv:fZ ys its') (hz:ys.length<=aO) :
  Inv X aN σ (upd H l (.lst ys)) { s with heap:=s.heap.update l (cE f),toks:=t' }:=by
 have q:=PySem.IsL.update e f;rw[hf] at q;rwa[I.write (by rw[hH];exact trivial) (.inl rfl) (λb' u hb hu=>(jZ s.heap (cE f) (cM hb)).trans hu) ⟨_,q⟩ ?_];rwa[hz,its',_,hv,q]
theorem Inv.lnew (I:‹1›)(hv:fZ ys its)(hz:ys.length<=aO) :
  Inv X aN σ (upd H s.heap.objs.size (.lst ys)) { s with heap:=s.heap.push { cls:=.type "list",data:=.seq its.toArray },toks:=t' }:=
 I.laid (λ_ _ q=>ao _ q) (ay _) ⟨hz,its,0,hv,aR _ rfl⟩
theorem Inv.fresh (I:‹1›):H s.heap.objs.size=none:=I.hok.fresh (ay _)
theorem Inv.lstM (I:‹1›)(hH:H l=some (.lst xs)):xs.length<=aO/\∃(its:zD) (n:Nat),fZ xs its/\xs.length=its.length/\s.heap.get? l=some { cls:=.type "list",data:=.seq its.toArray n }:=by
 let⟨z,its,n,r,e⟩:=I.hok l _ hH;rwa[z,its,n,r,r.length,e]
theorem notLongL {n:Nat}(h:n<=aO):iR n=false:=by
 unfold iR
 cbv
end
inductive rAppend (x:V)(vs:zA)(H:Hp)(Q:VK):Prop
 | mk (l xs y:_)(_:x= .ref l)(_:vs=[y])(_:H l=some (.lst xs))(_:xs.length<aO)(_:Q .non (upd H l (.lst (xs++[y]))))
theorem mt_append:MtM X "list.append" rAppend:=by
 push_cast;let⟨l,xs,y,rfl,rfl,hH,hz,q⟩:=h;cases rx;let⟨u,rfl,ru⟩:=rv.one;let⟨z,its,n,r,hl,e⟩:=I.lstM hH;rwa[jx F.slot_list_append ⟨_,e,rfl⟩ F.entry_list_append (F.args_list_append_2 _ _) (PySem.list_append l its.toArray n u ↥2) ⟨e,?_⟩];rwa[.non,_,I.lset hH e ∅ (r.append (.cons ru .nil)) ?_,rfl,q]
 grind
inductive rExtend (x:V)(vs:zA)(H:Hp)(Q:VK):Prop
 | mk (l b xs zs:_)(_:x= .ref l)(_:vs=[.ref b])(_:H l=some (.lst xs))(_:H b=some (.lst zs))(_:xs.length+zs.length<=aO)(_:Q .non (upd H l (.lst (xs++zs))))
theorem mt_extend:MtM X "list.extend" rExtend:=by
 push_cast;let⟨l,b,xs,zs,rfl,rfl,hH,hB,hz,q⟩:=h;cases rx;let⟨u,rfl,ru⟩:=rv.one;cases ru;let⟨z,its,n,r,hl,e⟩:=I.lstM hH;let⟨z2,its2,n2,r2,hl2,e2⟩:=I.lstM hB;have hsz:its.toArray.size+its2.toArray.size<=aO:=↥2
 have hlong:¬(!its.toArray.isEmpty && iR (its.toArray.size+its2.toArray.size))=true:=by
  rw[notLongL hsz]
  lia
 apply jx F.slot_list_extend ⟨_,e,rfl⟩ F.entry_list_extend (F.args_list_extend_2 _ _)
  (AutoSeq1.list_extend_list_list_0 l its.toArray n b its2.toArray n2 hlong ↥2 ⋯) ⟨e,e2,?_⟩
 rwa[.non,_,I.lset hH e ∅ (r.append r2) ?_,rfl,q]
 cbv
inductive rPop (x:V)(vs:zA)(H:Hp)(Q:VK):Prop
 | mk (l xs y:_)(_:x= .ref l)(_:vs=[])(_:H l=some (.lst xs))(_:xs[xs.length - 1]? =some y)(_:Q y (upd H l (.lst xs.dropLast)))
theorem mt_pop:MtM X "list.pop" rPop:=by
 push_cast;let⟨l,xs,y,rfl,rfl,hH,hy,q⟩:=h;cases rx;have hus:=rv.zero;subst hus;let⟨z,its,n,r,hl,e⟩:=I.lstM hH;let⟨u,hu,ru⟩:=r.get hy;have hy':its.toArray[its.toArray.size - 1]? =some u:=by
  cbv
 rwa[jx F.slot_list_pop ⟨_,e,rfl⟩ F.entry_list_pop (F.args_list_pop_1 _) (MeetsSeq.list_pop_last l its.toArray n u hy' ↥2) ⟨e,?_⟩];rwa[y,_,I.lset hH e ?_ r.dropLast ?_,ru,q]
 ·cbv
 grind
inductive rPopAt (x:V)(vs:zA)(H:Hp)(Q:VK):Prop
 | mk (l xs i k y:_)(_:x= .ref l)(_:vs=[.int i])(_:H l=some (.lst xs))(_: -(2 ^ 63)<=i)(_:i<2 ^ 63)(_:seqIndex? i xs.length=some k)(_:xs[k]? =some y)(_:Q y (upd H l (.lst (xs.eraseIdx k))))
theorem mt_popAt:MtM X "list.pop" rPopAt:=by
 push_cast;let⟨l,xs,i,k,y,rfl,rfl,hH,h1,h2,hk,hy,q⟩:=h;cases rx;let⟨u,rfl,ru⟩:=rv.one;let⟨t,rfl⟩:=ru;let⟨z,its,n,r,hl,e⟩:=I.lstM hH;let⟨w,hw,rw'⟩:=r.get hy;apply jx F.slot_list_pop ⟨_,e,rfl⟩ F.entry_list_pop (F.args_list_pop_2 _ _)
  (MeetsSeq.list_pop_at l its.toArray n i t k w (fitsIndex_both h1 h2) ↥2 ↥2 ↥2) ⟨e,?_⟩
 rwa[y,_,I.lset hH e ?_ (r.eraseIdx k) ?_,rw',q]
 ·cbv
 grind
inductive rCat (x:V)(y:V)(H:Hp)(Q:VK):Prop
 | mk (l b xs zs:_)(_:x= .ref l)(_:y= .ref b)(_:H l=some (.lst xs))(_:H b=some (.lst zs))(_:xs.length+zs.length<=aO)(_:∀p,H p=none->Q (.ref p) (upd H p (.lst (xs++zs))))
theorem op_cat:OpR X (gq .Add) rCat:=by
 left;let⟨l,b,xs,zs,rfl,rfl,hH,hB,hz,q⟩:=h;cases rx;cases ry;let⟨z,its,n,r,hl,e⟩:=I.lstM hH;let⟨z2,its2,n2,r2,hl2,e2⟩:=I.lstM hB;rwa[PySem.P.add_list e e2 ?_ ↥2];have ea:its.toArray++its2.toArray=(its++its2).toArray:=by simp
 rw[ea];rwa[.ref _,_,I.lnew (r.append r2) ↥2,rfl,q _ I.fresh]
inductive rRep (x:V)(y:V)(H:Hp)(Q:VK):Prop
 | mk (l k xs:_)(_:x= .ref l)(_:y= .int k)(_:H l=some (.lst xs))(_: -(2 ^ 63)<=k)(_:k<2 ^ 63)(_:xs.length * k.toNat<=aO)(_:∀p,H p=none->Q (.ref p) (upd H p (.lst (bB k.toNat xs).flatten)))
theorem len_rep (xs:List α)(k:Nat):(bB k xs).flatten.length=k * xs.length:=by
 induction k with
 | zero=>simp
 | succ k ih=>rw[List.replicate_succ,List.flatten_cons,ax,ih,Nat.succ_mul,Nat.add_comm]
theorem op_rep:OpR X (gq .Mult) rRep:=by
 left;let⟨l,k,xs,rfl,rfl,hH,h1,h2,hz,q⟩:=h;cases rx;let⟨t,rfl⟩:=ry;let⟨z,its,n,r,hl,e⟩:=I.lstM hH;have hlen:its.toArray.size * k.toNat<=aO:=↥2
 have hcap:¬its.toArray.size * k.toNat > (2 ^ 63 - 1) / 8:=by
  have:aO<=(2 ^ 63 - 1) / 8:=by decide
  lia
 have hfit:¬(!Builtin.List.listFitsIndex k)=true:=by
  rw[fitsIndex_both h1 h2]
  lia
 have hlong:¬iR (its.toArray.size * k.toNat)=true:=by
  rw[notLongL hlen]
  cbv
 have hnew:List.foldl (λx1 x2=>x1++x2) #[] (bB (if its.toArray.isEmpty=true then 0 else k.toNat) its.toArray)=(bB k.toNat its).flatten.toArray:=by
  have f0:∀m:Nat,List.foldl (λx1 x2=>x1++x2) #[] (bB m its.toArray)=(bB m its).flatten.toArray:=λm=>by
   grind [foldl_rep,List.nil_append]
  cases its with
  | nil=>simp
  | cons a r'=>cbv
 apply wpAny_binaryOp_repeat_ref ↥0 ⟨_,e,rfl⟩ (λs'=>typeIs_int s' k t) noFill_list_mul F.fills_int_mul F.slot_int_rmul repeat_list F.slot_int_index.lookup
  (jx F.slot_int_rmul (typeIs_int s k t) F.entry_int_rmul (F.args_int_rmul_2 _ _) (int___rmul___int_list k t l its.toArray n)
   ⟨e,rfl,⟨_,e,rfl⟩,jx F.slot_list_mul ⟨_,e,rfl⟩ F.entry_list_mul (F.args_list_mul_2 _ _) (AutoListH.list___mul___list_int_3 l its.toArray n k t hfit hcap hlong) ⟨e,?_⟩⟩)
 rw[hnew];rwa[.ref _,_,I.lnew (r.rep k.toNat) (by rw[len_rep,ka];rwa[hz]),rfl,q _ I.fresh]
namespace Att
open PySem.W PySem.Calls
theorem sm {P:Params}:∀(ns:zI) (vs:zD),WellAll P h vs (ns.map WData.int)->IntsAre vs ns:=by
 intro ns
 induction ns with
 | nil =>
  intro vs w;cases w;rwa[.nil]
 | cons n ns ih =>
  intro vs w;cases w with
  | cons a b =>
   cases a;rwa[.cons _ _ (ih _ b)]
theorem script_of {l:OpenLaw}{n:Nat}(hn:l.most=some n){P:Params}{args:List WData}{vals:zD}
  (hpre:l.row.toRowW.claim.pre args=true) (hwl:WellAll P h vals args) :
  ∃a vs ns,vals=[ae.ref a]/\args=[WData.list (ns.map WData.int)]/\h.get? a=some { cls:=.type "list",data:=.seq vs.toArray }/\IntsAre vs ns/\ns.length<=n:=by
 have hsh :=(pre_splitW hpre).1;have hc:l.pre.holds [] { args:=args }=true:=(pre_splitW hpre).2;let⟨d,r,rfl,h1,h2⟩:=hasAllW_cons hsh;obtain rfl:=hasAllW_nil h2;let⟨xs,rfl,h3⟩:=hasW_list h1;let⟨ns,rfl⟩:=items_int h3;have hlen:ns.length<=n:=by
  have h4:(WTm.not (.lt (.lit (.int n)) (.len (.arg 0)))).holds [] { args:=[.list (ns.map .int)] }=true:=by
   have h4:=(holds_andW hc).1
   cbv
  have h5:=condW_of h4 (w_not (w_lt w_lit (w_len_list (w_arg rfl))))
  cbv
 cases hwl with
 | cons w1 w2 =>
  cases w2;cases w1 with
  | list ho hall=>grind [sm]
def post_true (l:OpenLaw)(args:List WData):l.row.toRowW.claim.post args (.bool true) args=true:=
 postW_of
  (by first | rfl | decide | simp[WShape.has,WShape.arms,WShape.armsAll])
  (w_eq_bool (w_res rfl) w_lit) rfl
theorem attach_call {l:OpenLaw}{n:Nat}{q:aL}{d:DefRec}
  (hn:l.most=some n) (hdf:d.params.defaults=[])
  (call:∀ (w:bp) (s₀ s₁:aq) (mg mb:Str->zJ) (fa:ai) (o:Obj) (pm cd doc:ae) (a:ai) (vs:zD) (ns:zI),
   Ground q loose [] XP w s₀ mg mb s₁.heap->YP w s₁.heap ->
   s₁.heap.get? fa=some o->o.data= .func (docDef d.name d.params d.body d.scope pm cd doc)->s₁.heap.CodeRec cd d.name->mg d.name=some (.ref fa) ->
   s₁.heap.get? a=some { cls:=.type "list",data:=.seq vs.toArray }->IntsAre vs ns->ns.length<=n->s₁.gens= #[] ->
   kD (bC l.prog w) callerA (.call (.ref fa) ⟨[.ref a],[]⟩) (fun r s'=>r= .ok (.ret (.bool true))/\OldK s₁.heap s'.heap/\s'.os=s₁.os/\AllBare s'.gens) s₁) :
  WalkO q loose XP YP l.row.toRowW d [] (λf vs=>PySem.call f vs):=by
 intro w s₀ s₁ mg mb G Y fa o pm cd doc dV kV ho hd hcd hD hmg hg args vals as hpre hlay hrd hwl hlo;obtain rfl:dV= .none:=Dflts.none hD hdf;obtain rfl:kV= .none:=Dflts.noKw hD;let⟨a,vs,ns,rfl,rfl,hobj,hints,hlen⟩:=script_of hn hpre hwl;rwa[enter_call (codeAny_mono (call w s₀ s₁ mg mb fa o pm cd doc a vs ns G Y ho (fd_plain hd) hcd hmg hobj hints hlen hg) λr s' hq=>?_)];let⟨rfl,h2,h3,h4⟩:=hq;rwa[.inl ⟨.bool true,.bool true,[],rfl,λ_=>rfl,.bool true,post_true l _,λ_=>⟨List.Pairwise.nil,λ_ hm=>(nomatch hm)⟩⟩,h2,h3,h4]
end Att
theorem oM:∀{vs:zD} {ns:zI},IntsAre vs ns->fZ (ns.map V.int) vs
 | _,_,.nil=>.nil
 | _,_,.cons n t h=>.cons ⟨t,rfl⟩ (oM h)
abbrev CX0:CXT:=λ_ _ _ _ _ _=>False
abbrev E0:XK:=λ_ _ _=>False
theorem pass0:sN CX0 X E0:=λ_ _ _ _ _ _ _ h=>h.elim
structure Fun (K:ag)(x qual:Str)(st:bY)(f:ai)(fd:aM):Prop where
 ex:∃(oc:ae) (od:Option ai) (kV doc pm:ae) (an:Option ai) (cdv ct:ae) (osl:Array zJ),
  fd=eQ x qual (kU st) (gp st) (defScope st) .none kV doc pm an cdv ct/\K.lookup f=some ⟨oc,od,.func fd,osl⟩/\gY K cdv qual=true
 kp:dh K (.ref f)=true
theorem Fun.ok {k:Nat}{sp:Sp}(F:Fun K x qual st f fd)(S:bH N ps (defScope st))(len:∀vs H Q E,sp vs H Q E->vs.length=ps.length)
  (hbody:∀ (cdv:ae) (A:bT) (outer:List Env) (s:aq) (H:Hp) (vs:zA) (Q:VK) (E:XK),kX k (A.deeper (envOfC qual (defScope st) s.heap.objs.size f cdv))->sp vs H Q E ->
   ∃ t,PSs (cxOf CX0 P w K mg base N qual (defScope st) f cdv A outer s H E).nox (gp st) t/\t { nx:=fun _ H'=>Q .non H',rt:=Q } (start N vs) H):‹0› (k+1) f fd ps sp:=by
 let⟨oc,od,kV,doc,pm,an,cdv,ct,osl,rfl,lk,hcd⟩:=F.ex;rwa[fn_of lk hcd S len λA outer s H vs Q E hr hsp=>?_]
 let⟨t,h,q⟩:=hbody cdv A outer s H vs Q E hr hsp;rwa[t,h.nox,q]
theorem Fun.binds (F:Fun K x qual st f fd)
  (h:∀(kV doc pm:ae) (an:Option ai) (cdv ct:ae) (us:zD),us.length=ps.length->bindArgs (eQ x qual (kU st) (gp st) (defScope st) .none kV doc pm an cdv ct) ⟨us,[]⟩=gv (ps.zip us)):pE K fd ps []:=by
 let⟨oc,od,kV,doc,pm,an,cdv,ct,osl,rfl,lk,hcd⟩:=F.ex;rwa[.all (h kV doc pm an cdv ct)]
theorem qg {oc:ae}{od an:Option ai}{kV doc pm cdv ct:ae}(l:K.lookup f=some ⟨oc,od,.func (eQ x qual (kU st) (gp st) (defScope st) .none kV doc pm an cdv ct),osl⟩)
  (c:gY K cdv qual=true) (k:dh K (.ref f)=true):Fun K x qual st f (eQ x qual (kU st) (gp st) (defScope st) .none kV doc pm an cdv ct):=⟨⟨oc,od,kV,doc,pm,an,cdv,ct,osl,rfl,l,c⟩,k⟩
theorem oR {n:Nat}(h:n<=1000):n<aO:=bV h ↥0
def pv (i:Nat)(hN:autoParam (X.N[i]? =some x) Ωa)(hv:autoParam (Vis X.env.scope x) Ωe)(hd:autoParam ((x == ("__debug__" :Str))=false) Ωb)
  (hcd:autoParam ((x == ("__classdict__" :Str))=false) Ωb):PE X (.Name x pos) (tVar i):=pe_var hN hv hd hcd
theorem iteF {A:Prop}(h:B):if false=true then A else B:=by
 cbv
theorem iteT {A:Prop}(h:A):if true=true then A else B:=by
 cbv
theorem oJ {c A:Prop}[Decidable c](h1:c->A)(h2:¬c->B):if c then A else B:=by
 cbv
def bt (H H':Hp):Prop:=∀b o,H b=some o->H' b=some o
theorem bt.refl (H:Hp):bt H H:=λ_ _ h=>h
theorem bt.trans (a:bt H H1)(b:bt H1 H2):bt H H2:=λc o h=>b c o (a c o h)
theorem bt.free (e:bt H H'){l:ai}(h:H' l=Option.none):H l=Option.none:=by
 cases q:H l with
 | none=>rfl
 | some o =>
  rw[e l o q] at h;cases h
theorem nZ:OpR X (gq .FloorDiv) (rI (λ_ j=>0<j/\j.natAbs.log2<9000) λi j=>.int (i / j)):=opI λi j _ _ _ _ _ hc q=>by
 have e :=Int.fdiv_eq_ediv_of_nonneg i (Int.le_of_lt hc.1);rwa[floordiv_int ⋯ ?_ (.inl (PyProof.noPylong_of_log2 hc.2))];rw[e];rwa[q]
theorem op_isB:OpR X (cZ .Is) (λx y H Q=>∃b c,x= .bl b/\y= .bl c/\Q (.bl (b == c)) H):=by
 left;let⟨b,c,rfl,rfl,q⟩:=h;cases(rx);cases(ry);rwa[wpAny_is_plain rfl (dZ I q ?_)];cases b <;> cases c <;> rfl
theorem rT:OpR X (cZ .IsNot) (λx y H Q=>∃b c,x= .bl b/\y= .bl c/\Q (.bl (!(b == c))) H):=by
 left;let⟨b,c,rfl,rfl,q⟩:=h;cases(rx);cases(ry);rwa[wpAny_isNot_plain rfl (dZ I q ?_)];cases b <;> cases c <;> rfl
theorem bools_of:∀{bs:List Bool} {us:zD},fZ (bs.map V.bl) us->LSm.BoolsAre us bs
 | [],_,.nil=>.nil
 | b::bs,_,.cons r t=>by
  cases(r);rwa[.cons b (bools_of t)]
theorem oa (hc:X.calm=true):jy X (.builtin "all") (λxs H Q=>∃(p:ai) (bs:List Bool),xs=[.ref p]/\SqL X.K H p (bs.map V.bl)/\Q (.bl (bs.all id)) H):=by
 norm_cast;let⟨p,bs,rfl,hq,q⟩:=h;let⟨u,rfl,ru⟩:=lZ r;cases(show u=ae.ref p from ru);let⟨its,rv,pl,hz⟩:=I.list hq;have hb:=bools_of rv;have hil:s.heap.IsList p its.toArray:=pl.isList;have plt:p<s.heap.objs.size:=by let⟨_,e,_⟩:=hil;rwa[aS e]
 apply call_all_walk (wpAny_pyIter_list hil ⟨s.heap.objs.size,[s.heap.objs.size,p],[s.heap.objs.size],its.toArray.size,_,_,fun i=>(bs[i]?).getD true,rfl,
  Walks.list (A:=X.A.in1) (I.ok.hd hc) _ p (bP plt) its.toArray,⟨⟨_,aR _ rfl,rfl,rfl⟩,hil.push _⟩,?_,?_⟩)
 ·intro i v s' Q' E' hP hT
  let⟨b,e,rfl⟩:=hb.get i v (by simpa using hP);simp only[e,Option.getD_some] at hT;rwa[gg hT]
 ·intro h' tk hk
  have e2:((aQ its.toArray.size).all λi=>(bs[i]?).getD true)=bs.all id:=by
   rw[br,hb.length];rwa[LSm.range_all bs]
  rw[e2];rwa[.bl _,H,I.kept (LSm.kept_iter hk),rfl,q]
theorem op_eqL0 (hu:X.A.units<cLine):OpR X (cZ .Eq) (λx y H Q=>∃a b xs,x= .ref a/\y= .ref b/\SqL X.K H a xs/\SqL X.K H b []/\Q (.bl xs.isEmpty) H):=by
 left;let⟨a,b,xs,rfl,rfl,ha,hb,q⟩:=h;cases(show v=ae.ref a from rx);cases(show u=ae.ref b from ry);let⟨its,r1,p1,_⟩:=I.list ha;let⟨its2,r2,p2,_⟩:=I.list hb;cases r2;cases r1 with
 | nil=>rwa[SeqAt.eq_listAt (e:=λ_=>true) p1.isList p2.isList rfl hu (λj h1 _=>tR h1 ∅) (dZ I q ∅)]
 | cons _ _=>rwa[SeqAt.eq_list_lengthsAt p1.isList p2.isList ∅ hu (dZ I q ∅)]
noncomputable def tyn (H:Hp):V->Option String
 | .non=>some "NoneType"
 | .bl _=>some "bool"
 | .int _=>some "int"
 | .str _=>some "str"
 | .ref a=>match H a with
  | some (.lst _)=>some "list"
  | some (.tup _)=>some "tuple"
  | some (.dK _)=>some "dict"
  | _=>none
 | _=>none
theorem TyOf.byName {v:V}(h:tyn H v=some T):TyOf K H v (.type T):=by
 cases v with
 | non=>cases h;rwa[.non]
 | bl b=>cases h;rwa[.bl b]
 | int i=>cases h;rwa[.int i]
 | str x=>cases h;rwa[.str x]
 | ref a =>
  simp only[tyn] at h;cases e:H a with
  | none=>rw[e] at h;cases h
  | some o =>
   rw[e] at h;cases o <;> first | (cases h;first | rwa[.lst e]| rwa[.tup e]| rwa[.dK e]) | cases h
 | _=>cases h
theorem kit_tuple (K:ag)(h:T∈["NoneType","bool","int","str","list","tuple","dict"]):jL K (.type T) (.type "tuple")=some (T == "tuple"):=by
 simp only[bh,fN,or_false] at h
 rcases h with rfl | rfl | rfl | rfl | rfl | rfl | rfl <;> kernel_rfl
theorem kit_int (K:ag)(h:T∈["NoneType","bool","int","str","list","tuple","dict"]):jL K (.type T) (.type "int")=some (T == "int" || T == "bool"):=by
 simp only[bh,fN,or_false] at h
 rcases h with rfl | rfl | rfl | rfl | rfl | rfl | rfl <;> kernel_rfl
theorem kit_bool (K:ag)(h:T∈["NoneType","bool","int","str","list","tuple","dict"]):jL K (.type T) (.type "bool")=some (T == "bool"):=by
 simp only[bh,fN,or_false] at h
 rcases h with rfl | rfl | rfl | rfl | rfl | rfl | rfl <;> kernel_rfl
theorem tyn_mem {v:V}(h:tyn H v=some T):T∈["NoneType","bool","int","str","list","tuple","dict"]:=by
 cases v with
 | non=>cases h;simp
 | bl b=>cases h;simp
 | int i=>cases h;simp
 | str x=>cases h;simp
 | ref a =>
  grind [tyn]
 | _=>cases h
theorem mS:jy X (.builtin "isinstance") (λxs H Q=>∃x n t b,xs=[x,.ty n]/\TyOf X.K H x t/\jL X.K t (.type n)=some b/\Q (.bl b) H):=by
 norm_cast;let⟨x,n,t,b,rfl,ty,e,q⟩:=h;let⟨u,w',rfl,ru,rw'⟩:=vals2 r;cases(rw');rwa[isinst_ok I ru ty e λtk=>⟨.bl b,H,I.tok tk,rfl,q⟩]
theorem call_isTup:jy X (.builtin "isinstance") (λxs H Q=>∃x T,xs=[x,.ty "tuple"]∧tyn H x=some T∧Q (.bl (T == "tuple")) H):=
 λaN s σ H xs us Q I r ⟨x,T,e,hT,q⟩=>mS aN s σ H xs us Q I r ⟨x,_,_,_,e,.byName hT,kit_tuple _ (tyn_mem hT),q⟩
theorem call_isInt:jy X (.builtin "isinstance") (λxs H Q=>∃x T,xs=[x,.ty "int"]∧tyn H x=some T∧Q (.bl (T == "int" || T == "bool")) H):=
 λaN s σ H xs us Q I r ⟨x,T,e,hT,q⟩=>mS aN s σ H xs us Q I r ⟨x,_,_,_,e,.byName hT,kit_int _ (tyn_mem hT),q⟩
theorem call_isBool:jy X (.builtin "isinstance") (λxs H Q=>∃x T,xs=[x,.ty "bool"]∧tyn H x=some T∧Q (.bl (T == "bool")) H):=
 λaN s σ H xs us Q I r ⟨x,T,e,hT,q⟩=>mS aN s σ H xs us Q I r ⟨x,_,_,_,e,.byName hT,kit_bool _ (tyn_mem hT),q⟩
inductive rCatA (K:ag)(x:V)(y:V)(H:Hp)(Q:VK):Prop
 | mk (a b xs ys:_)(_:x= .ref a)(_:y= .ref b)(_:H a=some (.tup xs))(_:H b=some (.tup ys))(_:xs.length+ys.length<=aO)(_:∀p H',bt H H'->H' p=some (.tup (xs++ys))->Q (.ref p) H')
theorem lT:OpR X (gq .Add) (rCatA X.K):=by
 left;let⟨a,b,xs,ys,rfl,rfl,ha,hb,hz,q⟩:=h;cases xs with
 | cons x xs =>
  rwa[op_catT aN s σ H (.ref a) (.ref b) v u Q I rx ry ⟨a,b,_,ys,rfl,rfl,zT ha,zT hb,∅,hz,λe=>?_,λ_ p hp=>?_⟩]
  ·grind [bt.refl,fk]
  ·rwa[q p _ (λc o e=>by rw[bw (bJ e hp)];exact e) aJ]
 | nil =>
  cases(rx);cases(ry);let⟨its,r1,p1,_⟩:=I.tuple (zT ha);let⟨its2,r2,p2,_⟩:=I.tuple (zT hb);cases r1;let⟨⟨c1,d1,t1,l1⟩,o1,k1,n1,g1⟩:=id p1;let⟨⟨c2,d2,t2,l2⟩,o2,k2,n2,g2⟩:=id p2;simp only at k1 g1 k2 g2;subst k1 g1 k2 g2;exact concat_meets ⟨_,o1,rfl⟩ ⟨_,o2,rfl⟩ noFill_tuple_add seq_tuple_add PySem.F.slot_tuple_add mU (mG _ _)
   (tuple_addW0 a b _ its2.toArray n1 n2 d1 d2 l1 l2 ∅) ⟨o1,o2,⟨.ref b,H,I,rfl,q b H (bt.refl H) hb⟩⟩
noncomputable def nN (X:Cx)(scope:ft)(cl:List (Str×ai))(C:ai)(N:List Str)(s:aq)(H:Hp)(ex:zX):Cx:=
 { X with N:=N,s₀:=s,H₀:=H,env:=compEnvC scope cl C X.env,outer:=X.stack,ex:=ex,fn:=λ_=>false,pn:=[],xe:=λ_ _=>False }
theorem sG (hf:∀y∈scope.names,y.2= .free->∃c,env.cells.lookup y.1=some c) :
  ∃cl,closureFor scope env=gv cl/\(∀x c,cl.lookup x=some c->env.cells.lookup x=some c)/\∀y∈scope.names,y.2= .free->cl.lookup y.1=env.cells.lookup y.1:=by
 have aux:∀(names:List (Str×fY)) (acc:List (Str×ai)),(∀y∈names,y.2= .free->∃c,env.cells.lookup y.1=some c)->(∀x c,acc.lookup x=some c->env.cells.lookup x=some c) ->
   ∃ cl,(forIn names acc fun x r=>match x with
     | (name,kind)=>if (kind == fY.free)=true then (cellOf env name >>= fun c=>gv (ForInStep.yield ((name,c)::r))) else gv (ForInStep.yield r))=gv cl /\
    (∀x c,cl.lookup x=some c->env.cells.lookup x=some c)/\(∀x c,acc.lookup x=some c->cl.lookup x=some c)/\∀y∈names,y.2= .free->cl.lookup y.1=env.cells.lookup y.1:=by
  intro names
  induction names with
  | nil=>intro acc _ ha;rwa[acc,rfl,ha,λ_ _ e=>e,λy hy=>tR hy ∅]
  | cons z r ih =>
   intro acc hn ha;let⟨n,k⟩:=z;have hr:∀y∈r,y.2= .free->∃c,env.cells.lookup y.1=some c:=↥1
   by_cases hk:k= .free
   ·subst hk
    let⟨c,hc⟩:=hn (n,.free) bQ rfl;have ha':∀x d,((n,c)::acc).lookup x=some d->env.cells.lookup x=some d:=↥1
    let⟨cl,e1,e2,e3,e4⟩:=ih ((n,c)::acc) hr ha';have jK:cellOf env n=gv c:=by unfold cellOf;rw[hc]
    grind
   ·let⟨cl,e1,e2,e3,e4⟩:=ih acc hr ha
    grind
 let⟨cl,e1,e2,_,e4⟩:=aux scope.names [] hf λx c e=>by cases e
 unfold closureFor
 grind
theorem pQ {env:Env}:∀{names:List (Str×fY)} {x:Str} {k':fY},
  (names.map λ(n,k)=>if (k == fY.free && env.scope.kind == .function && env.kindOf n == some .cell) then (n,fY.cell) else (n,k)).lookup x=some k' ->
  names.lookup x=some k'\/(names.lookup x=some .free/\k'= .cell)
 | [],_,_,h=>by simp at h
 | (n,k)::r,x,k',h=>by
  have ih:=@pQ env r x k'
  grind
theorem p9 {env:Env}(hk:env.scope.kind= .function){x:Str}(hx:env.kindOf x=some .cell):∀{names:List (Str×fY)},names.lookup x=some .free ->
  (names.map λ(n,k)=>if (k == fY.free && env.scope.kind == .function && env.kindOf n == some .cell) then (n,fY.cell) else (n,k)).lookup x=some .cell
 | [],h=>by simp at h
 | (n,k)::r,h=>by
  have ih:=@p9 env hk x hx r
  grind
def PTs (X:Cx)(ifs:List Expr)(t:TT):Prop:=
 ∀(aN:List (ai×Obj)) (s:aq) (σ:St) (H:Hp) (Q:Bool->Hp->Prop),‹1›->t σ H Q ->
  ‹2› (forIn ifs true λc r=>if r=true then do let ok <- isTrue c X.env (eO c X.env);gv (ForInStep.yield ok) else gv (ForInStep.yield r)) (TP X aN σ Q) X.xe s
def tNoIf:TT:=λ_ H Q=>Q true H
theorem eZ {A B:Hp->Prop}(h:A H):tNoIf σ H λb H4=>if b=true then A H4 else B H4:=by
 show if true=true then A H else B H
 cbv
theorem dU:PTs X [] tNoIf:=λ_ _ _ H _ I h=>wpAny_tests_nil ⟨H,I,h⟩
theorem oq {c:Expr}{t:TT}(h:PT X c t):PTs X [c] t:=λaN s σ H Q I q=>wpAny_tests_one (h aN s σ H Q I q)
theorem HOk.take (x:HOk P w H h)(hn:H a=none)(new:km P w (upd H a o) h a o):HOk P w (upd H a o) h:=λb u e=>by
 by_cases hb:b=a
 ·grind [aJ]
 ·rw[bw hb] at e
  exact(x b u e).stay (λ_ _ _ q=>q) (λc q=>by rw[bw (bJ q hn)];rwa[q]) λc xs q=>by rw[bw (bJ q hn)];rwa[q]
noncomputable def cL (σ:St)(js:zC):St:=js.map λj=>(σ[j]?).getD none
def CompW (js:zC)(tt:TT)(te:TE)(σ:St)(Q:VK)(J:It)(H1:Hp):Prop:=∃W:Nat->Nat->zA->Hp->Prop,(∃m,W 0 m [] H1)/\∀i m ys H2,W i m ys H2 ->
 (J.stop i H2/\∀D,H2 D=none->Q (.ref D) (upd H2 D (.lst ys))) \/
 (J.go i H2/\ys.length<aO/\∃ N:zA->Hp->Prop,(∀ ys' H',N ys' H'->∃ m',m'<m/\W (i+1) m' ys' H')/\∀ x H3,J.yld i H2 x H3->tt (some x::cL σ js) H3 fun b H4 =>
  if b=true then te (some x::cL σ js) H4 fun y H5=>N (ys++[y]) H5 else N ys H4)
def tComp (wi:TI)(js:zC)(tt:TT)(te:TE):TE:=λσ H Q=>wi σ H λJ H1=>CompW js tt te σ Q J H1
abbrev lobj (us:zD)(n:Nat):Obj:={ cls:=.type "list",data:=.seq us.toArray n }
abbrev qh (prog:aL)(w:bp)(A:bT)(env:Env)(R:Result->aq->Prop):ae->aq->Prop:=notedBy (bC prog w) A env λx t=>R (.error x) t
theorem loop_any {it acc:ae}(J:Nat->aq->Prop)
  (step:∀ k t,J k t->‹5› (pyNext it) (fun r t1=>match r with
   | none=>R (.ok .next) t1
   | some v=>‹5› (mr tg it v) (fun _ t2=>‹5› (assign tg env v) (fun _ t3 =>
     ‹5› (forIn ifs true fun c b=>if b=true then do let z <- isTrue c env (eO c env);gv (ForInStep.yield z) else gv (ForInStep.yield b)) (fun z t4 =>
      if z=true then ‹5› (eO elt env) (λy t5=>‹5› (call (.builtin "list.append") [acc,y]) (λ_ t6=>∃m,m<k/\J m t6) (qh prog w A env R) t5) (qh prog w A env R) t4
      else ∃ m,m<k/\J m t4) (qh prog w A env R) t3) (qh prog w A env R) t2) (qh prog w A env R) t1) (qh prog w A env R) t)
  (k:Nat) (h:J k s):kD (bC prog w) A (.compLoop (.ListComp elt [⟨tg,iter,ifs,0⟩] scope pos) 0 it acc env) R s:=by
 rwa[codeAny_loop rfl J (λk t hJ=>?_) k h];show bz _ A ((compTurn (.ListComp elt [⟨tg,iter,ifs,0⟩] scope pos) 0 it acc env).onRaise (λy=>do noteFrame y env;theTreesLotGoes y)) _ _ t;rwa[wpAny_noted ?_];rw[compTurn_list];rwa[ak (wpAny_standAt (ak (cj (step k t hJ) (λr t1 q1=>?_) λ_ _ f=>f)))];cases r with
 | none=>rwa[aP q1]
 | some v =>
  rwa[ak (cj q1 (λ_ t2 q2=>?_) λ_ _ f=>f)];rwa[ak (cj q2 (λ_ t3 q3=>?_) λ_ _ f=>f)];rwa[ak (cj q3 (λz t4 q4=>?_) λ_ _ f=>f)];cases z with
  | false=>rwa[aP ⟨rfl,q4⟩]
  | true=>rwa[ak (ak (cj q4 (λy t5 q5=>ak (cj q5 (λ_ t6 q6=>aP (aP ⟨rfl,q6⟩)) λ_ _ f=>f)) λ_ _ f=>f))]
def qi (n:Nat)(g:TG)(js:zC)(tt:TT)(te:TE)(σ:St)(Q:VK)(J:It)(H1:Hp):Prop:=∃W:Nat->Nat->zA->Hp->Prop,(∃m,W 0 m [] H1)/\∀i m ys H2,W i m ys H2 ->
 (J.stop i H2/\∀D,H2 D=none->Q (.ref D) (upd H2 D (.lst ys))) \/
 (J.go i H2/\ys.length<aO/\∃ N:zA->Hp->Prop,(∀ ys' H',N ys' H'->∃ m',m'<m/\W (i+1) m' ys' H')/\∀ x H3,J.yld i H2 x H3->∀ v0:St,v0.length=n->g x (v0++cL σ js) H3 fun σ4 H4 =>
  (∃ v1:St,v1.length=n/\σ4=v1++cL σ js)/\tt σ4 H4 fun b H5=>if b=true then te σ4 H5 fun y H6=>N (ys++[y]) H6 else N ys H5)
def tCompT (wi:TI)(n:Nat)(g:TG)(js:zC)(tt:TT)(te:TE):TE:=λσ H Q=>wi σ H λJ H1=>qi n g js tt te σ Q J H1
def cxC (XE:List (Str×ai)->ai->ae->aq->Prop)(X:Cx)(scope:ft)(cl:List (Str×ai))(C:ai)(N:List Str)(s:aq)(H:Hp)(ex:zX):Cx:=
 { X with N:=N,s₀:=s,H₀:=H,env:=compEnvC scope cl C X.env,outer:=X.stack,ex:=ex,fn:=λ_=>false,pn:=[],xe:=XE cl C }
theorem comp_core {Q:VK}{use:Option (ae->Sem Unit)}{R:ae->aq->Prop}{CW:St->VK->It->Hp->Prop}{xs:List Str}
  (hc:X.calm=true) (hi:PI X tg iter wi)
  (jK:∀y∈scope.names,y.2≠ .cell) (oB:scope.kind= .function) (nL:∀y∈scope.names,y.2= .local->scope.names.lookup y.1=some .local)
  (hfr:∀y∈scope.names,y.2= .free->X.env.scope.names.lookup y.1=some .cell) (hjs:js.map (λj=>X.N[j]?)=fr.map some) (hfv:∀y∈fr,scope.names.lookup y=some .free)
  (hg:∀cl C s' H' ex,PG (cxC XE X scope cl C (xs++fr) s' H' ex) tg g)
  (hb:∀cl C s' H' ex,PASS cl C s' H' ex->PE (cxC XE X scope cl C (xs++fr) s' H' ex) elt te/\PTs (cxC XE X scope cl C (xs++fr) s' H' ex) ifs tt)
  (hp:∀cl C aN σ H2 s2 fp,Inv X aN σ H2 s2->(∀b∈fp,b∈X.ex\/X.s₀.heap.objs.size<=b)->s2.heap.objs.size<=C->PASS cl C s2 H2 fp)
  (hxe:∀cl C D e s',XE cl C e s'->qh X.prog X.w X.A (compEnvC scope cl C X.env) (compPost (bC X.prog X.w) X.A X.xe use R D C) e s')
  (hCW:∀σ Q J H1,CW σ Q J H1->qi xs.length g js tt te σ Q J H1) (I:‹1›) (h:wi σ H λJ H1=>CW σ Q J H1)
  (fin:∀(s4:aq) (H5:Hp) (D C:ai) (mC:Str->zJ),s4.heap.Ns C mC->Inv X aN σ H5 s4->H5 C=none->C≠X.env.locals->C ∉ X.fs->(∀p∈X.pn++aN,p.1≠C)->(∀y c,X.env.cells.lookup y=some c->c≠C)->X.s₀.heap.objs.size<=C->Q (.ref D) H5->compPost (bC X.prog X.w) X.A X.xe use R (.ref D) C (.ok .next) s4)
  (hs:autoParam (∀z,gh iter X.env z=gv z) Ωc) :
  ‹2› (comprehension (.ListComp elt [⟨tg,iter,ifs,0⟩] scope pos) scope X.env pos' (newList []) false (eO iter X.env) use) R X.xe s:=by
 have hXk :=I.ok.kind;let⟨cl,hclos,c1,c2⟩:=sG λy hy hk=>I.ok.has _ (.inl (hfr y hy hk))
 rwa[wpAny_comprehension_free rfl hs hclos oB nL (thn (hi aN s σ H _ I h) λxv s1 h1=>thn h1 λitv s2 h2=>?_)];let⟨it,fp,tn,J,H2,rfl,I2,T,st2,f2,hcw⟩:=h2;let⟨W,⟨m0,w0⟩,turn⟩:=hCW _ _ _ _ hcw;rwa[fm (wpAny_newFunctionEnv jK ↥1 (λhA nsA sbA=>?_) oB)]
 dsimp only at nsA sbA ⊢
 generalize hG:s2.heap.push { cls:=.type "list",dict:=none,data:=.seq ([]).toArray }=G at nsA sbA ⊢;have hC:G.objs.size=s2.heap.objs.size+1:=by rw[<-hG,fc]
 have hDC:s2.heap.objs.size≠G.objs.size:=by lia
 have small:∀b o,s2.heap.get? b=some o->b≠G.objs.size/\b≠s2.heap.objs.size:=λb o e=>⟨by rw[hC];rwa[bP (Nat.lt_succ_of_lt (aS e))],bP (aS e)⟩
 have old:∀b o,s2.heap.get? b=some o->hA.get? b=some o:=λb o e=>sbA.extBut b o (small b o e).1 (ao _ (hG ▸ ao _ e))
 have hDA :=sbA.extBut _ _ hDC (ao _ (hG ▸ aR _ rfl));have fpo:∀b∈fp,∃o,s2.heap.get? b=some o:=λb hb=>let ⟨o,e,_⟩:=T.obj _ _ st2 b hb;⟨o,e⟩
 have celo:∀y c,cl.lookup y=some c->∃o,s2.heap.get? c=some o:=λy c e=>let ⟨_,o,ho,_⟩:=I2.cell y c (c1 y c e);⟨o,ho⟩
 have ok':(cxC XE X scope cl G.objs.size (xs++fr) s2 H2 fp).Ok:=by
  rwa[I2.ok.mod,oB,I2.ok.glob,I2.ok.blt,?_,λa b c e1 e2=>I2.ok.inj a b c (c1 a c e1) (c1 b c e2),λy hy=>?_,λ_ _ z=>tR z (by intro q;cases q),I2.ok.hd,I2.ok.frames,.inl rfl,λb hb=>?_,I2.bs,aU I2.ok.bsz I2.sz,λb o e hb=>?_,λb hb hz=>?_,I2.stack,I2.stkFree]
  ·show s2.heap.objs.size<=G.objs.size
   lia
  ·have key:scope.names.lookup y=some .free:=by
    rcases hy with hy | hy
    ·rcases pQ hy with q | ⟨q,_⟩
     ·rwa[tR rfl (jK _ (cx q))]
     ·rwa[q]
    ·rcases pQ hy with q | ⟨q,_⟩
     ·rwa[q]
     ·rwa[q]
   have hm:=cx key;let⟨c,e⟩:=I.ok.has y (.inl (hfr _ hm rfl));rwa[c,(c2 _ hm rfl).trans e]
  ·let⟨o,e⟩:=fpo b hb
   rwa[(small b o e).1,λy c q=>(f2 b hb).2.2.2.2.1 y c (c1 y c q)]
  ·let⟨_,_,_,f3,_⟩:=f2 b hb
   rcases f3 with f3 | f3
   ·rwa[I2.ok.noex b o e f3]
   ·rwa[tR (aW (aS e) (aU I2.ok.bsz f3)) (g6 _)]
  ·let⟨_,n1,n2,_⟩:=f2 b hb
   rwa[(bh.mp (I2.stkSub b hz)).elim n1 n2]
 have nofs:s2.heap.objs.size ∉ frs X.stack:=λhz=>by
  let⟨_,o,ho,_⟩:=I2.stack.mem hz;rwa[g6 _ (aS ho)]
 have lenB:(cL σ js).length=fr.length:=by
  have e:=tW kH hjs;rw[aa,aa] at e;unfold cL;rw[aa];rwa[e]
 have start':∀t,Inv (cxC XE X scope cl G.objs.size (xs++fr) s2 H2 fp) [(s2.heap.objs.size,lobj [] 0)] ((xs.map λ_=>none)++cL σ js) H2 { s2 with heap:=hA,toks:=t }:=λt=>by
  rwa[ok',rfl,I2.bare,Un.kept old,⟨_,nsA,λi y v e1 e2 e3=>?_⟩,λy c e=>?_,I2.hok.fresh (by rw[hC];rwa[jP _]),λy c e=>I2.freeC y c (c1 y c e),λp hp=>?_,I2.hok.kept old,?_]
  ·by_cases hix:i<xs.length
   ·rw[fu (by rw[aa];rwa[hix]),av,gE hix] at e2
    cases e2
   ·obtain⟨i,rfl⟩:∃j,i=xs.length+j:=⟨i - xs.length,⋯⟩
    have e1:(xs++fr)[xs.length+i]? =some y:=e1;have e1:fr[i]? =some y:=by rw[bU ⋯,show xs.length+i - xs.length=i by lia] at e1;rwa[e1]
    have e2:(cL σ js)[i]? =some (some v):=by rw[bU (by rw[aa];lia),aa,show xs.length+i - xs.length=i by lia] at e2;rwa[e2]
    unfold cL at e2;rw[av] at e2;let⟨j,ej,e2⟩:=aX.mp e2;have hN:X.N[j]? =some y:=by
     have q:=tW (λl=>l[i]?) hjs;simp only[av,ej,e1,gH] at q;rwa[cV q]
    have hσ:σ[j]? =some (some v):=by
     cases z:σ[j]? with
     | none=>rw[z] at e2;cases e2
     | some w=>rw[z] at e2;rwa[tW some e2]
    have hfree:=hfv y (aZ e1);have hm:=cx hfree;have hce :=hfr _ hm rfl;let⟨m,_,hl⟩:=I2.loc;let⟨u,ru,look⟩:=hl j y v hN hσ (.inr (.inl hce));rwa[u,ru,.inr ⟨.inl (p9 hXk hce hfree),?_⟩]
    rcases look with ⟨k,_⟩ | ⟨_,c,ec,ho⟩
    ·have k:X.env.scope.names.lookup y=some .local:=k
     rw[hce] at k;cases k
    ·let⟨o,ho,hd⟩:=ho
     rwa[c,(c2 _ hm rfl).trans ec,o,old c o ho,hd]
  ·let⟨v,o,ho,hd⟩:=I2.cell y c (c1 y c e)
   rwa[v,o,old c o ho,hd]
  ·have e:=bf.mp hp
   subst e;rwa[hDA,I2.hok.fresh (ay _),hDC,nofs,λv z=>by cases z]
  ·show((xs.map λ_=>none)++cL σ js).length=(xs++fr).length
   rw[ax,ax,aa,lenB]
 have fok:∀{us:zD} {n:Nat} {H':Hp},(∀b∈fp,H' b=none)->∀b∈fp,FpOk (cxC XE X scope cl G.objs.size (xs++fr) s2 H2 fp) [(s2.heap.objs.size,lobj us n)] H' b:=λ{us n H'} hn b hb=>by
  let⟨o,e⟩:=fpo b hb;rwa[hn b hb,(small b o e).1,λhz=>(bh.mp (I2.stkSub b hz)).elim (f2 b hb).2.1 (f2 b hb).2.2.1,.inl hb,λy c q=>(f2 b hb).2.2.2.2.1 y c (c1 y c q),λp hp=>?_];have ep:=bf.mp hp;subst ep;rwa[λz=>(small b o e).2 z.symm]
 have hpass:=hp cl G.objs.size aN σ H2 s2 fp I2 (λb hb'=>(f2 b hb').2.2.2.1) (by rw[hC];rwa[jP _]);have loop:∀sB:aq,(∃t,sB={ s2 with heap:=hA,toks:=t }) ->
   kD (bC X.prog X.w) X.A (.compLoop (.ListComp elt [⟨tg,iter,ifs,0⟩] scope pos) 0 (.ref it) (.ref s2.heap.objs.size) (compEnvC scope cl G.objs.size X.env))
    (compPost (bC X.prog X.w) X.A X.xe use R (.ref s2.heap.objs.size) G.objs.size) sB:=by
  rintro sB ⟨t,rfl⟩;apply loop_any (λk s'=>∃i ys us n v0 H',v0.length=xs.length/\Inv (cxC XE X scope cl G.objs.size (xs++fr) s2 H2 fp) [(s2.heap.objs.size,lobj us n)] (v0++cL σ js) H' s'/\fZ ys us/\ys.length<=aO/\tn i s'.heap/\(∀b∈fp,H' b=none)/\W i k ys H') ?_ m0
   ⟨0,[],[],0,xs.map λ_=>none,H2,aa ..,start' t,.nil,bq _,T.keep _ _ _ st2 λb hb o e=>old b o e,λb hb=>(f2 b hb).1,w0⟩
  rintro k s3 ⟨i,ys,us,n,v0,H3,hv0,I3,rv,hlen,st3,fr3,w3⟩
  rcases turn i k ys H3 w3 with ⟨stop,qn⟩ | ⟨go,hlt,N',hN',step⟩
  ·apply thn (T.done (cxC XE X scope cl G.objs.size (xs++fr) s2 H2 fp) rfl rfl rfl hc i _ s3 _ H3 _ I3 (fok fr3) st3 stop) λr s4 hz0=>?_
   let⟨hr,I4⟩:=hz0;subst hr;let⟨mC,hnC,_⟩:=id I4.loc;let⟨pD,nD,_,_,_⟩:=I4.pin (s2.heap.objs.size,lobj us n) ∅;have nC :=I4.free;have D2:∀b o,s2.heap.get? b=some o->b≠s2.heap.objs.size:=λb o e=>(small b o e).2
   have base4 :=I4.base;have u4:Un (frs X.stack) fp H2 (upd H3 s2.heap.objs.size (.lst ys)) s2.heap s4.heap:=
    {keep:=base4.keep
     slot:=base4.slot
     free:=λb o e nb hx'=>by rw[bw (D2 b o e)];rwa[base4.free b o e nb hx']
     there:=base4.there
     tups:=λb xs e=>by have q:=base4.tups b xs e;rw[bw (bJ q nD)];rwa[q]
     frzs:=λb o u e=>by have q:=base4.frzs b o u e;rw[bw (bJ q nD)];rwa[q]
     tbls:=fun b ps e=>by obtain ⟨more,q⟩:=base4.tbls b ps e;exact ⟨more,by rw[bw (bJ q nD)];rwa[q]⟩ }
   have I5 :=I2.call' I4.os u4 (I4.hok.take nD ⟨hlen,us,n,rv,pD⟩) I4.bare λb hb=>by
    let⟨_,g1,_,g3,g4,g5⟩:=f2 b hb;rwa[g3,g1,g4,g5]
   have locC:G.objs.size≠X.env.locals:=λz=>by
    let⟨_,⟨o,_,_,ho,_⟩,_⟩:=id I2.loc;rwa[(small _ o ho).1 z.symm]
   have fsC:G.objs.size ∉ X.fs:=λhz=>by
    let⟨_,o,ho,_⟩:=I2.ok.funs.mem hz;have:=aW (aS ho) I2.sz;rw[hC] at this;rwa[g6 _ (Nat.lt_of_succ_lt this)]
   have pinX:∀p∈X.pn++aN,p.1≠G.objs.size:=λp hp=>(small _ _ (I2.pin p hp).1).1
   have nCu:(upd H3 s2.heap.objs.size (.lst ys)) G.objs.size=none:=by rw[bw (cM hDC)];rwa[nC]
   rwa[fin s4 _ _ _ mC hnC I5 nCu locC fsC pinX (λy c q z=>?_) (aU I2.sz (by rw[hC];exact jP _)) (qn _ nD)];let⟨v,o,ho,_⟩:=I2.cell y c q;rwa[(small c o ho).1 z]
  ·apply thn (T.item (cxC XE X scope cl G.objs.size (xs++fr) s2 H2 fp) rfl rfl rfl hc i _ s3 _ H3 _ I3 (fok fr3) st3 go) λr s4 hz0=>?_
   let⟨u,hr,h4⟩:=hz0;subst hr;rwa[thn h4 λ_ s5 hz0=>?_]
   let⟨v,H5,I5,r5,y5,st5,fr5⟩:=hz0;have I5':=I5.pinned (fok fr5) (T.obj _ _ st5);rwa[cj (hg cl G.objs.size s2 H2 fp _ s5 _ H5 v u _ I5' r5 (step v H5 y5 v0 hv0)) (λ_ s6 hz0=>?_) λe t f=>hxe _ _ _ e t f]
   let⟨σ6,H6,I6,⟨w1,hw1,e6⟩,q6⟩:=hz0;subst e6;rwa[cj ((hb cl G.objs.size s2 H2 fp hpass).2 _ s6 _ H6 _ I6 q6) (λb s7 hz0=>?_) λe t f=>hxe _ _ _ e t f]
   let⟨H7,I7,q7⟩:=hz0;have back:∀{s8:aq} {H8:Hp},Inv (cxC XE X scope cl G.objs.size (xs++fr) s2 H2 fp) ([(s2.heap.objs.size,lobj us n)]++pinsAt fp s5.heap) (w1++cL σ js) H8 s8->tn (i+1) s8.heap/\∀b∈fp,H8 b=none:=λ{s8 H8} I8=>by
    rwa[T.keep _ _ _ st5 λb hb o e=>(I8.pin (b,o) (bo _ (bo _ (n4 hb e)))).1,λb hb=>?_];let⟨o,e,_⟩:=T.obj _ _ st5 b hb;rwa[(I8.pin (b,o) (bo _ (bo _ (n4 hb e)))).2.1]
   cases b with
   | false =>
    let⟨m',hm,w7⟩:=hN' _ _ q7;let⟨t7,n7⟩:=back I7;rwa[m',hm,i+1,ys,us,n,w1,H7,hw1,I7.unpinned,rv,hlen,t7,n7,w7]
   | true =>
    rwa[cj ((hb cl G.objs.size s2 H2 fp hpass).1 _ s7 _ H7 _ I7 q7) (λy' s8 hz0=>?_) λe t f=>hxe _ _ _ e t f]
    let⟨y,H8,I8,r8,q8⟩:=hz0;let⟨m',hm,w8⟩:=hN' _ _ q8;let⟨t8,n8⟩:=back I8;have I8':=I8.unpinned;let⟨pD,nD,_,_,_⟩:=I8'.pin (s2.heap.objs.size,lobj us n) ∅;rwa[append_at pD (λh9 hs9 e9=>?_) (by rw[br,<-rv.length];exact hlen)];have e9:h9.get? s2.heap.objs.size=some (lobj (us++[y']) (n+1)):=by rw[e9];simp[lobj]
    have J0:Inv (cxC XE X scope cl G.objs.size (xs++fr) s2 H2 fp) [] (w1++cL σ js) H8 s8:=I8'.pins_of λp hp=>tR hp ∅
    have J9:Inv (cxC XE X scope cl G.objs.size (xs++fr) s2 H2 fp) [] (w1++cL σ js) H8 { s8 with heap:=h9,toks:=s8.toks }:=
     J0.turned (fun b o hb' e=>hs9.extBut b o hb' e) nD hDC (.inr (ay _)) (fun y0 c q z=>by
      obtain ⟨o,e⟩:=celo y0 c q;rwa[(small c o e).2 z]) fun p hp=>tR (show p∈([]) from hp) ∅
    apply ⟨m',hm,i+1,ys++[y],us++[y'],n+1,w1,H8,hw1,J9.pins_of fun p hp=>?_,rv.append (.cons r8 .nil),(by rw[ax,iJ];rwa[hlt]),T.keep _ _ _ t8 fun b hb' o e=>hs9.extBut b o (by
     obtain ⟨o',e'⟩:=fpo b hb';rwa[(small b o' e').2]) e,n8,w8⟩
    have ep:=bf.mp hp;subst ep;rwa[e9,nD,hDC,nofs,λv z=>by cases z]
 rwa[codeAny_compStart_list (loop _ ⟨ς⟩) (T.self _ 0 _ _ _ (T.keep _ _ _ st2 λb hb o e=>old b o e) (loop _ ⟨ς⟩))]
theorem pe_compC {CW:St->VK->It->Hp->Prop}{xs:List Str}
  (hc:X.calm=true) (hi:PI X tg iter wi)
  (jK:∀y∈scope.names,y.2≠ .cell) (oB:scope.kind= .function) (nL:∀y∈scope.names,y.2= .local->scope.names.lookup y.1=some .local)
  (hfr:∀y∈scope.names,y.2= .free->X.env.scope.names.lookup y.1=some .cell) (hjs:js.map (λj=>X.N[j]?)=fr.map some) (hfv:∀y∈fr,scope.names.lookup y=some .free)
  (hg:∀cl C s' H' ex,PG (nN X scope cl C (xs++fr) s' H' ex) tg g)
  (hb:∀cl C s' H' ex,PE (nN X scope cl C (xs++fr) s' H' ex) elt te/\PTs (nN X scope cl C (xs++fr) s' H' ex) ifs tt)
  (hCW:∀σ Q J H1,CW σ Q J H1->qi xs.length g js tt te σ Q J H1) (hs:autoParam (∀z,gh iter X.env z=gv z) Ωc) :
  PE X (.ListComp elt [⟨tg,iter,ifs,0⟩] scope pos) (λσ H Q=>wi σ H λJ H1=>CW σ Q J H1):=by
 injections;rwa[comp_core hc hi jK oB nL hfr hjs hfv hg (λcl C s' H' ex _=>hb cl C s' H' ex) (λ_ _ _ _ _ _ _ _ _ _=>trivial) ⋯ hCW I h (λs4 H5 D C mC n I5 nC lC fC pC cC sC q=>⟨mC,n,λh' hsb=>⟨.ref D,H5,I5.turned (λb o hb' e=>hsb.extBut b o hb' e) nC lC (.inr sC) cC pC,rfl,q⟩⟩) hs]
theorem compW_T {Q:VK}{J:It}(h:CompW js tt te σ Q J H1):qi 1 (o9 0) js tt te σ Q J H1:=by
 let⟨W,w0,turn⟩:=h;rwa[W,w0,λi m ys H2 hw=>?_]
 rcases turn i m ys H2 hw with h | ⟨h1,h2,N,h3,h4⟩
 ·rwa[.inl h]
 ·apply .inr ⟨h1,h2,N,h3,λx H3 hy v0 hv=>?_⟩
  obtain⟨w,rfl⟩:∃w,v0=[w]:=by
   obtain _ | ⟨w,v0⟩:=v0
   ·cases hv
   ·obtain _ | ⟨z,v0⟩:=v0
    ·rwa[w,rfl]
    ·cases hv
  rwa[⟨[some x],rfl,rfl⟩,h4 x H3 hy]
theorem eN {px:Pos}
  (hc:X.calm=true) (hi:PI X (.Name x px) iter wi)
  (jK:∀y∈scope.names,y.2≠ .cell) (oB:scope.kind= .function) (nL:∀y∈scope.names,y.2= .local->scope.names.lookup y.1=some .local) (hx:scope.names.lookup x=some .local)
  (hfr:∀y∈scope.names,y.2= .free->X.env.scope.names.lookup y.1=some .cell) (hnd:(x::fr).Nodup) (hjs:js.map (λj=>X.N[j]?)=fr.map some) (hfv:∀y∈fr,scope.names.lookup y=some .free)
  (hb:∀cl C s' H' ex,PE (nN X scope cl C (x::fr) s' H' ex) elt te/\PTs (nN X scope cl C (x::fr) s' H' ex) ifs tt)
  (hs:autoParam (∀z,gh iter X.env z=gv z) Ωc) :
  PE X (.ListComp elt [⟨.Name x px,iter,ifs,0⟩] scope pos) (tComp wi js tt te):=
 pe_compC (xs:=[x]) hc hi jK oB nL hfr hjs hfv (λ_ _ _ _ _=>oy hnd rfl (.inl (eX hx)) (.inr (eX hx))) hb (λ_ _ _ _ h=>compW_T h) hs
theorem gO {Q:VK}(Pv:Nat->zA->Hp->Prop)(h0:Pv 0 [] H)(hl:∀i ys H,i<=xs.length->Pv i ys H->SqT K H a xs/\ys.length<=i)(hz:xs.length<=aO)
  (hs:∀i x ys H,xs[i]? =some x->Pv i ys H->tt (some x::cL σ js) H λb H4=>if b=true then te (some x::cL σ js) H4 λy H5=>Pv (i+1) (ys++[y]) H5 else Pv (i+1) ys H4)
  (hd:∀ys H,Pv xs.length ys H->∀D,H D=none->Q (.ref D) (upd H D (.lst ys))):CompW js tt te σ Q (Itt K a) H:=by
 rwa[λi m ys H=>i<=xs.length/\m=xs.length - i/\Pv i ys H,⟨_,bq _,rfl,h0⟩,λi m ys H2 hz0=>?_];let⟨hi,hm,hp⟩:=hz0;let⟨hq,hy⟩:=hl i ys H2 hi hp
 by_cases e:i=xs.length
 ·subst e
  rwa[.inl ⟨⟨xs,hq,ay _⟩,hd ys H2 hp⟩]
 ·have hlt:i<xs.length:=dt hi e
  rwa[.inr ⟨⟨xs,_,hq,gE hlt⟩,⋯,Pv (i+1),λys' H' hp'=>⟨xs.length - (i+1),⋯,⋯,rfl,hp'⟩,λx H3 hy3=>?_⟩];let⟨e3,hx⟩:=hy3;subst e3;rwa[hs i x ys H3 (hx xs hq) hp]
theorem tG {j t:ai}{its}{v:ae}(jt:s.heap.IsTupleIter j t i)(tt:s.heap.IsTuple t its)(hv:its[i]? =some v)
  (q:∀g,g.IsTupleIter j t (i+1)->df j s.heap g->Q v { s with heap:=g }):‹5› (fQ (.ref j)) Q E s:=by
 let⟨ob,e1,e2,e3⟩:=id jt;let⟨ot,g1,_,k,g2⟩:=tt;rwa[ak (iw jt.typeIs jq (iu jq jt.typeIs F.entry_tuple_iterator_next ?_ (F.args_tuple_iterator_next_1 _)))];show bz _ _ (field (.ref j) 0 >>= _) _ _ s;rwa[ak (hV e1 e3 rfl ?_)];show bz _ _ (ite ((ae.ref t == ae.none)=true) _ _) _ _ s;rwa[ak (hV e1 e3 rfl ?_)];rwa[ak (ir g1 g2 ?_)];simp only[cw,hv];rwa[ak (wpAny_setField e1 e3 ∅ (aP ⟨v,rfl,aP (q _ ?_ (gJ ..))⟩))];exact⟨_,bI.get?_update_self _ e1 (Obj.isFreed_of_fields (Obj.data_mapFields e3 _)),(Obj.cls_mapFields ..).trans e2,by rw[Obj.data_mapFields e3];simp[rawInt]⟩
theorem nextT_end {j t:ai}{its}(hh:A.handled=none)(jt:s.heap.IsTupleIter j t i)(tt:s.heap.IsTuple t its)(hv:its[i]? =none)
  (q:∀g x,bI.ExtBut j s.heap g->(∃o,g.get? x=some o/\o.cls= .type "StopIteration")->E (.ref x) { s with heap:=g }):‹5› (fQ (.ref j)) Q E s:=by
 let⟨ob,e1,e2,e3⟩:=id jt;let⟨ot,g1,_,k,g2⟩:=tt;rwa[ak (iw jt.typeIs jq (iu jq jt.typeIs F.entry_tuple_iterator_next ?_ (F.args_tuple_iterator_next_1 _)))];show bz _ _ (field (.ref j) 0 >>= _) _ _ s;rwa[ak (hV e1 e3 rfl ?_)];show bz _ _ (ite ((ae.ref t == ae.none)=true) _ _) _ _ s;rwa[ak (hV e1 e3 rfl ?_)];rwa[ak (ir g1 g2 ?_)];simp only[cw,hv];rwa[ak (wpAny_rule (ak (wpAny_setField e1 e3 ∅ ?_)))];rwa[ak ?_];rwa[ak (fm ?_ (by size_fits))];rwa[ak (wpAny_of_eq (by first | rfl | (rfl)) ?_)];rwa[fm ?_ (by size_fits)];rwa[ak (wpAny_handled ?_)]
 first | rw[hh] | rw[hh]
 rwa[ak (aP (wpAny_throw (q _ _ (((gJ ..).extBut.push _).push _) ⟨_,aR _ rfl,rfl⟩)))]
theorem Inv.turnAll {g:bI}(I:‹1›)(hf:∀b∈ch,FpOk X aN H b)
  (k:∀b o,b ∉ ch->s.heap.get? b=some o->g.get? b=some o) (hH:∀b u,H b=some u->H' b=some u) (hN:∀b o,s.heap.get? b=some o->H b=none->H' b=none) (hok:HOk X.prog X.w H' g):Inv X aN σ H' { s with heap:=g }:=by
 apply I.step (g':=s.gens) (d':=s.drawn) (t':=s.toks) (ch:=ch) (λb hb=>?_) (λb o _ _ hc e _=>k b o hc e) (λb o _ _ hc e _=>⟨o.slots,k b o hc e⟩) (λb o _ e n=>hN b o e n)
  (λb o hc e=>⟨o,k b o hc e⟩) (λb xs e=>hH b _ e) (λb o u e=>hH b _ e) (λb ps e=>⟨#[],by rw[hH b _ e];simp⟩) (λm hm=>?_) hok I.bare
 ·let⟨_,f1,_,f3,f4,f5⟩:=hf b hb
  rwa[f3,f1,f4,f5]
 ·let⟨o,es,ep,ho,r⟩:=hm
  rwa[o,es,ep,k _ o (λhb=>(hf _ hb).2.1 rfl) ho,r]
theorem bt.put (e:bt H H1){p:ai}(h:H1 p=none):bt H (upd H1 p o):=λb u q=>by rw[bw (bJ (e b u q) h)];rwa[e b u q]
theorem Inv.big (I:‹1›):j5<s.heap.objs.size:=by
 have h :=(I.mod.glob.keeps I.bk).lt;rwa[Nat.lt_trans ↥0 h]
theorem dk_empty (h:bI)(hb:j5<h.objs.size):km P w H (h.push { cls:=.type "dict",data:=.dict #[] }) h.objs.size (.dK []):=
 ⟨bq _,beq_eq_false_iff_ne.mpr (cM (bP hb)),[],.nil,bI.DictOf.new h⟩
def tDNewK:TE:=λ_ H Q=>∀p,H p=none->Q (.ref p) (upd H p (.dK []))
theorem pe_dnewK:PE X (.Dict [] [] pos) tDNewK:=λaN s σ H Q I h =>
 wpAny_Dict_empty ⟨.ref s.heap.objs.size,_,I.laid (λ_ _ q=>ao _ q) (ay _) (dk_empty s.heap I.big),rfl,h _ (I.hok.fresh (ay _))⟩
theorem PE.imp {t t':TE}(h:PE X e t)(i:∀σ H Q,t' σ H Q->t σ H Q):PE X e t':=λaN s σ H Q I q=>h aN s σ H Q I (i σ H Q q)
theorem OpR.imp {f:ae->ae->Sem ae}{r r':R2}(h:OpR X f r)(i:∀x y H Q,r' x y H Q->r x y H Q):OpR X f r':=λaN s σ H x y v u Q I rx ry q=>h aN s σ H x y v u Q I rx ry (i x y H Q q)
theorem jy.imp {f:ae}{r r':zA->Hp->VK->Prop}(h:jy X f r)(i:∀xs H Q,r' xs H Q->r xs H Q):jy X f r':=λaN s σ H xs us Q I rv q=>h aN s σ H xs us Q I rv (i xs H Q q)
theorem SlR.imp (h:SlR X r)(i:∀x lo hi H Q,r' x lo hi H Q->r x lo hi H Q):SlR X r':=λaN s σ H x v vl vu lo hi sl Q I rx hs pl pu q=>h aN s σ H x v vl vu lo hi sl Q I rx hs pl pu (i x lo hi H Q q)
def tACut (t:TA):TA:=λσ H R=>∃R':zA->Hp->Prop,(∀xs H,R' xs H->R xs H)/\t σ H R'
theorem PA.cut (h:PA X es t):PA X es (tACut t):=λpos aN s σ H Q I ⟨R',i,q⟩ =>
 thn (h pos aN s σ H R' I q) λus s' ⟨vs,H',I',rv,q'⟩=>⟨vs,H',I',rv,i _ _ q'⟩
def New (H:Hp)(o:HO)(Q:VK):Prop:=∀p H',bt H H'->H' p=some o->Q (.ref p) H'
theorem New.of {Q:VK}(h:New H o Q):∀p,H p=none->Q (.ref p) (upd H p o):=λp hp=>h p _ (bt.put (bt.refl H) hp) aJ
def tTupA (t:TA):TE:=λσ H Q=>t σ H λxs H1=>xs.length<=aO/\New H1 (.tup xs) Q
def tLstA (t:TA):TE:=λσ H Q=>t σ H λxs H1=>xs.length<=aO/\New H1 (.lst xs) Q
theorem jS {x1}(h:PA X es t):PE X (.Tuple es x1 pos) (tTupA t):=(pe_tup h.cut).imp λ_ _ _ q=>⟨_,λ_ _ z=>⟨z.1,z.2.of⟩,q⟩
theorem nG (h:PA X es t):PE X (.List es pos) (tLstA t):=(pe_lst h.cut).imp λ_ _ _ q=>⟨_,λ_ _ z=>⟨z.1,z.2.of⟩,q⟩
theorem op_catL:OpR X (gq .Add) (λx y H Q=>∃l b xs zs,x= .ref l/\y= .ref b/\H l=some (.lst xs)/\H b=some (.lst zs)/\xs.length+zs.length<=aO/\New H (.lst (xs++zs)) Q):=
 op_cat.imp λ_ _ _ _ ⟨l,b,xs,zs,e1,e2,e3,e4,e5,q⟩=>⟨l,b,xs,zs,e1,e2,e3,e4,e5,q.of⟩
inductive Dt where
 | non | bl (b:Bool) | int (i:Int) | str (x:Str) | tup (ds:List Dt) | oth (T:String)
abbrev _root_.zM:=List Dt
mutual
inductive IsD (H:Hp):V->Dt->Prop where
 | non:IsD H .non .non
 | bl (b:Bool):IsD H (.bl b) (.bl b)
 | int (i:Int):IsD H (.int i) (.int i)
 | str (x:Str):IsD H (.str x) (.str x)
 | tup {a:ai} {xs:zA} {ds:zM} (h:H a=some (.tup xs)) (r:dg H xs ds):IsD H (.ref a) (.tup ds)
 | lst {a:ai} {xs:zA} (h:H a=some (.lst xs)):IsD H (.ref a) (.oth "list")
 | dct {a:ai} {kvs:za} (h:H a=some (.dK kvs)):IsD H (.ref a) (.oth "dict")
inductive dg (H:Hp):zA->zM->Prop where
 | nil:dg H [] []
 | cons {x:V} {d:Dt} {xs:zA} {ds:zM} (h:IsD H x d) (r:dg H xs ds):dg H (x::xs) (d::ds)
end
mutual
theorem IsD.same {H H':Hp}(e:bt H H'):∀{v:V} {d:Dt},IsD H v d->IsD H' v d
 | _,_,.non=>.non
 | _,_,.bl b=>.bl b
 | _,_,.int i=>.int i
 | _,_,.str x=>.str x
 | _,_,.tup h r=>.tup (e _ _ h) (dg.same e r)
 | _,_,.lst h=>.lst (e _ _ h)
 | _,_,.dct h=>.dct (e _ _ h)
theorem dg.same {H H':Hp}(e:bt H H'):∀{vs:zA} {ds:zM},dg H vs ds->dg H' vs ds
 | _,_,.nil=>.nil
 | _,_,.cons h r=>.cons (IsD.same e h) (dg.same e r)
end
theorem IsD.injs:∀n:Nat,(∀(v:V) (d e:Dt),sizeOf d<=n->IsD H v d->IsD H v e->d=e)/\(∀(vs:zA) (ds es:zM),sizeOf ds<=n->dg H vs ds->dg H vs es->ds=es):=by
 intro n
 induction n with
 | zero =>
  rwa[λv d e h=>?_,λvs ds es h=>?_]
  ·cases d <;> simp at h
  ·cases ds <;> simp at h
 | succ n ih =>
  rwa[λv d e hn h k=>?_,λvs ds es hn h k=>?_]
  ·cases h with
   | non=>cases k;rfl
   | bl b=>cases k;rfl
   | int i=>cases k;rfl
   | str x=>cases k;rfl
   | tup h r =>
    cases k with
    | tup h' r'=>rw[h] at h';cases h';rw[ih.2 _ _ _ (by simp at hn;lia) r r']
    | lst h'=>rw[h] at h';cases h'
    | dct h'=>rw[h] at h';cases h'
   | lst h =>
    cases k with
    | tup h' r'=>rw[h] at h';cases h'
    | lst h'=>rfl
    | dct h'=>rw[h] at h';cases h'
   | dct h =>
    cases k with
    | tup h' r'=>rw[h] at h';cases h'
    | lst h'=>rw[h] at h';cases h'
    | dct h'=>rfl
  ·cases h with
   | nil=>cases k;rfl
   | cons h r =>
    cases k with
    | cons h' r'=>rw[ih.1 _ _ _ (by simp at hn;lia) h h',ih.2 _ _ _ (by simp at hn;lia) r r']
theorem IsD.inj {v:V}{d e:Dt}(h:IsD H v d)(k:IsD H v e):d=e:=(IsD.injs _).1 v d e (ay _) h k
theorem dg.inj {vs:zA}{ds es:zM}(h:dg H vs ds)(k:dg H vs es):ds=es:=(IsD.injs _).2 vs ds es (ay _) h k
theorem dg.length:∀{xs:zA} {ds:zM},dg H xs ds->xs.length=ds.length
 | _,_,.nil=>rfl
 | _,_,.cons _ r=>by rw[bE,bE,dg.length r]
theorem dg.get:∀{xs:zA} {ds:zM} {i:Nat} {x:V},dg H xs ds->xs[i]? =some x->∃d,ds[i]? =some d/\IsD H x d
 | _,_,_,_,.nil,e=>by simp at e
 | _,_,0,_,.cons h _,e=>by simp at e;subst e;rwa[ς,h]
 | _,_,i+1,x,.cons _ r,e=>by
  let⟨d,h1,h2⟩:=dg.get (i:=i) (x:=x) r (by simpa using e);rwa[d,by simpa using h1,h2]
theorem dg.at:∀{xs:zA} {ds:zM} {i:Nat} {d:Dt},dg H xs ds->ds[i]? =some d->∃x,xs[i]? =some x/\IsD H x d
 | _,_,_,_,.nil,e=>by simp at e
 | _,_,0,_,.cons h _,e=>by simp at e;subst e;rwa[ς,h]
 | _,_,i+1,d,.cons _ r,e=>by
  let⟨x,h1,h2⟩:=dg.at (i:=i) (d:=d) r (by simpa using e);rwa[x,by simpa using h1,h2]
theorem dg.append:∀{xs ys:zA} {ds es:zM},dg H xs ds->dg H ys es->dg H (xs++ys) (ds++es)
 | _,_,_,_,.nil,s=>s
 | _,_,_,_,.cons h r,s=>.cons h (dg.append r s)
theorem dg.ints:∀(ns:zI),dg H (ns.map V.int) (ns.map Dt.int)
 | []=>.nil
 | n::r=>.cons (.int n) (dg.ints r)
theorem dg.ints_of:∀{xs:zA} {ns:zI},dg H xs (ns.map Dt.int)->xs=ns.map V.int
 | _,[],.nil=>rfl
 | _,n::r,.cons h q=>by cases h;rw[dg.ints_of q];rfl
def IsD.tup_of {v:V}{ds:zM}(h:IsD H v (.tup ds)):∃a xs,v= .ref a/\H a=some (.tup xs)/\dg H xs ds:=by
 cases h with
 | tup h r=>rwa[_,ς,h,r]
def Dt.ty:Dt->String
 | .non => "NoneType" | .bl _ => "bool" | .int _ => "int" | .str _ => "str" | .tup _ => "tuple" | .oth T=>T
theorem IsD.tyn {v:V}{d:Dt}(h:IsD H v d):tyn H v=some d.ty:=by
 cases h with
 | tup h r=>simp only[Lake.tyn];rw[h];rfl
 | lst h=>simp only[Lake.tyn];rw[h];rfl
 | dct h=>simp only[Lake.tyn];rw[h];rfl
 | _=>rfl
mutual
def eqD:Dt->Dt->Bool
 | .non,.non=>true
 | .bl a,.bl b=>a == b
 | .bl a,.int b=>(if a then 1 else 0) == b
 | .int a,.bl b=>a == (if b then 1 else 0)
 | .int a,.int b=>a == b
 | .str a,.str b=>a == b
 | .tup xs,.tup ys=>sx xs ys
 | _,_=>false
def sx:zM->zM->Bool
 | [],[]=>true
 | x::xs,y::ys=>eqD x y && sx xs ys
 | _,_=>false
end
mutual
def pl:Dt->Bool
 | .oth _=>false
 | .tup ds=>pls ds
 | _=>true
def pls:zM->Bool
 | []=>true
 | d::ds=>pl d && pls ds
end
mutual
def dep:Dt->Nat
 | .tup ds=>sS ds+1
 | _=>0
def sS:zM->Nat
 | []=>0
 | d::ds=>max (dep d) (sS ds)
end
mutual
theorem eqD_refl:∀d:Dt,pl d=true->eqD d d=true
 | .non,_=>by unfold eqD;rfl
 | .bl b,_=>by unfold eqD;rwa[beq_self_eq_true b]
 | .int i,_=>by unfold eqD;rwa[beq_self_eq_true i]
 | .str x,_=>by unfold eqD;rwa[beq_self_eq_true x]
 | .tup ds,h=>by
  unfold eqD;unfold pl at h;rwa[ph ds h]
 | .oth T,h=>by unfold pl at h;cases h
theorem ph:∀ds:zM,pls ds=true->sx ds ds=true
 | [],_=>by unfold sx;rfl
 | d::ds,h=>by
  unfold sx;unfold pls at h;rw[jf] at h;rw[eqD_refl d h.1,ph ds h.2];rfl
end
theorem eqD_tup (xs ys:zM):eqD (.tup xs) (.tup ys)=sx xs ys:=by rfl
theorem eqDs_all:∀(ds es:zM),sx ds es=((aQ (min ds.length es.length)).all (λj=>eqD (ds.getD j .non) (es.getD j .non)) && ds.length == es.length)
 | [],[]=>by unfold sx;rfl
 | [],e::es=>by unfold sx;simp
 | d::ds,[]=>by unfold sx;simp
 | d::ds,e::es=>by
  unfold sx;rw[eqDs_all ds es];rw[bE,bE];have h1:min (ds.length+1) (es.length+1)=min ds.length es.length+1:=by cbv
  rw[h1,List.range_succ_eq_map,List.all_cons,List.all_map];have h2:((ds.length+1) == (es.length+1))=(ds.length == es.length):=by rw[jF];simp
  rw[h2,Bool.and_assoc];rfl
theorem rQ:∀{ds:zM} {i:Nat} {d:Dt},pls ds=true->ds[i]? =some d->pl d=true
 | [],_,_,_,e=>by simp at e
 | d::ds,0,_,h,e=>by
  unfold pls at h
  cbv
 | d::ds,i+1,x,h,e=>by
  unfold pls at h;rw[jf] at h;rwa[rQ h.2 (by simpa using e)]
theorem deps_get:∀{ds:zM} {i:Nat} {d:Dt},ds[i]? =some d->dep d<=sS ds
 | [],_,_,e=>by simp at e
 | d::ds,0,_,e=>by
  simp at e;subst e;unfold sS;rwa[Nat.le_max_left _ _]
 | d::ds,i+1,x,e=>by
  have:=deps_get (ds:=ds) (i:=i) (d:=x) (by simpa using e);unfold sS;rwa[aU this (Nat.le_max_right _ _)]
def Inv.tupD {v:V}{ds:zM}(I:‹1›)(h:IsD H v (.tup ds))(r:gN v u):∃a its,u= .ref a/\v= .ref a/\s.heap.IsTuple a its.toArray/\∃xs,fZ xs its/\dg H xs ds/\its.length=ds.length:=by
 let⟨a,xs,rfl,ha,hd⟩:=h.tup_of;cases(r);let⟨its,rv,p,_⟩:=I.tuple (zT ha);rwa[a,its,rfl,rfl,p,xs,rv,hd,by rw[<-rv.length,hd.length]]
theorem eqAt_D:∀(n:Nat) {A:bT} {x y:V} {u v:ae} {d e:Dt},dep d<=n->A.units+n<cLine->‹1›->IsD H x d->IsD H y e->gN x u->gN y v->pl d=true->pl e=true->SeqAt.EqAt A s u v (eqD d e):=by
 intro n
 induction n with
 | zero =>
  intro A x y u v d e hd hu I ix iy rx ry px py;cases ix with
  | tup h r=>unfold dep at hd;lia
  | lst h=>unfold pl at px;cases px
  | dct h=>unfold pl at px;cases px
  | non =>
   cases iy with
   | tup h' r' =>
    let⟨a,its,rfl,_,hb,_⟩:=I.tupD (.tup h' r') ry;cases rx;rwa[SeqAt.EqAt.none_tuple hb (by omega)]
   | lst h'=>unfold pl at py;cases py
   | dct h'=>unfold pl at py;cases py
   | non=>rwa[j6 rx ry rfl rfl]
   | bl b=>rwa[j6 rx ry rfl rfl]
   | int b=>rwa[j6 rx ry rfl rfl]
   | str b=>rwa[j6 rx ry rfl rfl]
  | bl b =>
   cases iy with
   | tup h' r' =>
    let⟨a,its,rfl,_,hb,_⟩:=I.tupD (.tup h' r') ry;cases rx;rwa[SeqAt.EqAt.bool_tuple b hb (by omega)]
   | lst h'=>unfold pl at py;cases py
   | dct h'=>unfold pl at py;cases py
   | non=>rwa[j6 rx ry rfl rfl]
   | bl b=>rwa[j6 rx ry rfl rfl]
   | int b=>rwa[j6 rx ry rfl rfl]
   | str b=>rwa[j6 rx ry rfl rfl]
  | int i =>
   cases iy with
   | tup h' r' =>
    let⟨a,its,rfl,_,hb,_⟩:=I.tupD (.tup h' r') ry;let⟨t,rfl⟩:=rx;rwa[SeqAt.EqAt.int_tuple i t hb (by omega)]
   | lst h'=>unfold pl at py;cases py
   | dct h'=>unfold pl at py;cases py
   | non=>rwa[j6 rx ry rfl rfl]
   | bl b=>rwa[j6 rx ry rfl rfl]
   | int b=>rwa[j6 rx ry rfl rfl]
   | str b=>rwa[j6 rx ry rfl rfl]
  | str z =>
   cases iy with
   | tup h' r' =>
    let⟨a,its,rfl,_,hb,_⟩:=I.tupD (.tup h' r') ry;let⟨t,rfl⟩:=rx;rwa[SeqAt.EqAt.str_tuple z t hb (by omega)]
   | lst h'=>unfold pl at py;cases py
   | dct h'=>unfold pl at py;cases py
   | non=>rwa[j6 rx ry rfl rfl]
   | bl b=>rwa[j6 rx ry rfl rfl]
   | int b=>rwa[j6 rx ry rfl rfl]
   | str b=>rwa[j6 rx ry rfl rfl]
 | succ n ih =>
  intro A x y u v d e hd hu I ix iy rx ry px py
  by_cases hz:dep d=0
  ·
   grind
  ·cases ix with
   | lst h=>unfold pl at px;cases px
   | dct h=>unfold pl at px;cases px
   | non=>grind [dep]
   | bl b=>grind [dep]
   | int i=>grind [dep]
   | str z=>grind [dep]
   | tup h r =>
    rename_i a xs ds;cases(show u=ae.ref a from rx);let⟨its,rv,p,_⟩:=I.tuple (zT (K:=X.K) h);have p:s.heap.IsTuple a its.toArray:=p;cases iy with
    | lst h'=>unfold pl at py;cases py
    | dct h'=>unfold pl at py;cases py
    | non=>cases ry;rwa[SeqAt.EqAt.tuple_none p ⋯]
    | bl b=>cases ry;rwa[SeqAt.EqAt.tuple_bool b p ⋯]
    | int b=>let⟨t,rfl⟩:=ry;rwa[SeqAt.EqAt.tuple_int b t p ⋯]
    | str b=>let⟨t,rfl⟩:=ry;rwa[SeqAt.EqAt.tuple_str b t p ⋯]
    | tup h' r' =>
     rename_i b ys es;cases(show v=ae.ref b from ry)
     by_cases hab:a=b
     ·subst hab
      have e1:Dt.tup ds=Dt.tup es:=IsD.inj (.tup h r) (.tup h' r')
      grind [eqD_refl,SeqAt.EqAt.same]
     ·let⟨its2,rv2,p2,_⟩:=I.tuple (zT (K:=X.K) h')
      have p2:s.heap.IsTuple b its2.toArray:=p2;have l1:its.length=ds.length:=by rw[<-rv.length,r.length]
      have l2:its2.length=es.length:=by rw[<-rv2.length,r'.length]
      have pd:pls ds=true:=by unfold pl at px;rwa[px]
      have pe:pls es=true:=by unfold pl at py;rwa[py]
      have hd':sS ds<=n:=by unfold dep at hd;cbv
      have key:=SeqAt.RcAt.tuples (A:=A) (e:=λj=>eqD (ds.getD j .non) (es.getD j .non)) p p2 ⋯ λj h1 h2=>by
       have h1':j<its.length:=by simpa using h1
       have h2':j<its2.length:=by simpa using h2
       let⟨x',ex,dx⟩:=r.at (i:=j) (d:=ds[j]'↥2) (gE ↥2);let⟨y',ey,dy⟩:=r'.at (i:=j) (d:=es[j]'⋯) (gE ⋯);let⟨u',eu,ru⟩:=rv.get ex;let⟨v',ev,rw'⟩:=rv2.get ey;have eu':its[j]=u':=↥1
       have ev':its2[j]=v':=↥1
       have g1:ds.getD j .non=ds[j]'⋯:=↥1
       have g2:es.getD j .non=es[j]'⋯:=↥1
       show SeqAt.EqAt A.in1 s (its.toArray[j]) (its2.toArray[j]) (eqD (ds.getD j .non) (es.getD j .non));rw[kI,kI,eu',ev',g1,g2];rwa[ih (aU (deps_get (gE ⋯)) hd') ⋯ I dx dy ru rw' (rQ pd (gE ⋯)) (rQ pe (gE ⋯))]
      grind [eqD,eqD_tup,eqDs_all,br,SeqAt.EqAt.of_refs]
variable {ds:List Dt}
theorem strs_are:∀{zs:List Str} {us:zD},fZ (zs.map V.str) us->StrsAre us zs
 | [],_,.nil=>.nil
 | z::zs,_,.cons r t=>by
  let⟨tk,rfl⟩:=(r);rwa[.cons z tk (strs_are t)]
theorem vals_strs:∀(l:List (Str×Tok)),fZ ((l.map (·.1)).map V.str) (strValues l)
 | []=>.nil
 | p::r=>.cons ⟨p.2,rfl⟩ (vals_strs r)
def mt_join:MtM X "str.join" (λx vs H Q=>∃z p zs,x= .str z/\vs=[.ref p]/\SqL X.K H p (zs.map V.str)/\z.length<=16/\(zs.map (·.length)).sum+zs.length<=1048576/\Q (.str (j8 z zs)) H):=by
 push_cast;let⟨z,p,zs,rfl,rfl,hq,hz,hw,q⟩:=h;let⟨t,rfl⟩:=(rx);let⟨u,rfl,ru⟩:=rv.one;cases(ru);let⟨its,r,pl,_⟩:=I.list hq;rwa[join_listW pl.isList (by simpa using strs_are r) hz hw λt' k=>⟨.str _,H,I.tok k,⟨t',rfl⟩,q⟩]
theorem split_run {y:Str}{t u:Tok}(hy:(y.length == 0)=false)(hsz:x.length+2<=aO)
  (h:∀(l:List (Str×Tok)) (tk:Nat),l.map (·.1)=ij x y->Q (.ref s.heap.objs.size) { s with heap:=s.heap.push { cls:=.type "list",data:=.seq (strValues l).toArray },toks:=tk }) :
  ‹5› (call (.builtin "str.split") [.str x t,.str y u]) Q E s:=by
 have few:(gB x (dY x y 0 x.length (x.length+1)) y.length).length<=aO:=by
  have:=StrLaws.occ_length_le x y 0 x.length (x.length+1);rw[length_partsBetween];lia
 by_cases c1:(decide (x.length<y.length) || decide (dm.Str.strKind x<dm.Str.strKind y))=true
 ·apply jx F.slot_str_split (typeIs_str _ _ _) F.entry_str_split (F.args_str_split_2 _ _) (meets_str_split_cannot_occur x y t u c1) ?_
  rwa[h [(x,t)] s.toks ?_];unfold ij;rw[tQ c1];rfl
 ·have c1':=gR.mpr c1
  by_cases c2:(dY x y 0 x.length (x.length+1)).isEmpty=true
  ·apply jx F.slot_str_split (typeIs_str _ _ _) F.entry_str_split (F.args_str_split_2 _ _) (meets_str_split_not_found x y t u c1' hy c2) ?_
   rwa[h [(x,t)] s.toks ?_];unfold ij;rw[tP c1,tQ c2];rfl
  ·apply jx F.slot_str_split (typeIs_str _ _ _) F.entry_str_split (F.args_str_split_2 _ _) (meets_str_split_sep x y t u c1' hy (gR.mpr c2) ⋯ few) ?_
   have e:=strsFrom_eq s.toks (gB x (dY x y 0 x.length (x.length+1)) y.length);have k:=h (numbered s.toks (gB x (dY x y 0 x.length (x.length+1)) y.length)) (s.toks+(gB x (dY x y 0 x.length (x.length+1)) y.length).length) (by
    rw[numbered_texts];unfold ij;rw[tP c1,tP c2])
   rw[<-e] at k;rwa[k]
theorem mt_split:MtM X "str.split" (λx vs H Q=>∃z y,x= .str z/\vs=[.str y]/\(y.length == 0)=false/\z.length+2<=aO/\New H (.lst ((ij z y).map V.str)) Q):=by
 push_cast;let⟨z,y,rfl,rfl,hy,hz,q⟩:=h;let⟨t,rfl⟩:=(rx);let⟨u,rfl,ru⟩:=rv.one;let⟨t',rfl⟩:=(ru);rwa[split_run hy hz λl tk e=>?_]
 have hw :=split_weight z y (by
  lia)
 rwa[.ref s.heap.objs.size,_,I.laid (o:=.lst ((ij z y).map V.str)) (λ_ _ k=>ao _ k) (ay _) ⟨?_,strValues l,0,?_,aR _ rfl⟩,rfl,q _ _ (bt.put (bt.refl H) I.fresh) aJ]
 ·grind
 ·rw[<-e];rwa[vals_strs l]
def call_tupA:jy X (.type "tuple") (λxs H Q=>∃p ys,xs=[.ref p]/\SqL X.K H p ys/\New H (.tup ys) Q):=
 call_tuple_of.imp λ_ _ _ ⟨p,ys,e,h,q⟩=>⟨p,ys,e,.inl ⟨h,q.of⟩⟩
def qH:SlR X (λx lo hi H Q=>∃a xs,x= .ref a/\SqL X.K H a xs/\New H (.lst (cutV xs lo hi)) Q):=
 sl_list.imp λ_ _ _ _ _ ⟨a,xs,e,h,q⟩=>⟨a,xs,e,h,q.of⟩
def PJ (X:Cx)(es:List Expr)(t:St->Hp->Str->VK->Prop):Prop:=
 ∀(aN:List (ai×Obj)) (s:aq) (σ:St) (H:Hp) (acc:Str) (Q:VK),‹1›->t σ H acc Q ->
  ‹2› (joinParts acc (evalEach es X.env)) (EP X aN σ Q) X.xe s
def pj_nil:PJ X [] (λ_ H acc Q=>acc.length<=aO/\Q (.str acc) H):=λ_ s _ H acc _ I ⟨h1,h2⟩=>joinParts_nil ⟨.str acc,H,I.tok _,⟨ς⟩,h2⟩ h1
def pj_str {t:St->Hp->Str->VK->Prop}{j pos}(h:PJ X es t):PJ X (.Constant (.str x) j pos::es) (λσ H acc Q=>(acc++x).length<=aO/\t σ H (acc++x) Q):=
 fun aN s σ H acc Q I ⟨h1,h2⟩=>joinParts_cons (thn (pe_str aN s σ H (fun v H'=>v= .str x/\H'=H) I ⟨rfl,rfl⟩) fun v s1 ⟨y,H1,I1,r1,e1,e2⟩=>by
  subst e1 e2;obtain ⟨tk,rfl⟩:=(r1);exact ⟨h1,h aN s1 σ H1 _ Q I1 h2⟩)
def pj_int {t:St->Hp->Str->VK->Prop}(he:PE X e te)(h:PJ X es t):PJ X (.FormattedValue e (-1) none pos::es)
  (λσ H acc Q=>te σ H λv H1=>∃i,v= .int i/\i.natAbs.log2<1920/\(acc++(kx i:Str)).length<=aO/\t σ H1 (acc++(kx i:Str)) Q):=
 fun aN s σ H acc Q I hq=>joinParts_cons (FormattedValue_plain (thn (he aN s σ H _ I hq) fun v s1 ⟨y,H1,I1,r1,i,e1,hl,hz,h2⟩=>by
  subst e1;obtain ⟨tk,rfl⟩:=(r1);rwa[formatField_int_small hl ⟨hz,h aN _ σ H1 _ Q (I1.tok _) h2⟩]))
def pe_fstr {e1 e2:Expr}{t:St->Hp->Str->VK->Prop}(h:PJ X (e1::e2::es) t):PE X (.JoinedStr (e1::e2::es) pos) (λσ H Q=>t σ H gP Q):=
 λaN s σ H Q I hq=>JoinedStr_many (h aN s σ H _ Q I hq)
def Its (z:Str):It:=⟨λi _=>i<z.cps.size,λi H x H'=>H'=H/\∃c,z.cps[i]? =some c/\x= .str ⟨#[c]⟩,λi _=>z.cps.size<=i⟩
theorem turn_str (it:ai)(x:Str)(t:Tok){ty:String}(hty:ty = "str_ascii_iterator" ∨ty = "str_iterator"):Turn P w K tg (Its x) [it] it (λi h=>h.IsStrIter it ty x t i) where
 mem:=by simp
 obj:=λi h st b hb=>by
  have e:b=it:=by simpa using hb
  let⟨o,e,c,d⟩:=st
  cbv
 keep:=λi h h' st k=>by
  let⟨o,e,r⟩:=st;rwa[o,k it ∅ o e,r]
 item:=by
  intro Y hP hw hK hc i aN s σ H E I hf st hg;subst hP hw hK;let⟨f0,f1,f2,f3,f4,f5⟩:=hf it ∅;have hi:i<x.cps.size:=hg;have key:∀h',h'.IsStrIter it ty x t (i+1)->df it s.heap h'->∃u,(some (ae.str ⟨#[x.cps[i]]⟩ s.toks))=some u /\
    bz (bC Y.prog Y.w) Y.A (mr tg (.ref it) u) (λ_ s2=>∃x' H',Inv Y aN σ H' s2/\gN x' u/\(Its x).yld i H x' H'/\s2.heap.IsStrIter it ty x t (i+1)/\∀b∈[it],H' b=none) E { s with heap:=h',toks:=s.toks+1 }:=λh' st' sb=>by
   have I1:Inv Y aN σ H { s with heap:=h',toks:=s.toks+1 }:=I.turned (λb o hb e=>(sb.2 b hb).trans e) f0 f1 f3 f4 f5;let⟨o,e,c,d⟩:=id st';rwa[ς,go_of e c d ?_ ⟨.str ⟨#[x.cps[i]]⟩,H,I1,⟨ς⟩,⟨rfl,_,by simp[hi],rfl⟩,st',λb hb=>(hf b hb).1⟩]
   rcases hty with rfl | rfl <;> decide
  rcases hty with rfl | rfl
  ·rwa[wpAny_pyNext_ascii_item st (by simp[hi]) λh' st' sb=>key h' st' sb]
  ·rwa[wpAny_pyNext_wide_item st (by simp[hi]) λh' st' sb=>key h' st' sb]
 done:=by
  intro Y hP hw hK hc i aN s σ H E I hf st hg;let⟨f0,f1,f2,f3,f4,f5⟩:=hf it ∅;have hi:x.cps.size<=i:=hg
  rcases hty with rfl | rfl
  ·rwa[wpAny_pyNext_ascii_end (I.ok.hd hc) st (by simp;omega) λh' eb=>⟨rfl,I.turned (λb o hb e=>eb b o hb e) f0 f1 f3 f4 f5⟩]
  ·rwa[wpAny_pyNext_wide_end (I.ok.hd hc) st (by simp;omega) λh' eb=>⟨rfl,I.turned (λb o hb e=>eb b o hb e) f0 f1 f3 f4 f5⟩]
 self:=λA i s Q E st h=>by
  grind [wpAny_pyIter_striter_ascii,wpAny_pyIter_striter_wide]
def iStr (tl:TE):TI:=λσ H R=>tl σ H λx H1=>∃z,x= .str z/\R (Its z) H1
def pi_str {l:Expr}(hl:PE X l tl):PI X tg l (iStr tl):=by
 intro aN s σ H R I h;rwa[thn (hl aN s σ H _ I h) λv s1 hz0=>?_]
 let⟨x,H1,I1,r1,q1⟩:=hz0;let⟨z,rfl,q⟩:=q1;let⟨t,rfl⟩:=(r1);have fin:∀b∈[s1.heap.objs.size],FpOk X aN H1 b:=λb hb=>by
  have e:b=s1.heap.objs.size:=by simpa using hb
  subst e;rwa[I1.fpOk (ay _) I1.fresh]
 cases ha:z.cps.all (· < 128) with
 | true=>rwa[wpAny_pyIter_ascii ha ⟨s1.heap.objs.size,[s1.heap.objs.size],_,_,H1,rfl,I1.kept λb o e=>ao _ e,turn_str _ z t (.inl rfl),⟨_,aR _ rfl,rfl,rfl⟩,fin,q⟩]
 | false=>rwa[wpAny_pyIter_wide ha ⟨s1.heap.objs.size,[s1.heap.objs.size],_,_,H1,rfl,I1.kept λb o e=>ao _ e,turn_str _ z t (.inr rfl),⟨_,aR _ rfl,rfl,rfl⟩,fin,q⟩]
def kit_str (K:ag)(h:T∈["NoneType","bool","int","str","list","tuple","dict"]):jL K (.type T) (.type "str")=some (T == "str"):=by
 simp only[bh,fN,or_false] at h
 rcases h with rfl | rfl | rfl | rfl | rfl | rfl | rfl <;> kernel_rfl
def tN:jy X (.builtin "isinstance") (λxs H Q=>∃x T,xs=[x,.ty "str"]∧tyn H x=some T∧Q (.bl (T == "str")) H):=
 λaN s σ H xs us Q I r ⟨x,T,e,hT,q⟩=>mS aN s σ H xs us Q I r ⟨x,_,_,_,e,.byName hT,kit_str _ (tyn_mem hT),q⟩
theorem j7 {Q:VK}(Pv:Nat->zA->Hp->Prop)(h0:Pv 0 [] H)(hl:∀i ys H,i<=xs.length->Pv i ys H->SqL K H a xs/\ys.length<=i)(hz:xs.length<=aO)
  (hs:∀i x ys H,xs[i]? =some x->Pv i ys H->tt (some x::cL σ js) H λb H4=>if b=true then te (some x::cL σ js) H4 λy H5=>Pv (i+1) (ys++[y]) H5 else Pv (i+1) ys H4)
  (hd:∀ys H,Pv xs.length ys H->∀D,H D=none->Q (.ref D) (upd H D (.lst ys))):CompW js tt te σ Q (Itl K a) H:=by
 rwa[λi m ys H=>i<=xs.length/\m=xs.length - i/\Pv i ys H,⟨_,bq _,rfl,h0⟩,λi m ys H2 hz0=>?_];let⟨hi,hm,hp⟩:=hz0;let⟨hq,hy⟩:=hl i ys H2 hi hp
 by_cases e:i=xs.length
 ·subst e
  rwa[.inl ⟨⟨xs,hq,ay _⟩,hd ys H2 hp⟩]
 ·have hlt:i<xs.length:=dt hi e
  rwa[.inr ⟨⟨xs,_,hq,gE hlt⟩,⋯,Pv (i+1),λys' H' hp'=>⟨xs.length - (i+1),⋯,⋯,rfl,hp'⟩,λx H3 hy3=>?_⟩];let⟨e3,hx⟩:=hy3;subst e3;rwa[hs i x ys H3 (hx xs hq) hp]
theorem kG {n:Nat}{Q:VK}(Pv:Nat->zA->Hp->Prop)(h0:Pv 0 [] H)(hl:∀i ys H,i<=n->Pv i ys H->ys.length<=i)(hz:n<=aO)
  (hs:∀(i:Nat) ys H,i<n->Pv i ys H->tt (some (.int (lo+i))::cL σ js) H λb H4=>if b=true then te (some (.int (lo+i))::cL σ js) H4 λy H5=>Pv (i+1) (ys++[y]) H5 else Pv (i+1) ys H4)
  (hd:∀ys H,Pv n ys H->∀D,H D=none->Q (.ref D) (upd H D (.lst ys))):CompW js tt te σ Q (Itr lo n) H:=by
 rwa[λi m ys H=>i<=n/\m=n - i/\Pv i ys H,⟨_,bq _,rfl,h0⟩,λi m ys H2 hz0=>?_];let⟨hi,hm,hp⟩:=hz0;have hy:=hl i ys H2 hi hp
 by_cases e:i=n
 ·subst e
  rwa[.inl ⟨ay _,hd ys H2 hp⟩]
 ·have hlt:i<n:=dt hi e
  rwa[.inr ⟨hlt,⋯,Pv (i+1),λys' H' hp'=>⟨n - (i+1),⋯,⋯,rfl,hp'⟩,λx H3 hy3=>?_⟩];let⟨e3,hx⟩:=hy3;subst e3 hx;rwa[hs i ys H3 hlt hp]
theorem comp_str {z:Str}{Q:VK}(Pv:Nat->zA->Hp->Prop)(h0:Pv 0 [] H)(hl:∀i ys H,i<=z.cps.size->Pv i ys H->ys.length<=i)(hz:z.cps.size<=aO)
  (hs:∀(i c:Nat) ys H,z.cps[i]? =some c->Pv i ys H->tt (some (.str ⟨#[c]⟩)::cL σ js) H λb H4=>if b=true then te (some (.str ⟨#[c]⟩)::cL σ js) H4 λy H5=>Pv (i+1) (ys++[y]) H5 else Pv (i+1) ys H4)
  (hd:∀ys H,Pv z.cps.size ys H->∀D,H D=none->Q (.ref D) (upd H D (.lst ys))):CompW js tt te σ Q (Its z) H:=by
 rwa[λi m ys H=>i<=z.cps.size/\m=z.cps.size - i/\Pv i ys H,⟨_,bq _,rfl,h0⟩,λi m ys H2 hz0=>?_];let⟨hi,hm,hp⟩:=hz0;have hy:=hl i ys H2 hi hp
 by_cases e:i=z.cps.size
 ·subst e
  rwa[.inl ⟨ay _,hd ys H2 hp⟩]
 ·have hlt:i<z.cps.size:=dt hi e
  rwa[.inr ⟨hlt,⋯,Pv (i+1),λys' H' hp'=>⟨z.cps.size - (i+1),⋯,⋯,rfl,hp'⟩,λx H3 hy3=>?_⟩];let⟨e3,c,hc,hx⟩:=hy3;subst e3 hx;rwa[hs i c ys H3 hc hp]
theorem drawsT (nh:A.handled=none)(j a:ai)(nj:a≠j)(xs:Array ae):Draws prog w A j [j,a] xs.size (λk v=>xs[k]? =some v) (λk h=>h.IsTupleIter j a k/\h.IsTuple a xs) where
 live:=λ_ _ q=>by let⟨⟨o,e,_⟩,_⟩:=q;rwa[o,e]
 frame:=λ_ _ _ q up=>by
  let⟨⟨o,e,r⟩,o2,e2,r2⟩:=q;rwa[⟨o,up j ∅ o e,r⟩,o2,up a ∅ o2 e2,r2]
 item:=λk s Q E lt q go=>tG q.1 q.2 (v:=xs[k]) (by simp[lt]) λg h1 h2=>go _ g s.toks (by simp[lt]) ⟨h1,q.2.extBut h2.extBut nj⟩ h2
 done:=λs Q E q go=>nextT_end nh q.1 q.2 ∅ λg x h1 h2=>go g x h1 h2
section
open AutoSeq1 (wpAny_loadPart')
def enumT_new (a:ai)(xs:Array ae) :
  Meets (dm.«enumerate.__new__» ⟨[.type "enumerate",.ref a],[]⟩) (fun _ R s=>s.heap.IsTuple a xs /\
   R (.ok (.ret (.ref (s.heap.push { cls:=.type "tuple_iterator",data:=.fields #[.ref a,.int 0 0] }).objs.size)))
    {s with heap:=(s.heap.push { cls:=.type "tuple_iterator",data:=.fields #[.ref a,.int 0 0] }).push { cls:=.type "enumerate",data:=.fields #[.none,.bool false,.ref s.heap.objs.size,rawInt 0,.none,.none] } }):=
 .of_wp λprog w A R s h=>by
  let⟨hp,g,d,tk,os⟩:=s;let⟨h1,h⟩:=h;have subE:=sub_enumerate;have k1 :=h1
  wp_walk using iL k1
  rwa[wpAny_stack_any λst=>aP ?_]
  split
  ·rename_i c _ _ _ _ _
   cases(c == ae.type "enumerate")
   ·wp_walk using iL k1
    rwa[ς,h]
   ·wp_walk using iL k1
    rwa[ς,h]
  ·wp_walk using iL k1
   rwa[ς,h]
def call_enumT {xs:Array ae}(h1:s.heap.IsTuple a xs)
  (q:∀g,IsEnum g (s.heap.objs.size+1) s.heap.objs.size 0 .none->g.IsTupleIter s.heap.objs.size a 0->g.objs.size=s.heap.objs.size+2->(∀c o,s.heap.get? c=some o->g.get? c=some o)->Q (.ref (s.heap.objs.size+1)) { s with heap:=g }) :
  ‹5› (call (.type "enumerate") [.ref a]) Q E s:=by
 rwa[callType_new F.called_enumerate ↥0 (F.typeCall_enumerate_1 _) (F.newCall_enumerate_1 _) (λobj=>F.args_object_init_2 obj _) F.entry_enumerate_new (enumT_new a xs) ⟨h1,?_⟩];have e1:(s.heap.push { cls:=.type "tuple_iterator",data:=.fields #[.ref a,.int 0 0] }).objs.size=s.heap.objs.size+1:=fc ..;have f2:=aR (s.heap.push { cls:=.type "tuple_iterator",data:=.fields #[.ref a,.int 0 0] }) (o:={ cls:=.type "enumerate",data:=.fields #[.none,.bool false,.ref s.heap.objs.size,rawInt 0,.none,.none] }) rfl;rw[e1] at f2 ⊢;rwa[⟨_,f2,rfl⟩,q _ f2 ⟨_,ao _ (aR _ rfl),rfl,rfl⟩ (by rw[fc,e1]) λc o x=>ao _ (ao _ x)]
end
def Ite (a:ai):It:=
 ⟨fun i H=>∃ xs x,H a=some (.tup xs)/\xs[i]? =some x,
  λi H v H'=>∃p x,H p=none/\v= .ref p/\H'=upd H p (.tup [.int (i:Nat),x])/\∀xs,H a=some (.tup xs)->xs[i]? =some x,
  fun i H=>∃ xs,H a=some (.tup xs)/\xs.length=i⟩
theorem turn_enum {k0}{z i1:ai}(a:ai)(hzi:z≠i1) :
  Turn P w K (.Tuple es k0 pos) (Ite a) [z,i1] z (λi h=>(∃was,IsEnum h z i1 i was)/\h.IsTupleIter i1 a i) where
 mem:=by simp
 obj:=λi h st c hc=>by
  let⟨⟨was,e1⟩,⟨o2,e2,_,d2⟩⟩:=st
  grind
 keep:=λi h h' st k=>by
  let⟨⟨was,e1⟩,⟨o2,e2,r2⟩⟩:=st;rwa[↥1,⟨o2,k i1 ∅ _ e2,r2⟩]
 item:=by
  right;let⟨xs,x,ha,hx⟩:=hg;let⟨⟨was,e1⟩,j1⟩:=st;let⟨its,rv,pt,_⟩:=I.tuple (zT ha);have nz:∀e∈[z,i1],H e=none:=λe he=>(hf e he).1
  have hT :=I.fresh;have na:=bJ ha (nz i1 ∅);have li:i<its.toArray.size:=by have:=(aw.mp hx).1;have:=rv.length;simp;cbv
  rwa[wpAny_pyNext_enum_itemD (drawsT (A:=X.A.in1) (I.ok.hd hc) i1 a na its.toArray) e1 ⟨j1,pt⟩ li hzi ↥1 λu g tk hu z1 m1 tp sz kk=>⟨ς,?_⟩]
  let⟨u',hu',ru⟩:=rv.get hx;have eu:u'=u:=by simpa [hu'] using hu
  subst eu;rwa[wpAny_letOwnedTupleGo_enum z1 λg2 z2 s2=>?_]
  have k2:∀e o,e ∉ [z,i1]->s.heap.get? e=some o->g2.get? e=some o:=λe o hn h=>by
   simp only[bh,fN,or_false,not_or] at hn;rwa[s2.extBut _ _ hn.1 (kk e o hn.1 hn.2 h)]
  have zlt :=aS e1;have tp2 :=s2.extBut _ _ (fO zlt) tp;have I':=I.tok (tk+1);have J:Inv X aN σ (upd H s.heap.objs.size (.tup [.int i,x])) { s with heap:=g2,toks:=tk+1 }:=by
   rwa[I'.turnAll (λe he=>hf e he) k2 (λe o h=>by rw[bw (bJ h hT)];exact h) (λe o h n=>by rw[bw (bP (aS h))];exact n) λe o h=>?_]
   by_cases q:e=s.heap.objs.size
   ·subst q
    rw[aJ] at h;cases h;rwa[by show 2<=aO;decide,[.int i tk,u'],.cons ⟨ς⟩ (.cons ru .nil),_,tp2,rfl,rfl,ς]
   ·rw[bw q] at h
    apply(I.hok e o h).stay ↥1 (λc q'=>by rw[bw (bJ q' hT)];rwa[q']) λc xs q'=>by rw[bw (bJ q' hT)];rwa[q']
  rwa[.ref s.heap.objs.size,_,J,rfl,⟨_,x,hT,rfl,rfl,λxs' h'=>by cbv⟩,⟨⟨u',z2⟩,m1.1.extBut s2.extBut hzi.symm⟩,λe he=>?_];let⟨o4,q4,_⟩:=j1;have hlt:e<s.heap.objs.size:=by
   simp only[bh,fN,or_false] at he
   rcases he with rfl | rfl
   ·omega
   ·rwa[aS q4]
  grind [bw,bP]
 done:=by
  right;let⟨xs,ha,hx⟩:=hg;let⟨⟨was,e1⟩,j1⟩:=st;let⟨its,rv,pt,_⟩:=I.tuple (zT ha);let⟨f0,f1,f2,f3,f4,f5⟩:=hf i1 ∅;have hl:=rv.length;have na:a≠i1:=by lia
  rwa[wpAny_pyNext_enum_endD (drawsT (A:=X.A.in1) (I.ok.hd hc) i1 a na its.toArray) e1 ⟨↥2,pt⟩ λg kp=>⟨rfl,I.turned (λb o hb e=>kp b o hb e) f0 f1 f3 f4 f5⟩]
 self:=λ_ _ _ _ _ st h=>let ⟨⟨_,e1⟩,_⟩:=st;wpAny_pyIter_enum e1 h
def iEnum (ta:TA):TI:=λσ H R=>ta σ H λvs H1=>∃a xs,vs=[.ref a]/\H1 a=some (.tup xs)/\R (Ite a) H1
theorem pi_enum {ta:TA}{p:Pos}{k0}{pt:Pos}(hg:Gl X "enumerate")(hm:X.mg "enumerate" =none)(ha:PA X [ea] ta)(hs:autoParam (bF [ea] X.env=[(false,eO ea X.env)]) Ωa) :
  PI X (.Tuple es k0 pt) (.Call (.Name "enumerate" p) [ea] [] pos) (iEnum ta):=by
 intro aN s σ H R I h;rwa[Call_ (oj I hg hm boot_enumerate (dX (thn (ha pos aN s σ H _ I h) λus s1 hz0=>?_) hs rfl))];let⟨vs,H1,I1,r1,q1⟩:=hz0;let⟨a,xs,e,hA,q⟩:=q1;subst e;let⟨u1,rfl,r2⟩:=lZ r1;cases(r2);let⟨its,rv,pt',_⟩:=I1.tuple (zT hA);rwa[call_enumT (pt') λg z1 j1 sz kk=>?_]
 rwa[wpAny_pyIter_enum z1 ⟨s1.heap.objs.size+1,[s1.heap.objs.size+1,s1.heap.objs.size],_,Ite a,H1,rfl,I1.kept kk,turn_enum a ↥2,⟨⟨_,z1⟩,j1⟩,λe he=>?_,q⟩];have hge:s1.heap.objs.size<=e:=by
  grind
 rwa[I1.fpOk hge (I1.hok.fresh hge)]
theorem ps_setCG {CW:St->VK->It->Hp->Prop}{iy:Nat}{y0:Str}{py spos:Pos}{xs:List Str}
  (hN0:X.N.Nodup) (hi0:X.N[iy]? =some y0) (hx0:Loc X.env.scope y0) (hc:X.calm=true) (hi:PI X tg iter wi)
  (jK:∀y∈scope.names,y.2≠ .cell) (oB:scope.kind= .function) (nL:∀y∈scope.names,y.2= .local->scope.names.lookup y.1=some .local)
  (hfr:∀y∈scope.names,y.2= .free->X.env.scope.names.lookup y.1=some .cell) (hjs:js.map (λj=>X.N[j]?)=fr.map some) (hfv:∀y∈fr,scope.names.lookup y=some .free)
  (hg:∀cl C s' H' ex,PG (cxC XE X scope cl C (xs++fr) s' H' ex) tg g)
  (hb:∀cl C s' H' ex,PASS cl C s' H' ex->PE (cxC XE X scope cl C (xs++fr) s' H' ex) elt te/\PTs (cxC XE X scope cl C (xs++fr) s' H' ex) ifs tt)
  (hp:∀cl C aN σ H2 s2 fp,Inv X aN σ H2 s2->(∀b∈fp,b∈X.ex\/X.s₀.heap.objs.size<=b)->s2.heap.objs.size<=C->PASS cl C s2 H2 fp)
  (hxe:∀R D cl C e s',XE cl C e s'->qh X.prog X.w X.A (compEnvC scope cl C X.env) (compPost (bC X.prog X.w) X.A X.xe (some (assign (.Name y0 py) X.env)) R D C) e s')
  (hCW:∀σ Q J H1,CW σ Q J H1->qi xs.length g js tt te σ Q J H1) (hs:autoParam (∀z,gh iter X.env z=gv z) Ωc) (hsw:autoParam (swapsWith (.ListComp elt [⟨tg,iter,ifs,0⟩] scope pos) (some (.Name y0 py)) spos.line X.env=gv true) Ωa)
  (hf0:autoParam (X.fn y0=true\/X.env.scope.names.lookup y0=some .local) Ωd) :
  PS X (.Assign [.Name y0 py] (.ListComp elt [⟨tg,iter,ifs,0⟩] scope pos) spos) (tAsg (λσ H Q=>wi σ H λJ H1=>CW σ Q J H1) (o9 iy)):=by
 intro aN s σ H Dn I h;rw[exec_Assign_Name_used _ _ _ _ hsw];rwa[ak (wpAny_standAt (ak ?_))];rwa[ak (cj (comp_core hc hi jK oB nL hfr hjs hfv hg hb hp (λcl C D e s'=>hxe _ D cl C e s') hCW I h (λs4 H5 D C mC hnC I5 nC locC fsC pinX cC sC q=>?_) hs) (λ_ s' hq=>aP (aP hq)) λ_ _ e=>e)];let⟨oC,esC,epC,hoC,rC⟩:=id hnC;have I6:Inv X ((C,oC)::aN) σ H5 s4:=I5.pins_of λp hp=>by
  rcases bh.mp hp with rfl | hp
  ·lia
  ·rwa[I5.pin p ↥1]
 have hPG0:PG X (.Name y0 py) (o9 iy):=oy hN0 hi0 hx0 hf0;rwa[thn (hPG0 _ s4 σ _ (.ref D) (.ref D) (λσ' H'=>Dn.nx σ' H'/\H' C=none) I6 rfl ⟨q,nC⟩) λ_ s6 hz0=>?_]
 let⟨σ6,H6,I7,q7,n7⟩:=hz0;have o7:=(I7.pin (C,oC) ∅).1;rwa[mC,⟨oC,esC,epC,o7,rC⟩,λh' hsb=>⟨σ6,H6,?_,q7⟩];have I8 :=I7.pins_of λp hp=>I7.pin p (bo _ (az _ hp))
 rwa[I8.turned (λb o hb' e=>hsb.extBut b o hb' e) n7 locC (.inr sC) cC pinX]
def ps_setC {iy:Nat}{y0:Str}{py spos:Pos}{px:Pos}
  (hN0:X.N.Nodup) (hi0:X.N[iy]? =some y0) (hx0:Loc X.env.scope y0) (hc:X.calm=true) (hi:PI X (.Name x px) iter wi)
  (jK:∀y∈scope.names,y.2≠ .cell) (oB:scope.kind= .function) (nL:∀y∈scope.names,y.2= .local->scope.names.lookup y.1=some .local) (hx:scope.names.lookup x=some .local)
  (hfr:∀y∈scope.names,y.2= .free->X.env.scope.names.lookup y.1=some .cell) (hnd:(x::fr).Nodup) (hjs:js.map (λj=>X.N[j]?)=fr.map some) (hfv:∀y∈fr,scope.names.lookup y=some .free)
  (hb:∀cl C s' H' ex,PE (nN X scope cl C (x::fr) s' H' ex) elt te/\PTs (nN X scope cl C (x::fr) s' H' ex) ifs tt)
  (hs:autoParam (∀z,gh iter X.env z=gv z) Ωc) (hsw:autoParam (swapsWith (.ListComp elt [⟨.Name x px,iter,ifs,0⟩] scope pos) (some (.Name y0 py)) spos.line X.env=gv true) Ωa)
  (hf0:autoParam (X.fn y0=true\/X.env.scope.names.lookup y0=some .local) Ωd) :
  PS X (.Assign [.Name y0 py] (.ListComp elt [⟨.Name x px,iter,ifs,0⟩] scope pos) spos) (tAsg (tComp wi js tt te) (o9 iy)):=
 ps_setCG (XE:=λ_ _ _ _=>False) (PASS:=λ_ _ _ _ _=>True) (xs:=[x]) (g:=o9 0) hN0 hi0 hx0 hc hi jK oB nL hfr hjs hfv (λ_ _ _ _ _=>oy hnd rfl (.inl (eX hx)) (.inr (eX hx))) (λcl C s' H' ex _=>hb cl C s' H' ex) (λ_ _ _ _ _ _ _ _ _ _=>trivial) (λ_ _ _ _ _ _ f=>f.elim) (λ_ _ _ _ h=>compW_T h) hs hsw hf0
def notStar:Expr->Bool
 | .Starred _ _=>false
 | _=>true
def starEach_not (h:notStar e=true):bF (e::es) env=(false,eO e env)::bF es env:=by
 cases e <;> first | rfl | cases h
def pa_k (ha:PE X e te)(hr:PA X es t)(h:autoParam (notStar e=true) Ωa):PA X (e::es) (om te t):=aV ha hr (starEach_not h)
structure PEs (X:Cx)(e:Expr)(t:TE):Prop where
 h:PE X e t
structure PAs (X:Cx)(es:List Expr)(t:TA):Prop where
 h:PA X es t
structure PSt (X:Cx)(st:bY)(t:TS):Prop where
 h:PS X st t
structure PIs (X:Cx)(tg it:Expr)(t:TI):Prop where
 h:PI X tg it t
def kN {t:TS}(h:PS X st t):PS X st (λD σ H=>∃N:St->Hp->Prop,(∀σ' H',N σ' H'->D.nx σ' H')/\t { D with nx:=N } σ H):=by
 intro aN s σ H D I ⟨N,hN,ht⟩;rwa[thn (h aN s σ H { D with nx:=N } I ht) λf s' q=>?_]
 cases f with
 | next=>let⟨σ',H',I',n'⟩:=q;rwa[σ',H',I',hN _ _ n']
 | brk=>rwa[q]
 | cont=>rwa[q]
 | ret u=>rwa[q]
structure PSl (X:Cx)(sts:List bY)(t:TS):Prop where
 h:PSs X sts t
section
variable {a b:Expr}{tb:TE}
def k_int {i j}:PEs X (.Constant (.int i) j pos) (tC (.int i)):=⟨dQ⟩
def k_op {op:Operator}{r:R2}(ho:OpR X (gq op) r)(ha:PEs X a ta)(hb:PEs X b tb):PEs X (.BinOp a op b pos) (tOp r ta tb):=⟨sQ ho ha.h hb.h⟩
def k_ix {r:R2}(hr:IxR X r)(ha:PEs X a ta)(hb:PEs X b tb)(hs:PlainIx b):PEs X (.Subscript a b pos) (tOp r ta tb):=⟨jH hr ha.h hb.h hs⟩
def k_lst (h:PAs X es t):PEs X (.List es pos) (tLstA t):=⟨nG h.h⟩
def a_nil:PAs X [] tNil:=⟨b9⟩
def ju (ha:PEs X e te)(hr:PAs X es t)(h:autoParam (notStar e=true) Ωa):PAs X (e::es) (om te t):=⟨pa_k ha.h hr.h h⟩
theorem l_cons {t u:TS}(a:PSt X st t)(b:PSl X sts u):PSl X (st::sts) (ik t u):=⟨pss_cons a.h b.h⟩
theorem l_one {t:TS}(a:PSt X st t):PSl X [st] t:=⟨pss_one a.h⟩
end
def CBig (i j:Int):Prop:=i.natAbs<10 ^ 400/\j.natAbs<10 ^ 400
theorem bits_of {x:Int}(h:x.natAbs<10 ^ 400):ki x<=2 ^ 20:=by
 unfold ki;split
 ·cbv
 ·rename_i hx
  have h0:x.natAbs≠0:=λz=>hx ↥2
  have h1:x.natAbs<2 ^ 4000:=Nat.lt_trans h (by omega);have h2:=(Nat.log2_lt h0).mpr h1
  lia
def op_mulB:OpR X (gq .Mult) (rI CBig λi j=>.int (i * j)):=opI λ_ _ _ _ _ _ _ hc q=>mul_int q (IntMulOk.of_bits (bits_of hc.1) (bits_of hc.2))
theorem op_neD (hu:X.A.units+64<cLine):OpR X (cZ .NotEq) (λx y H Q=>∃ds es,IsD H x (.tup ds)/\IsD H y (.tup es)/\pls ds=true/\pls es=true/\sS ds<60/\Q (.bl (!(sx ds es))) H):=by
 left;let⟨ds,es,ix,iy,pd,pe,hd,q⟩:=h;let⟨a,xs,rfl,ha,r⟩:=ix.tup_of;let⟨b,ys,rfl,hb,r'⟩:=iy.tup_of;cases(show v=ae.ref a from rx);cases(show u=ae.ref b from ry);let⟨its,rv,p,_⟩:=I.tuple (zT (K:=X.K) ha);let⟨its2,rv2,p2,_⟩:=I.tuple (zT (K:=X.K) hb);have p:s.heap.IsTuple a its.toArray:=p;have p2:s.heap.IsTuple b its2.toArray:=p2;have l1:its.length=ds.length:=by rw[<-rv.length,r.length]
 have l2:its2.length=es.length:=by rw[<-rv2.length,r'.length]
 have key:=SeqAt.RcNeAt.tuples (A:=X.A) (e:=fun j=>eqD (ds.getD j .non) (es.getD j .non)) p p2 ⋯ (fun j h1 h2=>by
  have h1':j<its.length:=by simpa using h1
  have h2':j<its2.length:=by simpa using h2
  let⟨x',ex,dx⟩:=r.at (i:=j) (d:=ds[j]'⋯) (gE ⋯);let⟨y',ey,dy⟩:=r'.at (i:=j) (d:=es[j]'⋯) (gE ⋯);let⟨u',eu,ru⟩:=rv.get ex;let⟨v',ev,rw'⟩:=rv2.get ey;have eu':its[j]=u':=by rw[gE h1'] at eu;rwa[cV eu]
  have ev':its2[j]=v':=by rw[gE h2'] at ev;rwa[cV ev]
  have g1:ds.getD j .non=ds[j]'⋯:=by rw[af,gE ⋯];rfl
  have g2:es.getD j .non=es[j]'⋯:=by rw[af,gE ⋯];rfl
  show SeqAt.EqAt X.A.in1 s (its.toArray[j]) (its2.toArray[j]) (eqD (ds.getD j .non) (es.getD j .non));rw[kI,kI,eu',ev',g1,g2];rwa[eqAt_D 60 (aU (deps_get (gE ⋯)) ⋯) (by show X.A.units+1+60<cLine;lia) I dx dy ru rw' (rQ pd (gE ⋯)) (rQ pe (gE ⋯))])
 rwa[key X.prog X.w _ _ (dZ I q ?_)];rw[eqDs_all,br,br,l1,l2]
theorem lE:∀{ns:zI} {us:zD},fZ (ns.map V.int) us->IntsAre us ns
 | [],_,.nil=>.nil
 | _::_,_,.cons ⟨_,e⟩ r=>by cases e;rwa[.cons _ _ (lE r)]
def op_eqI (hu:X.A.units+64<cLine):OpR X (cZ .Eq) (λx y H Q=>∃(a b:ai) (ns ms:zI),x= .ref a/\y= .ref b/\SqL X.K H a (ns.map V.int)/\SqL X.K H b (ms.map V.int)/\Q (.bl (decide (ns=ms))) H):=by
 left;let⟨a,b,ns,ms,rfl,rfl,ha,hb,q⟩:=h;cases(rx);cases(ry);let⟨its,rv,p,_⟩:=I.list ha;let⟨its2,rv2,p2,_⟩:=I.list hb;rwa[PySem.W.ke_eq_ints p.isList p2.isList (lE rv) (lE rv2) hu (dZ I q rfl)]
theorem eqDs_ints:∀ns ms:zI,sx (ns.map Dt.int) (ms.map Dt.int)=decide (ns=ms)
 | [],[]=>by rfl
 | [],_::_=>by rfl
 | _::_,[]=>by rfl
 | n::ns,m::ms=>by
  rw[cz,cz];unfold sx;rw[eqDs_ints ns ms]
  grind [eqD]
theorem oX:∀ns:zI,pls (ns.map Dt.int)=true
 | []=>by rfl
 | n::r=>by rw[cz];unfold pls;rw[oX r];rfl
theorem sE:∀ns:zI,sS (ns.map Dt.int)=0
 | []=>by rfl
 | n::r=>by rw[cz];unfold sS;rw[sE r];rfl
def qP {xs:List Str}
  (hc:X.calm=true) (hi:PI X tg iter wi)
  (jK:∀y∈scope.names,y.2≠ .cell) (oB:scope.kind= .function) (nL:∀y∈scope.names,y.2= .local->scope.names.lookup y.1=some .local)
  (hfr:∀y∈scope.names,y.2= .free->X.env.scope.names.lookup y.1=some .cell) (hjs:js.map (λj=>X.N[j]?)=fr.map some) (hfv:∀y∈fr,scope.names.lookup y=some .free)
  (hg:∀cl C s' H' ex,PG (nN X scope cl C (xs++fr) s' H' ex) tg g)
  (hb:∀cl C s' H' ex,PE (nN X scope cl C (xs++fr) s' H' ex) elt te/\PTs (nN X scope cl C (xs++fr) s' H' ex) ifs tt)
  (hs:autoParam (∀z,gh iter X.env z=gv z) Ωc) :
  PE X (.ListComp elt [⟨tg,iter,ifs,0⟩] scope pos) (tCompT wi xs.length g js tt te):=
 pe_compC hc hi jK oB nL hfr hjs hfv hg hb (λ_ _ _ _ h=>h) hs
abbrev gPair (K:ag):TG:=gTup K 2 (gCons (o9 0) (gCons (o9 1) gNil))
def pg_two {ex:zX}{y:Str}{k:Nat}{pt:Pos}(hc:X.calm=true)(hnd:(x::y::fr).Nodup)(hx:scope.names.lookup x=some .local)(hy:scope.names.lookup y=some .local) :
  PG (nN X scope cl C ([x,y]++fr) s H ex) (.Tuple [.Name x p1,.Name y p2] k pt) (gPair X.K):=
 pg_tup hc (pgs_cons (oy hnd rfl (.inl (eX hx)) (.inr (eX hx))) (pgs_cons (oy hnd rfl (.inl (eX hy)) (.inr (eX hy))) pgs_nil))
theorem compT_enum {Q:VK}(Pv:Nat->zA->Hp->Prop)(h0:Pv 0 [] H)(hl:∀i ys H,i<=xs.length->Pv i ys H->H a=some (.tup xs)/\ys.length<=i)(hz:xs.length<=aO)
  (hs:∀i x ys p H,xs[i]? =some x->Pv i ys H->H p=none->tt (some (.int (i:Nat))::some x::cL σ js) (upd H p (.tup [.int (i:Nat),x])) λb H4=>if b=true then te (some (.int (i:Nat))::some x::cL σ js) H4 λy H5=>Pv (i+1) (ys++[y]) H5 else Pv (i+1) ys H4)
  (hd:∀ys H,Pv xs.length ys H->∀D,H D=none->Q (.ref D) (upd H D (.lst ys))):qi 2 (gPair K) js tt te σ Q (Ite a) H:=by
 rwa[λi m ys H=>i<=xs.length/\m=xs.length - i/\Pv i ys H,⟨_,bq _,rfl,h0⟩,λi m ys H2 hz0=>?_];let⟨hi,hm,hp⟩:=hz0;let⟨hq,hy⟩:=hl i ys H2 hi hp
 by_cases e:i=xs.length
 ·subst e
  rwa[.inl ⟨⟨xs,hq,rfl⟩,hd ys H2 hp⟩]
 ·have hlt:i<xs.length:=dt hi e
  rwa[.inr ⟨⟨xs,_,hq,gE hlt⟩,⋯,Pv (i+1),λys' H' hp'=>⟨xs.length - (i+1),⋯,⋯,rfl,hp'⟩,λv H3 hy3 v0 hv0=>?_⟩];let⟨p,x,hn,rfl,rfl,hx⟩:=hy3
  match v0,hv0 with
  | [v1,v2],_=>rwa[p,ς,zT aJ,rfl,_,ς,τ,⟨[some (.int (i:Nat)),some x],rfl,rfl⟩,hs i x ys p H2 (hx xs hq) hp hn]
local macro_rules
 | `(tactic|exists $s:term)=>`(tactic|(show ∀ y:bO×PySem.NameKind,y∈_->y.2=PySem.NameKind.free->List.lookup y.1 (defScope $s).names=some PySem.NameKind.cell;decide +kernel))
local macro_rules
 | `(tactic|trivial)=>`(tactic|first|decide +kernel|exact ⟨rfl,rfl,rfl,by decide +kernel,rfl,by decide +kernel,by decide +kernel⟩|rwa[True.intro])
local macro_rules
 | `(tactic|contradiction)=>`(tactic|(intro _ _ _ _ h;first | (cases h;subst_vars;rfl) | ((repeat (obtain ⟨_,h⟩:=h));subst_vars;rfl)))
def ixZ {a:Expr}{p q:Pos}{i:Int}{j}(h:PE X a ta):PE X (.Subscript a (.Constant (.int i) j p) q) (tOp (qd X.K) ta (tC (.int i))):=jH g9 h dQ (λ_ _=>rfl)
def szZ1:1<=aO:=by decide
def lh:2<=aO:=by decide
def szZ4:4<=aO:=by decide
def szZ5:5<=aO:=by decide
def psZ (i:Nat)(hN:X.N.Nodup)(he:PE X e te)(hi:X.N[i]? =some x:=by rfl)(hx:Loc X.env.scope x:=by first|rwa[.inl rfl]|rwa[.inr rfl])(hs:swapsWith e (some (.Name x pos')) pos.line X.env=gv false:=by rfl)(hf:X.fn x=true\/X.env.scope.names.lookup x=some .local:=by first|rwa[.inl rfl]|rwa[.inr rfl]|assumption):PS X (.Assign [.Name x pos'] e pos) (tAsg te (o9 i)):=ps_set hN hi hx he hs hf
def pgZ (i:Nat)(hN:X.N.Nodup)(hi:X.N[i]? =some x:=by rfl)(hx:Loc X.env.scope x:=by first|rwa[.inl rfl]|rwa[.inr rfl])(hf:X.fn x=true\/X.env.scope.names.lookup x=some .local:=by first|rwa[.inl rfl]|rwa[.inr rfl]|assumption):PG X (.Name x pos) (o9 i):=oy hN hi hx hf
abbrev pza:zH:=["net"]
abbrev pzb:zH:=["net","thing"]
abbrev pzc:zH:=["net","table"]
abbrev pzd:zH:=["net","step"]
abbrev pze:zH:=["_law_net_here"]
abbrev pzf:zH:=["thing"]
abbrev pzg:zH:=["_law_net_here","_law_table"]
abbrev pzh:zH:=["net","bounds","ring"]
abbrev pzi:zH:=["thing","low","high"]
abbrev pzj:zH:=["word"]
abbrev pzk:zH:=["net","span"]
abbrev pzl:zH:=["beat","number"]
abbrev pzm:zH:=["net","order"]
abbrev pzn:zH:=["net","case"]
abbrev pzo:zH:=["_law_tree","_law_bounds_here"]
abbrev pzp:zH:=["_law_net_here","_law_bounds_here","_law_leaf"]
abbrev pzq:zH:=["_law_deck","_law_most"]
abbrev pzr:zH:=["net","spans","happening"]
abbrev pzs:zH:=["bounds","span","low","high"]
abbrev pzt:zH:=["net","most"]
abbrev pzu:zH:=["net","leaf_in"]
abbrev pzv:zH:=["thing","word","many"]
abbrev pzw:zH:=["case","span"]
abbrev pzx:zH:=["_law_net_here","_law_bounds_here","_law_ring"]
abbrev pzy:zH:=["many","start","goal"]
abbrev pzz:zH:=["beat","least","most"]
abbrev pzA:zH:=["_law_net_here","_law_step"]
abbrev pzB:zH:=["rings","span"]
abbrev pzC:zH:=["net","rings","wait","case"]
abbrev pzD:zH:=["beat","many","thing"]
abbrev pzE:zH:=["_law_net_here","_law_tree"]
abbrev pzF:zH:=["span","names"]
abbrev pzG:zH:=["net","table","number"]
abbrev pzH:zH:=["bounds","way"]
abbrev pzI:zH:=["net","bounds","leaf"]
abbrev pzJ:zH:=["net","spans","begin","end"]
abbrev pzK:zH:=["self","case","span","at"]
abbrev pzL:zH:=["net","steps","bounds"]
abbrev pzM:zH:=["net","rings","bounds"]
abbrev pzN:zH:=["net","table","span"]
abbrev pzO:zH:=["bounds","cut"]
abbrev pzP:zH:=["_law_script","_law_most"]
abbrev pzQ:zH:=["bounds","thing"]
abbrev pzR:zH:=["_law_net_here","_law_taken","_law_begin"]
abbrev pzS:zH:=["_law_net_here","_law_most"]
abbrev pzT:zH:=["_law_deck","_law_beat","_law_many","_law_hidden","_law_kept"]
abbrev pzU:zH:=["_law_deck","_law_most","_law_beats_here","_law_size","_law_great"]
namespace HN
abbrev B60:Int:=10 ^ 60 - 1
theorem mR {b:Bool}{A:Prop}(h:b=true)(x:A):if b=true then A else B:=by lia
theorem hX {b:Bool}{A:Prop}(h:b=false)(x:B):if b=true then A else B:=by lia
structure Nm (mg:Str->zJ):Prop where
 isin:mg "isinstance" =none
 tint:mg "int" =none
 tbool:mg "bool" =none
 ttup:mg "tuple" =none
 len:mg "len" =none
 min:mg "min" =none
 all:mg "all" =none
structure Cs (mg:Str->zJ):Prop where
 mh:∃t,mg "MOST_HAPPENINGS" =some (.int 16 t)
 ms:∃t,mg "MOST_SPANS" =some (.int 40 t)
 mw:∃t,mg "MOST_WEIGHT" =some (.int 1000000000000 t)
structure Fn (K:ag)(mg:Str->zJ)(x:Str)(st:bY)(ps:List Str)(f:ai)(fd:aM):Prop where
 F:Fun K x x st f fd
 mg:mg x=some (.ref f)
 b:pE K fd ps []
def pc1 {k:Nat}{sp:Sp}{p:Pos}(G:Fn X.K X.mg x st ps f fd)(F:bX X.prog X.w X.K X.mg X.base CX0 k f fd ps sp)(hr:kX j X.A)
  (ha:PA X (e::es) t) (hg:autoParam (Gl X x) Ωa) (hdb:autoParam ((x == ("__debug__" :Str))=false) Ωb) (he:autoParam (bF (e::es) X.env=(false,eO e X.env)::bF es X.env) Ωa) (hpl:autoParam ((gw pos (bF es X.env)).any (·.1)=false) Ωa) (jk:autoParam (k<=j) Ωf) :
  PE X (.Call (.Name x p) (e::es) [] pos) (tCall sp [] E0 t):=pe_call F (hr.mono jk) hg G.mg G.F.kp G.b .nil pass0 ha hdb he hpl
def pc0 {k:Nat}{sp:Sp}{p:Pos}(G:Fn X.K X.mg x st [] f fd)(F:bX X.prog X.w X.K X.mg X.base CX0 k f fd [] sp)(hr:kX j X.A)
  (hg:autoParam (Gl X x) Ωa) (hdb:autoParam ((x == ("__debug__" :Str))=false) Ωb) (jk:autoParam (k<=j) Ωf):PE X (.Call (.Name x p) [] [] pos) (tCall sp [] E0 tNil):=pe_call0 F (hr.mono jk) hg G.mg G.F.kp G.b .nil pass0 hdb
def nH {i:Int}(hm:∃t,X.mg x=some (.int i t))(hg:autoParam (Gl X x) Ωa)(hd:autoParam ((x == ("__debug__" :Str))=false) Ωb):PE X (.Name x pos) (tC (.int i)):=
 let ⟨t,e⟩:=hm;pe_glob hg e ⟨t,rfl⟩ hd
def ky {p:Pos}(N:Nm X.mg)(he:PE X e te)(hg:autoParam (Gl X "isinstance") Ωa)(hg2:autoParam (Gl X "tuple") Ωa)
  (hs1:autoParam (bF [e,.Name "tuple" p2] X.env=(false,eO e X.env)::bF [.Name "tuple" p2] X.env) Ωa) (hpl:autoParam ((gw pos (bF [.Name "tuple" p2] X.env)).any (·.1)=false) Ωa) :
  PE X (.Call (.Name "isinstance" p) [e,.Name "tuple" p2] [] pos) (tCB (λxs H Q=>∃x T,xs=[x,.ty "tuple"]∧tyn H x=some T∧Q (.bl (T == "tuple")) H) (om te (om (tC (.ty "tuple")) tNil))):=
 cP call_isTup hg N.isin mE (aV he (aV (rS hg2 N.ttup boot_tuple rfl) b9) hs1) (he:=hs1) (hpl:=hpl)
def pe_isInt {p:Pos}(N:Nm X.mg)(he:PE X e te)(hg:autoParam (Gl X "isinstance") Ωa)(hg2:autoParam (Gl X "int") Ωa)
  (hs1:autoParam (bF [e,.Name "int" p2] X.env=(false,eO e X.env)::bF [.Name "int" p2] X.env) Ωa) (hpl:autoParam ((gw pos (bF [.Name "int" p2] X.env)).any (·.1)=false) Ωa) :
  PE X (.Call (.Name "isinstance" p) [e,.Name "int" p2] [] pos) (tCB (λxs H Q=>∃x T,xs=[x,.ty "int"]∧tyn H x=some T∧Q (.bl (T == "int" || T == "bool")) H) (om te (om (tC (.ty "int")) tNil))):=
 cP call_isInt hg N.isin mE (aV he (aV (rS hg2 N.tint boot_int rfl) b9) hs1) (he:=hs1)
def pe_isBool {p:Pos}(N:Nm X.mg)(he:PE X e te)(hg:autoParam (Gl X "isinstance") Ωa)(hg2:autoParam (Gl X "bool") Ωa)
  (hs1:autoParam (bF [e,.Name "bool" p2] X.env=(false,eO e X.env)::bF [.Name "bool" p2] X.env) Ωa) (hpl:autoParam ((gw pos (bF [.Name "bool" p2] X.env)).any (·.1)=false) Ωa) :
  PE X (.Call (.Name "isinstance" p) [e,.Name "bool" p2] [] pos) (tCB (λxs H Q=>∃x T,xs=[x,.ty "bool"]∧tyn H x=some T∧Q (.bl (T == "bool")) H) (om te (om (tC (.ty "bool")) tNil))):=
 cP call_isBool hg N.isin mE (aV he (aV (rS hg2 N.tbool boot_bool rfl) b9) hs1) (he:=hs1)
def spGW:Sp:=λvs H Q _=>vs=[]/\Q (.int B60) H
structure Sn where
 s:Int
 g:Int
 l:Int
 o:Int
 w:Int
abbrev _root_.zS:=List Sn
noncomputable abbrev Sn.row (x:Sn):zI:=[x.s,x.g,x.l,x.o,x.w]
abbrev jz (b m:Int)(sp:zS):Dt:=.tup [.int b,.int m,.tup (sp.map λx=>.tup (x.row.map Dt.int))]
def c5 {v:V}{m:Int}{sp:zS}(h:‹4›):∃t p ys,v= .ref t/\H t=some (.tup [.int b,.int m,.ref p])/\H p=some (.tup ys)/\ys.length=sp.length/\∀(i:Nat) (x:Sn),sp[i]? =some x->∃q,ys[i]? =some (.ref q)/\H q=some (.tup [.int x.s,.int x.g,.int x.l,.int x.o,.int x.w]):=by
 let⟨t,xs,rfl,ht,rx⟩:=h.tup_of;cases rx with
 | cons h0 r0 =>
  cases r0 with
  | cons h1 r1 =>
   cases r1 with
   | cons h2 r2 =>
    cases r2;cases h0;cases h1;let⟨p,ys,rfl,hp,ry⟩:=h2.tup_of;rwa[t,p,ys,rfl,ht,hp,by rw[ry.length,aa],λi x hx=>?_];let⟨y,hy,dy⟩:=ry.at (i:=i) (d:=.tup (x.row.map Dt.int)) (by rw[av,hx];rfl);let⟨q,zs,rfl,hq,rz⟩:=dy.tup_of;have ez:=rz.ints_of;subst ez;rwa[q,hy,hq]
noncomputable def tm (ts:zI)(i:Int):Int:=ts.getD i.toNat 0
theorem tm_at {i:Int}(h0:0<=i)(h1:i<ts.length):atI (ts.map V.int) i=some (.int (tm ts i)):=by
 let⟨j,rfl⟩:=cu h0;rwa[ar ?_];rw[av,gE ↥2];unfold tm;rw[cw,af,gE ↥2];rfl
structure Rdy (b:Int)(ts:zI)(sp:zS):Prop where
 b1:0<b
 few:sp.length<=1000
 ends:∀x∈sp,0<=x.s/\x.s<ts.length/\0<=x.g/\x.g<ts.length
def fq (b:Int)(ts:zI)(x:Sn):Int:=(tm ts x.g - tm ts x.s - x.l) % b
def iQ (b:Int)(ts:zI)(sp:zS):zI:=sp.map (fq b ts)
def brk (b:Int)(ts:zI)(x:Sn):Bool:=decide (x.o - x.l<fq b ts x)
def brokenM (b:Int)(ts:zI)(sp:zS):zI:=((aQ sp.length).filter λi=>match sp[i]? with | some x=>brk b ts x | none=>false).map Int.ofNat
def gM (b:Int)(ts:zI)(sp:zS):Bool:=!(sp.any (brk b ts))
def cp (b:Int)(ts:zI)(sp:zS):Int:=(sp.map λx=>x.w * fq b ts x).sum
def ko (b k:Int)(ns:zI):zI:=ns.map λn=>(n+k) % b
def cO {n:Nat}(h:n<=1000):n<=aO:=aU h ↥0
theorem brokenM_nil {sp:zS}:((brokenM b ts sp).length=0)↔gM b ts sp=true:=by
 unfold brokenM gM;rw[aa,fT,List.filter_eq_nil_iff,j4,iP]
 constructor
 ·intro h x hx
  let⟨i,hi,rfl⟩:=List.getElem_of_mem hx;have:=h i (cg.mpr hi)
  cbv
 cbv
def bkAt (b:Int)(ts:zI)(sp:zS)(k:Nat):zI:=((aQ k).filter λi=>match sp[i]? with | some x=>brk b ts x | none=>false).map Int.ofNat
def bkAt_more {sp:zS}{k:Nat}{x:Sn}(h:sp[k]? =some x):bkAt b ts sp (k+1)=bkAt b ts sp k++(if brk b ts x=true then [(k:Int)] else []):=by
 unfold bkAt;rw[kZ,lX,au];congr 1;rw[kr,h]
 by_cases q:brk b ts x=true
 ·simp only[q,if_true];rfl
 ·simp only[q,if_false];rfl
theorem bkAt_len {sp:zS}(k:Nat):(bkAt b ts sp k).length<=k:=by
 unfold bkAt
 grind
structure Nt (mg:Str->zJ):Prop where
 range:mg "range" =none
 enum:mg "enumerate" =none
 zip:mg "zip" =none
 sum:mg "sum" =none
 tlist:mg "list" =none
 max:mg "max" =none
structure SnOk (b m:Int)(x:Sn):Prop where
 s0:0<=x.s
 s1:x.s<m
 g0:0<=x.g
 g1:x.g<m
 ne:x.s≠x.g
 l0:0<=x.l
 lo:x.l<=x.o
 ob:x.o<x.l+b
 o60:x.o<10 ^ 60
 w0:0<=x.w
 w1:x.w<=1000000000000
structure iC (b m:Int)(sp:zS):Prop where
 b1:1<=b
 b2:b<=10 ^ 59
 m1:1<=m
 m2:m<=16
 few:sp.length<=40
 all:∀x∈sp,SnOk b m x
theorem iC.rdy {m:Int}{sp:zS}(h:iC b m sp)(ht:(ts.length:Int)=m):Rdy b ts sp:=
 ⟨by have:=h.b1;lia,by have:=h.few;lia,λx hx=>by have:=h.all x hx;rwa[this.s0,by have:=this.s1;cbv,this.g0,by have:=this.g1;cbv]⟩
theorem iC.ws {m:Int}{sp:zS}(h:iC b m sp):∀x∈sp,0<=x.w/\x.w<=1000000000000:=λx hx=>⟨(h.all x hx).w0,(h.all x hx).w1⟩
theorem tm_in {i:Int}(h:∀i∈ts,0<=i/\i<b)(h0:0<=i)(h1:i<ts.length):0<=tm ts i/\tm ts i<b:=by
 have hi:i.toNat<ts.length:=by cbv
 have e:tm ts i=ts[i.toNat]:=by unfold tm;rw[af,gE hi];rfl
 rw[e];rwa[h _ (aY hi)]
theorem qN (x y l b:Int):(x % b - y % b - l) % b=(x - y - l) % b:=by
 have hx:=gF x b;have hy:=gF y b;have e:x - y - l=(x % b - y % b - l)+b * (x / b - y / b):=by lia
 rw[e,Int.add_mul_emod_self_left]
theorem tm_moved {k:Int}{i:Int}(h0:0<=i)(h1:i<ts.length):tm (ko b k ts) i=(tm ts i+k) % b:=by
 have hi:i.toNat<ts.length:=by cbv
 unfold tm ko;rw[af,af,av,gE hi];rfl
theorem qT {k:Int}{sp:zS}(R:Rdy b ts sp):∀x∈sp,fq b (ko b k ts) x=fq b ts x:=λx hx=>by
 let⟨s0,s1,g0,g1⟩:=R.ends x hx
 grind [fq,tm_moved,qN]
def waitOfM_moved {k:Int}{sp:zS}(R:Rdy b ts sp):cp b (ko b k ts) sp=cp b ts sp:=by
 unfold cp;rw[c9 λx hx=>by rw[qT R x hx]]
theorem fitsM_moved {k:Int}{sp:zS}(R:Rdy b ts sp):gM b (ko b k ts) sp=gM b ts sp:=by
 unfold gM
 grind [brk,qT]
theorem movedL_in {k:Int}(hb:0<b):∀i∈ko b k ts,0<=i/\i<b:=λi hi=>by
 let⟨x,_,rfl⟩:=bc.mp hi;rwa[cS _ ⋯,cY _ hb]
inductive spRest (vs:zA)(H:Hp)(Q:VK)(_:XK):Prop
 | mk (b n:_)(_:vs=[.int b,.int n])(_:0<b)(_:Q (.int (n % b)) H)
inductive spWidth (vs:zA)(H:Hp)(Q:VK)(_:XK):Prop
 | mk (v b m sp i x:_)(_:vs=[v,.int (i:Nat)])(_:‹4›)(_:sp[i]? =some x)(_:Q (.int (x.o - x.l)) H)
inductive spWaitIn (vs:zA)(H:Hp)(Q:VK)(_:XK):Prop
 | mk (v u b m sp ts i x:_)(_:vs=[v,.ref u,.int (i:Nat)])(_:‹4›)(_:H u=some (.tup (ts.map V.int)))(_:Rdy b ts sp)(_:sp[i]? =some x)(_:Q (.int (fq b ts x)) H)
inductive spWaits (vs:zA)(H:Hp)(Q:VK)(_:XK):Prop
 | mk (v u b m sp ts:_)(_:vs=[v,.ref u])(_:‹4›)(_:H u=some (.tup (ts.map V.int)))(_:Rdy b ts sp)(_:∀p H',bt H H'->H' p=some (.tup ((iQ b ts sp).map V.int))->Q (.ref p) H')
inductive spBroken (vs:zA)(H:Hp)(Q:VK)(_:XK):Prop
 | mk (v u b m sp ts:_)(_:vs=[v,.ref u])(_:‹4›)(_:H u=some (.tup (ts.map V.int)))(_:Rdy b ts sp)(_:∀p H',bt H H'->H' p=some (.tup ((brokenM b ts sp).map V.int))->Q (.ref p) H')
inductive sY (vs:zA)(H:Hp)(Q:VK)(_:XK):Prop
 | mk (v u b m sp ts:_)(_:vs=[v,.ref u])(_:‹4›)(_:H u=some (.tup (ts.map V.int)))(_:Rdy b ts sp)(_:∀H',bt H H'->Q (.bl (gM b ts sp)) H')
inductive nW (vs:zA)(H:Hp)(Q:VK)(_:XK):Prop
 | mk (v u b m sp ts:_)(_:vs=[v,.ref u])(_:‹4›)(_:H u=some (.tup (ts.map V.int)))(_:Rdy b ts sp)(_:(∀x∈sp,0<=x.w/\x.w<=1000000000000))(_:∀H',bt H H'->Q (.int (cp b ts sp)) H')
inductive spMoved (vs:zA)(H:Hp)(Q:VK)(_:XK):Prop
 | mk (t u b rest ns k:_)(_:vs=[.ref t,.ref u,.int k])(_:H t=some (.tup (.int b::rest)))(_:H u=some (.tup (ns.map V.int)))(_:0<b)(_:ns.length<=1000)(_:∀p H',bt H H'->H' p=some (.tup ((ko b k ns).map V.int))->Q (.ref p) H')
theorem atI_in {xs:List α}{r:Int}(h0:0<=r)(h1:r<xs.length):∃v,atI xs r=some v/\v∈xs:=by
 let⟨j,rfl⟩:=cu h0;have hj:j<xs.length:=by cbv
 rwa[xs[j],ar (gE hj),aY hj]
theorem tH {m:Int}(h0:0<m)(h:m<10 ^ 61):0<m/\m.natAbs.log2<9000:=by
 rwa[h0,?_];have h1:m.natAbs<2 ^ 300:=by
  have:(10:Nat) ^ 61<2 ^ 300:=⇑0
  have h2:m.natAbs<10 ^ 61:=by lia
  rwa[Nat.lt_trans h2 this]
 have h3:m.natAbs≠0:=by lia
 have:=(Nat.log2_lt h3).mpr h1;lia
theorem goal_ok {s t m:Int}(h0:0<=s)(h1:s<m)(h2:0<=t)(h3:t<m - 1):0<=(s+1+t) % m/\(s+1+t) % m<m/\s≠(s+1+t) % m:=by
 have hm:0<m:=by lia
 have a:=cS (s+1+t) (by lia:m≠0);have b:=cY (s+1+t) hm;rwa[a,b,?_]
 by_cases q:s+1+t<m
 ·rw[Int.emod_eq_of_lt ⋯ q];lia
 ·have e:(s+1+t) % m=(s+1+t - m) % m:=(Int.sub_emod_right _ _).symm
  rw[e,Int.emod_eq_of_lt (by omega) ⋯];lia
noncomputable abbrev rowsP {α:Type}(f:α->zI)(xs:List α):Dt:=.tup (xs.map λx=>.tup ((f x).map Dt.int))
def gn {f:α->zI}{xs:List α}(r:dg H ys (xs.map λx=>.tup ((f x).map Dt.int))){x:α}(hx:xs[i]? =some x):∃q,ys[i]? =some (.ref q)/\H q=some (.tup ((f x).map V.int)):=by
 let⟨y,hy,dy⟩:=r.at (i:=i) (d:=.tup ((f x).map Dt.int)) (by rw[av,hx];rfl);let⟨q,zs,rfl,hq,rz⟩:=dy.tup_of;have ez:=rz.ints_of;subst ez;rwa[q,hy,hq]
def fJ {f:α->zI}{v:V}{xs:List α}(h:IsD H v (rowsP f xs)):∃p ys,v= .ref p/\H p=some (.tup ys)/\ys.length=xs.length/\dg H ys (xs.map λx=>.tup ((f x).map Dt.int)):=by
 let⟨p,ys,rfl,hp,ry⟩:=h.tup_of;rwa[p,ys,rfl,hp,by rw[ry.length,aa],ry]
structure Stp where
 i:Nat
 d:Int
abbrev _root_.zP:=List Stp
abbrev _root_.zK:=List (Nat×zP)
abbrev _root_.zQ:=List (Int×zP)
noncomputable abbrev Stp.row (s:Stp):zI:=[(s.i:Int),s.d]
abbrev oH (ws:zP):Dt:=rowsP Stp.row ws
abbrev bndR (p:Int×Int):zI:=[p.1,p.2]
abbrev pY (bs:zB):Dt:=rowsP bndR bs
def frm (x:Sn)(d:Int):Int:=if d=1 then x.s else x.g
noncomputable def too (x:Sn)(d:Int):Int:=if d=1 then x.g else x.s
def qp (n:Nat)(ws:zP):Prop:=∀s∈ws,s.i<n/\(s.d=1\/s.d= -1)
def lG (sp:zS)(s:Stp):Int:=match sp[s.i]? with | some x=>frm x s.d | none=>0
def eV (sp:zS)(s:Stp):Int:=match sp[s.i]? with | some x=>too x s.d | none=>0
noncomputable def qo (bs:zB)(s:Stp):Int:=match bs[s.i]? with | some p=>if s.d=1 then p.1 else -p.2 | none=>0
noncomputable def k6 (bs:zB)(s:Stp):Int:=match bs[s.i]? with | some p=>if s.d=1 then p.2 else -p.1 | none=>0
def fh (bs:zB)(ws:zP):Int:=(ws.map (qo bs)).sum
def iA (bs:zB)(ws:zP):Int:=(ws.map (k6 bs)).sum
theorem atI_last {xs:List α}{x:α}(h:xs[xs.length - 1]? =some x):atI xs (-1)=some x:=by
 have hl :=(aw.mp h).1;unfold atI ixN;rw[tP ↥0,tQ ⋯];rw[show(-1+(xs.length:Int)).toNat=xs.length - 1 by lia];rwa[h]
inductive spFrom (vs:zA)(H:Hp)(Q:VK)(_:XK):Prop
 | mk (v:V)(q:ai)(b m:Int)(sp:zS)(s:Stp)(x:Sn)(_:vs=[v,.ref q])(_:‹4›)(_:H q=some (.tup (s.row.map V.int)))(_:sp[s.i]? =some x)(_:Q (.int (frm x s.d)) H)
inductive spTo (vs:zA)(H:Hp)(Q:VK)(_:XK):Prop
 | mk (v:V)(q:ai)(b m:Int)(sp:zS)(s:Stp)(x:Sn)(_:vs=[v,.ref q])(_:‹4›)(_:H q=some (.tup (s.row.map V.int)))(_:sp[s.i]? =some x)(_:Q (.int (too x s.d)) H)
inductive rf (vs:zA)(H:Hp)(Q:VK)(_:XK):Prop
 | mk (v:V)(b m:Int)(sp:zS)(_:vs=[v])(_:‹4›)(_:sp.length<=1000)(_:∀u H',bt H H'->IsD H' u (pY (sp.map λx=>(x.l,x.o)))->Q u H')
inductive spSum (vs:zA)(H:Hp)(Q:VK)(_:XK):Prop
 | mk (vb vw:V)(bs:zB)(ws:zP)(_:vs=[vb,vw])(_:IsD H vb (pY bs))(_:IsD H vw (oH ws))(_:qp bs.length ws)(_:∀p H',bt H H'->H' p=some (.tup [.int (fh bs ws),.int (iA bs ws)])->Q (.ref p) H')
end HN
variable {S:List HN.Stp}{c:List (Int×List HN.Stp)×zI}{rg' rs:List (Nat×List HN.Stp)}{rows:List (Int×List HN.Stp)}{sp sp':List HN.Sn}
open PySem.W
def Gd {α:Type}(lt:Nat->Nat->Bool)(n:Nat):KasT α->(α->Prop)->Prop
 | .ret a,P=>P a
 | .ask i j k,P=>i<n/\j<n/\Gd lt n (k (lt i j)) P
theorem Gd.mono {α:Type}{lt:Nat->Nat->Bool}{n:Nat}{P R:α->Prop}(h:∀a,P a->R a):∀{t:KasT α},Gd lt n t P->Gd lt n t R
 | .ret a,g=>h a g
 | .ask _ _ _,g=>⟨g.1,g.2.1,Gd.mono h g.2.2⟩
theorem Gd.bind {α β:Type}{lt:Nat->Nat->Bool}{n:Nat}{f:α->KasT β}{P:β->Prop}:∀{t:KasT α},Gd lt n t (λa=>Gd lt n (f a) P)->Gd lt n (t.bind f) P
 | .ret _,g=>g
 | .ask _ _ _,g=>⟨g.1,g.2.1,Gd.bind g.2.2⟩
theorem Gd.wp {α:Type}{lt:Nat->Nat->Bool}{n:Nat}{P:α->Prop}{cmp:Nat->Nat->(Bool->aq->Prop)->aq->Prop}{Q:α->aq->Prop}{s:aq}(hc:∀i j C,i<n->j<n->C (lt i j) s->cmp i j C s)(hq:∀a,P a->Q a s):∀{t:KasT α},Gd lt n t P->t.kasWp cmp Q s
 | .ret a,g=>hq a g
 | .ask i j k,g=>hc i j _ g.1 g.2.1 (Gd.wp hc hq g.2.2)
structure Ord (lt:Nat->Nat->Bool)(n:Nat):Prop where
 tot:∀i j,i<n->j<n->i≠j->lt i j=false->lt j i=true
 tr:∀i j k,lt i j=true->lt j k=true->lt i k=true
abbrev gA (p:Array Nat)(i:Nat):Nat:=p.getD i 0
abbrev Pm (n:Nat)(p:Array Nat):Prop:=p.toList.Perm (aQ n)
theorem mz:gA p i=p[i]?.getD 0:=by
 show p.getD i 0=_;rw[Array.getD_eq_getD_getElem?]
theorem Pm.size {n:Nat}(h:Pm n p):p.size=n:=by
 have:=h.length_eq
 cbv
theorem Pm.lt {n:Nat}(h:Pm n p)(hi:i<n):gA p i<n:=by
 have hs:i<p.size:=by rw[h.size];rwa[hi]
 have e:gA p i=p[i]:=by rw[mz,cq hs];rfl
 rw[e];have:p[i]∈p.toList:=by simp
 rwa[cg.mp (h.mem_iff.mp this)]
theorem Pm.ne {n:Nat}(h:Pm n p)(hij:i<j)(hj:j<n):gA p i≠gA p j:=by
 have hd:p.toList.Nodup:=h.nodup_iff.mpr List.nodup_range;have si:i<p.toList.length:=by rw[cN,h.size];lia
 have sj:j<p.toList.length:=by rw[cN,h.size];omega
 have ei:gA p i=p.toList[i]:=by rw[mz,cq (by rw[h.size];lia)];simp
 have ej:gA p j=p.toList[j]:=by rw[mz,cq (by rw[h.size];omega)];simp
 rw[ei,ej];rwa[jj.mp (bM.mp hd) i j si sj hij]
def Pm.of {n:Nat}{q:Array Nat}(h:Pm n p)(e:q.Perm p):Pm n q:=(Array.perm_iff_toList_perm.mp e).trans h
def SoA (lt:Nat->Nat->Bool)(p:Array Nat)(m:Nat):Prop:=∀i j,i<j->j<m->lt (gA p i) (gA p j)=true
def DeA (lt:Nat->Nat->Bool)(p:Array Nat)(m:Nat):Prop:=∀i j,i<j->j<m->lt (gA p j) (gA p i)=true
section
variable {lt:Nat->Nat->Bool} {n:Nat}
theorem SoA.more (O:Ord lt n)(h:SoA lt p m)(h1:lt (gA p (m - 1)) (gA p m)=true):SoA lt p (m+1):=λi j hij hj=>by
 by_cases e:j<m
 ·rwa[h i j hij e]
 ·have ej:j=m:=by lia
  rw[ej]
  by_cases ei:i=m - 1
  ·rw[ei];rwa[h1]
  ·rwa[O.tr _ _ _ (h i (m - 1) ⋯ ⋯) h1]
theorem DeA.more (O:Ord lt n)(h:DeA lt p m)(h1:lt (gA p m) (gA p (m - 1))=true):DeA lt p (m+1):=λi j hij hj=>by
 by_cases e:j<m
 ·rwa[h i j hij e]
 ·have ej:j=m:=by lia
  rw[ej]
  by_cases ei:i=m - 1
  ·rw[ei];rwa[h1]
  ·rwa[O.tr _ _ _ h1 (h i (m - 1) ⋯ ⋯)]
theorem asc_ok (O:Ord lt n){p:Array Nat}(hp:Pm n p):∀(f m:Nat),1<=m->m+f=n->SoA lt p m->Gd lt n (kas_asc p f m) (λr=>m<=r/\r<=n/\SoA lt p r/\(r<n->lt (gA p r) (gA p (r - 1))=true))
 | 0,m,_,h1,hs=>⟨ay _,↥2,hs,λz=>tR z ↥2⟩
 | f+1,m,h0,h1,hs=>by
  rwa[hp.lt ⋯,hp.lt ⋯,?_];cases c:lt (gA p m) (gA p (m - 1)) with
  | true =>
   rwa[ay _,⋯,hs,λ_=>c]
  | false =>
   have h2:=O.tot _ _ (hp.lt ⋯) (hp.lt ⋯) (hp.ne (by lia:m - 1<m) ⋯).symm c;rwa[(asc_ok O hp f (m+1) ↥2 ⋯ (hs.more O h2)).mono λr ⟨a,b,cc,d⟩=>⟨⋯,b,cc,d⟩]
theorem desc_ok (O:Ord lt n){p:Array Nat}(hp:Pm n p):∀(f m:Nat),1<=m->m+f=n->DeA lt p m->Gd lt n (kas_desc f p m 0) (λr=>r.1=p/\r.2.2=0/\m<=r.2.1/\r.2.1<=n/\DeA lt p r.2.1)
 | 0,m,_,h1,hs=>⟨rfl,rfl,ay _,by show m<=n;cbv,hs⟩
 | f+1,m,h0,h1,hs=>by
  rwa[hp.lt ⋯,hp.lt ⋯,?_];cases c:lt (gA p m) (gA p (m - 1)) with
  | true =>
   rwa[(desc_ok O hp f (m+1) ↥2 ⋯ (hs.more O c)).mono λr ⟨a,b,cc,d,e⟩=>⟨a,b,⋯,d,e⟩]
  | false =>
   have h2:=O.tot _ _ (hp.lt ⋯) (hp.lt ⋯) (hp.ne (by lia:m - 1<m) ⋯).symm c;rwa[hp.lt ⋯,hp.lt ⋯,?_];show Gd lt n (if (lt (gA p (m - 1)) (gA p m))=true then KasT.ret (p,m,0) else kas_desc f p (m+1) (0+1)) _;rw[tQ h2];rwa[rfl,rfl,ay _,by show m<=n;lia,hs]
def rev_ok (hp:Pm n p)(hm:m<=n):Pm n (kas_rev p 0 m):=hp.of (mirror_perm _ _ _ _)
theorem rev_so (hp:Pm n p)(hm:m<=n)(h:DeA lt p m):SoA lt (kas_rev p 0 m) m:=λi j hij hj=>by
 have e:∀k,k<m->gA (kas_rev p 0 m) k=gA p (m - 1 - k):=λk hk=>by
  rw[mz,mz];have:=getElem?_mirror_all (i:=0) (by rw[hp.size];rwa[hm]) k;unfold kas_rev
  cbv
 rw[e i ⋯,e j hj];rwa[h _ _ ⋯ ⋯]
theorem tail_ok (O:Ord lt n)(hp:Pm n p)(h1:1<=m)(hm:m<=n)(h:DeA lt p m):Gd lt n (kas_tail3 m n p) (λr=>Pm n r.2/\1<=r.1/\r.1<=n/\SoA lt r.2 r.1):=by
 unfold kas_tail3;rwa[Gd.bind ((asc_ok O (rev_ok hp hm) (n - m) m h1 ↥2 (rev_so hp hm h)).mono λr hz0=>?_)];let⟨a,b,c,_⟩:=hz0;rwa[rev_ok hp hm,by show 1<=r;lia,b,c]
theorem count_ok (O:Ord lt n)(h1:1<=n)(hp:Pm n p):Gd lt n (kas_count n p) (λr=>Pm n r.2/\1<=r.1/\r.1<=n/\SoA lt r.2 r.1):=by
 unfold kas_count;rwa[Gd.bind ((asc_ok O hp (n - 1) 1 (ay _) ↥2 (λi j a b=>tR a ↥2)).mono λr hz0=>?_)];let⟨a,b,c,d⟩:=hz0
 by_cases e:r=n
 ·rw[tQ (by rw[e];rwa[beq_self_eq_true n])]
  rwa[hp,a,b,c]
 ·rw[tP (by rw[beq_iff_eq];rwa[e])]
  by_cases e2:r > 1
  ·rw[tQ e2]
   rwa[hp.lt ⋯,hp.lt ⋯,?_];show Gd lt n (if (lt (gA p 0) (gA p (r - 1)))=true then KasT.ret (r,p) else _) _;rw[tQ (c 0 (r - 1) ⋯ ⋯)];rwa[hp,a,b,c]
  ·rw[tP e2]
   have er:r=1:=by lia
   subst er;have hn:1<n:=by lia
   have dd:=d hn;unfold kas_descPart;apply Gd.bind ((desc_ok O hp (n - (1+1)) (1+1) ↥2 ⋯ (fun i j x y=>by
    have ei:i=0:=by lia
    have ej:j=1:=by lia
    rw[ei,ej];rwa[dd])).mono fun q ⟨q1,q2,q3,q4,q5⟩=>?_)
   rw[tP (by rw[q2];cbv),q1];rwa[tail_ok O hp ⋯ q4 q5]
theorem place_ok (O:Ord lt n){p:Array Nat}(hp:Pm n p){k:Nat}(hk:k<n)(hs:SoA lt p k):∀(f l r:Nat),l<=r->r<=k->r - l<=f->(∀i,i<l->lt (gA p i) (gA p k)=true)->(∀i,r<=i->i<k->lt (gA p k) (gA p i)=true)->Gd lt n (kas_place p k f l r) (λm=>m<=k/\(∀i,i<m->lt (gA p i) (gA p k)=true)/\∀i,m<=i->i<k->lt (gA p k) (gA p i)=true)
 | 0,l,r,h1,h2,h3,a,b=>⟨⋯,a,λi x y=>b i ⋯ y⟩
 | f+1,l,r,h1,h2,h3,a,b=>by
  show Gd lt n (if l ≥ r then KasT.ret l else KasT.ask (gA p k) (gA p ((l+r) / 2)) λc=>if c=true then kas_place p k f l ((l+r) / 2) else kas_place p k f ((l+r) / 2+1) r) _
  by_cases e:l ≥ r
  ·rw[tQ e]
   rwa[⋯,a,λi x y=>b i ⋯ y]
  ·rw[tP e]
   rwa[hp.lt hk,hp.lt ⋯,?_];cases c:lt (gA p k) (gA p ((l+r) / 2)) with
   | true =>
    rwa[place_ok O hp hk hs f l ((l+r) / 2) ⋯ ⋯ ⋯ a λi x y=>?_]
    by_cases ei:i=(l+r) / 2
    ·rw[ei];rwa[c]
    ·rwa[O.tr _ _ _ c (hs _ _ ⋯ y)]
   | false =>
    have h5:=O.tot _ _ (hp.lt hk) (hp.lt ⋯) (hp.ne (by lia:(l+r) / 2<k) hk).symm c;rwa[place_ok O hp hk hs f ((l+r) / 2+1) r ⋯ h2 ↥1 (λi x=>?_) b]
    by_cases ei:i=(l+r) / 2
    ·rw[ei];rwa[h5]
    ·rwa[O.tr _ _ _ (hs i _ (by lia:i<(l+r) / 2) ⋯) h5]
theorem bub_so (O:Ord lt n)(hp:Pm n p){k:Nat}(hk:k<n)(hm:m<=k)(hs:SoA lt p k)(a:∀i,i<m->lt (gA p i) (gA p k)=true)(b:∀i,m<=i->i<k->lt (gA p k) (gA p i)=true):SoA lt (bubble p k (k - m)) (k+1):=λi j hij hj=>by
 have e:∀x,gA (bubble p k (k - m)) x=if x=m then gA p k else if m<x/\x<=k then gA p (x - 1) else gA p x:=λx=>by
  have:=getElem?_bubble (xs:=p) (src:=k) (by rw[hp.size];rwa[hk]) (k - m) ↥2 x;have e0:k - (k - m)=m:=by lia
  rw[e0] at this;rw[mz,this]
  by_cases h1:x=m
  ·rw[tQ h1,tQ h1,mz]
  ·rw[tP h1,tP h1]
   by_cases h2:m<x/\x<=k
   ·rw[tQ h2,tQ h2,mz]
   ·rw[tP h2,tP h2,mz]
 rw[e i,e j]
 by_cases i1:i=m
 ·rw[tQ i1,tP ⋯,tQ ⋯]
  rwa[b _ ⋯ ⋯]
 ·rw[tP i1]
  by_cases i2:m<i/\i<=k
  ·rw[tQ i2,tP ⋯,tQ ⋯]
   rwa[hs _ _ ⋯ ⋯]
  ·rw[tP i2]
   by_cases j1:j=m
   ·rw[tQ j1];rwa[a _ ⋯]
   ·rw[tP j1]
    by_cases j2:m<j/\j<=k
    ·rw[tQ j2];rwa[hs _ _ ⋯ ⋯]
    ·rw[tP j2];rwa[hs _ _ hij ⋯]
theorem bin_ok (O:Ord lt n):∀(f:Nat) (p:Array Nat) (k:Nat),k+f=n->Pm n p->SoA lt p k->Gd lt n (kas_bin f p k) (λq=>Pm n q/\SoA lt q n)
 | 0,p,k,h1,hp,hs=>by
  have e:k=n:=by omega
  rw[e] at hs;rwa[hp,hs]
 | f+1,p,k,h1,hp,hs=>by
  rwa[Gd.bind ((place_ok O hp ⋯ hs k 0 k (bq _) (ay _) ↥2 ↥2 ⋯).mono λm hz0=>?_)];let⟨m1,m2,m3⟩:=hz0;rwa[bin_ok O f _ (k+1) ⋯ (hp.of (bubble_perm _ _ _)) (bub_so O hp ⋯ m1 hs m2 m3)]
theorem sort_ok (O:Ord lt n)(h1:1<=n):Gd lt n (kas_sort n) (λq=>Pm n q/\SoA lt q n):=by
 rwa[Gd.bind ((count_ok O h1 ↥1).mono λr hz0=>?_)];let⟨a,b,c,d⟩:=hz0
 by_cases e:r.1<n
 ·grind [bin_ok]
 ·rw[tP e]
  have er:r.1=n:=by lia
  rw[er] at d;rwa[a,d]
end
theorem kM {out:Array ae}{b:ai}{u:Obj}(hb:b≠a)(e:h.get? b=some u):(k5 h a vs out).get? b=some u:=by
 unfold k5
 grind [jv,ao]
def mM {out:Array ae}{n:Nat}(e:h.get? a=some (bR "list" vs.toArray n)):∃c,(k5 h a vs out).get? a=some (bR "list" out c):=by
 rwa[_,fM (ao _ (ao _ (fM e λ_=>#[]))) λ_=>out]
noncomputable def nF (h:bI)(vs:zD):bI:=((h.push (bR "list" #[] 0)).update h.objs.size (cE (· ++ vs.toArray))).push (bR "list" vs.toArray 0)
def mO {b:ai}{u:Obj}(e:h.get? b=some u):(nF h vs).get? b=some u:=by
 have hb:=aS e;rwa[ao _ (by rw[jv _ _ _ _ (bP hb)];exact ao _ e)]
def nE:(nF h vs).get? (h.objs.size+1)=some (bR "list" vs.toArray 0):=by
 have hsz:((h.push (bR "list" #[] 0)).update h.objs.size (cE (· ++ vs.toArray))).objs.size=h.objs.size+1:=by
  rw[bI.size_update,size_push']
 rw[<-hsz];rwa[aR _ rfl]
theorem call_sortedI:jy X (.builtin "sorted") (λxs H Q=>∃(p:ai) (ns:zI),xs=[.ref p]/\SqL X.K H p (ns.map V.int)/\ns.length<64/\∀(l:ai) (ns':zI),H l=none->ns'.Perm ns->ns'.Pairwise (· <= ·)->Q (.ref l) (upd H l (.lst (ns'.map V.int)))):=by
 norm_cast;let⟨p,ns,rfl,hq,hn,q⟩:=h;let⟨u,rfl,ru⟩:=lZ r;cases(ru);let⟨its,rv,pl,hz⟩:=I.list hq;have hl:its.length=ns.length:=by rw[<-rv.length,aa]
 rwa[sorted_ints pl.isList (lE rv) ↥2 λout ns' a1 a2 a3=>?_]
 let⟨c,hc⟩:=mM nE;rwa[.ref (s.heap.objs.size+1),_,I.laid (o:=.lst (ns'.map V.int)) (λb u e=>kM (bP (Nat.lt_succ_of_lt (aS e))) (mO e)) (jP _) ⟨?_,out.toList,c,oM a1,?_⟩,rfl,q _ ns' (I.hok.fresh (jP _)) a2 a3]
 ·rw[aa,a2.length_eq];cbv
 ·rwa[hc]
noncomputable def gG (h:bI)(a:ai)(vs:zD):bI:=((h.update a (cE λ_=>(#[]:Array ae))).push (bR "tuple" vs.toArray 0)).push (bR "list" #[] 0)
def mid_keep {b:ai}{u:Obj}(hb:b≠a)(e:h.get? b=some u):(gG h a vs).get? b=some u:=
 ao _ (ao _ (by rw[jv _ _ _ _ hb];rwa[e]))
theorem list_sort_ask {n:Nat}{κ:SortKind}{lt:Nat->Nat->Bool}{P:PySem.Fin->aq->Prop}(ho:s.heap.get? a=some (bR "list" vs.toArray n))(h2:2<=vs.length)(h64:vs.length<64)(O:Ord lt vs.length)
  (hk:∀Q:SortKind->aq->Prop,Q κ { s with heap:=gG s.heap a vs }->‹5› (keyKind' vs.toArray) Q (λ_ _=>False) { s with heap:=gG s.heap a vs })
  (hc:∀i j C,i<vs.length->j<vs.length->C (lt i j) { s with heap:=gG s.heap a vs }->kas_ask prog w A κ vs i j C { s with heap:=gG s.heap a vs })
  (h:∀p:Array Nat,Pm vs.length p->SoA lt p vs.length->P (.done (.ret .none)) { s with heap:=k5 s.heap a vs (gQ (p.toList.map λi=>vs.getD i ae.none)) }) :
  ‹5› (dm.«list.sort» ⟨[.ref a],[]⟩) P E s:=by
 obtain⟨e1,ho1⟩:∃e1,(s.heap.update a (cE λ_=>(#[]))).get? a=some (bR "list" #[] e1):=⟨_,fM ho λ_=>#[]⟩;have ho6:(gG s.heap a vs).get? a=some (bR "list" #[] e1):=ao _ (ao _ ho1);rw[list_sort_plain];rwa[ak (listItems_at ho rfl ?_)];rwa[ak (iV ho rfl ?_ (by rw[br,cT];lia) (bq _))];rwa[ak (seqEpoch_at ho1 rfl ?_)];rwa[ak (ku ?_ (by grind [cT]))];rwa[ak (jR ?_ (bq _))];rwa[cX ?_]
 dsimp only
 have hn2:¬vs.toArray.size<2:=↥2
 rw[tP hn2,tP hn2];rwa[ak (cj (hk (λκ' s'=>κ'=κ/\s'={ s with heap:=gG s.heap a vs }) ⟨rfl,rfl⟩) (λκ' s0 z=>?_) λ_ _ x=>x.elim)];let⟨z1,z2⟩:=z;subst z1;subst z2;have G:=(sort_ok O ⋯).wp (Q:=λp s'=>s'={ s with heap:=gG s.heap a vs }/\Pm vs.length p/\SoA lt p vs.length) hc ∅;rwa[ak (cj (kat_run (Q:=λst' s'=>∃p:Array Nat,p.size=vs.length/\arrOf st'=p.map (kas_item (vs.toArray.zip vs.toArray))/\failedOf st'=none/\s'={ s with heap:=gG s.heap a vs }/\Pm vs.length p/\SoA lt p vs.length) rfl h2 h64 ↥1 G) ?_ λ_ _ e=>e)];rintro⟨⟨⟩,st'⟩ s' ⟨p,hp,har,hf,rfl,pm,so⟩;have hout:=kat_snds rfl har;have hsz:(gQ (p.toList.map λi=>vs.getD i ae.none)).size=vs.length:=↥2
 rw[hout];rwa[ak (seqEpoch_at ho6 rfl ?_)];rwa[ak (iV ho6 rfl ?_ (bq _) (aU (kb hsz) (by rw[cT];lia)))];rw[hf];simp only[bne_self_eq_false,lY,if_false];rwa[aP (h p pm so)]
theorem list_sort_few {n:Nat}{P:PySem.Fin->aq->Prop}(ho:s.heap.get? a=some (bR "list" vs.toArray n))(h2:vs.length<2)
  (h:P (.done (.ret .none)) { s with heap:=k5 s.heap a vs vs.toArray }) :
  ‹5› (dm.«list.sort» ⟨[.ref a],[]⟩) P E s:=by
 obtain⟨e1,ho1⟩:∃e1,(s.heap.update a (cE λ_=>(#[]:Array ae))).get? a=some (bR "list" #[] e1):=⟨_,fM ho λ_=>#[]⟩;have ho6:(gG s.heap a vs).get? a=some (bR "list" #[] e1):=ao _ (ao _ ho1);rw[list_sort_plain];rwa[ak (listItems_at ho rfl ?_)];rwa[ak (iV ho rfl ?_ (by rw[br,cT];lia) (bq _))];rwa[ak (seqEpoch_at ho1 rfl ?_)];rwa[ak (ku ?_ (by show vs.length<=_;rw[cT];lia))];rwa[ak (jR ?_ (bq _))];rwa[cX ?_];show ‹5› _ P E { s with heap:=gG s.heap a vs }
 dsimp only
 have hn2:vs.toArray.size<2:=by rw[br];omega
 rw[tQ hn2,tQ hn2];rwa[ak (aP ?_)];rw[StateT.run_pure];rwa[ak (aP ?_)]
 dsimp only
 have hout:(arrOf (SortSt.mk' general' (vs.toArray.zip vs.toArray) #[] 7 none)).map (·.2)=vs.toArray:=by
  show(vs.toArray.zip vs.toArray).map (·.2)=vs.toArray
  rwa[Array.toList_inj.mp ?_]
  rw[Array.toList_map,Array.toList_zip];simp[List.map_snd_zip]
 rw[hout];rwa[ak (seqEpoch_at ho6 rfl ?_)];rwa[ak (iV ho6 rfl ?_ (bq _) (by rw[br,cT];lia))];simp only[bne_self_eq_false,lY,if_false];rwa[aP h]
theorem sorted_by {l:ai}{out:zD->Prop}(hl:s.heap.IsList l vs.toArray)(h64:vs.length<64)
  (hs:∀(A:bT) (E:ae->aq->Prop) (P:PySem.Fin->aq->Prop),(∀o,out o->P (.done (.ret .none)) { s with heap:=k5 (nF s.heap vs) (s.heap.objs.size+1) vs o.toArray })->‹5› (dm.«list.sort» ⟨[.ref (s.heap.objs.size+1)],[]⟩) P E { s with heap:=nF s.heap vs })
  (h:∀o,out o->Q (.ref (s.heap.objs.size+1)) { s with heap:=k5 (nF s.heap vs) (s.heap.objs.size+1) vs o.toArray }) :
  ‹5› (call (.builtin "sorted") [.ref l]) Q E s:=by
 rwa[Calls.call_function_entry kind_sorted plain_sorted entry_sorted (args_sorted1 _) ?_];unfold dm.«sorted»;rwa[ak (m:=checkCount "sorted" 1 1 _) (aP ?_)];rwa[ak (collect_list hl ?_ (by rw[cT];lia))];rwa[ak (jR ?_ (by rw[cT];lia))];have hsz:((s.heap.push (bR "list" #[] 0)).update s.heap.objs.size (cE (· ++ vs.toArray))).objs.size=s.heap.objs.size+1:=by
  rw[bI.size_update,size_push']
 show bz _ _ _ _ _ { s with heap:=nF s.heap vs };rw[hsz];rwa[ak (cX (iu slot_list_sort ⟨_,nE,rfl⟩ entry_list_sort (hs _ _ _ λo ho=>⟨ς,?_⟩) (args_list_sort _)))];rwa[aP ⟨ς,h o ho⟩]
theorem fm_some {α β:Type}{f:α->Option β}{g:α->β}:∀(l:List α),(∀x∈l,f x=some (g x))->l.filterMap f=l.map g
 | [],_=>rfl
 | x::l,h=>by rw[k9,h x ∅,cz,fm_some l λy hy=>h y (az _ hy)]
theorem pick_back (xs:Array ae):((aQ xs.size).filterMap λ(k:Nat)=>xs[((xs.size:Int) - 1+(k:Int) * (-1)).toNat]?)=xs.toList.reverse:=by
 have e:∀k∈aQ xs.size,(λ(k:Nat)=>xs[((xs.size:Int) - 1+(k:Int) * (-1)).toNat]?) k=some ((λk=>xs.toList.getD (xs.size - 1 - k) .none) k):=λk hk=>by
  have hk:=cg.mp hk;have:((xs.size:Int) - 1+(k:Int) * (-1)).toNat=xs.size - 1 - k:=by lia
  show xs[((xs.size:Int) - 1+(k:Int) * (-1)).toNat]? =some (xs.toList.getD (xs.size - 1 - k) .none);rw[this,af,iH,cq (by omega)];rfl
 rw[fm_some _ e];rwa[List.ext_getElem ∅ λi h1 h2=>?_]
 have hi:i<xs.size:=by simpa using h1
 rw[ia,iq,List.getElem_reverse,af,gE (by rw[cN];lia)];simp
def getItem_all {t sl:ai}{vl vu:ae}{lo:zZ}(ht:IsTup s.heap t items)(hs:s.heap.IsSliceOf sl vl vu .none)(pl:IsPart vl lo)(pu:IsPart vu hi)
  (hw:HT.sIx items.size 0 lo=0/\HT.sIx items.size items.size hi=items.size) (h:Q (.ref t) s):‹5› (getItem (.ref t) (.ref sl)) Q E s:=by
 let⟨os,hos,hcs,hds⟩:=id hs;have hTs:s.TypeIs (.ref sl) "slice":=⟨os,hos,hcs⟩;unfold getItem
 try with_reducible rwa[cX ?_]
 rwa[ak (wpAny_sequenceKey ht.typeIs ↥0 ?_)];apply ak (iw ht.typeIs c6
  (iu c6 ht.typeIs entry_tuple_getitem ?_ (args_tuple_getitem _ _)))
 show bz _ _ (dm.Tuple.tupleItemsOf (.ref t) >>= _) _ _ s;rwa[ak (tupleItemsOf_ ht ?_)];rwa[ak (wpAny_typeOf hTs ?_)];rwa[ak (HT.sliceApplied_gen hs pl pu ?_)];show bz _ _ (if (((HT.sIx items.size 0 lo):Int) == 0 && 1 == 1 && (HT.sIx items.size items.size hi - HT.sIx items.size 0 lo) == items.size)=true then _ else _) _ _ s;rw[hw.1,hw.2,tQ ∅];rwa[ak (ak (wpAny_typeOf ht.typeIs (aP ?_)))];rwa[ak (wpAny_rule (aP ⟨ς,aP h⟩))]
def sl_tupN:SlR X (λx lo hi H Q=>∃a xs,x= .ref a/\H a=some (.tup xs)/\New H (.tup (cutV xs lo hi)) Q):=by
 intro aN s σ H x v vl vu lo hi sl Q I rx hs pl pu h;let⟨a,xs,rfl,hx,q⟩:=h
 by_cases hw:HT.sIx xs.length 0 lo=0/\HT.sIx xs.length xs.length hi=xs.length
 ·cases rx
  let⟨its,r,ht,hz⟩:=I.tuple (zT (K:=X.K) hx);have hlen:its.toArray.size=xs.length:=by rw[br];rwa[r.length.symm]
  rwa["tuple",_,c6.lookup,ht.typeIs,?_];rwa[getItem_all ht hs pl pu (by rw[hlen];exact hw) ⟨.ref a,H,I,rfl,q a H (bt.refl H) ?_⟩];have e:cutV xs lo hi=xs:=by unfold cutV;rw[hw.1,hw.2,List.drop_zero,Nat.sub_zero,aG]
  rw[e];rwa[hx]
 ·rwa[sl_tup aN s σ H _ v vl vu lo hi sl Q I rx hs pl pu ⟨a,xs,rfl,zT hx,hw,q.of⟩]
theorem vals_back:∀{xs:zA} {us:zD},fZ xs us->fZ xs.reverse us.reverse
 | _,_,.nil=>.nil
 | _::_,_::_,.cons r t=>by rw[e8,e8];rwa[(vals_back t).append (.cons r .nil)]
def call_sum (hc:X.calm=true):jy X (.builtin "sum") (λxs H Q=>∃(p:ai) (ns:zI),xs=[.ref p]/\SqL X.K H p (ns.map V.int)/\Q (.int ns.sum) H):=by
 norm_cast;let⟨p,ns,rfl,hq,q⟩:=h;let⟨u,rfl,ru⟩:=lZ r;cases(show u=ae.ref p from ru);let⟨its,rv,pl,hz⟩:=I.list hq;have hi:=lE rv;let⟨ys,hx⟩:=hi.allInts.items;have hl':s.heap.IsList p (intItems ys):=hx ▸ pl.isList;rwa[sum_intListG (I.ok.hd hc) hl' λh' tk t' hk=>?_]
 have e1:ns=ys.toList.map (·.1):=by
  rw[<-nums_intItems,<-hx];rwa[(show numsOf its.toArray.toList=ns from hi.numsOf).symm]
 have e2:preSum (numAt ys) ys.size=ns.sum:=by
  rw[preSum_eq,List.take_of_length_le ∅,e1]
 rw[e2];rwa[.int ns.sum,H,I.kept (t':=tk) hk,⟨t',rfl⟩,q]
theorem op_neL0 (hu:X.A.units<cLine):OpR X (cZ .NotEq) (λx y H Q=>∃a b xs,x= .ref a/\y= .ref b/\SqL X.K H a xs/\SqL X.K H b []/\Q (.bl (!xs.isEmpty)) H):=by
 left;let⟨a,b,xs,rfl,rfl,ha,hb,q⟩:=h;cases(rx);cases(ry);let⟨its,r1,p1,_⟩:=I.list ha;let⟨its2,r2,p2,_⟩:=I.list hb;cases r2;cases r1 with
 | nil =>
  rwa[SeqAt.RcNeAt.lists (e:=λ_=>true) p1.isList p2.isList rfl hu ∅ X.prog X.w _ _ (dZ I q ∅)]
 | cons _ _=>rwa[SeqAt.RcNeAt.lists_lengths p1.isList p2.isList ∅ hu X.prog X.w _ _ (dZ I q ∅)]
def metL (ns:zI):zI:=firstMet (λi=>ns.getD i 0) ns.length
theorem call_setL (hc:X.calm=true):jy X (.type "set") (λxs H Q=>∃(p:ai) (ns:zI),xs=[.ref p]/\SqL X.K H p (ns.map V.int)/\ns.length<=1000/\New H (.set (λk=>(metL ns).any (· == k)) (metL ns).length) Q):=by
 norm_cast;let⟨p,ns,rfl,hq,hn,q⟩:=h;let⟨u,rfl,ru⟩:=lZ r;cases(ru);let⟨its,rv,pl,hz⟩:=I.list hq;have hl:its.length=ns.length:=by rw[<-rv.length,aa]
 rwa[call_set_list (I.ok.hd hc) pl.isList (lE rv) (by rw[br,hl];show ns.length+1<4096;lia) λh' tk hs hk=>?_]
 have hl2:its.toArray.size=ns.length:=(by omega)
 rw[hl2] at hs;rwa[.ref s.heap.objs.size,_,I.laid (o:=.set (λk=>(metL ns).any (· == k)) (metL ns).length) (λb u e=>hk b u (aS e) e) (ay _) hs,rfl,q.of _ I.fresh]
theorem call_lenS:jy X (.builtin "len") (λxs H Q=>∃(a:ai) (S:Int->Bool) (n:Nat),xs=[.ref a]/\H a=some (.set S n)/\Q (.int n) H):=by
 norm_cast;let⟨a,S,n,rfl,ha,q⟩:=h;let⟨u,rfl,ru⟩:=lZ r;cases(ru);let⟨o,es,ep,t,e1,e2,e3,_,_,e4,e5,e6⟩:=I.hok a _ ha;have e4:es.size<4096:=e4;rwa[call_len_set e1 e2 e3 e5 ⋯ ?_];subst e6;rwa[.int es.size,H,I.tok _,⟨ς⟩,q]
def k_tup {x1}(h:PAs X es t):PEs X (.Tuple es x1 pos) (tTupA t):=⟨jS h.h⟩
def i_list (h:PEs X e te):PIs X tg e (iList X.K te):=⟨gU h.h⟩
def fold_list (x:ae):gh (.List es pos) env x=gv x:=rfl
def st_forL {body:List bY}{tb:TS}(hp:PassesOwn (bC X.prog X.w) X.A X.env X.xe)(hc:X.calm=true)(hi:PIs X tg (.List es p2) wi)(hg:PG X tg g)(hb:PSs X body tb):PSt X (.For tg (.List es p2) body [] pos) (tFor wi g tb):=⟨ps_for hp hc hi.h hg hb fold_list⟩
theorem vals_at:∀{xs:zA} {us:zD},xs.length=us.length->(∀(i:Nat) (x:V),xs[i]? =some x->∃u,us[i]? =some u/\gN x u)->fZ xs us
 | [],[],_,_=>.nil
 | [],_::_,h,_=>by cases h
 | _::_,[],h,_=>by cases h
 | x::xs,u::us,h,k=>by
  let⟨u',e,r⟩:=k 0 x rfl;cases e;rwa[.cons r (vals_at (by simpa using h) λi y hy=>k (i+1) y hy)]
def pq:jy X (.type "range") (λxs H Q=>∃j:Int,xs=[.int j]/\New H (.rng 0 j) Q):=by
 norm_cast;let⟨j,rfl,q⟩:=h;let⟨u,rfl,ru⟩:=lZ r;let⟨t,rfl⟩:=(ru);rwa[call_range_1 ?_];rwa[.ref s.heap.objs.size,_,I.laid (o:=.rng 0 j) (λ_ _ z=>ao _ z) (ay _) ⟨_,_,_,aR _ rfl⟩,rfl,q.of _ I.fresh]
theorem pX (hc:X.calm=true):jy X (.type "list") (λxs H Q=>∃(a:ai) (n:Nat),xs=[.ref a]/\H a=some (.rng 0 (n:Int))/\n<=1000/\∀l,H l=none->Q (.ref l) (upd H l (.lst ((aQ n).map λk=>V.int (k:Nat))))):=by
 norm_cast;let⟨a,n,rfl,ha,hn,q⟩:=h;let⟨u,rfl,ru⟩:=lZ r;cases(ru);let⟨t,u,v,hr⟩:=I.hok a _ ha;have hs:fv 0 n 1=n:=by
  unfold fv
  cbv
 rwa[call_list_range (I.ok.hd hc) hr (by unfold j3;rw[hs];unfold dm.Range.rangeFitsLong;simp;lia) hs ⋯ λh' tk acc c hk hg hi=>?_]
 rwa[.ref s.heap.objs.size,_,I.laid (o:=.lst ((aQ n).map λk=>V.int (k:Nat))) hk (ay _) ⟨?_,acc.toList,c,?_,?_⟩,rfl,q _ I.fresh]
 ·rw[aa,bL];rwa[aU hn ↥0]
 ·apply vals_at (by rw[aa,bL,cN,hi.1]) λi x hx=>?_
  rw[av] at hx;let⟨k,hk2,rfl⟩:=aX.mp hx;have hik:i<n:=↥1
  rw[gc hik] at hk2;have hi2:i<acc.size:=by rw[hi.1];rwa[hik]
  have e:=cq hi2;let⟨t2,e2⟩:=hi.2 i _ e;rwa[_,by rw[iH];rwa[e],⟨t2,?_⟩]
  cbv
 ·rwa[hg]
def ltP (k m:Int×Int):Bool:=if (k.1 == m.1)=true then (if (k.2 == m.2)=true then false else decide (k.2<m.2)) else decide (k.1<m.1)
theorem ltP_iff {k m:Int×Int}:ltP k m=true↔(k.1<m.1\/(k.1=m.1/\k.2<m.2)):=by
 unfold ltP
 lia
abbrev kyP (ks:zB)(i:Nat):Int×Int:=ks.getD i (0,0)
theorem kyP_at (h:i<ks.length):kyP ks i=ks[i]:=by
 cbv
theorem ord_of (h:ks.Nodup):Ord (λi j=>ltP (kyP ks i) (kyP ks j)) ks.length:=by
 rwa[λi j hi hj hne hf=>?_,λi j k h1 h2=>?_]
 ·have hn:kyP ks i≠kyP ks j:=by
   grind [kyP_at,List.getElem_inj]
  have hf:¬ltP (kyP ks i) (kyP ks j)=true:=by
   lia
  rw[ltP_iff] at hf ⊢
  grind
 ·grind [ltP_iff]
def sT (h:bI)(vs:zD)(ks:zB):Prop:=vs.length=ks.length/\∀(i:Nat) (v:ae) (k:Int×Int),vs[i]? =some v->ks[i]? =some k->∃a o t u n,v= .ref a/\h.get? a=some o/\o.cls= .type "tuple" /\o.data= .seq #[.int k.1 t,.int k.2 u] n
def sT.kept (p:sT h vs ks)(k:∀b u,h.get? b=some u->h'.get? b=some u):sT h' vs ks:=by
 rwa[p.1,λi v kk e1 e2=>?_];let⟨a,o,t,u,n,q1,q2,q3,q4⟩:=p.2 i v kk e1 e2;rwa[a,o,t,u,n,q1,k _ _ q2,q3,q4]
theorem prs_tups {h:bI}:∀{vs:zD} {ks:zB},sT h vs ks->∃fs:zD,KatTups h vs fs/\fs.length=vs.length/\∀f∈fs,∃i t,f=ae.int i t
 | [],[],_=>⟨[],trivial,rfl,λf hf=>tR hf ∅⟩
 | [],_::_,p=>tR p.1 ∅
 | _::_,[],p=>tR p.1 ∅
 | v::vs,k::ks,p=>by
  let⟨fs,t1,t2,t3⟩:=prs_tups (vs:=vs) (ks:=ks) ⟨by have:=p.1;cbv,λi v' k' e1 e2=>p.2 (i+1) v' k' (by simpa using e1) (by simpa using e2)⟩;let⟨a,o,t,u,n,rfl,q2,q3,q4⟩:=p.2 0 v k rfl rfl;rwa[.int k.1 t::fs,KatTups.cons q2 q3 q4 rfl t1,↥2,λf hf=>?_]
  grind
theorem prs_kind (p:sT s.heap vs ks)(h1:1<=vs.length){Q:SortKind->aq->Prop}(q:Q (tuples' true) s):‹5› (keyKind' vs.toArray) Q E s:=by
 let⟨fs,t1,t2,t3⟩:=prs_tups p;have e1:((ae.type "int" :ae) == ae.type "int")=true:=⇑0
 have e2:((ae.type "int" :ae) != ae.type "tuple")=true:=⇑0
 rwa[kat_kind (T:=.type "int") t1 ⋯ (λv hv=>?_) e1 (by rw[e2];exact q)];let⟨i,t,rfl⟩:=t3 v hv;rwa[Looks.of_pure rfl]
theorem prs_ask (p:sT s.heap vs ks)(hi:i<vs.length)(hj:j<vs.length){C:Bool->aq->Prop}(c:C (ltP (kyP ks i) (kyP ks j)) s):kas_ask prog w A (tuples' true) vs i j C s:=by
 have li:=p.1;let⟨a,o,t,u,n,e1,q2,q3,q4⟩:=p.2 i vs[i] ks[i] (gE hi) (gE ↥2);let⟨a',o',t',u',n',e1',q2',q3',q4'⟩:=p.2 j vs[j] ks[j] (gE hj) (gE ↥2);unfold kas_ask;have ei:vs.getD i ae.none= .ref a:=↥1
 have ej:vs.getD j ae.none= .ref a':=↥1
 rw[ei,ej];rw[kyP_at ⋯,kyP_at ⋯] at c;rwa[kat_lt q2 q4 q2' q4' ?_];rwa[kat_cons (wpAny_eqBool_int ?_)];unfold ltP at c
 by_cases h1:(ks[i].1 == ks[j].1)=true
 ·rw[tQ h1] at c
  rw[h1];rwa[kat_yes (kat_cons (wpAny_eqBool_int ?_))]
  by_cases h2:(ks[i].2 == ks[j].2)=true
  ·rw[tQ h2] at c
   rw[h2];rwa[kat_yes (kat_nil c)]
  ·rw[tP h2] at c
   rw[gR.mpr h2];rwa[kat_no (kat_one _ _ (lt_int c))]
 ·rw[tP h1] at c
  rw[gR.mpr h1];rwa[kat_no (oneLt_int c)]
theorem call_sortedP:jy X (.builtin "sorted") (fun xs H Q=>∃ (p:ai) (as:zX) (ks:zB),xs=[.ref p]/\SqL X.K H p (as.map V.ref)/\as.length=ks.length/\(∀ (i:Nat) a k,as[i]? =some a->ks[i]? =some k->H a=some (.tup [.int k.1,.int k.2]))/\ks.Nodup/\ks.length<64 /\
  ∀ (l:ai) (π:zC),H l=none->π.Perm (aQ ks.length)->π.Pairwise (fun i j=>ltP (kyP ks i) (kyP ks j)=true)->Q (.ref l) (upd H l (.lst (π.map fun i=>V.ref (as.getD i 0))))):=by
 norm_cast;let⟨p,as,ks,rfl,hq,hlen,hks,hnd,hn,q⟩:=h;let⟨u,rfl,ru⟩:=lZ r;cases(show u=ae.ref p from ru);let⟨its,rv,pl,hz⟩:=I.list hq;have hl:its.length=as.length:=by rw[<-rv.length,aa]
 have hat:∀i,i<as.length->its[i]? =some (.ref (as.getD i 0)):=λi hi=>by
  let⟨v,e1,e2⟩:=rv.get (i:=i) (x:=V.ref as[i]) (by rw[av,gE hi];rfl);rw[e1,show v=ae.ref as[i] from e2,af,gE hi];rfl
 have P0:sT s.heap its ks:=by
  rwa[⋯,λi v k e1 e2=>?_];have hi:i<as.length:=by rw[<-hl];rwa[(aw.mp e1).1]
  have hH:=hks i as[i] k (gE hi) e2;let⟨tz,tts,tr,o,ho,hcl,_,nn,hdt⟩:=I.hok as[i] _ hH;rw[hat i hi] at e1;cases e1;cases tr with
  | cons r1 tr=>cases tr with
   | cons r2 tr =>
    cases tr;let⟨t1,rfl⟩:=r1;let⟨t2,rfl⟩:=r2;have ea:as.getD i 0=as[i]:=by rw[af,gE hi];rfl
    rw[ea];rwa[as[i],o,t1,t2,nn,rfl,ho,hcl,hdt]
 have keep1:∀b u,s.heap.get? b=some u->(nF s.heap its).get? b=some u:=λb u e=>mO e
 rwa[sorted_by (out:=λo=>∃π:zC,π.Perm (aQ ks.length)/\π.Pairwise (λi j=>ltP (kyP ks i) (kyP ks j)=true)/\o=π.map λi=>its.getD i ae.none) pl.isList ⋯ (λA' E' P' hP=>?_) (λo ho=>?_)]
 ·by_cases h2:its.length<2
  ·apply list_sort_few nE h2 (hP its ⟨aQ ks.length,List.Perm.refl _,?_,?_⟩)
   ·apply jj.mpr λa b ha hb hab=>?_
    rw[bL] at hb;lia
   ·apply List.ext_getElem? λi=>?_
    rw[av]
    by_cases hi:i<ks.length
    ·rw[gc hi]
     show its[i]? =some (its.getD i ae.none);rw[af,gE ↥1];rfl
    ·rw[List.getElem?_eq_none ↥1,List.getElem?_eq_none (by rw[bL];grind)];rfl
  ·have O:Ord (λi j=>ltP (kyP ks i) (kyP ks j)) its.length:=by rw[P0.1];exact ord_of hnd
   have PM:sT (gG (nF s.heap its) (s.heap.objs.size+1) its) its ks:=P0.kept λb u e=>mid_keep (bP (Nat.lt_succ_of_lt (aS e))) (mO e)
   rwa[list_sort_ask (κ:=tuples' true) nE ⋯ ⋯ O (λQ' q'=>prs_kind (s:={ s with heap:=gG (nF s.heap its) (s.heap.objs.size+1) its }) PM ⋯ q') (λi j C hi hj c=>prs_ask (s:={ s with heap:=gG (nF s.heap its) (s.heap.objs.size+1) its }) PM hi hj c) λpp pm so=>hP _ ⟨pp.toList,?_,?_,rfl⟩]
   ·rw[<-P0.1];rwa[pm]
   ·apply jj.mpr λa b ha hb hab=>?_
    have sz:=Pm.size pm;rw[cN] at ha hb;have:=so a b hab ⋯;have ea:gA pp a=pp.toList[a]:=by rw[mz,cq ha];simp
    have eb:gA pp b=pp.toList[b]:=by rw[mz,cq hb];simp
    rw[ea,eb] at this;rwa[this]
 ·let⟨π,hp1,hp2,rfl⟩:=ho
  let⟨c,hc⟩:=mM (h:=nF s.heap its) (vs:=its) (out:=(π.map λi=>its.getD i ae.none).toArray) nE;have hlt:∀i∈π,i<as.length:=λi hi=>by
   have:=cg.mp (hp1.mem_iff.mp hi);lia
  rwa[.ref (s.heap.objs.size+1),_,I.laid (o:=.lst (π.map λi=>V.ref (as.getD i 0))) (t':=s.toks) (λb u e=>kM (bP (Nat.lt_succ_of_lt (aS e))) (mO e)) (jP _) ⟨?_,π.map λi=>its.getD i ae.none,c,?_,hc⟩,rfl,q _ π (I.hok.fresh (jP _)) hp1 hp2]
  ·rw[aa,hp1.length_eq,bL];rwa[aU (by lia:ks.length<=1000) ↥0]
  ·apply vals_at (by rw[aa,aa]) λi x hx=>?_
   rw[av] at hx;let⟨j,hj,rfl⟩:=aX.mp hx;rwa[its.getD j ae.none,by rw[av,hj];rfl,?_];have e:its.getD j ae.none= .ref (as.getD j 0):=by rw[af (l:=its),hat j (hlt j (aZ hj))];rfl
   rw[e];rfl
namespace HN
inductive spLeads (vs:zA)(H:Hp)(Q:VK)(_:XK):Prop
 | mk (v:V)(q:ai)(b m:Int)(sp:zS)(s:Stp)(x:Sn)(_:vs=[v,.ref q])(_:‹4›)(_:H q=some (.tup (s.row.map V.int)))(_:sp[s.i]? =some x)(_:(s.d=1\/s.d= -1))(_:∀p H',bt H H'->H' p=some (.tup [.int (frm x s.d),.int (too x s.d)])->Q (.ref p) H')
abbrev gu {α:Type}(f:α->zI)(xs:List α):zM:=xs.map λx=>.tup ((f x).map Dt.int)
theorem pls_rows {α:Type}(f:α->zI):∀xs:List α,pls (gu f xs)=true
 | []=>by rfl
 | x::xs=>by unfold gu;rw[cz];unfold pls;rw[pls_rows f xs];unfold pl;rw[oX];rfl
theorem deps_rows {α:Type}(f:α->zI):∀xs:List α,sS (gu f xs)<=1
 | []=>by rwa[bq _]
 | x::xs=>by unfold gu;rw[cz];unfold sS;have:=deps_rows f xs;unfold gu at this;unfold dep;rw[sE];cbv
structure N3 (mg:Str->zJ):Prop where
 tset:mg "set" =none
noncomputable def qk (ss:zP):zI:=ss.map λs=>(s.i:Int)
theorem numsS_take {ss:zP}(h:i<ss.length):qk (ss.take (i+1))=qk (ss.take i)++[(ss[i].i:Int)]:=by
 unfold qk;rw[aE,gE h,au];rfl
def kh (H H':Hp):Prop:=∀q xs,H q=some (.tup xs)->H' q=some (.tup xs)
theorem kh.refl (H:Hp):kh H H:=λ_ _ h=>h
theorem kh.trans (a:kh H H1)(b:kh H1 H2):kh H H2:=λq xs h=>b q xs (a q xs h)
def bt.tupK (e:bt H H'):kh H H':=λ_ _ h=>e _ _ h
theorem eJ {p:ai}(hp:H p=some (.lst xs)):kh H (upd H p o):=λq ys h=>by rw[bw (fj h hp ↥2)];rwa[h]
theorem eM {α:Type}{f:α->zI}{H H':Hp}(e:kh H H'):∀{xs:List α} {zs:zA},dg H zs (gu f xs)->dg H' zs (gu f xs)
 | [],_,h=>by cases h;rwa[.nil]
 | x::xs,zs,h=>by
  cases h with
  | cons h1 h2 =>
   let⟨q,ws,rfl,hq,rw'⟩:=h1.tup_of;have e2:=rw'.ints_of;subst e2;rwa[.cons (.tup (e q _ hq) (dg.ints _)) (eM e h2)]
def BsU (bs:zB):Prop:=∀q∈bs,0<=q.1/\q.1<=q.2/\q.2<10 ^ 60
def upB (b s:Int):Int:=-(-s / b)
inductive nq (vs:zA)(H:Hp)(Q:VK)(_:XK):Prop
 | mk (vn vb vw:V)(b m:Int)(sp:zS)(bs:zB)(ws:zP)(_:vs=[vn,vb,vw])(_:IsD H vn (jz b m sp))(_:0<b)(_:b<10 ^ 61)(_:IsD H vb (pY bs))(_:IsD H vw (oH ws))(_:qp bs.length ws)(_:∀p H',bt H H'->H' p=some (.tup [.int (upB b (fh bs ws)),.int (iA bs ws / b)])->Q (.ref p) H')
end HN
def k_lstF (h:PAs X es t):PEs X (.List es pos) (tLst t):=⟨pe_lst h.h⟩
namespace HN
def Dk (p:ai)(H:Hp):Prop:=∃(k:Int) (ns:zI),H p=some (.lst ((k::ns).map V.int))/\ns.length<=1000
def Md (p:ai)(H H':Hp):Prop:=(∀b o,b≠p->H b=some o->H' b=some o)/\Dk p H'
theorem Md.refl {p:ai}(h:Dk p H):Md p H H:=⟨λ_ _ _ e=>e,h⟩
theorem Md.trans {p:ai}(a:Md p H H1)(b:Md p H1 H2):Md p H H2:=⟨λc o hc e=>b.1 c o hc (a.1 c o hc e),b.2⟩
theorem Dk.same {p:ai}(h:Dk p H)(e:bt H H1):Dk p H1:=let ⟨k,ns,a,b⟩:=h;⟨k,ns,e _ _ a,b⟩
theorem Md.then {p:ai}(a:Md p H H1)(e:bt H1 H2):Md p H H2:=⟨λc o hc q=>e _ _ (a.1 c o hc q),a.2.same e⟩
theorem Md.at {p q:ai}(a:Md p H H1)(h:H q=some o)(hne:q≠p):H1 q=some o:=a.1 q o hne h
theorem Md.tupK {p:ai}(hp:Dk p H)(M:Md p H H'):kh H H':=λq ys h=>by
 let⟨k,ns,e,_⟩:=hp;rwa[M.1 q _ (fj h e ⋯) h]
theorem Dk.ne {p q:ai}(h:Dk p H)(hq:H q=none):q≠p:=λz=>by let⟨k,ns,e,_⟩:=h;cbv
inductive spDrawD (vs:zA)(H:Hp)(Q:VK)(_:XK):Prop
 | mk (p:ai)(m:Int)(_:vs=[.ref p,.int m])(_:Dk p H)(_:0<m)(_:m<10 ^ 61)(_:∀r H',0<=r->r<m->Md p H H'->Q (.int r) H')
inductive spSpanD (vs:zA)(H:Hp)(Q:VK)(_:XK):Prop
 | mk (p h:ai)(b m:Int)(hs:zI)(k:Bool)(_:vs=[.ref p,.int b,.int m,.ref h,.bl k])(_:Dk p H)(_:1<=b)(_:b<=10 ^ 33)(_:2<=m)(_:m<=16)(_:H h=some (.tup (hs.map V.int)))(_:(hs.length:Int)=m)(_:∀t (z:Sn) H',Md p H H'->H' t=some (.tup (z.row.map V.int))->SnOk b m z->Q (.ref t) H')
theorem plsC (d:Dt)(ds:zM):pls (d::ds)=(pl d && pls ds):=by rw[pls]
theorem plT (ds:zM):pl (.tup ds)=pls ds:=by rw[pl]
theorem depsC (d:Dt)(ds:zM):sS (d::ds)=max (dep d) (sS ds):=by rw[sS]
theorem depsN:sS []=0:=by rw[sS]
theorem depI (i:Int):dep (.int i)=0:=by rfl
theorem depT (ds:zM):dep (.tup ds)=sS ds+1:=by rw[dep]
theorem nY (b m:Int)(sp:zS):pls [.int b,.int m,.tup (sp.map λx=>.tup (x.row.map Dt.int))]=true:=by
 rw[plsC,plsC,plsC,plT,pls_rows Sn.row sp];rfl
theorem deps_netP (b m:Int)(sp:zS):sS [.int b,.int m,.tup (sp.map λx=>.tup (x.row.map Dt.int))]<60:=by
 rw[depsC,depsC,depsC,depsN,depI,depI,depT];have h:sS (sp.map λx=>Dt.tup (x.row.map Dt.int))<=1:=deps_rows Sn.row sp;lia
def cf {v:V}{m:Int}(e:kh H H')(h:‹4›):IsD H' v (jz b m sp):=by
 let⟨t,xs,rfl,ht,rx⟩:=h.tup_of;cases rx with
 | cons h0 r0 =>
  cases r0 with
  | cons h1 r1 =>
   cases r1 with
   | cons h2 r2 =>
    cases r2;cases h0;cases h1;let⟨p,ys,rfl,hp,ry⟩:=h2.tup_of;rwa[.tup (e _ _ ht) (.cons (.int _) (.cons (.int _) (.cons (.tup (e _ _ hp) (eM e ry)) .nil)))]
def mirS (x:Sn):Sn:=⟨x.g,x.s,x.l,x.o,x.w⟩
theorem mirS_two (sp:zS):(sp.map mirS).map mirS=sp:=by
 rw[bZ]
 conv=>rhs;rw[<-List.map_id sp]
 rfl
def mirT (b:Int)(ts:zI):zI:=ts.map λt=>(-t) % b
theorem mirT_len (b:Int)(ts:zI):(mirT b ts).length=ts.length:=by unfold mirT;rw[aa]
theorem tm_mir {i:Int}(h0:0<=i)(h1:i<ts.length):tm (mirT b ts) i=(-(tm ts i)) % b:=by
 have hi:i.toNat<ts.length:=by cbv
 unfold tm mirT;rw[af,af,av,gE hi];rfl
theorem waitM_mir (R:Rdy b ts sp):∀x∈sp,fq b (mirT b ts) (mirS x)=fq b ts x:=λx hx=>by
 let⟨s0,s1,g0,g1⟩:=R.ends x hx;show(tm (mirT b ts) x.s - tm (mirT b ts) x.g - x.l) % b=(tm ts x.g - tm ts x.s - x.l) % b;rw[tm_mir s0 s1,tm_mir g0 g1,qN]
 lia
inductive spMirS (vs:zA)(H:Hp)(Q:VK)(_:XK):Prop
 | mk (q:ai)(x:Sn)(_:vs=[.ref q])(_:H q=some (.tup (x.row.map V.int)))(_:∀p H',bt H H'->H' p=some (.tup ((mirS x).row.map V.int))->Q (.ref p) H')
inductive spMir (vs:zA)(H:Hp)(Q:VK)(_:XK):Prop
 | mk (v:V)(b m:Int)(sp:zS)(_:vs=[v])(_:‹4›)(_:sp.length<=1000)(_:∀u H',bt H H'->IsD H' u (jz b m (sp.map mirS))->Q u H')
inductive spTabMir (vs:zA)(H:Hp)(Q:VK)(_:XK):Prop
 | mk (t u:ai)(b:Int)(rest:zA)(ns:zI)(_:vs=[.ref t,.ref u])(_:H t=some (.tup (.int b::rest)))(_:H u=some (.tup (ns.map V.int)))(_:0<b)(_:ns.length<=1000)(_:∀p H',bt H H'->H' p=some (.tup ((mirT b ns).map V.int))->Q (.ref p) H')
inductive spWaitsN (vs:zA)(H:Hp)(Q:VK)(_:XK):Prop
 | mk (v:V)(u:ai)(b m:Int)(sp:zS)(ts:zI)(_:vs=[v,.ref u])(_:‹4›)(_:H u=some (.tup (ts.map V.int)))(_:Rdy b ts sp)(_:∀p H',bt H H'->H' p=some (.lst ((iQ b ts sp).map V.int))->Q (.ref p) H')
end HN
def sy (h:bI)(kS a:ai)(out:zD):bI:=(h.update kS (cE λ_=>(#[]:Array ae))).update a (cE λ_=>out.toArray)
theorem key_tail {st:SortSt}{out ks:zD}{e:Nat}{P:PySem.Fin->aq->Prop}(hout:(arrOf st).map (·.2)=gQ out)(hz:out.length<64)(hkz:ks.length<64)(hf:failedOf st=none)
  (hk:s.heap.get? kS=‹6›) (ha:s.heap.get? a=some (bR "list" #[] e1)) (hne:kS≠a)
  (h:P (.done (.ret .none)) { s with heap:=sy s.heap kS a out }):‹5› (ksk_tail a false e1 (.ref kS) st) P E s:=by
 have na:(s.heap.update kS (cE λ_=>(#[]))).get? a=some (bR "list" #[] e1):=by
  rw[jv _ _ _ _ (cM hne)];rwa[ha]
 unfold ksk_tail
 try dsimp only
 rw[hout];rwa[ak (iV hk rfl ?_ (by rw[br,cT];lia) (bq _))];rwa[ak (wpAny_letGo ?_)];rwa[ak (seqEpoch_at na rfl ?_)];rwa[ak (iV na rfl ?_ (bq _) (by rw[tP ↥0,br,cT];lia))];rw[hf];simp only[bne_self_eq_false,lY,if_false];rwa[aP h]
theorem key_end {ks:zD}{e:Nat}{κ:SortKind}{lt:Nat->Nat->Bool}{P:PySem.Fin->aq->Prop}(hl:ks.length=vs.length)(h2:2<=vs.length)(h64:vs.length<64)(O:Ord lt vs.length)
  (hk:s.heap.get? kS=‹6›) (ha:s.heap.get? a=some (bR "list" #[] e1)) (hne:kS≠a)
  (hkk:∀Q:SortKind->aq->Prop,Q κ s->‹5› (keyKind' ks.toArray) Q (λ_ _=>False) s)
  (hc:∀i j C,i<vs.length->j<vs.length->C (lt i j) s->kas_ask prog w A κ ks i j C s)
  (h:∀p:Array Nat,Pm vs.length p->SoA lt p vs.length->P (.done (.ret .none)) { s with heap:=sy s.heap kS a (p.toList.map λi=>vs.getD i ae.none) }) :
  ‹5› (ksk_end a false vs.toArray e1 (.ref kS) ks.toArray) P E s:=by
 have hn2:¬vs.toArray.size<2:=↥2
 unfold ksk_end
 try dsimp only
 rw[tP hn2,tP hn2];rwa[ak (cj (hkk (λκ' s'=>κ'=κ/\s'=s) ⟨rfl,rfl⟩) (λκ' s0 z=>?_) λ_ _ x=>x.elim)];let⟨z1,z2⟩:=z;subst z1;subst z2;have G:=(sort_ok O ⋯).wp (Q:=λp s'=>s'=s0/\Pm vs.length p/\SoA lt p vs.length) hc ∅;rwa[ak (cj (kat_run (Q:=λst' s'=>∃p:Array Nat,p.size=vs.length/\arrOf st'=p.map (kas_item (ks.toArray.zip vs.toArray))/\failedOf st'=none/\s'=s0/\Pm vs.length p/\SoA lt p vs.length) hl h2 h64 ↥1 G) ?_ λ_ _ e=>e)]
 grind [key_tail,kat_snds,aa,cN]
theorem key_fold {f:ae}{kS:ai}{body:ae->PUnit->Sem (ForInStep PUnit)}(J:zD->aq->Prop)(vs:zD)(h64:vs.length<64)
  (hb:∀ x ks e (t:aq),ks.length<64->t.heap.get? kS=‹6› ->
   ‹5› (call f [x]) (λk t'=>t'.heap.get? kS=‹6›∧∀h' c,df kS t'.heap h'→h'.get? kS=some (bR "list" (ks++[k]).toArray c)→J (ks++[k]) { t' with heap:=h' }) (λ_ _=>False) t →
   ‹5› (body x ⟨⟩) (fun r t'=>r= .yield ⟨⟩/\∃ k c,t'.heap.get? kS=some (bR "list" (ks++[k]).toArray c)/\J (ks++[k]) t') E t)
  (hc:∀ ks x e (t:aq),vs[ks.length]? =some x->J ks t->t.heap.get? kS=‹6› ->
   ‹5› (call f [x]) (fun k t'=>t'.heap.get? kS=‹6›∧∀ h' c,df kS t'.heap h'→h'.get? kS=some (bR "list" (ks++[k]).toArray c)→J (ks++[k]) { t' with heap:=h' }) (fun _ _=>False) t) :
  ∀(r ks:zD) (e:Nat) (t:aq),vs=vs.take ks.length++r->ks.length+r.length=vs.length->t.heap.get? kS=‹6›->J ks t ->
   ‹5› (forIn r PUnit.unit body) (λ_ t'=>∃ks e,t'.heap.get? kS=‹6›/\ks.length=vs.length/\J ks t') E t
 | [],ks,e,t,_,hl,hk,j=>by
  rw[List.forIn_nil];rwa[aP ⟨ks,e,hk,by simpa using hl,j⟩]
 | x::r,ks,e,t,hv,hl,hk,j=>by
  rw[bE] at hl;rw[List.forIn_cons];have hx:vs[ks.length]? =some x:=by
   rw[hv,bU (by rw[bD];lia),bD,show ks.length - min ks.length vs.length=0 by lia];rfl
  rwa[ak (cj (hb x ks e t ⋯ hk (hc ks x e t hx j hk)) (λq t' hq=>?_) λ_ _ z=>z)];let⟨rfl,k,c,hk',j'⟩:=hq;show ‹5› (forIn r PUnit.unit body) _ E t';rwa[key_fold J vs h64 hb hc r (ks++[k]) c t' ?_ (by rw[ax,iJ];lia) hk' j'];rw[ax,iJ,aE,hx]
  simpa using hv
theorem key_rest {f:ae}{P:PySem.Fin->aq->Prop}(J:zD->aq->Prop)(h64:vs.length<64)(hk:s.heap.get? kS=some (bR "list" #[] 0))(j0:J [] s)
  (hc:∀ ks x e (t:aq),vs[ks.length]? =some x->J ks t->t.heap.get? kS=‹6› ->
   ‹5› (call f [x]) (fun k t'=>t'.heap.get? kS=‹6›∧∀ h' c,df kS t'.heap h'→h'.get? kS=some (bR "list" (ks++[k]).toArray c)→J (ks++[k]) { t' with heap:=h' }) (fun _ _=>False) t)
  (h:∀ks e (t:aq),ks.length=vs.length->J ks t->t.heap.get? kS=‹6›->‹5› (ksk_end a false vs.toArray e1 (.ref kS) ks.toArray) P E t) :
  ‹5› (ksk_rest a f false vs.toArray e1 (.ref kS)) P E s:=by
 rwa[ak (wpAny_rule ?_)]
 first
  | rw[List.forIn_toArray]
  | (rw[<-Array.forIn_toList])
  | rw[<-Array.forIn_toList]
 rwa[ak (cj (key_fold J vs h64 (λx ks e t hz ht hx=>?_) hc vs [] 0 s ∅ ∅ hk j0) (λ_ t hd=>?_) λ_ _ z=>z)]
 ·apply ak (wpAny_attempt (cj hx (λk t' hk=>?_) λ_ _ hF=>hF.elim))
  let⟨k1,k2⟩:=hk;have s1:=gJ t'.heap kS (cE (·.push k));have ea:(gQ ks).push k=gQ (ks++[k]):=by simp
  obtain⟨c2,hc2⟩:∃c2,(t'.heap.update kS (cE (·.push k))).get? kS=some (bR "list" (gQ (ks++[k])) c2):=⟨_,by rw[<-ea];rwa[fM k1 (·.push k)]⟩;rwa[ak (iV k1 rfl ?_ (by rw[br,cT];lia) (aU (kb (Array.size_push ..)) (by rw[br,cT];lia)))]
  grind [aP]
 grind [ak,listItems_at]
def collect_range {r:ai}{a c:Int}{t u v:Tok}{n:Nat}{Q:zD->aq->Prop}(hh:A.handled=none)(hr:IsRange s.heap r a b c t u v)(hsmall:j3 a b c=true)(hn:fv a b c=n)(hlen:n<=2 ^ 24)
  (h:∀h' tk acc,(∀b o,s.heap.get? b=some o->h'.get? b=some o)->s.heap.objs.size<h'.objs.size->ItemsOf (λi v=>∃t,v= .int (a+i * c) t) acc n->Q acc.toList { s with heap:=h',toks:=tk }) :
  ‹5› (collect (.ref r)) Q E s:=by
 unfold collect;rwa[ak (wpAny_runValue (mB entry_proto_collect' ?_))];rwa[ak (jR (aP ⟨Code.quiet_builtin _ ⇑0,mB entry_list_iadd' ?_⟩))];have key:=wpAny_extend_range (prog:=prog) (w:=w) (s:={ s with heap:=s.heap.push (bR "list" #[] 0) }) (R:=fun r s'=>match r with
   | .ok (.ret v)=>‹5› (match v with
    | .ref a=>do
     let o <- load a
     match o.data with
     | .seq xs _=>gv xs.toList
     | _=>unsupported "internal:collect"
    | _=>unsupported "internal:collect") Q E s'
   | .ok _=>False
   | .error e=>E e s') hh (ao _ hr) hsmall hn hlen s.heap.objs.size (.ref s.heap.objs.size) 0 (aR _ rfl) (λh' tk acc c' hk hS hacc=>by
  rwa[ak (wpAny_load hS ?_)];rwa[aP (h h' tk acc (fun b o e=>hk b o (bP (aS e)) (ao _ e)) (aS hS) hacc)])
 rwa[key]
def KeyDo (prog:aL)(w:bp)(B:bT)(f:ae)(vs:zD)(kS D:ai)(e1:Nat)(Q:aq->Prop)(s1:aq):Prop:=
 ∃J:zD->aq->Prop,J [] s1 /\
  (∀ ks x e (t:aq),vs[ks.length]? =some x->J ks t->t.heap.get? kS=‹6› ->
   bz (bC prog w) B (call f [x]) (fun k t'=>t'.heap.get? kS=‹6›∧∀ h' c,df kS t'.heap h'→h'.get? kS=some (bR "list" (ks++[k]).toArray c)→J (ks++[k]) { t' with heap:=h' }) (fun _ _=>False) t) ∧
  ∀ks (t:aq),ks.length=vs.length->J ks t->t.heap.get? D=some (bR "list" #[] e1)/\∃κ lt,Ord lt vs.length /\
   (2<=vs.length->∀Q:SortKind->aq->Prop,Q κ t->bz (bC prog w) B (keyKind' ks.toArray) Q (λ_ _=>False) t) /\
   (∀i j C,i<vs.length->j<vs.length->C (lt i j) t->kas_ask prog w B κ ks i j C t) /\
   ∀p:Array Nat,Pm vs.length p->SoA lt p vs.length->Q { t with heap:=sy t.heap kS D (p.toList.map λi=>vs.getD i ae.none) }
theorem zip_snd:∀(ks vs:zD),ks.length=vs.length->(ks.zip vs).map (·.2)=vs
 | [],[],_=>rfl
 | [],_::_,h=>by cases h
 | _::_,[],h=>by cases h
 | _::ks,v::vs,h=>by
  show v::(ks.zip vs).map (·.2)=v::vs;rw[zip_snd ks vs (by simpa using h)]
theorem key_end_few {ks:zD}{e:Nat}{P:PySem.Fin->aq->Prop}(hl:ks.length=vs.length)(h2:vs.length<2)
  (hk:s.heap.get? kS=‹6›) (ha:s.heap.get? a=some (bR "list" #[] e1)) (hne:kS≠a)
  (h:P (.done (.ret .none)) { s with heap:=sy s.heap kS a vs }) :
  ‹5› (ksk_end a false vs.toArray e1 (.ref kS) ks.toArray) P E s:=by
 have hn2:vs.toArray.size<2:=(by omega)
 unfold ksk_end
 try dsimp only
 rw[tQ hn2];rwa[ak (aP ?_)]
 grind [ak,aP,key_tail,Array.toList_inj,Array.toList_map,Array.toList_zip,zip_snd]
theorem range_getD (vs:zD):((aQ vs.length).map λi=>vs.getD i ae.none)=vs:=by
 rwa[List.ext_getElem? λi=>?_]
 grind
theorem key_tree {q:ai}{n:Nat}{P:PySem.Fin->aq->Prop}(ho:s.heap.get? a=some (bR "list" vs.toArray n))(h64:vs.length<64)
  (h:∀e1,(gG s.heap a vs).get? a=some (bR "list" #[] e1)→(gG s.heap a vs).get? (s.heap.objs.size+1)=some (bR "list" #[] 0)→KeyDo prog w A (.ref q) vs (s.heap.objs.size+1) a e1 (λt=>P (.done (.ret .none)) t) { s with heap:=gG s.heap a vs }) :
  ‹5› (ksk_tree a (.ref q) false) P E s:=by
 obtain⟨e1,ho1⟩:∃e1,(s.heap.update a (cE λ_=>(#[]))).get? a=some (bR "list" #[] e1):=⟨_,fM ho λ_=>#[]⟩;have ha :=aS ho;have ho6:(gG s.heap a vs).get? a=some (bR "list" #[] e1):=ao _ (ao _ ho1);have hkS:((s.heap.update a (cE λ_=>(#[]))).push (bR "tuple" vs.toArray 0)).objs.size=s.heap.objs.size+1:=by rw[size_push',bI.size_update]
 have hk0:(gG s.heap a vs).get? (s.heap.objs.size+1)=some (bR "list" #[] 0):=by
  unfold gG;rw[<-hkS];rwa[aR _ rfl]
 let⟨J,j0,jc,je⟩:=h e1 ho6 hk0;unfold ksk_tree;rwa[ak (listItems_at ho rfl ?_)];rwa[ak (iV ho rfl ?_ (by rw[br,cT];lia) (bq _))];rwa[ak (seqEpoch_at ho1 rfl ?_)];rwa[ak (ku ?_ (by grind [cT]))];rwa[ak (jR ?_ (bq _))];rwa[cX ?_];rw[hkS];rwa[key_rest J h64 hk0 j0 jc λks e t hl j hk=>?_]
 let⟨ha',κ,lt,O,hkk,hc,hP⟩:=je ks t hl j
 by_cases h2:vs.length<2
 ·have hh:=hP (aQ vs.length).toArray ↥1 (λi j x y=>tR y ⋯)
  rw[range_getD] at hh;rwa[key_end_few hl h2 hk ha' ⋯ hh]
 ·rwa[key_end hl ⋯ h64 O hk ha' ⋯ (hkk ⋯) hc hP]
theorem sorted_keyG {r q:ai}{n:Nat}{num:Nat->Int}(h64:n<64)
  (hcol:∀R:zD->aq->Prop,(∀h' tk acc,(∀b o,s.heap.get? b=some o->h'.get? b=some o)->acc.length=n->(∀(i:Nat) x,acc[i]? =some x->∃t,x=ae.int (num i) t)->R acc { s with heap:=h',toks:=tk })->∀E',bz (bC prog w) A.in1 (collect (.ref r)) R E' s)
  (h:∀ (vs:zD) (g h1:bI) (tk:Nat) (D kS:ai) (e1:Nat),vs.length=n→(∀ (i:Nat) x,vs[i]? =some x→∃ t,x=ae.int (num i) t)→(∀ b o,s.heap.get? b=some o→g.get? b=some o)→(∀ b o,g.get? b=some o→h1.get? b=some o)→g.objs.size≤D→D<kS→h1.get? D=some (bR "list" #[] e1)→h1.get? kS=some (bR "list" #[] 0) →
   KeyDo prog w A.in1.in1 (.ref q) vs kS D e1 (fun t'=>Q (.ref D) t') { s with heap:=h1,toks:=tk }) :
  ‹5› (call (.builtin "sorted") [.ref r] [(Str.ofString "key",.ref q)]) Q E s:=by
 rwa[call_function_entry_kw kind_sorted plain_sorted entry_sorted (ksk_s1 _ _) ?_];unfold dm.«sorted»;rwa[ak (m:=checkCount "sorted" 1 1 _) (aP ?_)];rwa[ak (hcol _ (λh' tk acc hk hl hi=>?_) _)];rwa[ak (jR ?_ (by rw[hl,cT];lia))];have hoL:(h'.push (bR "list" acc.toArray 0)).get? h'.objs.size=some (bR "list" acc.toArray 0):=aR _ rfl;show bz _ _ _ _ _ { s with heap:=h'.push (bR "list" acc.toArray 0),toks:=tk };rwa[ak (cX (wpAny_call_entry_kw slot_list_sort ⟨_,hoL,rfl⟩ entry_list_sort ?body (ksk_l1 _ _)))]
 case body =>
  show bz (bC prog w) A.in1.in1 (dm.«list.sort» ⟨[.ref h'.objs.size],[(Str.ofString "key",.ref q)]⟩) _ _ _;rw[ksk_t1];rwa[key_tree (s:={ s with heap:=h'.push (bR "list" acc.toArray 0),toks:=tk }) hoL ↥2 λe1 g1 g2=>?_]
  let⟨J,j0,jc,je⟩:=h acc h' (gG (h'.push (bR "list" acc.toArray 0)) h'.objs.size acc) tk h'.objs.size ((h'.push (bR "list" acc.toArray 0)).objs.size+1) e1 hl hi hk (λb o e=>mid_keep (bP (aS e)) (ao _ e)) (ay _) (by rw[size_push'];lia) g1 g2;rwa[J,j0,jc,λks t' x1 x2=>?_];let⟨y1,κ,lt,y2,y3,y4,y5⟩:=je ks t' x1 x2;rwa[y1,κ,lt,y2,y3,y4,λp p1 p2=>⟨ς,aP ⟨ς,y5 p p1 p2⟩⟩]
section
variable {σ:List zU}
theorem Inv.take {D:ai}(I:‹1›)(hn:H D=none)(hs0:X.s₀.heap.objs.size<=D)(hL:D≠X.env.locals)(hC:∀x c,X.env.cells.lookup x=some c->c≠D)(hP:∀p∈X.pn++aN,p.1≠D)(new:km X.prog X.w (upd H D o) s.heap D o):Inv X aN σ (upd H D o) s where
 ok:=I.ok
 os:=I.os
 bare:=I.bare
 base:=
  {keep:=I.base.keep
   slot:=I.base.slot
   free:=λb ob e nb hx=>by rw[bw (bP (aW (aS e) hs0))];rwa[I.base.free b ob e nb hx]
   there:=I.base.there
   tups:=λb xs e=>by have q:=I.base.tups b xs e;rw[bw (bJ q hn)];rwa[q]
   frzs:=λb o u e=>by have q:=I.base.frzs b o u e;rw[bw (bJ q hn)];rwa[q]
   tbls:=fun b ps e=>by obtain ⟨more,q⟩:=I.base.tbls b ps e;exact ⟨more,by rw[bw (bJ q hn)];rwa[q]⟩ }
 loc:=I.loc
 cell:=I.cell
 free:=by rw[bw hL.symm];rwa[I.free]
 freeC:=λx c e=>by rw[bw (hC x c e)];rwa[I.freeC x c e]
 pin:=λp hp=>by
  let⟨a,b,c,d,e⟩:=I.pin p hp;rwa[a,by rw[bw (hP p hp)];rwa[b],c,d,e]
 hok:=I.hok.take hn new
 len:=I.len
theorem Inv.unpin {p0:ai×Obj}(I:Inv X (p0::aN) σ H s):‹1›:=I.pins_of λp hp=>I.pin p ↥2
def Inv.repin {o o':Obj}(I:Inv X ((kS,o)::aN) σ H s)(hs0:X.s₀.heap.objs.size<=kS)(hC:∀x c,X.env.cells.lookup x=some c->c≠kS)(hP:∀p∈X.pn++aN,p.1≠kS)(hsb:df kS s.heap h')(ho':h'.get? kS=some o')(hd:∀v,o'.data≠ .cell v):Inv X ((kS,o')::aN) σ H { s with heap:=h' }:=by
 let⟨p1,p2,p3,p4,_⟩:=I.pin (kS,o) (bo _ (bQ ..));have I2:=I.unpin.turned (t':=s.toks) (it:=kS) (h':=h') (λb o hb e=>hsb.extBut b o hb e) p2 p3 (.inr hs0) hC hP;rwa[I2.pins_of λp hp=>?_]
 rcases bh.mp hp with rfl | hp
 ·rwa[ho',p2,p3,p4,hd]
 ·rwa[I2.pin p (bo _ hp)]
def prs_of {as:zX}(I:‹1›)(hl:as.length=ks.length)(h:∀(i:Nat) a k,as[i]? =some a->ks[i]? =some k->H a=some (.tup [.int k.1,.int k.2])):sT s.heap (as.map ae.ref) ks:=by
 rwa[by rw[aa,hl],λi v k e1 e2=>?_];rw[av] at e1;let⟨a,ea,rfl⟩:=aX.mp e1;let⟨tz,tts,tr,o,ho,hcl,_,nn,hdt⟩:=I.hok a _ (h i a k ea e2);cases tr with
 | cons r1 tr=>cases tr with
  | cons r2 tr =>
   cases tr;let⟨t1,rfl⟩:=r1;let⟨t2,rfl⟩:=r2;rwa[a,o,t1,t2,nn,rfl,ho,hcl,hdt]
theorem keyDo_of {B:bT}{f:ae}{n:Nat}{num:Nat->Int}{key:Nat->Int×Int}{D:ai}{Q:aq->Prop}
  (I:Inv X ((kS,bR "list" #[] 0)::(D,bR "list" #[] e1)::aN) σ H s) (hl:vs.length=n) (h64:n<64) (hv:∀(i:Nat) x,vs[i]? =some x->∃t,x= .int (num i) t)
  (k0:X.s₀.heap.objs.size<=kS) (d0:X.s₀.heap.objs.size<=D) (kC:∀x c,X.env.cells.lookup x=some c->c≠kS) (dC:∀x c,X.env.cells.lookup x=some c->c≠D) (kP:∀p∈X.pn++aN,p.1≠kS) (dP:∀p∈X.pn++aN,p.1≠D) (hne:kS≠D)
  (hnd:((aQ n).map key).Nodup)
  (hf:∀(t:aq) (H':Hp) (pins':List (ai×Obj)) (i:Nat) (tk:Tok),i<n->Inv X pins' σ H' t->bt H H'->bz (bC X.prog X.w) B (call f [.int (num i) tk]) (λk t'=>∃q H'',Inv X pins' σ H'' t'/\bt H' H''/\k= .ref q/\H'' q=some (.tup [.int (key i).1,.int (key i).2])) (λ_ _=>False) t)
  (fin:∀(t:aq) (H':Hp) (π:zC),bt H H'->H' D=none->Inv X aN σ (upd H' D (.lst (π.map λi=>V.int (num i)))) t->π.Perm (aQ n)->π.Pairwise (λi j=>ltP (key i) (key j)=true)->Q t) :
  KeyDo X.prog X.w B f vs kS D e1 Q s:=by
 have pK:∀p∈X.pn++((D,bR "list" #[] e1)::aN),p.1≠kS:=λp hp=>by
  grind
 rwa[λks t=>∃e H' as,Inv X ((kS,bR "list" ks.toArray e)::(D,bR "list" #[] e1)::aN) σ H' t/\bt H H'/\ks=as.map ae.ref/\∀(i:Nat) a,as[i]? =some a->H' a=some (.tup [.int (key i).1,.int (key i).2]),⟨0,H,[],I,bt.refl H,rfl,↥1⟩,?_,?_]
 ·rintro ks x e t hx ⟨e',H',as,I',S',rfl,has⟩ hk
  rw[aa] at hx;have hi:as.length<n:=↥1
  let⟨tk,rfl⟩:=hv _ x hx;rwa[cj (hf t H' _ as.length tk hi I' S') (λk t' hk'=>?_) λ_ _ z=>z]
  let⟨q,H'',I'',S'',rfl,hq⟩:=hk';have pk:=(I''.pin _ (bo _ (bQ ..))).1;have pk0:=(I'.pin _ (bo _ (bQ ..))).1;rwa[⋯,λh' c hsb hg=>⟨c,H'',as++[q],I''.repin k0 kC pK hsb hg (λv z=>by cases z),S'.trans S'',∅,λi a ea=>?_⟩]
  by_cases hlt:i<as.length
  ·rw[fu hlt] at ea
   rwa[S'' _ _ (has i a ea)]
  ·grind
 ·rintro ks t hks ⟨e',H',as,I',S',rfl,has⟩
  let⟨pd,nD,lD,fD,_⟩:=I'.pin (D,bR "list" #[] e1) ↥1;let⟨pk,nK,lK,fK,_⟩:=I'.pin (kS,bR "list" (as.map ae.ref).toArray e') ↥1;have PR:sT t.heap (as.map ae.ref) ((aQ n).map key):=prs_of I' ↥1 λi a k ea ek=>by
   grind
  have ln:((aQ n).map key).length=n:=∅
  have O:=ord_of hnd;rwa[pd,tuples' true,λi j=>ltP (kyP ((aQ n).map key) i) (kyP ((aQ n).map key) j),⋯,λh2 Q' q'=>prs_kind PR ↥1 q',λi j C hi hj c=>prs_ask PR ↥1 ↥1 c,λp pm so=>?_];rw[hl] at pm so;have s1:=gJ t.heap kS (cE λ_=>(#[]));obtain⟨ck,hck⟩:∃ck,(t.heap.update kS (cE λ_=>(#[]))).get? kS=some (bR "list" #[] ck):=⟨_,fM pk λ_=>#[]⟩;have I1:=I'.repin k0 kC pK s1 hck (λv z=>by cases z);have I2:=I1.unpin;have hD1:(t.heap.update kS (cE λ_=>(#[]))).get? D=some (bR "list" #[] e1):=by rw[jv _ _ _ _ (cM hne)];rwa[pd]
  have s2:=gJ (t.heap.update kS (cE λ_=>(#[]))) D (cE λ_=>gQ (p.toList.map λi=>vs.getD i ae.none));obtain⟨cD,hcD⟩:∃cD,(sy t.heap kS D (p.toList.map λi=>vs.getD i ae.none)).get? D=some (bR "list" (gQ (p.toList.map λi=>vs.getD i ae.none)) cD):=⟨_,fM hD1 λ_=>gQ (p.toList.map λi=>vs.getD i ae.none)⟩;have I3:=(I2.repin d0 dC dP s2 hcD (λv z=>by cases z)).unpin;rwa[fin _ H' p.toList S' nD (I3.take nD d0 lD dC dP ⟨?_,_,cD,?_,hcD⟩) pm ?_]
  ·rw[aa,pm.length_eq,bL];rwa[aU (by lia:n<=1000) ↥0]
  ·apply vals_at ↥1 λi x hx=>?_
   rw[av] at hx;let⟨j,hj,rfl⟩:=aX.mp hx;have hjn :=cg.mp (pm.mem_iff.mp (aZ hj));let⟨tk,ex⟩:=hv j vs[j] (gE ⋯);rwa[vs.getD j ae.none,↥1,?_];rw[af,gE ⋯];rwa[tk,ex]
  ·apply jj.mpr λa b ha hb hab=>?_
   have sz:=Pm.size pm;rw[cN] at ha hb;have:=so a b hab ⋯;have ea:gA p a=p.toList[a]:=by rw[mz,cq ha];simp
   have eb:gA p b=p.toList[b]:=by rw[mz,cq hb];simp
   have la:p.toList[a]<n:=by rw[<-ea];rwa[pm.lt ⋯]
   have lb:p.toList[b]<n:=by rw[<-eb];rwa[pm.lt ⋯]
   grind
end
def BM (mg:Str→zJ)(base:bI):Prop:=∃bm ob,mg "__builtins__" =some (.ref bm)∧bm≠builtinsNs∧bm≠bG∧base.get? bm=some ob∧ob.cls= .type "module" ∧ob.dict=some builtinsNs∧ob.data= .plain
def CdK (q:Str)(H:Hp)(c:ai):Prop:=∃oc vs t,H c=some (.frz oc (.own 0))/\oc.data= .fields vs/\vs[1]? =some (.str q t)
def Tb (P:ai)(H H':Hp):Prop:=∀a o,a≠P->H a=some o->H' a=some o
theorem Tb.refl {P:ai}(H:Hp):Tb P H H:=λ_ _ _ e=>e
theorem Tb.trans {P:ai}(a:Tb P H H1)(b:Tb P H1 H2):Tb P H H2:=λx o n e=>b x o n (a x o n e)
def bt.tb {P:ai}(a:bt H H'):Tb P H H':=λx o _ e=>a x o e
def CdK.tb {P:ai}{c:ai}(a:Tb P H H')(hn:c≠P)(k:CdK q H c):CdK q H' c:=let ⟨oc,vs,t,e,r⟩:=k;⟨oc,vs,t,a _ _ hn e,r⟩
def LamG (P:ai)(q:Str)(H:Hp):Prop:=∃l:List (Pos×ai),H P=some (.tbl (triples l).toArray)/\∀e∈l,CdK q H e.2
def LamG.tbl {P:ai}(k:LamG P q H):∃ps,H P=some (.tbl ps):=let ⟨_,e,_⟩:=k;⟨_,e⟩
def LamG.nil {P:ai}(e:H P=some (.tbl #[])):LamG P q H:=⟨[],e,λ_ h=>tR h ∅⟩
theorem CdK.ne {P c:ai}{ps:Array ae}(k:CdK q H c)(e:H P=some (.tbl ps)):c≠P:=λz=>by
 let⟨oc,vs,t,e2,_⟩:=k
 cbv
def LamG.stay {P:ai}(k:LamG P q H)(hT:∀ps,H P=some (.tbl ps)->H' P=some (.tbl ps))(hf:∀a o u,H a=some (.frz o u)->H' a=some (.frz o u)):LamG P q H':=by
 let⟨l,e,r⟩:=k;rwa[l,hT _ e,λx hx=>?_];let⟨oc,vs,t,e2,z⟩:=r x hx;rwa[oc,vs,t,hf _ _ _ e2,z]
theorem LamG.same {P:ai}(a:bt H H')(k:LamG P q H):LamG P q H':=k.stay (λ_ e=>a _ _ e) λ_ _ _ e=>a _ _ e
theorem pJ:∀l:List (Pos×ai),TriplesOk (triples l)
 | []=>trivial
 | (p,c)::r=>pJ r
theorem qW {pos:Pos}:∀{l:List (Pos×ai)} {cv:ae},codeAmong pos (triples l)=some cv->∃e∈l,cv= .ref e.2
 | [],cv,h=>by cases h
 | (p,c)::r,cv,h=>by
  have h:(if (((p.line:Nat):Int) == ((pos.line:Nat):Int) && ((p.col:Nat):Int) == ((pos.col:Nat):Int))=true then some (ae.ref c) else codeAmong pos (triples r))=some cv:=h;split at h
  ·cases h;rwa[(p,c),∅,rfl]
  ·let⟨e,he,z⟩:=qW h
   rwa[e,by simp[he],z]
abbrev LamT (P:ai)(_:Pos)(q:Str)(H:Hp):Prop:=LamG P q H
theorem LamT.same {P:ai}(a:bt H H')(k:LamT P pos q H):LamT P pos q H':=LamG.same a k
def LamF (q:Str)(params:gi)(body:Expr)(scope:ft)(cl:List (Str×ai))(f:ai)(H:Hp):Prop:=
 ∃pm c ct,H f=some (.frz (kla_obj "<lambda>" q params body scope cl pm c ct) (.own 0))/\CdK q H c
theorem LamF.same (a:bt H H')(k:LamF q params body scope cl f H):LamF q params body scope cl f H':=
 let ⟨pm,c,ct,e,oc,vs,t,e2,r⟩:=k;⟨pm,c,ct,a _ _ e,oc,vs,t,a _ _ e2,r⟩
section
variable {σ:List zU}
theorem Inv.grown {P:ai}{ps more:Array ae}{tk:Nat}(I:‹1›)(hP:H P=some (.tbl ps))(hx:bI.ExtBut P s.heap h')(ht:h'.get? P=some (tabObj (ps++more))) :
  Inv X aN σ (upd H P (.tbl (ps++more))) { s with heap:=h',toks:=tk }:=by
 have neP:∀b,H b=none->b≠P:=λb e z=>by cbv
 have neO:∀b o,H b=some o->(∀ps,o≠ .tbl ps)->b≠P:=λb o e hn z=>↥1
 apply I.step (g':=s.gens) (d':=s.drawn) (ch:=[]) (λ_ z=>nomatch z) (λb o _ _ _ e n=>hx b o (neP b n) e) (λb o _ _ _ e n=>⟨o.slots,hx b o (neP b n) e⟩) (λb o _ _ n=>by grind [bw])
  (λb o _ e=>?_) (λb xs e=>by grind [bw]) (λb o u e=>by grind [bw]) (λb qs e=>?_) (λm hn=>hn.extBut hx (neP _ I.free)) (λb u e=>?_) I.bare
 ·by_cases hb:b=P
  ·cbv
  ·rwa[o,hx b o hb e]
 ·by_cases hb:b=P
  ·grind [aJ]
  ·rwa[#[],by rw[bw hb,e];simp]
 ·by_cases hb:b=P
  ·subst hb
   rw[aJ] at e;cases e;rwa[ht]
  ·rw[bw hb] at e
   apply(I.hok b u e).stay (λc v hc q=>hx c v ?_ q) (λc q=>by grind [bw]) λc xs q=>by grind [bw]
   lia
theorem o6 {c P:ai}(I:‹1›)(hd:defaultsOf params X.env=([],[]))(sR:X.env.code= .ref c)(C:codeHdIn X.K c P=true)(B:BM X.mg X.base)
  (hfr:∀y∈scope.names,y.2= .free->X.env.scope.names.lookup y.1=some .cell) (T:LamG P (X.env.qual ++ "<lambda>") H)
  (h:∀f cl H' s',Inv X aN σ H' s'→Tb P H H'→LamG P (X.env.qual ++ "<lambda>") H'→LamF (X.env.qual ++ "<lambda>") params body scope cl f H'→(∀x c,cl.lookup x=some c→X.env.cells.lookup x=some c)→(∀y∈scope.names,y.2= .free→cl.lookup y.1=X.env.cells.lookup y.1)→Q (.ref f) s') :
  ‹2› (eO (.Lambda params body scope pos) X.env) Q X.xe s:=by
 let⟨cl,hclos,c1,c2⟩:=sG λy hy hk=>I.ok.has _ (.inl (hfr y hy hk))
 rwa[kla_eval hd ?_];have hgs :=I.mod.glob.keeps I.bk;let⟨bm,ob,b1,b2,b3,b4,b5⟩:=B;have CH :=codeHd_of_K I.kIn C;let⟨l,hP,K⟩:=T;have hbP:bm≠P:=λq=>by have z:=(I.bs bm ob b4).2;lia
 have hgP:bG≠P:=λq=>by
  let⟨o,es,ep,e,_⟩:=I.mod.glob;have z:=(I.bs _ o e).2
  lia
 have hBA:s.heap.BuiltinsAt X.mg P:=⟨bm,ob,b1,b2,b3,hbP,I.bk _ _ b4,b5⟩;have fin:∀(H1:Hp) (h1:bI) (tk:Nat) (c':ai) (ctv:ae),Inv X aN σ H1 { s with heap:=h1,toks:=tk }→Tb P H H1→LamG P (X.env.qual ++ "<lambda>") H1→CdK (X.env.qual ++ "<lambda>") H1 c' →
   Q (.ref h1.objs.size) { s with heap:=h1.push (kla_obj "<lambda>" (X.env.qual ++ "<lambda>") params body scope cl ((X.mg "__name__").getD .none) c' ctv),toks:=tk }:=λH1 h1 tk c' ctv I1 t1 T1 K1=>by
  have fr :=I1.hok.fresh (ay _);have S:bt H1 (upd H1 h1.objs.size (.frz (kla_obj "<lambda>" (X.env.qual ++ "<lambda>") params body scope cl ((X.mg "__name__").getD .none) c' ctv) (.own 0))):=λa o e=>by rw[bw (bJ e fr)];rwa[e]
  have I2:=I1.laid (t':=tk) (o:=.frz (kla_obj "<lambda>" (X.env.qual ++ "<lambda>") params body scope cl ((X.mg "__name__").getD .none) c' ctv) (.own 0)) (λb u e=>ao _ e) (ay _) ⟨aR _ rfl,_,aR _ rfl⟩;let⟨oc,vs,t,e,r⟩:=K1;rwa[h _ cl _ _ I2 (t1.trans S.tb) (T1.same S) ⟨_,c',ctv,aJ,oc,vs,t,S _ _ e,r⟩ c1 c2]
 have hPh :=I.hok P _ hP;cases hq:codeAmong pos (triples l) with
 | none =>
  rwa[kla_makeFunction hclos I.ok.glob hgs sR CH hPh (by exact pJ l) (by omega) hgP hBA λc' ctv h' tk hx hge hlt hrec htb=>?_]
  have I1:=I.grown (tk:=tk) hP hx htb;let⟨c2',oc,vs,t,e2,hoc,hdd,hv⟩:=hrec;cases e2;have Plt :=aS hPh;have ncP :=fO (aW Plt hge);have frc :=I.hok.fresh hge;have hn1:(upd H P (.tbl ((triples l).toArray++ #[rawInt pos.line,rawInt pos.col,.ref c']))) c'=none:=by rw[bw ncP];rwa[frc]
  have old:∀b o,s.heap.get? b=some o->b≠c':=λb o e=>bP (aW (aS e) hge)
  have I2:=I1.take (o:=.frz oc (.own 0)) hn1 (aU I.sz hge) (fO (aW I.lt hge)) (λx d e=>by let⟨v,o,ho,_⟩:=I.cell x d e;rwa[old d o ho]) (λp hp=>old _ _ (I.pin p hp).1) ⟨hoc,_,hoc⟩;have tb:Tb P H (upd (upd H P (.tbl ((triples l).toArray++ #[rawInt pos.line,rawInt pos.col,.ref c']))) c' (.frz oc (.own 0))):=λa o hn e=>by
   rw[bw (bJ e frc),bw hn];rwa[e]
  rwa[fin _ h' tk c' ctv I2 tb ⟨l++[(pos,c')],?_,λx hx=>?_⟩ ⟨oc,vs,t,aJ,hdd,hv⟩]
  ·rw[bw (cM ncP),aJ,triples_append]
   simp
  ·rcases bj.mp hx with hx | hx
   ·rwa[(K x hx).tb tb ((K x hx).ne hP)]
   ·rw[bf.mp hx]
    rwa[oc,vs,t,aJ,hdd,hv]
 | some cv =>
  let⟨e,he,rfl⟩:=qW hq;rwa[kla_makeFunctionHit (cv:=.ref e.2) hclos I.ok.glob hgs sR CH hPh (by exact pJ l) (by omega) hBA λctv h' tk hk hsz=>?_]
  rwa[fin H h' tk e.2 ctv (I.kept hk) (Tb.refl H) ⟨l,hP,K⟩ (K e he)]
noncomputable def cxLam (X:Cx)(q:Str)(scope:ft)(cl:List (Str×ai))(L f:ai)(cd:ae)(N:List Str)(s:aq)(H:Hp):Cx:=
 { X with A:=X.A.in1.in1.deeper (envX q scope L f cd cl),N:=N,s₀:=s,H₀:=H,env:=envX q scope L f cd cl,outer:=X.stack,stack:=envX q scope L f cd cl::X.stack,ex:=[],calm:=true,fn:=λ_=>false,pn:=[],xe:=λ_ _=>False }
theorem lam_call {v:V}{Q:VK}(I:‹1›)(hc:X.calm=true)(hr:X.A.depth<recursionLimit)(F:LamF q params body scope cl f H)(ru:gN v u)
  (hbind:∀pm cdv ct,bindArgs (kla_fn "<lambda>" q params body scope cl pm cdv ct) ⟨[u],[]⟩=gv [(x,u)])
  (hk:scope.kind= .function) (hco:scope.isCoroutine=false) (hgen:scope.isGenerator=false) (jK:∀y∈scope.names,y.2≠ .cell) (hx:scope.names.lookup x=some .local) (hfx:x ∉ fr)
  (c1:∀x c,cl.lookup x=some c->X.env.cells.lookup x=some c) (c2:∀y∈scope.names,y.2= .free->cl.lookup y.1=X.env.cells.lookup y.1)
  (hfr:∀y∈scope.names,y.2= .free->X.env.scope.names.lookup y.1=some .cell) (hjs:js.map (λj=>X.N[j]?)=fr.map some) (hfv:∀y∈fr,scope.names.lookup y=some .free)
  (hb:∀L cd s' H',PE (cxLam X q scope cl L f cd (x::fr) s' H') body te) (ht:te (some v::cL σ js) H Q) :
  bz (bC X.prog X.w) X.A.in1.in1 (call (.ref f) [u]) (EP X aN σ Q) (λ_ _=>False) s:=by
 let⟨pm,cd,ct,e,oc,vs,t,ec,hdc,hvc⟩:=F;have ho:s.heap.get? f=some (kla_obj "<lambda>" q params body scope cl pm cd ct):=(I.hok f _ e).1;have hoc:s.heap.get? cd=some oc:=(I.hok cd _ ec).1;rwa[wpAny_call (kla_callFunE hr ho rfl hco hgen rfl ⟨cd,oc,vs,t,rfl,hoc,hdc,hvc⟩ ?_)];rw[hbind];rwa[aP (wpAny_newFunctionEnv jK (λy hy=>?_) (λh₁ hns hsb=>⟨I.nolimit.fresh _ hsb,?_⟩) hk)]
 ·rw[bf.mp hy];rwa[hx]
 show kD _ _ (.expr body (envX q scope s.heap.objs.size f (.ref cd) cl)) _ _;have old:∀b o,s.heap.get? b=some o->h₁.get? b=some o:=λb o e=>hsb.extBut b o (bP (aS e)) (ao _ e)
 rwa[kla_codeExpr ?_];have ok':(cxLam X q scope cl s.heap.objs.size f (.ref cd) (x::fr) s H).Ok:=by
  rwa[I.ok.mod,hk,rfl,rfl,ay _,λa b c e1 e2=>I.ok.inj a b c (c1 a c e1) (c1 b c e2),λy hy=>?_,λ_ _ z=>tR z (by intro q;cases q),λ_=>I.ok.hd hc,bT.frames_deeper I.ok.frames,.inr ⟨rfl,rfl⟩,λb hb=>tR (show b∈([]:zX) from hb) ∅,I.bs,aU I.ok.bsz I.sz,λb o e hb=>tR (show b∈([]:zX) from hb) ∅,λb hb=>tR (show b∈([]:zX) from hb) ∅,I.stack,I.stkFree];have hy:scope.names.lookup y=some .cell\/scope.names.lookup y=some .free:=hy
  rcases hy with hy | hy
  ·rwa[tR rfl (jK _ (cx hy))]
  ·have hm:=cx hy
   let⟨c,e⟩:=I.ok.has y (.inl (hfr _ hm rfl));rwa[c,(c2 _ hm rfl).trans e]
 have lenB:(cL σ js).length=fr.length:=by
  have e:=tW kH hjs;rw[aa,aa] at e;unfold cL;rw[aa];rwa[e]
 have I1:Inv (cxLam X q scope cl s.heap.objs.size f (.ref cd) (x::fr) s H) [] (some v::cL σ js) H { s with heap:=h₁,toks:=s.toks+1 }:=by
  rwa[ok',rfl,I.bare,Un.kept old,⟨_,hns,λi y v' e1 e2 e3=>?_⟩,λy c e=>?_,I.hok.fresh (ay _),λy c e=>I.freeC y c (c1 y c e),λp hp=>tR (show p∈([]:List (ai×Obj)) from hp) ∅,I.hok.kept old,?_]
  ·cases i with
   | zero =>
    have e1:some x=some y:=e1;have e2:some (some v)=some (some v'):=e2;cases e1;cases e2;rwa[u,ru,.inl ⟨hx,by show List.lookup x [(x,u)]=_;rw[List.lookup_cons,beq_self_eq_true]⟩]
   | succ i =>
    have e1:fr[i]? =some y:=e1;have e2:(cL σ js)[i]? =some (some v'):=e2;unfold cL at e2;rw[av] at e2;let⟨j,ej,e2⟩:=aX.mp e2;have hN:X.N[j]? =some y:=by
     have q:=tW (λl=>l[i]?) hjs;simp only[av,ej,e1,gH] at q;rwa[cV q]
    have hσ:σ[j]? =some (some v'):=by
     cases z:σ[j]? with
     | none=>rw[z] at e2;cases e2
     | some w=>rw[z] at e2;rwa[tW some e2]
    have hfree:=hfv y (aZ e1);have hm:=cx hfree;have hce:X.env.scope.names.lookup y=some .cell:=hfr _ hm rfl;let⟨m,_,hl⟩:=I.loc;let⟨u',ru',look⟩:=hl j y v' hN hσ (.inr (.inl hce));rwa[u',ru',.inr ⟨.inr hfree,?_⟩]
    rcases look with ⟨k,_⟩ | ⟨_,c,ec,ho⟩
    ·have k:X.env.scope.names.lookup y=some .local:=k
     rw[hce] at k;cases k
    ·let⟨o,ho,hd⟩:=ho
     rwa[c,(c2 _ hm rfl).trans ec,o,old c o ho,hd]
  ·let⟨v',o,ho,hd⟩:=I.cell y c (c1 y c e)
   rwa[v',o,old c o ho,hd]
  ·show(some v::cL σ js).length=(x::fr).length
   rw[bE,bE,lenB]
 rwa[cj (hb _ _ s H [] _ _ H Q I1 ht) (λw s' hs=>?_) λ_ _ z=>z.elim]
 let⟨v',H',J,rv,qv⟩:=hs;rwa[I.after ⟨v',H',J.os,J.bare,J.base,J.hok,rv,qv⟩]
end
theorem rng_size0 {n:Nat}:fv 0 (n:Int) 1=n:=by
 unfold fv
 cbv
theorem rng_small0 {n:Nat}(h:n<64):j3 0 (n:Int) 1=true:=by unfold j3;rw[rng_size0];unfold dm.Range.rangeFitsLong;simp;lia
theorem its_at:∀{ns:zI} {its:zD} {i:Nat} {x:ae},fZ (ns.map V.int) its->its[i]? =some x->∃t,x= .int (ns.getD i 0) t
 | [],_,_,_,.nil,e=>by simp at e
 | n::ns,_,0,_,.cons r _,e=>by
  cases e;rwa[r]
 | n::ns,_,i+1,_,.cons _ rs,e=>its_at (i:=i) rs e
inductive KSrc (H:Hp)(r:ai):Nat->(Nat->Int)->Prop where
 | rng {n:Nat} (h:H r=some (.rng 0 n)):KSrc H r n λi=>i
 | tup {ns:zI} (h:H r=some (.tup (ns.map V.int))):KSrc H r ns.length λi=>ns.getD i 0
def KSrc.keep {r:ai}{n:Nat}{num:Nat->Int}(k:KSrc H r n num)(e:∀o,H r=some o->H' r=some o):KSrc H' r n num:=by
 cases k with
 | rng h=>rwa[.rng (e _ h)]
 | tup h=>rwa[.tup (e _ h)]
theorem ksrc_col {r:ai}{n:Nat}{num:Nat->Int}(I:‹1›)(hc:X.calm=true)(h64:n<64)(k:KSrc H r n num)(R:zD->aq->Prop)
  (q:∀h' tk acc,(∀b o,s.heap.get? b=some o->h'.get? b=some o)->acc.length=n->(∀(i:Nat) x,acc[i]? =some x->∃t,x=ae.int (num i) t)->R acc { s with heap:=h',toks:=tk }) (E':ae->aq->Prop) :
  bz (bC X.prog X.w) X.A.in1 (collect (.ref r)) R E' s:=by
 cases k with
 | rng h =>
  let⟨t1,t2,t3,e3⟩:=I.hok r _ h;have hr3:IsRange s.heap r 0 n 1 t1 t2 t3:=by omega
  rwa[collect_range (I.ok.hd hc) hr3 (rng_small0 h64) rng_size0 ⋯ λh' tk acc hk _ hi=>q h' tk _ hk (by exact hi.1) λi x hx=>?_]
  rw[iH] at hx;let⟨t,e⟩:=hi.2 i x hx
  cbv
 | tup h =>
  let⟨its,rv,⟨ob,ho,hcl,m,hd⟩,_⟩:=I.tuple (zT h);have lits:=rv.length
  grind [aa,wpAny_collect_seq,br,cT,its_at]
def SortKQ (P:ai)(lp:Pos)(lq:Str)(js:zC)(te:TE)(σ:St)(Q:VK)(v:V)(H1:Hp):Prop:=∃(r:ai) (n:Nat) (num:Nat->Int) (key:Nat->Int×Int),v= .ref r/\KSrc H1 r n num/\n<64/\LamT P lp lq H1/\((aQ n).map key).Nodup /\
 (∀i:Nat,i<n->∀H2,Tb P H1 H2->te (some (.int (num i))::cL σ js) H2 λu H3=>bt H2 H3/\∃a,u= .ref a/\H3 a=some (.tup [.int (key i).1,.int (key i).2])) /\
 ∀(D:ai) (H4:Hp) (π:zC),Tb P H1 H4->LamT P lp lq H4->H4 D=none->π.Perm (aQ n)->π.Pairwise (λi j=>ltP (key i) (key j)=true)->Q (.ref D) (upd H4 D (.lst (π.map λ(i:Nat)=>V.int (num i))))
def tSortK (P:ai)(lp:Pos)(lq:Str)(tr:TE)(js:zC)(te:TE):TE:=λσ H Q=>tr σ H λv H1=>SortKQ P lp lq js te σ Q v H1
def SortK1 (P:ai)(lp:Pos)(lq:Str)(js:zC)(te:TE)(σ:St)(Q:VK):zA->Hp->Prop
 | [v],H1=>SortKQ P lp lq js te σ Q v H1
 | _,_=>False
theorem pe_sortK {re:Expr}{tr:TE}{p kp:Pos}{c P:ai}(hc:X.calm=true)(hrm:X.A.depth<recursionLimit)(hg:Gl X "sorted")(hm:X.mg "sorted" =none)(hi:PE X re tr)
  (hd:defaultsOf params X.env=([],[])) (sR:X.env.code= .ref c) (C:codeHdIn X.K c P=true) (B:BM X.mg X.base)
  (hbind:∀q cl pm cdv ct (u:ae),bindArgs (kla_fn "<lambda>" q params body scope cl pm cdv ct) ⟨[u],[]⟩=gv [(x,u)])
  (hk:scope.kind= .function) (hco:scope.isCoroutine=false) (hgen:scope.isGenerator=false) (jK:∀y∈scope.names,y.2≠ .cell) (hx:scope.names.lookup x=some .local) (hfx:x ∉ fr)
  (hfr:∀y∈scope.names,y.2= .free->X.env.scope.names.lookup y.1=some .cell) (hjs:js.map (λj=>X.N[j]?)=fr.map some) (hfv:∀y∈fr,scope.names.lookup y=some .free)
  (hb:∀cl L f cd s' H',PE (cxLam X (X.env.qual ++ "<lambda>") scope cl L f cd (x::fr) s' H') body te)
  (he:autoParam (gw pos (bF [re] X.env)=(false,eO re X.env)::gw pos (bF [] X.env)) Ωa)
  (hs:autoParam (bF [re] X.env=(false,eO re X.env)::bF [] X.env) Ωa) (hpl:autoParam ((gw pos (bF [re] X.env)).any (·.1)=false) Ωa) :
  PE X (.Call (.Name "sorted" p) [re] [⟨some "key",.Lambda params body scope lp,kp⟩] pos) (tSortK P lp (X.env.qual ++ "<lambda>") tr js te):=by
 injections;rwa[eP (oj I hg hm (u:=.builtin "sorted") ⇑0 ?_)];rwa[callWith_kw (thn ((aV hi b9 hs) pos aN s σ H (SortK1 P lp (X.env.qual ++ "<lambda>") js te σ Q) I h) λus s1 hz0=>?_) he hpl];let⟨vs,H1,I1,r1,q0⟩:=hz0;rwa[kws_cons ?_];obtain⟨v,rfl⟩:∃v,vs=[v]:=by
  cases vs with
  | nil=>rwa[q0.elim]
  | cons v r=>cases r with
   | nil=>lia
   | cons _ _=>rwa[q0.elim]
 have q1 :=q0;let⟨r,n,num,key,rfl,hr,h64,T,hnd,hkey,hQ⟩:=q1;obtain rfl:us=[.ref r]:=by
  cases r1 with
  | cons ru rs =>
   cases rs;rwa[tW (λz=>[z]) ru]
 rwa[o6 I1 hd sR C B hfr T λf cl H2 s2 I2 tb T2 F2 c1 c2=>?_]
 rwa[kws_nil ?_];have rP:r≠P:=λz=>by
  let⟨ps,e⟩:=LamG.tbl T;cases hr with
  | rng h=>cbv
  | tup h=>cbv
 have col:=ksrc_col I2 hc h64 (hr.keep λo h=>tb r o rP h);rwa[sorted_keyG h64 (λR k E'=>col R k E') λvs g h1 tk D kS e1 lits hits hg hkeep hD hDk gD gK=>?_]
 have I2:Inv X aN σ H2 { s2 with heap:=g,toks:=tk }:=I2.kept hg;have I3:Inv X aN σ H2 { s2 with heap:=h1,toks:=tk }:=I2.kept hkeep;have old:∀b o,g.get? b=some o->b≠D/\b≠kS:=λb o e=>⟨bP (aW (aS e) hD),bP (Nat.lt_trans (aW (aS e) hD) hDk)⟩
 have frD :=I2.hok.fresh hD;have frK :=I2.hok.fresh (Nat.le_of_lt (bV hD hDk));have cc:∀y d,X.env.cells.lookup y=some d->d≠D/\d≠kS:=λy d e=>by let⟨v,o,ho,_⟩:=I2.cell y d e;rwa[old d o ho]
 have pp:∀z∈X.pn++aN,z.1≠D/\z.1≠kS:=λz hz=>old _ _ (I2.pin z hz).1
 have nl :=Nat.le_of_lt (bV hD hDk);have I4:Inv X ((kS,bR "list" #[] 0)::(D,bR "list" #[] e1)::aN) σ H2 { s2 with heap:=h1,toks:=tk }:=I3.pins_of λz hz=>by
  rcases bh.mp hz with rfl | hz
  ·rwa[gK,frK,fO (aW I2.lt nl),I2.nofs nl,λv z=>by cases z]
  ·rcases bh.mp hz with rfl | hz
   ·rwa[gD,frD,fO (aW I2.lt hD),I2.nofs hD,λv z=>by cases z]
   ·rwa[I3.pin z (bo _ hz)]
 rwa[keyDo_of I4 lits h64 hits (aU I2.sz nl) (aU I2.sz hD) (λy d e=>(cc y d e).2) (λy d e=>(cc y d e).1) (λz hz=>(pp z hz).2) (λz hz=>(pp z hz).1) (fO hDk) hnd ?_ ?_]
 ·intro t H' pins' i tk hi' I' S'
  rwa[cj (lam_call (v:=.int (num i)) I' hc hrm (F2.same S') ⟨ς⟩ (λpm cdv ct=>hbind _ _ _ _ _ _) hk hco hgen jK hx hfx c1 c2 hfr hjs hfv (λL cd s' H'=>hb cl L f cd s' H') (hkey i hi' H' (tb.trans S'.tb))) (λk t' hz0=>?_) λ_ _ z=>z]
  let⟨v,H'',I'',rv,S'',a,ev,ea⟩:=hz0;subst ev;obtain rfl:k= .ref a:=rv
  grind
 ·intro t H' π S' hD' I' pm pw
  rwa[.ref D,_,I',rfl,hQ D H' π (tb.trans S'.tb) (T2.same S') hD' pm pw]
namespace HN
noncomputable def z0:Sn:=⟨0,0,0,0,0⟩
def sAt (sp:zS)(i:Nat):Sn:=sp.getD i z0
theorem jr (h:i<sp.length):sp[i]? =some (sAt sp i):=by
 unfold sAt
 cbv
theorem dB (h:i<sp.length):sAt sp i∈sp:=aZ (jr h)
def oK (sp:zS)(i:Nat):Int×Int:=((sAt sp i).o - (sAt sp i).l,(i:Int))
def Ordd (sp:zS)(π:zC):Prop:=π.Perm (aQ sp.length)/\π.Pairwise λi j=>ltP (oK sp i) (oK sp j)=true
def sV (sp:zS)(n:Nat):((aQ n).map (oK sp)).Nodup:=by
 rw[bM,cU];rwa[List.Pairwise.imp (λ{a b} h e=>h ?_) List.nodup_range];have:=tW Prod.snd e;rwa[Int.ofNat.inj this]
theorem ltP_asym {x y:Int×Int}(h:ltP x y=true)(k:ltP y x=true):False:=by
 rw[ltP_iff] at h k;lia
theorem perm_eq {α:Type}{R:α->α->Prop}(as:∀a b,R a b->R b a->a=b):∀{l k:List α},l.Perm k->l.Pairwise R->k.Pairwise R->l=k
 | [],k,p,_,_=>(List.nil_perm.mp p).symm
 | a::l,k,p,hl,hk=>by
  cases k with
  | nil=>rwa[tR p.symm (by grind [List.nil_perm])]
  | cons b k =>
   have ab:a=b:=by
    grind [bQ,bh,List.rel_of_pairwise_cons]
   subst ab;rw[perm_eq as p.cons_inv ↥2 ↥2]
theorem Ordd.one {ρ:zC}(a:Ordd sp π)(b:Ordd sp ρ):π=ρ:=
 perm_eq (λ_ _ h k=>(ltP_asym h k).elim) (a.1.trans b.1.symm) a.2 b.2
theorem Ordd.lt (a:Ordd sp π)(h:i∈π):i<sp.length:=cg.mp (a.1.mem_iff.mp h)
theorem Ordd.len (a:Ordd sp π):π.length=sp.length:=by rw[a.1.length_eq,bL]
noncomputable def jI (gs:zI)(x y:Int):zI:=gs.map λg=>if g=y then x else g
def fG (sp:zS)(c:zI×zC)(i:Nat):zI×zC:=
 if tm c.1 (sAt sp i).s=tm c.1 (sAt sp i).g then c else (jI c.1 (tm c.1 (sAt sp i).s) (tm c.1 (sAt sp i).g),c.2++[i])
def lV (m:Nat):zI:=(aQ m).map λ(k:Nat)=>(k:Int)
def kT (sp:zS)(m:Nat)(π:zC):zI×zC:=π.foldl (fG sp) (lV m,[])
noncomputable def gL (ps:zY)(x:Int):zI:=(ps.filter λp=>decide (x∈p)).headD []
def stepQ (sp:zS)(c:zY×zC)(i:Nat):zY×zC:=
 if gL c.1 (sAt sp i).s=gL c.1 (sAt sp i).g then c
 else (c.1.filter (λp=>!(decide (p=gL c.1 (sAt sp i).s)) && !(decide (p=gL c.1 (sAt sp i).g)))++[gL c.1 (sAt sp i).s++gL c.1 (sAt sp i).g],c.2++[i])
noncomputable def prt0 (m:Nat):zY:=(aQ m).map λ(k:Nat)=>[(k:Int)]
structure Rl (m:Nat)(gs:zI)(ps:zY):Prop where
 len:gs.length=m
 cov:∀x:Int,0<=x->x<m->∃p∈ps,x∈p
 one:∀p∈ps,∀q∈ps,∀x,x∈p->x∈q->p=q
 eqv:∀x y:Int,0<=x->x<m->0<=y->y<m->(tm gs x=tm gs y↔∃p∈ps,x∈p/\y∈p)
theorem Rl.part {ps:zY}(R:Rl m gs ps){x:Int}(h0:0<=x)(h1:x<m):gL ps x∈ps/\x∈gL ps x:=by
 let⟨p,hp,hx⟩:=R.cov x h0 h1;unfold gL;cases e:ps.filter λp=>decide (x∈p) with
 | nil=>cbv
 | cons q r =>
  grind
def Rl.is {ps:zY}(R:Rl m gs ps){x y:Int}(h0:0<=x)(h1:x<m)(k0:0<=y)(k1:y<m):tm gs x=tm gs y↔x∈gL ps y:=by
 let⟨p1,p2⟩:=R.part k0 k1;rwa[(R.eqv x y h0 h1 k0 k1).trans ⟨λhz0=>?_,λh=>⟨_,p1,h,p2⟩⟩];let⟨p,hp,hx,hy⟩:=hz0;rw[<-R.one p hp _ p1 y hy p2];rwa[hx]
theorem Rl.same {ps:zY}(R:Rl m gs ps){x y:Int}(h0:0<=x)(h1:x<m)(k0:0<=y)(k1:y<m):tm gs x=tm gs y↔gL ps x=gL ps y:=by
 rwa[(R.is h0 h1 k0 k1).trans ⟨λh=>?_,λh=>?_⟩]
 ·rwa[R.one _ (R.part h0 h1).1 _ (R.part k0 k1).1 x (R.part h0 h1).2 h]
 ·rw[<-h];rwa[(R.part h0 h1).2]
theorem lM {u v x:Int}(h0:0<=x)(h1:x<gs.length):tm (jI gs u v) x=if tm gs x=v then u else tm gs x:=by
 let⟨j,rfl⟩:=cu h0;have hj:j<gs.length:=by cbv
 unfold tm jI;simp only[cw,af,av,gE hj,gH,Option.getD_some]
theorem Rl.join {ps:zY}(R:Rl m gs ps){a:Int}(a0:0<=a)(a1:a<m)(b0:0<=b)(b1:b<m) :
  Rl m (jI gs (tm gs a) (tm gs b)) (ps.filter (λp=>!(decide (p=gL ps a)) && !(decide (p=gL ps b)))++[gL ps a++gL ps b]):=by
 let⟨pa,ha⟩:=R.part a0 a1;let⟨pb,hb⟩:=R.part b0 b1;have mem:∀p,p∈ps.filter (λp=>!(decide (p=gL ps a)) && !(decide (p=gL ps b)))++[gL ps a++gL ps b]↔(p∈ps/\p≠gL ps a/\p≠gL ps b)\/p=gL ps a++gL ps b:=λp=>by
  simp
 have uni:∀p∈ps,p≠gL ps a->p≠gL ps b->∀x,x∈p->x ∉ gL ps a++gL ps b:=λp hp n1 n2 x hx hz=>by
  rcases bj.mp hz with hz | hz
  ·rwa[n1 (R.one p hp _ pa x hx hz)]
  ·rwa[n2 (R.one p hp _ pb x hx hz)]
 rwa[by unfold jI;rw[aa];rwa[R.len],λx h0 h1=>?_,λp hp q hq x hx hy=>?_,λx y h0 h1 k0 k1=>?_]
 ·let⟨p,hp,hx⟩:=R.cov x h0 h1
  grind
 ·rcases(mem p).mp hp with ⟨p1,p2,p3⟩ | rfl
  ·rcases(mem q).mp hq with ⟨q1,q2,q3⟩ | rfl
   ·rwa[R.one p p1 q q1 x hx hy]
   grind
  grind
 ·rw[lM h0 (by rw[R.len];rwa[h1]),lM k0 (by rw[R.len];rwa[k1])]
  have xa:=R.is h0 h1 a0 a1;have xb:=R.is h0 h1 b0 b1;have ya:=R.is k0 k1 a0 a1;have yb:=R.is k0 k1 b0 b1;have xy:=R.eqv x y h0 h1 k0 k1
  constructor
  ·intro h
   by_cases e:tm gs x=tm gs y
   ·grind
   ·rwa[_,(mem _).mpr (.inr rfl),?_,?_]
    ·grind
    grind
  grind
theorem lN {x:Int}(h0:0<=x)(h1:x<m):tm (lV m) x=x:=by
 let⟨j,rfl⟩:=cu h0;unfold tm lV;rw[cw,af,av,gc ↥2];rfl
theorem Rl.start (m:Nat):Rl m (lV m) (prt0 m):=by
 have mem:∀p,p∈prt0 m↔∃k:Nat,k<m/\p=[(k:Int)]:=λp=>by
  grind [prt0,bc,cg]
 rwa[by unfold lV;cbv,λx h0 h1=>⟨[x],(mem _).mpr ⟨x.toNat,↥2,↥1⟩,(by (constructor <;> lia))⟩,λp hp q hq x hx hy=>?_,λx y h0 h1 k0 k1=>?_]
 ·grind
 ·rw[lN h0 h1,lN k0 k1]
  rwa[λe=>⟨[x],(mem _).mpr ⟨x.toNat,↥2,↥1⟩,(by (constructor <;> lia)),↥2⟩,λhz0=>?_];let⟨p,hp,hx,hy⟩:=hz0
  grind
def ke (m:Nat)(sp:zS):Prop:=∀x∈sp,0<=x.s/\x.s<m/\0<=x.g/\x.g<m
theorem sq {m:Nat}{sp:zS}(E:ke m sp):∀(π:zC) (gs:zI) (ps:zY) (tk:zC),(∀i∈π,i<sp.length)->Rl m gs ps->Rl m (π.foldl (fG sp) (gs,tk)).1 (π.foldl (stepQ sp) (ps,tk)).1/\(π.foldl (fG sp) (gs,tk)).2=(π.foldl (stepQ sp) (ps,tk)).2
 | [],gs,ps,tk,_,R=>⟨R,rfl⟩
 | i::π,gs,ps,tk,h,R=>by
  let⟨a0,a1,b0,b1⟩:=E _ (dB (h i bQ));have hs:=R.same a0 a1 b0 b1;rw[bS,bS];unfold fG stepQ
  by_cases e:tm gs (sAt sp i).s=tm gs (sAt sp i).g
  ·rw[tQ (e),tQ (hs.mp e)]
   rwa[sq E π gs ps tk ↥2 R]
  ·rw[tP (e),tP (λz=>e (hs.mpr z))]
   rwa[sq E π _ _ _ ↥2 (R.join a0 a1 b0 b1)]
theorem kL (sp:zS):∀(π:zC) (c:zI×zC),(∀i∈(π.foldl (fG sp) c).2,i∈c.2\/i∈π)/\(π.foldl (fG sp) c).2.length<=c.2.length+π.length
 | [],c=>∅
 | j::π,c=>by
  let⟨a,b⟩:=kL sp π (fG sp c j);have key:(∀i∈(fG sp c j).2,i∈c.2\/i=j)/\(fG sp c j).2.length<=c.2.length+1:=by
   unfold fG
   grind
  grind
def pZ (m:Nat)(sp:zS)(ns:zI):Prop:=∃π,Ordd sp π/\ns.Perm ((kT sp m π).2.map λ(i:Nat)=>(i:Int))/\ns.Pairwise (· <= ·)
theorem pZ.one {ms:zI}(a:pZ m sp ns)(b:pZ m sp ms):ns=ms:=by
 let⟨π,o1,p1,w1⟩:=a;let⟨ρ,o2,p2,w2⟩:=b;rw[o1.one o2] at p1;rwa[perm_eq ⋯ (p1.trans p2.symm) w1 w2]
theorem pZ.len (a:pZ m sp ns):ns.length<=sp.length:=by
 let⟨π,o,p,_⟩:=a;rw[p.length_eq];have:=(kL sp π (lV m,[])).2;have h2:=o.len
 grind [lV,kT]
theorem iC.ends {m:Int}(N:iC b m sp):ke m.toNat sp:=λx hx=>by
 let⟨s0,s1,g0,g1,_⟩:=N.all x hx;lia
theorem Tb.tupK {T:ai}(hT:∃ps,H T=some (.tbl ps))(e:Tb T H H'):kh H H':=λq xs h=>e q _ ⋯ h
theorem LamT.tbl {T:ai}(h:LamT T lp lq H):∃ps,H T=some (.tbl ps):=LamG.tbl h
theorem LamT.upd {T:ai}(h:LamT T lp lq H)(ha:∀p u,H a=some (.frz p u)->False)(hb:∀ps,H a=some (.tbl ps)->False):LamT T lp lq (upd H a o):=LamG.stay h (λps e=>by grind [bw]) λc p u e=>by grind [bw]
inductive spSpW (T:ai)(lp:Pos)(lq:Str)(vs:zA)(H:Hp)(Q:VK)(_:XK):Prop
 | mk (v b m sp:_)(_:vs=[v])(_:‹4›)(_:sp.length<=40)(_:LamT T lp lq H)(_:∀D H' π,Tb T H H'->LamT T lp lq H'->H' D=none->Ordd sp π->Q (.ref D) (upd H' D (.lst (π.map λ(i:Nat)=>V.int i))))
inductive mL (T:ai)(lp:Pos)(lq:Str)(vs:zA)(H:Hp)(Q:VK)(_:XK):Prop
 | mk (v b m sp:_)(_:vs=[v])(_:‹4›)(_:iC b m sp)(_:LamT T lp lq H)(_:∀u H' ns,Tb T H H'->LamT T lp lq H'->H' u=some (.tup (ns.map V.int))->pZ m.toNat sp ns->Q (.ref u) H')
def Finer (m:Nat)(gs hs:zI):Prop:=∀x y:Int,0<=x->x<m->0<=y->y<m->tm gs x=tm gs y->tm hs x=tm hs y
theorem Finer.refl (m:Nat)(gs:zI):Finer m gs gs:=λ_ _ _ _ _ _ h=>h
theorem kR (gs:zI)(u v:Int):(jI gs u v).length=gs.length:=by unfold jI;rw[aa]
theorem Finer.wide {hs:zI}{u v:Int}(F:Finer m gs hs)(l2:hs.length=m):Finer m gs (jI hs u v):=by
 intro x y x0 x1 y0 y1 h;rw[lM x0 ↥2,lM y0 ↥2,F x y x0 x1 y0 y1 h]
theorem join_meets {a:Int}(l1:gs.length=m)(a0:0<=a)(a1:a<m)(b0:0<=b)(b1:b<m):tm (jI gs (tm gs a) (tm gs b)) a=tm (jI gs (tm gs a) (tm gs b)) b:=by
 rw[lM a0 ↥2,lM b0 ↥2]
 simp
theorem iD (sp:zS)(gs:zI)(tk:zC)(i:Nat):(tm gs (sAt sp i).s=tm gs (sAt sp i).g/\fG sp (gs,tk) i=(gs,tk))\/(tm gs (sAt sp i).s≠tm gs (sAt sp i).g/\fG sp (gs,tk) i=(jI gs (tm gs (sAt sp i).s) (tm gs (sAt sp i).g),tk++[i])):=by
 unfold fG
 lia
theorem o8 {m:Nat}{sp:zS}:∀(π:zC) (gs hs:zI) (tk:zC),hs.length=m->Finer m gs hs->Finer m gs (π.foldl (fG sp) (hs,tk)).1
 | [],_,_,_,_,F=>F
 | i::π,gs,hs,tk,l,F=>by
  rw[bS]
  rcases iD sp hs tk i with ⟨_,e⟩ | ⟨_,e⟩ <;> rw[e]
  ·rwa[o8 π gs hs tk l F]
  ·rwa[o8 π gs _ _ (by rw[kR];exact l) (F.wide l)]
theorem n6 {m:Nat}{sp:zS}(E:ke m sp):∀(π:zC) (gs:zI) (tk:zC),gs.length=m->(∀i∈π,i<sp.length)->∀i∈π,tm (π.foldl (fG sp) (gs,tk)).1 (sAt sp i).s=tm (π.foldl (fG sp) (gs,tk)).1 (sAt sp i).g
 | [],_,_,_,_,i,h=>by cases h
 | j::π,gs,tk,l,hp,i,h=>by
  rw[bS];let⟨a0,a1,b0,b1⟩:=E _ (dB (hp j bQ));have hp':∀i∈π,i<sp.length:=λk hk=>hp k (az _ hk)
  rcases iD sp gs tk j with ⟨q,e⟩ | ⟨_,e⟩ <;> rw[e]
  ·rcases bh.mp h with rfl | h
   ·rwa[o8 π gs gs tk l (Finer.refl m gs) _ _ a0 a1 b0 b1 q]
   ·rwa[n6 E π gs tk l hp' i h]
  ·have l':(jI gs (tm gs (sAt sp j).s) (tm gs (sAt sp j).g)).length=m:=by rw[kR];exact l
   rcases bh.mp h with rfl | h
   ·rwa[o8 π _ _ _ l' (Finer.refl m _) _ _ a0 a1 b0 b1 (join_meets l a0 a1 b0 b1)]
   ·rwa[n6 E π _ _ l' hp' i h]
theorem tm_mem {x:Int}(h0:0<=x)(h1:x<gs.length):tm gs x∈gs:=by
 let⟨j,rfl⟩:=cu h0;unfold tm;rw[cw,af,gE ↥2];rwa[aY _]
def Cnt (m:Nat)(gs:zI)(k:Nat):Prop:=∃D:zI,D.Nodup/\(∀v,v∈D↔v∈gs)/\D.length+k=m
theorem Cnt.join {k:Nat}(C:Cnt m gs k){u v:Int}(hu:u∈gs)(hv:v∈gs)(n:u≠v):Cnt m (jI gs u v) (k+1):=by
 let⟨D,nd,mem,l⟩:=C;rwa[D.erase v,nd.erase v,λz=>?_,↥1];unfold jI
 grind
theorem gone_cnt {m:Nat}{sp:zS}(E:ke m sp):∀(π:zC) (gs:zI) (tk:zC),gs.length=m->(∀i∈π,i<sp.length)->Cnt m gs tk.length->Cnt m (π.foldl (fG sp) (gs,tk)).1 (π.foldl (fG sp) (gs,tk)).2.length
 | [],_,_,_,_,C=>C
 | j::π,gs,tk,l,hp,C=>by
  rw[bS];let⟨a0,a1,b0,b1⟩:=E _ (dB (hp j bQ));have hp':∀i∈π,i<sp.length:=λk hk=>hp k (az _ hk)
  rcases iD sp gs tk j with ⟨_,e⟩ | ⟨n,e⟩ <;> rw[e]
  ·rwa[gone_cnt E π gs tk l hp' C]
  ·apply gone_cnt E π _ _ (by rw[kR];rwa[l]) hp' ?_
   rw[ax];rwa[C.join (tm_mem a0 ↥2) (tm_mem b0 ↥2) n]
theorem Cnt.start (m:Nat):Cnt m (lV m) 0:=by
 rwa[lV m,?_,λ_=>Iff.rfl,by unfold lV;rw[aa,bL];cbv];unfold lV;rw[bM,cU];rwa[List.Pairwise.imp (λ{a b} h e=>h (Int.ofNat.inj e)) List.nodup_range]
theorem nc:∀{l k:zI},l.Nodup->(∀x∈l,x∈k)->l.length<=k.length
 | [],_,_,_=>bq _
 | a::l,k,nd,h=>by
  have ih:=nc (k:=k.erase a) (cy.mp nd).2 λx hx=>by
   grind
  grind
theorem lF (m:Nat):(lV m).length=m:=by unfold lV;cbv
theorem ra (sp:zS):∀(π:zC) (gs:zI) (tk:zC),∃more,(π.foldl (fG sp) (gs,tk)).2=tk++more
 | [],gs,tk=>⟨[],(fk tk).symm⟩
 | j::π,gs,tk=>by
  rw[bS]
  rcases iD sp gs tk j with ⟨_,e⟩ | ⟨_,e⟩ <;> rw[e]
  ·rwa[ra sp π gs tk]
  ·let⟨more,h⟩:=ra sp π (jI gs (tm gs (sAt sp j).s) (tm gs (sAt sp j).g)) (tk++[j])
   rwa[j::more,by rw[h,List.append_assoc];rfl]
def jg (sp:zS)(l:zC):Int:=l.foldl (λc i=>c * ((oK sp i).1+1)) 1
theorem tu (sp:zS)(l:zC)(i:Nat):jg sp (l++[i])=jg sp l * ((oK sp i).1+1):=by unfold jg;cbv
theorem fold_mul (sp:zS):∀(l:zC) (c:Int),l.foldl (λc i=>c * ((oK sp i).1+1)) c=c * jg sp l
 | [],c=>(Int.mul_one c).symm
 | i::l,c=>by
  unfold jg;rw[bS,bS,fold_mul sp l,fold_mul sp l,Int.one_mul,Int.mul_assoc]
theorem gT (sp:zS)(l:zC)(i:Nat):jg sp (i::l)=((oK sp i).1+1) * jg sp l:=by
 show l.foldl _ (1 * ((oK sp i).1+1))=_;rw[fold_mul,Int.one_mul]
theorem prodW_perm (sp:zS){k:zC}(h:l.Perm k):jg sp l=jg sp k:=by
 induction h with
 | nil=>rfl
 | cons x _ ih=>rw[gT,gT,ih]
 | swap x y l=>rw[gT,gT,gT,gT,<-Int.mul_assoc,<-Int.mul_assoc,Int.mul_comm ((oK sp y).1+1)]
 | trans _ _ h1 h2=>rwa[h1.trans h2]
inductive Lf where
 | ring (ws:zP)
 | price (rows:zQ)
abbrev rowD (r:Int×zP):Dt:=.tup [.int r.1,oH r.2]
def my:Lf->Dt
 | .ring ws=>.tup [.str "ring",oH ws]
 | .price rows=>.tup [.str "price",.tup (rows.map rowD)]
def jV (b:Int)(bs:zB)(ws:zP):Bool:=decide (upB b (fh bs ws) > iA bs ws / b)
def sureB (b:Int)(bs:zB)(ws:zP):Bool:=decide (upB b (fh bs ws)=iA bs ws / b)
def rightB (b:Int)(bs:zB):Lf->Bool
 | .ring ws=>jV b bs ws
 | .price rows=>rows.all λr=>sureB b bs r.2
def LfIn (n:Nat):Lf->Prop
 | .ring ws=>qp n ws
 | .price rows=>rows.length<=1000/\∀r∈rows,qp n r.2
inductive spDead (vs:zA)(H:Hp)(Q:VK)(_:XK):Prop
 | mk (vn vb vw:V)(b m:Int)(sp:zS)(bs:zB)(ws:zP)(_:vs=[vn,vb,vw])(_:IsD H vn (jz b m sp))(_:0<b)(_:b<10 ^ 61)(_:IsD H vb (pY bs))(_:IsD H vw (oH ws))(_:qp bs.length ws)(_:∀H',bt H H'->Q (.bl (jV b bs ws)) H')
inductive spSure (vs:zA)(H:Hp)(Q:VK)(_:XK):Prop
 | mk (vn vb vw:V)(b m:Int)(sp:zS)(bs:zB)(ws:zP)(_:vs=[vn,vb,vw])(_:IsD H vn (jz b m sp))(_:0<b)(_:b<10 ^ 61)(_:IsD H vb (pY bs))(_:IsD H vw (oH ws))(_:qp bs.length ws)(_:∀H',bt H H'->Q (.bl (sureB b bs ws)) H')
inductive spIsRight (vs:zA)(H:Hp)(Q:VK)(_:XK):Prop
 | mk (vn vb vl:V)(b m:Int)(sp:zS)(bs:zB)(lf:Lf)(_:vs=[vn,vb,vl])(_:IsD H vn (jz b m sp))(_:0<b)(_:b<10 ^ 61)(_:IsD H vb (pY bs))(_:IsD H vl (my lf))(_:LfIn bs.length lf)(_:∀H',bt H H'->Q (.bl (rightB b bs lf)) H')
theorem dg.takeN {H:Hp}:∀{xs:zA} {ds:zM} (n:Nat),dg H xs ds->dg H (xs.take n) (ds.take n)
 | _,_,0,_=>.nil
 | _,_,_+1,.nil=>.nil
 | _,_,n+1,.cons h r=>.cons h (dg.takeN n r)
theorem dg.dropN {H:Hp}:∀{xs:zA} {ds:zM} (n:Nat),dg H xs ds->dg H (xs.drop n) (ds.drop n)
 | _,_,0,h=>h
 | _,_,_+1,.nil=>.nil
 | _,_,n+1,.cons _ r=>dg.dropN n r
def p8 (sp:zS):Int->zP->Int->Prop
 | x,[],y=>x=y
 | x,s::ws,y=>lG sp s=x/\p8 sp (eV sp s) ws y
theorem p8.append {sp:zS}:∀{us:zP} {x y z:Int} {vs:zP},p8 sp x us y->p8 sp y vs z->p8 sp x (us++vs) z
 | [],_,_,_,_,h,k=>by cases h;rwa[k]
 | _::us,_,_,_,_,h,k=>⟨h.1,p8.append h.2 k⟩
theorem oE (h:j<sp.length):lG sp ⟨j,d⟩=frm sp[j] d:=by
 unfold lG;show(match sp[j]? with | some x=>frm x d | none=>0)=_;rw[gE h]
theorem mJ (h:j<sp.length):eV sp ⟨j,d⟩=too sp[j] d:=by
 grind [eV,too,gE]
def ends_of_span {st:Stp}(h:j<sp.length)(e:st.i=j)(hs:st.d=1\/st.d= -1)(hd:d=1\/d= -1):eV sp st=eV sp ⟨j,d⟩\/lG sp st=eV sp ⟨j,d⟩:=by
 let⟨i,dd⟩:=st;have e:i=j:=e;subst e;have hs:dd=1\/dd= -1:=hs;rw[mJ h,mJ h,oE h];unfold too frm
 rcases hs with rfl | rfl <;> rcases hd with rfl | rfl <;> simp
structure Bk (sp:zS)(be ou:Int)(x:Int)(ws:zP):Prop where
 inn:qp sp.length ws
 alo:p8 sp be ws x
 one:(ws.map Stp.i).Nodup
 out:∀s∈ws,(s.i:Int)≠ou
structure Rg (sp:zS)(ws:zP):Prop where
 inn:qp sp.length ws
 two:2<=ws.length
 few:ws.length<=17
 one:(ws.map Stp.i).Nodup
 rnd:∃x,p8 sp x ws x
theorem Bk.ring {k:Nat}{ws:zP}(hk:k<sp.length)(hne:sp[k].s≠sp[k].g)(h:Bk sp sp[k].g (k:Nat) sp[k].s ws)(hl:ws.length<=16):Rg sp (⟨k,1⟩::ws):=by
 rwa[λs hs=>?_,?_,↥2,?_,sp[k].s,?_,?_]
 ·rcases bh.mp hs with rfl | hs
  ·cbv
  ·rwa[h.inn s hs]
 ·cases ws with
  | nil=>rwa[tR h.alo.symm hne]
  | cons a r=>cbv
 ·rw[cz,cy]
  rwa[λz=>?_,h.one];let⟨st,hst,e⟩:=bc.mp z;rwa[h.out st hst (by rw[e])]
 ·rw[oE hk];rfl
 ·rw[mJ hk];rwa[h.alo]
def pe_isStrT {p:Pos}(N:Nm X.mg)(TS:X.mg "str" =none)(he:PE X e te)(hg:autoParam (Gl X "isinstance") Ωa)(hg2:autoParam (Gl X "str") Ωa)
  (hs1:autoParam (bF [e,.Name "str" p2] X.env=(false,eO e X.env)::bF [.Name "str" p2] X.env) Ωa) (hpl:autoParam ((gw pos (bF [.Name "str" p2] X.env)).any (·.1)=false) Ωa) :
  PE X (.Call (.Name "isinstance" p) [e,.Name "str" p2] [] pos) (tCB (λxs H Q=>∃x T,xs=[x,.ty "str"]∧tyn H x=some T∧Q (.bl (T == "str")) H) (om te (om (tC (.ty "str")) tNil))):=
 cP tN hg N.isin mE (aV he (aV (rS hg2 TS boot_str rfl) b9) hs1) (he:=hs1)
inductive spWithB (vs:zA)(H:Hp)(Q:VK)(_:XK):Prop
 | mk (vb:V)(k:Nat)(lo hi:Int)(bs:zB)(_:vs=[vb,.int (k:Nat),.int lo,.int hi])(_:IsD H vb (pY bs))(_:k<bs.length)(_:bs.length<=40)(_:∀u H',bt H H'->IsD H' u (pY (bs.set k (lo,hi)))->Q u H')
inductive Tq where
 | leaf (d:Dt)
 | cut (k:Nat) (a:Int) (x y:Tq)
noncomputable def jG:Tq->Dt
 | .leaf d=>d
 | .cut k a x y=>.tup [.str "cut",.int (k:Nat),.int a,jG x,jG y]
def kF (bs:zB)(k:Nat)(a:Int):zB:=bs.set k ((‹3›).1,a)
noncomputable def de (bs:zB)(k:Nat)(a:Int):zB:=bs.set k (a+1,(‹3›).2)
noncomputable def lvs:Tq->zB->List (zB×Dt)
 | .leaf d,bs=>[(bs,d)]
 | .cut k a x y,bs=>lvs x (kF bs k a)++lvs y (de bs k a)
noncomputable def siz:Tq->Nat
 | .leaf _=>1
 | .cut _ _ x y=>siz x+siz y+1
def plcD (p:zB×Dt):Dt:=.tup [pY p.1,p.2]
inductive spSides (vs:zA)(H:Hp)(Q:VK)(_:XK):Prop
 | mk (vb:V)(c:ai)(bs:zB)(k:Nat)(a:Int)(x3 x4:V)(_:vs=[vb,.ref c])(_:IsD H vb (pY bs))(_:H c=some (.tup [.str "cut",.int (k:Nat),.int a,x3,x4]))(_:k<bs.length)(_:bs.length<=40)(_:∀p q r u1 u3 H',bt H H'->H' p=some (.tup [.ref q,.ref r])->H' q=some (.tup [u1,x3])->IsD H' u1 (pY (kF bs k a))->H' r=some (.tup [u3,x4])->IsD H' u3 (pY (de bs k a))->Q (.ref p) H')
theorem rY:∀(t:Tq) (bs:zB),(lvs t bs).length<=siz t
 | .leaf _,_=>by show 1<=1;decide
 | .cut k a x y,bs=>by
  show(lvs x _++lvs y _).length<=siz x+siz y+1;rw[ax];have:=rY x (kF bs k a);have:=rY y (de bs k a);lia
theorem rV (bs:zB)(k:Nat)(a:Int):(kF bs k a).length=bs.length:=by unfold kF;rw[jD]
theorem nI (bs:zB)(k:Nat)(a:Int):(de bs k a).length=bs.length:=by unfold de;rw[jD]
theorem getD_all (ns:zI):((aQ ns.length).map λi=>ns.getD i 0)=ns:=by
 rwa[List.ext_getElem (by rw[aa,bL]) λi h1 h2=>?_]
 rw[ia,iq,af,gE h2];rfl
theorem met_eq (ns:zI):metL ns=ns.foldl step_dedup []:=by
 unfold metL firstMet;rw[getD_all]
theorem fold_new:∀(ns acc:zI),ns.Nodup->(∀x∈ns,x ∉ acc)->ns.foldl step_dedup acc=acc++ns
 | [],acc,_,_=>by simp
 | x::ns,acc,hn,h=>by
  let⟨h1,h2⟩:=cy.mp hn;have e:step_dedup acc x=acc++[x]:=by
   unfold step_dedup
   cbv
  rw[bS,e,fold_new ns (acc++[x]) h2 λy hy z=>?_]
  ·simp
  grind
theorem met_nodup (h:ns.Nodup):(metL ns).length=ns.length:=by
 rw[met_eq,fold_new ns [] h (λ_ _ z=>tR z ∅),List.nil_append]
end HN
open HN
mutual
theorem IsD.keepP {H H':Hp}(e:kh H H'):∀{v:V} {d:Dt},IsD H v d->pl d=true->IsD H' v d
 | _,_,.non,_=>.non
 | _,_,.bl b,_=>.bl b
 | _,_,.int i,_=>.int i
 | _,_,.str x,_=>.str x
 | _,_,.tup h r,p=>.tup (e _ _ h) (dg.keepP e r (by unfold pl at p;rwa[p]))
 | _,_,.lst h,p=>by unfold pl at p;cases p
 | _,_,.dct h,p=>by unfold pl at p;cases p
theorem dg.keepP {H H':Hp}(e:kh H H'):∀{xs:zA} {ds:zM},dg H xs ds->pls ds=true->dg H' xs ds
 | _,_,.nil,_=>.nil
 | _,_,.cons h r,p=>by
  unfold pls at p;rw[jf] at p;rwa[.cons (IsD.keepP e h p.1) (dg.keepP e r p.2)]
end
namespace HN
theorem lQ {α:Type}{f:α->Dt}:∀(xs:List α),(∀x∈xs,pl (f x)=true)->pls (xs.map f)=true
 | [],_=>by grind [pls]
 | x::xs,h=>by
  show pls (f x::xs.map f)=true;unfold pls;rw[h x ∅,lQ xs ↥1];rfl
theorem pl_ints (ns:zI):pl (.tup (ns.map Dt.int))=true:=by
 grind [pl,lQ]
theorem lR (f:α->zI)(xs:List α):pl (rowsP f xs)=true:=by
 unfold rowsP;unfold pl;rwa[lQ xs λx _=>pl_ints (f x)]
def pl_row (r:Int×zP):pl (rowD r)=true:=by
 unfold pl pls pls pls;rw[lR];rfl
theorem pl_leaf (l:Lf):pl (my l)=true:=by
 cases l with
 | ring ws =>
  show pl (.tup [.str "ring",oH ws])=true;unfold pl pls pls pls;rw[lR];rfl
 | price rows =>
  show pl (.tup [.str "price",.tup (rows.map rowD)])=true;unfold pl pls pls pls;have e:pl (.tup (rows.map rowD))=true:=by
   rwa[lQ rows λr _=>pl_row r]
  grind [pl]
def RowOk (b:Int)(sp:zS)(bs:zB)(r:Int×zP):Prop:=Rg sp r.2/\sureB b bs r.2=true/\ -1000000000000<=r.1/\r.1<=1000000000000
def LfOk (b:Int)(sp:zS)(bs:zB):Lf->Prop
 | .ring ws=>Rg sp ws/\jV b bs ws=true
 | .price rows=>rows.length<=40/\∀r∈rows,RowOk b sp bs r
def DrT (b:Int)(sp:zS):Tq->zB->Prop
 | .leaf d,bs=>∃lf,d=my lf/\LfOk b sp bs lf
 | .cut k a x y,bs=>k<bs.length/\(‹3›).1<=a/\a<(‹3›).2/\DrT b sp x (kF bs k a)/\DrT b sp y (de bs k a)
def dpT:Tq->Nat
 | .leaf _=>0
 | .cut _ _ x y=>max (dpT x) (dpT y)+1
theorem set_cat {bs:List α}{n:Nat}{x:α}(hn:n<bs.length):bs.set n x=bs.take n++[x]++bs.drop (n+1):=by
 rw[qq,tQ hn,List.append_assoc];rfl
noncomputable def lkW (l:zQ)(x:Int):Option zP:=(l.find? λp=>decide (p.1=x)).map (·.2)
theorem mP (p:Int×zP)(l:zQ)(x:Int):lkW (p::l) x=if p.1=x then some p.2 else lkW l x:=by
 unfold lkW
 grind
theorem oz {l:zQ}{y:Int}{ws:zP}(h:lkW l y=none)(x:Int):lkW (l++[(y,ws)]) x=if x=y then some ws else lkW l x:=by
 induction l with
 | nil =>
  show lkW [(y,ws)] x=_;rw[mP]
  lia
 | cons p l ih =>
  rw[mP] at h
  by_cases e:p.1=y
  ·cbv
  ·rw[tP e] at h
   rw[ib,mP,mP]
   lia
noncomputable def stF (tk:zC):zP:=tk.map (λi=>⟨i,1⟩)++tk.map (λi=>⟨i,-1⟩)
def dM (sp:zS)(tk:zC)(x:Int):zP:=(stF tk).filter λs=>decide (lG sp s=x)
def iM (sp:zS)(x:Int)(c:zQ×zI)(s:Stp):zQ×zI:=
 if lkW c.1 (eV sp s)=none then (c.1++[(eV sp s,(lkW c.1 x).getD []++[s])],c.2++[eV sp s]) else c
def oh (l:zI):Int:=l.getLast?.getD 0
def sP (sp:zS)(tk:zC)(c:zQ×zI):zQ×zI:=
 (dM sp tk (oh c.2)).foldl (iM sp (oh c.2)) (c.1,c.2.dropLast)
noncomputable def itW (sp:zS)(tk:zC)(be:Int):Nat->zQ×zI
 | 0=>([(be,[])],[be])
 | k+1=>sP sp tk (itW sp tk be k)
def WayR (sp:zS)(tk:zC)(be en:Int)(p:zP):Prop:=∃k,lkW (itW sp tk be k).1 en=some p/\∀j,j<k->lkW (itW sp tk be j).1 en=none
structure Pth (sp:zS)(tk:zC)(be x:Int)(ws:zP):Prop where
 inn:∀s∈ws,s.i∈tk/\s.i<sp.length/\(s.d=1\/s.d= -1)
 alo:p8 sp be ws x
 one:(ws.map Stp.i).Nodup
 met:(be::ws.map (eV sp)).Nodup
theorem rX {s:Stp}(h:s∈stF tk):s.i∈tk/\(s.d=1\/s.d= -1):=by
 rcases bj.mp h with h | h
 ·grind
 grind
structure WI (m:Nat)(sp:zS)(tk:zC)(be:Int)(c:zQ×zI):Prop where
 pth:∀x ws,lkW c.1 x=some ws->Pth sp tk be x ws/\∀s∈ws,lkW c.1 (lG sp s)≠none/\lkW c.1 (eV sp s)≠none
 rng:∀x,lkW c.1 x≠none->0<=x/\x<m
 ahd:∀x∈c.2,lkW c.1 x≠none
 beg:lkW c.1 be≠none
def Clo (sp:zS)(tk:zC)(ex:Int->Prop)(c:zQ×zI):Prop:=∀x,lkW c.1 x≠none->x ∉ c.2->¬ex x->∀s∈dM sp tk x,lkW c.1 (eV sp s)≠none
def lW (l:zQ):Nat:=(aQ 16).countP λx=>(lkW l ((x:Nat):Int)).isNone
theorem count_lt' {α:Type}{P Q:α->Bool}:∀{l:List α},(∀x∈l,Q x=true->P x=true)->∀{a:α},a∈l->P a=true->Q a=false->l.countP Q<l.countP P
 | [],_,_,h,_,_=>tR h ∅
 | x::l,hPQ,a,h,hP,hQ=>by
  have le :=List.countP_mono_left λy hy=>hPQ y (az _ hy)
  rw[List.countP_cons,List.countP_cons]
  rcases bh.mp h with rfl | h
  ·lia
  ·have ih:=count_lt' (λy hy=>hPQ y (az _ hy)) h hP hQ
   grind
theorem cntW_new {l:zQ}{y:Int}{ws:zP}(h:lkW l y=none)(y0:0<=y)(y1:y<16):lW (l++[(y,ws)])<lW l:=by
 let⟨n,rfl⟩:=cu y0;rwa[count_lt' (a:=n) (λx _ hx=>?_) ↥1 ?_ ?_]
 ·grind [oz]
 ·cbv
 ·rw[oz h,tQ rfl];rfl
theorem mI (E:ke m sp){s:Stp}(hi:s.i<sp.length):0<=eV sp s/\eV sp s<m:=by
 let⟨i,d⟩:=s;have hi:i<sp.length:=hi;rw[mJ hi];let⟨a,b,c,e⟩:=E _ (aY hi);unfold too;split
 ·rwa[c,e]
 ·rwa[a,b]
theorem visit_ok {x:Int}(E:ke m sp)(m16:m<=16)(ht:∀i∈tk,i<sp.length){s:Stp}(I:WI m sp tk be c)(hx:lkW c.1 x≠none)(hs:s∈dM sp tk x)(C:Clo sp tk (· =x) c) :
  WI m sp tk be (iM sp x c s)/\Clo sp tk (· =x) (iM sp x c s)/\lkW (iM sp x c s).1 (eV sp s)≠none/\(∀y,lkW c.1 y≠none->lkW (iM sp x c s).1 y=lkW c.1 y)/\2 * lW (iM sp x c s).1+(iM sp x c s).2.length<=2 * lW c.1+c.2.length/\(iM sp x c s).1.length+lW (iM sp x c s).1<=c.1.length+lW c.1:=by
 let⟨hs1,hs2⟩:=cQ.mp hs;have hfr :=tV hs2;let⟨hst,hsd⟩:=rX hs1;have hsn:=ht _ hst;have tr:=mI E hsn;unfold iM
 by_cases e:lkW c.1 (eV sp s)=none
 ·rw[tQ e]
  obtain⟨ws,hws⟩:∃ws,lkW c.1 x=some ws:=lJ.mp hx;have eg:(lkW c.1 x).getD []=ws:=by rw[hws];rfl
  rw[eg];have keep:∀y,lkW c.1 y≠none->lkW (c.1++[(eV sp s,ws++[s])]) y=lkW c.1 y:=λy hy=>by
   rw[oz e,tP (λz=>hy ↥2)]
  have new:lkW (c.1++[(eV sp s,ws++[s])]) (eV sp s)=some (ws++[s]):=by rw[oz e,tQ rfl]
  have more:∀y,lkW c.1 y≠none->lkW (c.1++[(eV sp s,ws++[s])]) y≠none:=λy hy=>↥2
  let⟨P,K⟩:=I.pth x ws hws;have hne:∀st∈ws,st.i=s.i->False:=λst hst' e2=>by
   let⟨k1,k2⟩:=K st hst'
   rcases ends_of_span hsn e2 (P.inn st hst').2.2 hsd with z | z
   ·grind [eV]
   grind [lG,eV]
  have hnew:Pth sp tk be (eV sp s) (ws++[s]):=by
   rwa[λst hst'=>?_,P.alo.append ⟨hfr,rfl⟩,?_,?_]
   ·rcases bj.mp hst' with h | h
    ·rwa[P.inn st h]
    cbv
   ·rw[au]
    rwa[mV.mpr ⟨P.one,∅,λa ha b hb e3=>?_⟩]
    grind
   ·rw[au,<-ib]
    rwa[mV.mpr ⟨P.met,∅,λa ha b hb e3=>?_⟩];have hb:b=eV sp s:=by simpa using hb
    subst hb;subst e3
    rcases bh.mp ha with z | z
    ·rw[z] at e;rwa[I.beg e]
    grind
  rwa[⟨λy vs hy=>?_,λy hy=>?_,λy hy=>?_,more _ I.beg⟩,λy hy hn ex t ht'=>?_,?_,keep,?_,?_]
  ·rw[oz e] at hy
   by_cases ey:y=eV sp s
   ·grind
   ·rw[tP ey] at hy
    let⟨P',K'⟩:=I.pth y vs hy
    cbv
  ·rw[oz e] at hy
   by_cases ey:y=eV sp s
   ·cbv
   ·rw[tP ey] at hy;rwa[I.rng y hy]
  ·rcases bj.mp hy with h | h
   ·rwa[more _ (I.ahd y h)]
   cbv
  ·have ey:y≠eV sp s:=↥2
   rw[oz e,tP ey] at hy;rwa[more _ (C y hy ↥2 ex t ht')]
  ·cbv
  ·have:=cntW_new (ws:=ws++[s]) e tr.1 ⋯
   grind
  ·have:=cntW_new (ws:=ws++[s]) e tr.1 ⋯
   grind
 cbv
theorem qU {m:Nat}{sp:zS}{tk:zC}{be x:Int}(E:ke m sp)(m16:m<=16)(ht:∀i∈tk,i<sp.length):∀{L:zP} {c:zQ×zI},WI m sp tk be c->lkW c.1 x≠none->(∀s∈L,s∈dM sp tk x)->Clo sp tk (· =x) c ->
  WI m sp tk be (L.foldl (iM sp x) c)/\Clo sp tk (· =x) (L.foldl (iM sp x) c)/\(∀s∈L,lkW (L.foldl (iM sp x) c).1 (eV sp s)≠none)/\(∀y,lkW c.1 y≠none->lkW (L.foldl (iM sp x) c).1 y=lkW c.1 y)/\2 * lW (L.foldl (iM sp x) c).1+(L.foldl (iM sp x) c).2.length<=2 * lW c.1+c.2.length/\(L.foldl (iM sp x) c).1.length+lW (L.foldl (iM sp x) c).1<=c.1.length+lW c.1
 | [],c,I,_,_,C=>⟨I,C,λ_ h=>(by cases h),λ_ _=>rfl,ay _,ay _⟩
 | s::L,c,I,hx,hL,C=>by
  let⟨a1,a2,a3,a4,a5,a6⟩:=visit_ok E m16 ht I hx (hL s bQ) C;let⟨b1,b2,b3,b4,b5,b6⟩:=qU E m16 ht (L:=L) a1 (by rw[a4 x hx];rwa[hx]) (λt h=>hL t (az _ h)) a2;rw[bS];rwa[b1,b2,λt h=>?_,λy hy=>?_,aU b5 a5,aU b6 a6]
  ·rcases bh.mp h with rfl | h
   ·rw[b4 _ a3];rwa[a3]
   ·rwa[b3 t h]
  ·rw[b4 y (by rw[a4 y hy];rwa[hy]),a4 y hy]
theorem turn_ok (E:ke m sp)(m16:m<=16)(ht:∀i∈tk,i<sp.length)(I:WI m sp tk be c)(C:Clo sp tk (λ_=>False) c)(hne:c.2≠[]) :
  WI m sp tk be (sP sp tk c)/\Clo sp tk (λ_=>False) (sP sp tk c)/\2 * lW (sP sp tk c).1+(sP sp tk c).2.length<2 * lW c.1+c.2.length/\(sP sp tk c).1.length+lW (sP sp tk c).1<=c.1.length+lW c.1:=by
 have hl:c.2.getLast? =some (c.2.getLast hne):=List.getLast?_eq_some_getLast hne;have e0:c.2=c.2.dropLast++[oh c.2]:=by
  unfold oh;rw[hl];rwa[(k3 hne).symm]
 have hmem:oh c.2∈c.2:=by rw[e0];unfold oh;simp
 have hx:=I.ahd _ hmem;have I0:WI m sp tk be (c.1,c.2.dropLast):=⟨I.pth,I.rng,fun y hy=>I.ahd y ((List.dropLast_sublist _).subset hy),I.beg⟩;have C0:Clo sp tk (· =oh c.2) (c.1,c.2.dropLast):=fun y hy hn ex t ht'=>C y hy (fun z=>by
  rw[e0] at z
  rcases bj.mp z with z | z
  ·rwa[hn z]
  ·rwa[ex (bf.mp z)]) (fun z=>z) t ht'
 let⟨b1,b2,b3,b4,b5,b6⟩:=qU E m16 ht (L:=dM sp tk (oh c.2)) I0 hx (λ_ h=>h) C0;rwa[b1,λy hy hn _ t ht'=>?_,?_,b6]
 ·by_cases e:y=oh c.2
  ·subst e;rwa[b3 t ht']
  ·rwa[b2 y hy hn e t ht']
 ·have l1:c.2.dropLast.length+1=c.2.length:=by
   have:=tW kH e0;rw[ax] at this;rwa[this.symm]
  have b5:2 * lW (sP sp tk c).1+(sP sp tk c).2.length<=2 * lW c.1+c.2.dropLast.length:=b5;lia
theorem qw (b0:0<=be)(b1:be<m):WI m sp tk be ([(be,[])],[be])/\Clo sp tk (λ_=>False) ([(be,[])],[be]):=by
 have lk:∀x,lkW [(be,[])] x=if be=x then some [] else none:=λx=>by rw[mP];rfl
 have kn:lkW [(be,([]))] be≠none:=↥2
 rwa[⟨λx ws h=>?_,λx h=>↥2,λx h=>↥2,kn⟩,λx h hn=>?_]
 ·rw[lk] at h
  by_cases e:be=x
  ·rw[tQ e] at h
   cases h;rwa[⟨λ_ h=>(nomatch h),e,List.nodup_nil,∅⟩,λ_ h=>(nomatch h)]
  cbv
 cbv
def Held (sp:zS)(tk:zC)(be en:Int):Prop:=∀S:Int->Prop,(∀i∈tk,S (sAt sp i).s↔S (sAt sp i).g)->S be->S en
theorem sr (h:i<sp.length):lG sp ⟨i,1⟩=(sAt sp i).s/\eV sp ⟨i,1⟩=(sAt sp i).g/\lG sp ⟨i,-1⟩=(sAt sp i).g/\eV sp ⟨i,-1⟩=(sAt sp i).s:=by
 grind [sAt,af,gE,oE,mJ,frm,too]
theorem left_of {en:Int}(ht:∀i∈tk,i<sp.length)(hh:Held sp tk be en)(I:WI m sp tk be c)(C:Clo sp tk (λ_=>False) c)(hn:lkW c.1 en=none):c.2≠[]:=λz=>by
 rwa[hh (λx=>lkW c.1 x≠none) (λi hi=>?_) I.beg hn];have hin:=ht i hi;let⟨f1,f2,f3,f4⟩:=sr hin;have m1:(⟨i,1⟩:Stp)∈dM sp tk (sAt sp i).s:=cQ.mpr ⟨cn _ (bc.mpr ⟨i,hi,rfl⟩),tS f1⟩;have m2:(⟨i,-1⟩:Stp)∈dM sp tk (sAt sp i).g:=cQ.mpr ⟨bo _ (bc.mpr ⟨i,hi,rfl⟩),tS f3⟩
 constructor
 ·intro h
  have:=C _ h ↥2 (λz=>z) _ m1
  cbv
 ·intro h
  have:=C _ h ↥2 (λz=>z) _ m2
  cbv
theorem held_of {m:Nat}{sp:zS}(E:ke m sp)(S:Int->Prop):∀(π:zC) (gs:zI) (tk:zC),gs.length=m->(∀i∈π,i<sp.length)->(∀i∈(π.foldl (fG sp) (gs,tk)).2,S (sAt sp i).s↔S (sAt sp i).g) ->
  (∀x y:Int,0<=x->x<m->0<=y->y<m->tm gs x=tm gs y->(S x↔S y))->∀x y:Int,0<=x->x<m->0<=y->y<m->tm (π.foldl (fG sp) (gs,tk)).1 x=tm (π.foldl (fG sp) (gs,tk)).1 y->(S x↔S y)
 | [],_,_,_,_,_,h=>h
 | j::π,gs,tk,l,hp,hS,h=>by
  rw[bS] at hS ⊢;let⟨a0,a1,b0,b1⟩:=E _ (dB (hp j bQ));have hp':∀i∈π,i<sp.length:=λk hk=>hp k (az _ hk)
  rcases iD sp gs tk j with ⟨_,e⟩ | ⟨_,e⟩ <;> rw[e] at hS ⊢
  ·rwa[held_of E S π gs tk l hp' hS h]
  ·apply held_of E S π _ _ (by rw[kR];rwa[l]) hp' hS λx y x0 x1 y0 y1 hxy=>?_
   let⟨more,hm⟩:=ra sp π (jI gs (tm gs (sAt sp j).s) (tm gs (sAt sp j).g)) (tk++[j]);have hj:=hS j (by rw[hm];simp);rw[lM x0 ↥2,lM y0 ↥2] at hxy
   grind
theorem held_span (E:ke m sp)(O:Ordd sp π)(pm:l.Perm (kT sp m π).2){k:Nat}(hk:k<sp.length):Held sp l (sAt sp k).g (sAt sp k).s:=by
 intro S hS hg;have hp:∀i∈π,i<sp.length:=λi hi=>O.lt hi
 let⟨a0,a1,b0,b1⟩:=E _ (dB hk);rwa[(held_of E S π (lV m) [] (lF m) hp (λi hi=>hS i (pm.mem_iff.mpr hi)) (λx y x0 x1 y0 y1 h=>?_) _ _ a0 a1 b0 b1 (n6 E π (lV m) [] (lF m) hp k (O.1.mem_iff.mpr (cg.mpr hk)))).mpr hg];rw[lN x0 x1,lN y0 y1] at h;rw[h]
theorem WayR.pth {en:Int}(E:ke m sp)(m16:m<=16)(ht:∀i∈tk,i<sp.length)(b0:0<=be)(b1:be<m)(hh:Held sp tk be en){p:zP}(h:WayR sp tk be en p):Pth sp tk be en p:=by
 let⟨k,h1,h2⟩:=h;have key:∀j,j<=k->WI m sp tk be (itW sp tk be j)/\Clo sp tk (λ_=>False) (itW sp tk be j):=by
  intro j
  induction j with
  | zero=>intro _;rwa[qw b0 b1]
  | succ j ih =>
   intro hj;let⟨I,C⟩:=ih ⋯;let⟨a,b,_⟩:=turn_ok E m16 ht I C (left_of ht hh I C (h2 j ⋯));rwa[a,b]
 rwa[((key k (ay _)).1.pth en p h1).1]
theorem Pth.len {en:Int}{p:zP}(E:ke m sp)(b0:0<=be)(b1:be<m)(h:Pth sp tk be en p):p.length+1<=m:=by
 have:=nc h.met (k:=lV m) λx hx=>by
  have key:∀x:Int,0<=x->x<m->x∈lV m:=λx x0 x1=>by
   unfold lV;rwa[bc.mpr ⟨x.toNat,cg.mpr ↥2,Int.toNat_of_nonneg x0⟩]
  rcases bh.mp hx with rfl | hx
  ·rwa[key _ b0 b1]
  ·let⟨s,hs,rfl⟩:=bc.mp hx
   have t:=mI E (h.inn s hs).2.1;rwa[key _ t.1 t.2]
 rw[bE,aa,lF] at this;rwa[this]
end HN
def memD (H:Hp)(ds:zM):ae->Bool
 | .ref q=>@decide (∃es,IsD H (.ref q) (.tup es)/\sx es ds=true) (jw _)
 | _=>false
theorem memD_ref {es:zM}{q:ai}(h:IsD H (.ref q) (.tup es)):memD H ds (.ref q)=sx es ds:=by
 unfold memD;cases e:sx es ds with
 | true=>rwa[@tS _ (jw _) ⟨es,h,e⟩]
 | false =>
  rwa[@tU _ (jw _) ?_];rintro⟨es',h',e'⟩;have:=IsD.inj h h';injection this with this
  rw[this,e'] at e;cases e
theorem any_memD {H:Hp}{ds:zM}:∀{xs:zA} {its:zD} {dss:List zM},fZ xs its->dg H xs (dss.map Dt.tup)->its.any (memD H ds)=dss.any λes=>sx es ds
 | _,_,[],r,h=>by
  cases h;cases r;rfl
 | _,_,es::dss,r,h=>by
  cases h with
  | cons h hs =>
   let⟨q,ys,rfl,hq,rq⟩:=h.tup_of;cases r with
   | cons r0 rs =>
    subst r0;rw[gX,gX,memD_ref h,any_memD rs hs]
theorem op_inD (hu:X.A.units+64<cLine):OpR X (cZ .In) (λx y H Q=>∃(ds:zM) (p:ai) (dss:List zM),IsD H x (.tup ds)/\y= .ref p/\IsD H (.ref p) (.tup (dss.map Dt.tup))/\pls ds=true/\(∀es∈dss,pls es=true/\sS es<59)/\Q (.bl (dss.any λes=>sx es ds)) H):=by
 left;let⟨ds,p,dss,ix,rfl,iy,pd,pe,q⟩:=h;cases(ry);let⟨p',xs,e0,hp,rs⟩:=iy.tup_of;cases e0;let⟨its,r,pt,_⟩:=I.tuple (zT hp);rwa[SeqAt.in_tupleAt (memD H ds) (pt) (λw hw=>?_) ⟨.bl _,H,I,rfl,?_⟩]
 ·have hw:w∈its:=by simpa using hw
  let⟨i,hi⟩:=iY hw;have il:i<xs.length:=by rw[r.length];grind
  let⟨w',e1,rw'⟩:=r.get (gE il);rw[hi] at e1;cases e1;let⟨d,hd,dx⟩:=rs.get (gE il);rw[av] at hd;let⟨es,hes,rfl⟩:=aX.mp hd;let⟨p1,p2⟩:=pe es (aZ hes);let⟨q',ys,eq',hq',_⟩:=dx.tup_of;rw[eq'] at dx rw';have rw2 :=rw';subst rw2;rw[memD_ref dx];have key:=eqAt_D (A:=X.A.in1) 60 (by rw[dep];lia) ⋯ I dx ix rw' rx (by rwa[p1]) (by rwa[pd])
  grind [eqD_tup]
 grind [memD,any_memD]
namespace HN
noncomputable def lO (pr:Int)(ps:zI)(s:Stp):zI:=ps.set s.i (ps.getD s.i 0 - pr * s.d)
def rowP (ps:zI)(r:Int×zP):zI:=r.2.foldl (lO r.1) ps
def ownM (sp:zS)(rows:zQ):zI:=rows.foldl rowP (sp.map Sn.w)
theorem ng {pr:Int}:∀(ws:zP) (ps:zI),(ws.foldl (lO pr) ps).length=ps.length
 | [],_=>rfl
 | s::ws,ps=>by
  rw[bS,ng ws];unfold lO;rw[jD]
theorem rows_len:∀(rows:zQ) (ps:zI),(rows.foldl rowP ps).length=ps.length
 | [],_=>rfl
 | r::rows,ps=>by
  rw[bS,rows_len rows];rwa[ng r.2 ps]
def own_len (sp:zS)(rows:zQ):(ownM sp rows).length=sp.length:=by
 unfold ownM;rw[rows_len,aa]
noncomputable def hasS (k:Nat)(d:Int)(ws:zP):Bool:=ws.any λs=>decide (s.i=k) && decide (s.d=d)
def ownV (k:Nat)(acc pr:Int)(ws:zP):Int:=if hasS k (-1) ws=true then (if hasS k 1 ws=true then acc - pr else acc)+pr else (if hasS k 1 ws=true then acc - pr else acc)
def ownS (k:Nat)(acc:Int)(r:Int×zP):Int:=ownV k acc r.1 r.2
theorem hasS_no {k:Nat}{d:Int}:∀{ws:zP},k ∉ ws.map Stp.i->hasS k d ws=false
 | [],_=>rfl
 | s::ws,h=>by
  show(decide (s.i=k) && decide (s.d=d) || hasS k d ws)=false;rw[hasS_no (ws:=ws) ↥1,tU (λz=>h (by rw[cz,z];simp))];rfl
theorem steps_at {k:Nat}{pr:Int}:∀(ws:zP) (ps:zI),k<ps.length->(∀s∈ws,s.d=1\/s.d= -1)->(ws.map Stp.i).Nodup->(ws.foldl (lO pr) ps).getD k 0=ownV k (ps.getD k 0) pr ws
 | [],_,_,_,_=>rfl
 | s::ws,ps,hk,hd,hn=>by
  rw[cz,cy] at hn;rw[bS,steps_at ws _ (by unfold lO;rw[jD];rwa[hk]) (λt ht=>hd t (az _ ht)) hn.2]
  by_cases e:s.i=k
  ·have h0:∀d,hasS k d ws=false:=λd=>hasS_no (by rw[<-e];rwa[hn.1])
   have h1:∀d,hasS k d (s::ws)=decide (s.d=d):=λd=>by
    show(decide (s.i=k) && decide (s.d=d) || hasS k d ws)=_;rw[h0,tS e];simp
   have h2:(lO pr ps s).getD k 0=ps.getD k 0 - pr * s.d:=by
    unfold lO;rw[e,af,fb hk];rfl
   unfold ownV;rw[h0,h0,h1,h1,h2]
   rcases hd s ∅ with d1 | d1
   ·rw[d1];simp
   ·rw[d1];simp
  ·have h1:∀d,hasS k d (s::ws)=hasS k d ws:=λd=>by
    show(decide (s.i=k) && decide (s.d=d) || hasS k d ws)=_;rw[tU e];simp
   have h2:(lO pr ps s).getD k 0=ps.getD k 0:=by
    unfold lO;rw[af,d9 e,<-af]
   unfold ownV;rw[h1,h1,h2]
structure RwOk (n:Nat)(r:Int×zP):Prop where
 inn:qp n r.2
 one:(r.2.map Stp.i).Nodup
 few:r.2.length<=17
 lo: -1000000000000<=r.1
 hi:r.1<=1000000000000
theorem rE {k n:Nat}:∀(rows:zQ) (ps:zI),k<ps.length->(∀r∈rows,RwOk n r)->(rows.foldl rowP ps).getD k 0=rows.foldl (ownS k) (ps.getD k 0)
 | [],_,_,_=>rfl
 | r::rows,ps,hk,h=>by
  have hr:=h r ∅;rw[bS,bS,rE rows _ (by show k<(r.2.foldl (lO r.1) ps).length;rw[ng];rwa[hk]) λt ht=>h t (az _ ht)];congr 1;rwa[steps_at r.2 ps hk (λs hs=>(hr.inn s hs).2) hr.one]
theorem ownS_abs {k n:Nat}:∀(rows:zQ) (a:Int) (m:Nat),a.natAbs<=m->(∀r∈rows,RwOk n r)->(rows.foldl (ownS k) a).natAbs<=m+rows.length * 2000000000000
 | [],_,_,ha,_=>by simpa using ha
 | r::rows,a,m,ha,h=>by
  have hr:=h r ∅;have h1:=hr.lo;have h2:=hr.hi;rw[bS];have step:(ownS k a r).natAbs<=m+2000000000000:=by
   show(ownV k a r.1 r.2).natAbs<=_;unfold ownV;split <;> split <;> lia
  have:=ownS_abs (k:=k) (n:=n) rows (ownS k a r) (m+2000000000000) step λt ht=>h t (az _ ht)
  rw[bE];lia
def wOf (sp:zS)(k:Nat):Int:=match sp[k]? with | some x=>x.w | none=>0
def lOf (sp:zS)(k:Nat):Int:=match sp[k]? with | some x=>x.l | none=>0
def owK (sp:zS)(rows:zQ)(k:Nat):Int:=rows.foldl (ownS k) (wOf sp k)
theorem own_at {k n:Nat}(hk:k<sp.length)(h:∀r∈rows,RwOk n r):(ownM sp rows).getD k 0=owK sp rows k:=by
 unfold ownM owK;rw[rE rows _ (by rw[aa];rwa[hk]) h];congr 1;unfold wOf;rw[af,av,gE hk];rfl
theorem owK_abs {k n:Nat}(hw:∀x∈sp,0<=x.w/\x.w<=1000000000000)(h:∀r∈rows,RwOk n r)(hl:rows.length<=41): -18446744073709551616<owK sp rows k/\owK sp rows k<18446744073709551616:=by
 have:=ownS_abs (k:=k) rows (wOf sp k) 1000000000000 (by
  unfold wOf;cases q:sp[k]? with
  | none=>rwa[bq _]
  | some x =>
   have:=hw x (aZ q);show x.w.natAbs<=_;lia) h
 unfold owK;lia
def pL (sp:zS)(bs:zB)(rows:zQ)(k:Nat):Int:=owK sp rows k * (if owK sp rows k<0 then (‹3›).2 else (‹3›).1) - wOf sp k * lOf sp k
def oT (b:Int)(bs:zB)(rows:zQ):Int:=(rows.map λr=>r.1 * upB b (fh bs r.2) * b).sum
def jN (b:Int)(sp:zS)(bs:zB)(rows:zQ):Int:=oT b bs rows+((aQ sp.length).map (pL sp bs rows)).sum
theorem termL_eq {bs:zB}{k:Nat}(h:(‹3›).1<=(‹3›).2) :
  (if owK sp rows k * (‹3›).2<owK sp rows k * (‹3›).1 then owK sp rows k * (‹3›).2 else owK sp rows k * (‹3›).1) - wOf sp k * lOf sp k=pL sp bs rows k:=by
 congr 1
 by_cases o:owK sp rows k<0
 ·split
  ·rfl
  ·have:=Int.mul_le_mul_of_nonpos_left (Int.le_of_lt o) h
   lia
 ·split
  ·have:=cW h (by cbv:0<=owK sp rows k)
   lia
  ·rfl
theorem div_absW {x:Int}(hb:0<b):(x / b).natAbs<=x.natAbs:=by
 have e:=gF x b;have r0:=cS x (by lia:b≠0);have r1:=cY x hb;generalize x / b=q at e;generalize x % b=r at e r0 r1
 rcases Int.lt_or_le q 0 with hq | hq
 ·have:b * (q+1)<=1 * (q+1):=Int.mul_le_mul_of_nonpos_right ⋯ ⋯
  rw[Int.mul_add] at this;lia
 ·have:1 * q<=b * q:=Int.mul_le_mul_of_nonneg_right ⋯ hq
  lia
theorem sX {bs:zB}:∀{ws:zP},BsU bs->(fh bs ws).natAbs<=ws.length * 10 ^ 60
 | [],_=>bq _
 | s::ws,h=>by
  have ih:=sX (ws:=ws) h;have k:(qo bs s).natAbs<=10 ^ 60:=by
   unfold qo;cases q:bs[s.i]? with
   | none=>rwa[bq _]
   | some p =>
    let⟨a,b,c⟩:=h p (aZ q);have c:p.2<10 ^ 60:=c;show(if s.d=1 then p.1 else -p.2).natAbs<=_;split <;> lia
  have e:fh bs (s::ws)=qo bs s+fh bs ws:=rfl;rw[e,bE,Nat.add_mul];omega
theorem up_abs {bs:zB}{ws:zP}(hb:0<b)(h:BsU bs)(hl:ws.length<=17):(upB b (fh bs ws)).natAbs<=17 * 10 ^ 60:=by
 unfold upB
 grind [Int.natAbs_neg,div_absW,fh,sX,Nat.mul_le_mul_right]
inductive spOwn (vs:zA)(H:Hp)(Q:VK)(_:XK):Prop
 | mk (v:V)(pr:ai)(b m:Int)(sp:zS)(rows:zQ)(_:vs=[v,.ref pr])(_:‹4›)(_:sp.length<=40)(_:IsD H (.ref pr) (.tup (rows.map rowD)))(_:(∀r∈rows,RwOk sp.length r))(_:∀L H',bt H H'->H' L=some (.lst ((ownM sp rows).map V.int))->Q (.ref L) H')
structure WoArgs (H:Hp)(v vb vl:V)(b m:Int)(sp:zS)(bs:zB)(rows:zQ):Prop where
 net:‹4›
 bnd:IsD H vb (pY bs)
 leaf:IsD H vl (my (.price rows))
 b0:0<b
 b61:b<10 ^ 61
 lb:bs.length=sp.length
 few:sp.length<=40
 bu:BsU bs
 ws:∀x∈sp,0<=x.w/\x.w<=1000000000000
 rw':∀r∈rows,RwOk sp.length r
 lr:rows.length<=41
inductive spWorth (vs:zA)(H:Hp)(Q:VK)(_:XK):Prop
 | mk (v vb vl:V)(b m:Int)(sp:zS)(bs:zB)(rows:zQ)(_:vs=[v,vb,vl])(_:WoArgs H v vb vl b m sp bs rows)(_:∀H',bt H H'->Q (.int (jN b sp bs rows)) H')
end HN
noncomputable def kq:zI->Int
 | []=>0
 | [a]=>a
 | a::b::l=>if a<kq (b::l) then a else kq (b::l)
theorem qQ:∀(l:zI),l≠[]->kq l∈l/\∀a∈l,kq l<=a
 | [],h=>tR rfl h
 | [a],_=>⟨by simp[kq],λx hx=>by rw[bf.mp hx];rwa[gW _]⟩
 | a::b::l,_=>by
  let⟨h1,h2⟩:=qQ (b::l) ∅;show(if a<kq (b::l) then a else kq (b::l))∈a::b::l/\∀x∈a::b::l,(if a<kq (b::l) then a else kq (b::l))<=x
  grind
theorem call_min1 (hc:X.calm=true):jy X (.builtin "min") (λxs H Q=>∃(p:ai) (ns:zI),xs=[.ref p]/\SqL X.K H p (ns.map V.int)/\ns≠[]/\Q (.int (kq ns)) H):=by
 norm_cast;let⟨p,ns,rfl,hq,hne,q⟩:=h;let⟨u,rfl,ru⟩:=lZ r;cases(show u=ae.ref p from ru);let⟨its,rv,pl,hz⟩:=I.list hq;have hi:=lE rv;let⟨ys,hx⟩:=hi.allInts.items;have hl':s.heap.IsList p (intItems ys):=hx ▸ pl.isList;have e1:ns=ys.toList.map (·.1):=by
  rw[<-nums_intItems,<-hx];rwa[(show numsOf its.toArray.toList=ns from hi.numsOf).symm]
 have hsz:0<ys.size:=by
  have:0<ns.length:=List.length_pos_iff.mpr hne;rw[e1,aa,cN] at this;rwa[this]
 rwa[min_intList (I.ok.hd hc) hl' hsz λv h' tk hv hk=>?_]
 let⟨t,rfl⟩:=intItems_at hv;let⟨b1,b2⟩:=argBest_lt (numAt ys) (ys.size - 1);let⟨l1,l2⟩:=qQ ns hne;have m1:numAt ys (argBest (λi j=>decide (numAt ys i<numAt ys j)) (ys.size - 1))∈ns:=by
  rw[e1,numAt_eq];rwa[getD_mem (by rw[aa,cN];lia)]
 have m2:numAt ys (argBest (λi j=>decide (numAt ys i<numAt ys j)) (ys.size - 1))=kq ns:=by
  rwa[Int.le_antisymm ?_ (l2 _ m1)];have l3:kq ns∈ys.toList.map (·.1):=by rw[<-e1];rwa[l1]
  let⟨j,hj,e⟩:=mem_getD l3;rw[aa,cN] at hj;rw[<-e,<-numAt_eq];rwa[b2 j ⋯]
 rw[m2];rwa[.int (kq ns),H,I.kept (t':=tk) hk,⟨t,rfl⟩,q]
namespace HN
abbrev Plc:=zB×Lf
def plcL (p:Plc):zB×Dt:=(p.1,my p.2)
def qS (b:Int)(sp:zS)(p:Plc):zZ:=match p.2 with | .price rows=>some (jN b sp p.1 rows) | .ring _=>none
def iT (b:Int)(sp:zS)(ps:List Plc):zI:=ps.filterMap (qS b sp)
def tf (b:Int)(p:Plc):Bool:=rightB b p.1 p.2
def shwD:zI->Dt
 | []=>.tup [.str "none"]
 | a::l=>.tup [.str "wait",.int (kq (a::l))]
structure PlOk (n:Nat)(p:Plc):Prop where
 len:p.1.length=n
 bu:BsU p.1
 inn:LfIn n p.2
 rws:∀rows,p.2= .price rows->rows.length<=41/\∀r∈rows,RwOk n r
def ShAns (b:Int)(sp:zS)(ps:List Plc)(r:V)(H':Hp):Prop:=if ps.all (tf b)=true then IsD H' r (shwD (iT b sp ps)) else r= .non
theorem worths_take {ps:List Plc}(h:i<ps.length):iT b sp (ps.take (i+1))=iT b sp (ps.take i)++(qS b sp ps[i]).toList:=by
 unfold iT;rw[aE,gE h,List.filterMap_append];congr 1
def worths_len (ps:List Plc):(iT b sp ps).length<=ps.length:=List.length_filterMap_le ..
theorem plc_of {v:V}{p:Plc}(h:IsD H v (plcD (plcL p))):∃q vb vl,v= .ref q/\H q=some (.tup [vb,vl])/\IsD H vb (pY p.1)/\IsD H vl (my p.2):=by
 let⟨q,xs,rfl,hq,r⟩:=IsD.tup_of (show IsD H v (.tup [pY p.1,my p.2]) from h);cases r with
 | cons g0 gr=>cases gr with
  | cons g1 gr =>
   cases gr;rwa[q,_,ς,hq,g0,g1]
def wordL:Lf->Str
 | .ring _ => "ring"
 | .price _ => "price"
theorem word_of {v:V}{l:Lf}(h:IsD H v (my l)):∃q x,v= .ref q/\H q=some (.tup [.str (wordL l),x]):=by
 cases l with
 | ring ws =>
  let⟨q,xs,rfl,hq,r⟩:=IsD.tup_of (h);cases r with
  | cons g0 gr=>cases gr with
   | cons g1 gr =>
    cases gr;cases g0;rwa[q,ς,hq]
 | price rows =>
  let⟨q,xs,rfl,hq,r⟩:=IsD.tup_of (h);cases r with
  | cons g0 gr=>cases gr with
   | cons g1 gr =>
    cases gr;cases g0;rwa[q,ς,hq]
theorem lf_right {p:Plc}(h:LfOk b sp p.1 p.2):tf b p=true:=by
 let⟨bs,lf⟩:=p;cases lf with
 | ring ws=>rwa[h.2]
 | price rows=>rwa[gm.mpr λr hr=>(h.2 r hr).2.1]
theorem lf_plok {p:Plc}(hl:p.1.length=sp.length)(hu:BsU p.1)(h:LfOk b sp p.1 p.2):PlOk sp.length p:=by
 let⟨bs,lf⟩:=p;rwa[hl,hu,?_,?_]
 ·cases lf with
  | ring ws=>rwa[h.1.inn]
  | price rows=>rwa[aU h.1 ↥0,λr hr=>(h.2 r hr).1.inn]
 ·intro rows e
  subst e;rwa[aU h.1 ↥0,λr hr=>?_];have q:=h.2 r hr;rwa[q.1.inn,q.1.one,q.1.few,q.2.2.1,q.2.2.2]
def nV (f:Nat->Int):Nat->Int
 | 0=>0
 | n+1=>nV f n+f n
theorem l7 (f:Nat->Int):∀n,((aQ n).map f).sum=nV f n
 | 0=>rfl
 | n+1=>by
  rw[kZ,au,jC,l7 f n]
  grind [nV]
theorem oP (f g:Nat->Int):∀n,nV (λk=>f k+g k) n=nV f n+nV g n
 | 0=>rfl
 | n+1=>by
  show nV (λk=>f k+g k) n+(f n+g n)=(nV f n+f n)+(nV g n+g n);rw[oP f g n];lia
theorem qu (c:Int)(f:Nat->Int):∀n,nV (λk=>c * f k) n=c * nV f n
 | 0=>(Int.mul_zero c).symm
 | n+1=>by
  show nV (λk=>c * f k) n+c * f n=c * (nV f n+f n);rw[qu c f n,Int.mul_add]
theorem sumN_le {f g:Nat->Int}:∀n,(∀k,k<n->f k<=g k)->nV f n<=nV g n
 | 0,_=>gW _
 | n+1,h=>by
  have h1:=sumN_le n λk hk=>h k ⋯
  have h2:=h n (by (constructor <;> lia));show nV f n+f n<=nV g n+g n;lia
theorem kJ {f g:Nat->Int}:∀n,(∀k,k<n->f k=g k)->nV f n=nV g n
 | 0,_=>rfl
 | n+1,h=>by
  show nV f n+f n=nV g n+g n;rw[kJ n λk hk=>h k ⋯,h n (by (constructor <;> lia))]
theorem sumN_none {i:Nat}{c:Int}{y:Nat->Int}:∀n,n<=i->nV (λk=>(if i=k then c else 0) * y k) n=0
 | 0,_=>rfl
 | n+1,h=>by
  show nV (λk=>(if i=k then c else 0) * y k) n+(if i=n then c else 0) * y n=0;rw[sumN_none n ⋯,tP ⋯,jo];rfl
theorem sumN_one {i:Nat}{c:Int}{y:Nat->Int}:∀n,i<n->nV (λk=>(if i=k then c else 0) * y k) n=c * y i
 | 0,h=>tR h ↥2
 | n+1,h=>by
  show nV (λk=>(if i=k then c else 0) * y k) n+(if i=n then c else 0) * y n=c * y i
  by_cases e:i=n
  ·subst e
   rw[sumN_none i (ay _),tQ rfl,gj]
  ·rw[sumN_one n ⋯,tP e,jo,Int.add_zero]
theorem sumN_list {α:Type}(f:α->Int)(xs:List α):∀n,n<=xs.length->((xs.take n).map f).sum=nV (λk=>match xs[k]? with | some x=>f x | none=>0) n
 | 0,_=>rfl
 | n+1,h=>by
  rw[aE,au,jC,sumN_list f xs n ⋯]
  grind [nV,gE]
def sg (k:Nat):zP->Int
 | []=>0
 | s::ws=>(if s.i=k then s.d else 0)+sg k ws
def alg (y:Nat->Int):zP->Int
 | []=>0
 | s::ws=>s.d * y s.i+alg y ws
theorem fold_sg {k:Nat}{pr:Int}:∀(ws:zP) (ps:zI),k<ps.length->(ws.foldl (lO pr) ps).getD k 0=ps.getD k 0 - pr * sg k ws
 | [],ps,_=>by show ps.getD k 0=ps.getD k 0 - pr * 0;rw[Int.mul_zero,Int.sub_zero]
 | s::ws,ps,hk=>by
  rw[bS,fold_sg ws _ (by unfold lO;rw[jD];rwa[hk])];show _=ps.getD k 0 - pr * ((if s.i=k then s.d else 0)+sg k ws);rw[Int.mul_add]
  by_cases e:s.i=k
  ·have h2:(lO pr ps s).getD k 0=ps.getD k 0 - pr * s.d:=by
    unfold lO;rw[e,af,fb hk];rfl
   rw[h2,tQ e];lia
  ·have h2:(lO pr ps s).getD k 0=ps.getD k 0:=by
    unfold lO;rw[af,d9 e,<-af]
   rw[h2,tP e,Int.mul_zero];simp
def sgR (k:Nat):zQ->Int
 | []=>0
 | r::rows=>r.1 * sg k r.2+sgR k rows
theorem rows_sg {k:Nat}:∀(rows:zQ) (ps:zI),k<ps.length->(rows.foldl rowP ps).getD k 0=ps.getD k 0 - sgR k rows
 | [],ps,_=>by show ps.getD k 0=ps.getD k 0 - 0;simp
 | r::rows,ps,hk=>by
  rw[bS,rows_sg rows _ (by show k<(r.2.foldl (lO r.1) ps).length;rw[ng];rwa[hk])];show(r.2.foldl (lO r.1) ps).getD k 0 - sgR k rows=ps.getD k 0 - (r.1 * sg k r.2+sgR k rows);rw[fold_sg r.2 ps hk];lia
theorem owK_sg {k n:Nat}(hk:k<sp.length)(h:∀r∈rows,RwOk n r):owK sp rows k=wOf sp k - sgR k rows:=by
 rw[<-own_at hk h];unfold ownM;rw[rows_sg rows _ (by rw[aa];rwa[hk])];congr 1;unfold wOf;rw[af,av,gE hk];rfl
theorem sum_sg {y:Nat->Int}{n:Nat}:∀(ws:zP),(∀s∈ws,s.i<n)->nV (λk=>sg k ws * y k) n=alg y ws
 | [],_=>by
  show nV (λk=>0 * y k) n=0;rw[kJ (g:=λ_=>0 * 0) n λk _=>by cbv,qu 0 (λ_=>0) n,jo]
 | s::ws,h=>by
  show nV (λk=>((if s.i=k then s.d else 0)+sg k ws) * y k) n=s.d * y s.i+alg y ws;rw[kJ n λk _=>Int.add_mul ..,oP,sumN_one n (h s ∅),sum_sg ws λt ht=>h t (az _ ht)]
def algR (y:Nat->Int):zQ->Int
 | []=>0
 | r::rows=>r.1 * alg y r.2+algR y rows
theorem sum_sgR {y:Nat->Int}{n:Nat}:∀(rows:zQ),(∀r∈rows,∀s∈r.2,s.i<n)->nV (λk=>sgR k rows * y k) n=algR y rows
 | [],_=>by
  show nV (λk=>0 * y k) n=0;rw[kJ (g:=λ_=>0 * 0) n λk _=>by rw[jo,jo],qu 0 (λ_=>0) n,jo]
 | r::rows,h=>by
  show nV (λk=>(r.1 * sg k r.2+sgR k rows) * y k) n=r.1 * alg y r.2+algR y rows;rw[kJ (g:=λk=>r.1 * (sg k r.2 * y k)+sgR k rows * y k) n λk _=>by rw[Int.add_mul,Int.mul_assoc],oP,qu,sum_sg r.2 (h r ∅),sum_sgR rows λt ht=>h t (az _ ht)]
def iW (b:Int)(ts:zI)(sp:zS)(k:Nat):Int:=match sp[k]? with | some x=>x.l+fq b ts x | none=>0
def InB (y:Nat->Int)(bs:zB):Prop:=∀k,k<bs.length->(‹3›).1<=y k/\y k<=(‹3›).2
theorem lay_in (hb:0<b)(hf:gM b ts sp=true):InB (iW b ts sp) (sp.map λx=>(x.l,x.o)):=λk hk=>by
 rw[aa] at hk;have e:(sp.map λx=>(x.l,x.o)).getD k (0,0)=(sp[k].l,sp[k].o):=by
  cbv
 have e2:iW b ts sp k=sp[k].l+fq b ts sp[k]:=by
  unfold iW
  cbv
 have h0:0<=fq b ts sp[k]:=by rwa[cS _ ⋯]
 grind [fq,gM,j4,iP,aY,brk]
def inB_one {y:Nat->Int}{bs:zB}{k:Nat}{a:Int}(h:InB y bs)(ha:y k<=a):InB y (kF bs k a):=λj hj=>by
 rw[rV] at hj;have hh:=h j hj;unfold kF;rw[af]
 by_cases e:k=j
 ·subst e
  rw[fb hj];rwa[hh.1,ha]
 ·rw[d9 e,<-af]
  rwa[hh]
def inB_other {y:Nat->Int}{bs:zB}{k:Nat}{a:Int}(h:InB y bs)(ha:a+1<=y k):InB y (de bs k a):=λj hj=>by
 rw[nI] at hj;have hh:=h j hj;unfold de;rw[af]
 by_cases e:k=j
 ·subst e
  rw[fb hj];rwa[ha,hh.2]
 ·rw[d9 e,<-af]
  rwa[hh]
theorem in_leaf {y:Nat->Int}:∀(t:Tq) (bs:zB),InB y bs->∃p∈lvs t bs,InB y p.1
 | .leaf d,bs,h=>⟨(bs,d),bf.mpr rfl,h⟩
 | .cut k a t1 t2,bs,h=>by
  rcases Int.lt_or_le a (y k) with q | q
  ·let⟨p,hp,hh⟩:=in_leaf t2 (de bs k a) (inB_other h ⋯)
   rwa[p,bj.mpr (.inr hp),hh]
  ·let⟨p,hp,hh⟩:=in_leaf t1 (kF bs k a) (inB_one h q)
   rwa[p,bj.mpr (.inl hp),hh]
theorem alg_way {b:Int}{ts:zI}{sp:zS}:∀(ws:zP) (x z:Int),qp sp.length ws->p8 sp x ws z->∃Z,alg (iW b ts sp) ws=tm ts z - tm ts x+b * Z
 | [],x,z,_,h=>by
  have h:x=z:=h;subst h;rwa[0,by show(0:Int)=_;cbv]
 | s::ws,x,z,hw,h=>by
  let⟨h1,h2⟩:=h;let⟨Z,hZ⟩:=alg_way (b:=b) (ts:=ts) ws _ z (λt ht=>hw t (az _ ht)) h2;let⟨hs,hd⟩:=hw s ∅;let⟨i,d⟩:=s;have hs:i<sp.length:=hs;have hd:d=1\/d= -1:=hd;have e2:iW b ts sp i=sp[i].l+fq b ts sp[i]:=by
   unfold iW
   cbv
  have hm:=gF (tm ts sp[i].g - tm ts sp[i].s - sp[i].l) b;show ∃Z,d * iW b ts sp i+alg (iW b ts sp) ws=_;rw[hZ,e2];unfold fq;rw[mJ hs] at *;rw[oE hs] at h1;unfold frm at h1;unfold too at *;generalize (tm ts sp[i].g - tm ts sp[i].s - sp[i].l) / b=q at hm;generalize (tm ts sp[i].g - tm ts sp[i].s - sp[i].l) % b=r at hm ⊢
  rcases hd with rfl | rfl
  ·rw[tQ rfl] at h1 ⊢
   subst h1;rwa[Z - q,⋯]
  ·rw[tP ↥0] at h1 ⊢
   subst h1;rwa[Z+q,⋯]
theorem alg_lo {y:Nat->Int}{bs:zB}(h:InB y bs):∀(ws:zP),qp bs.length ws->fh bs ws<=alg y ws/\alg y ws<=iA bs ws
 | [],_=>⟨gW _,gW _⟩
 | s::ws,hw=>by
  let⟨i1,i2⟩:=alg_lo h ws λt ht=>hw t (az _ ht)
  let⟨hs,hd⟩:=hw s ∅;let⟨b1,b2⟩:=h s.i hs;have e:bs.getD s.i (0,0)=bs[s.i]:=by rw[af,gE hs];rfl
  rw[e] at b1 b2;have e1:fh bs (s::ws)=qo bs s+fh bs ws:=rfl;have e2:iA bs (s::ws)=k6 bs s+iA bs ws:=rfl;have f1:qo bs s=if s.d=1 then bs[s.i].1 else -bs[s.i].2:=by unfold qo;rw[gE hs]
  have f2:k6 bs s=if s.d=1 then bs[s.i].2 else -bs[s.i].1:=by unfold k6;rw[gE hs]
  rw[e1,e2,f1,f2];show _<=s.d * y s.i+alg y ws/\s.d * y s.i+alg y ws<=_
  rcases hd with d1 | d1
  ·rw[d1,tQ rfl,tQ rfl];lia
  ·rw[d1,tP ↥0,tP ↥0];lia
theorem ring_in {bs:zB}{ws:zP}(hb:0<b)(hl:bs.length=sp.length)(h:InB (iW b ts sp) bs)(hr:Rg sp ws) :
  ∃Z,alg (iW b ts sp) ws=b * Z/\upB b (fh bs ws)<=Z/\Z<=iA bs ws / b:=by
 let⟨x,hx⟩:=hr.rnd;let⟨Z,hZ⟩:=alg_way (b:=b) (ts:=ts) ws x x hr.inn hx;let⟨l1,l2⟩:=alg_lo h ws (by rw[hl];rwa[hr.inn]);have e:alg (iW b ts sp) ws=b * Z:=by cbv
 rw[e] at l1 l2;rwa[Z,e,?_,?_]
 ·unfold upB
  have: -Z<= -fh bs ws / b:=by
   rw[Int.le_ediv_iff_mul_le hb,Int.neg_mul,Int.mul_comm Z b];cbv
  lia
 ·rw[Int.le_ediv_iff_mul_le hb,Int.mul_comm Z b];rwa[l2]
theorem qr:cp b ts sp=nV (λk=>wOf sp k * iW b ts sp k - wOf sp k * lOf sp k) sp.length:=by
 unfold cp;have:=sumN_list (λx:Sn=>x.w * fq b ts x) sp sp.length (ay _);rw[aG] at this;rw[this];rwa[kJ _ λk hk=>?_]
 unfold wOf iW lOf;rw[gE hk];show sp[k].w * fq b ts sp[k]=sp[k].w * (sp[k].l+fq b ts sp[k]) - sp[k].w * sp[k].l;rw[Int.mul_add];lia
theorem rows_in {b:Int}{ts:zI}{sp:zS}{bs:zB}(hb:0<b)(hl:bs.length=sp.length)(h:InB (iW b ts sp) bs):∀(rows:zQ),(∀r∈rows,RowOk b sp bs r)->algR (iW b ts sp) rows=oT b bs rows
 | [],_=>rfl
 | r::rows,hr=>by
  let⟨h1,h2,_⟩:=hr r ∅;let⟨Z,e,z1,z2⟩:=ring_in hb hl h h1;have h2:=tV h2;have ez:Z=upB b (fh bs r.2):=by lia
  have ih:=rows_in hb hl h rows λt ht=>hr t (az _ ht)
  have e3:oT b bs (r::rows)=r.1 * upB b (fh bs r.2) * b+oT b bs rows:=rfl;show r.1 * alg (iW b ts sp) r.2+algR (iW b ts sp) rows=_;rw[e3,ih,e,ez,Int.mul_comm b,Int.mul_assoc]
theorem weak {bs:zB}(hb:0<b)(hl:bs.length=sp.length)(h:InB (iW b ts sp) bs)(hr:∀r∈rows,RowOk b sp bs r):jN b sp bs rows<=cp b ts sp:=by
 have rw1:∀r∈rows,RwOk sp.length r:=λr hh=>by
  have q:=hr r hh;rwa[q.1.inn,q.1.one,q.1.few,q.2.2.1,q.2.2.2]
 have e1:=rows_in hb hl h rows hr;have e2:=sum_sgR (y:=iW b ts sp) rows λr hh s hs=>((rw1 r hh).inn s hs).1
 unfold jN;rw[l7,<-e1,<-e2,qr,<-oP];rwa[sumN_le _ λk hk=>?_]
 unfold pL;have eo:=owK_sg hk rw1;let⟨h1,h2⟩:=h k ↥2;have key:owK sp rows k * (if owK sp rows k<0 then (‹3›).2 else (‹3›).1)<=owK sp rows k * iW b ts sp k:=by
  split
  ·rename_i hn
   rwa[Int.mul_le_mul_of_nonpos_left (Int.le_of_lt hn) h2]
  ·rwa[cW h1 ↥2]
 have ex:owK sp rows k * iW b ts sp k=wOf sp k * iW b ts sp k - sgR k rows * iW b ts sp k:=by rw[eo,Int.sub_mul]
 lia
theorem shown_weak {t:Tq}{ps:List Plc}(hb:0<b)(hf:gM b ts sp=true)(lv:lvs t (sp.map λx=>(x.l,x.o))=ps.map plcL)(ok:∀p∈ps,p.1.length=sp.length/\LfOk b sp p.1 p.2) :
  iT b sp ps≠[]/\kq (iT b sp ps)<=cp b ts sp:=by
 let⟨q,hq,hin⟩:=in_leaf (y:=iW b ts sp) t _ (lay_in hb hf);rw[lv] at hq;let⟨p,hp,rfl⟩:=bc.mp hq;let⟨o1,o2⟩:=ok p hp;have hin:InB (iW b ts sp) p.1:=hin;let⟨bs,lf⟩:=p;cases lf with
 | ring ws =>
  let⟨r1,r2⟩:=o2;let⟨Z,_,z1,z2⟩:=ring_in hb o1 hin r1;have r2:=tV r2
  lia
 | price rows =>
  have hw:=weak hb o1 hin o2.2;have hm:jN b sp bs rows∈iT b sp ps:=List.mem_filterMap.mpr ⟨_,hp,rfl⟩
  grind [iT,Int.le_trans,qQ]
noncomputable def longer (b:Nat)(tt:zY):zY:=tt.flatMap λt=>(aQ b).map λc:Nat=>t++[(0:Int)+(c:Nat)]
def allT (b:Nat):Nat->zY
 | 0=>[[]]
 | n+1=>longer b (allT b n)
theorem Held.more {tk':zC}{x y:Int}(h:∀i∈tk,i∈tk')(k:Held sp tk x y):Held sp tk' x y:=λS hS=>k S λi hi=>hS i (h i hi)
theorem Held.trans {x y:Int}(a:Held sp tk x y)(c:Held sp tk y z):Held sp tk x z:=λS hS h=>c S hS (a S hS h)
theorem Held.symm {x y:Int}(a:Held sp tk x y):Held sp tk y x:=λS hS h=>dv λn=>a (λz=>¬S z) (λi hi=>not_congr (hS i hi)) n h
inductive Acy (sp:zS):zC->Prop where
 | nil:Acy sp []
 | snoc {tk:zC} {k:Nat} (h:Acy sp tk) (hk:k<sp.length) (s:∃S:Int->Prop,(∀i∈tk,S (sAt sp i).s↔S (sAt sp i).g)/\S (sAt sp k).s/\¬S (sAt sp k).g):Acy sp (tk++[k])
theorem Acy.pot (h:Acy sp tk)(y:Nat->Int):∃π:Int->Int,∀i∈tk,π (sAt sp i).g - π (sAt sp i).s=y i:=by
 induction h with
 | nil=>rwa[λ_=>0,↥1]
 | snoc h hk s ih =>
  rename_i tk k;let⟨π,hπ⟩:=ih;let⟨S,hS,s1,s2⟩:=s;have dec:∀x,Decidable (S x):=λx=>jw _
  rwa[λx=>if S x then π x else π x+(y k - (π (sAt sp k).g - π (sAt sp k).s)),λi hi=>?_]
  grind
theorem Acy.nodup (h:Acy sp tk):tk.Nodup/\∀i∈tk,i<sp.length:=by
 induction h with
 | nil=>cbv
 | snoc h hk s ih =>
  grind
structure Pots (sp:zS)(tk:zC):Prop where
 nodup:tk.Nodup/\∀i∈tk,i<sp.length
 pot:∀y:Nat->Int,∃π:Int->Int,∀i∈tk,π (sAt sp i).g - π (sAt sp i).s=y i
def Acy.pots (h:Acy sp tk):Pots sp tk:=⟨h.nodup,h.pot⟩
def Pots.perm (h:Pots sp tk)(p:l.Perm tk):Pots sp l:=
 ⟨⟨p.nodup_iff.mpr h.nodup.1,λi hi=>h.nodup.2 i (p.mem_iff.mp hi)⟩,λy=>let ⟨π,k⟩:=h.pot y;⟨π,λi hi=>k i (p.mem_iff.mp hi)⟩⟩
structure Gd (m:Nat)(sp:zS)(gs:zI)(tk:zC):Prop where
 len:gs.length=m
 eq:∀i∈tk,tm gs (sAt sp i).s=tm gs (sAt sp i).g
 held:∀x y:Int,0<=x->x<m->0<=y->y<m->tm gs x=tm gs y->Held sp tk x y
 acy:Acy sp tk
 cnt:Cnt m gs tk.length
theorem Gd.start (m:Nat)(sp:zS):Gd m sp (lV m) []:=by
 rwa[lF m,↥2,λx y x0 x1 y0 y1 e=>?_,.nil,Cnt.start m];rw[lN x0 x1,lN y0 y1] at e;subst e;rwa[λS _ h=>h]
theorem Gd.step (E:ke m sp)(g:Gd m sp gs tk)(hi:i<sp.length):Gd m sp (fG sp (gs,tk) i).1 (fG sp (gs,tk) i).2:=by
 let⟨s0,s1,g0,g1⟩:=E _ (dB hi);unfold fG
 by_cases e:tm gs (sAt sp i).s=tm gs (sAt sp i).g
 ·cbv
 ·rw[tP e]
  have l:=g.len;have old :=g.acy.nodup.2;have jt:∀x:Int,0<=x->x<m->tm (jI gs (tm gs (sAt sp i).s) (tm gs (sAt sp i).g)) x=if tm gs x=tm gs (sAt sp i).g then tm gs (sAt sp i).s else tm gs x:=λx x0 x1=>lM x0 ↥2
  have up:∀{x y:Int},Held sp tk x y->Held sp (tk++[i]) x y:=λh=>h.more ↥1
  have ed:Held sp (tk++[i]) (sAt sp i).s (sAt sp i).g:=λS hS h=>(hS i (bo _ (bf.mpr rfl))).mp h
  rwa[by grind [jI,kR],λj hj=>?_,λx y x0 x1 y0 y1 h=>?_,.snoc g.acy hi ⟨λx=>tm gs x=tm gs (sAt sp i).s,λj hj=>by show tm gs _=_↔tm gs _=_;rw[g.eq j hj],rfl,λz=>e z.symm⟩,?_]
  ·rcases bj.mp hj with hj | hj
   ·let⟨a0,a1,b0,b1⟩:=E _ (dB (old j hj))
    rw[jt _ a0 a1,jt _ b0 b1,g.eq j hj]
   cbv
  ·rw[jt x x0 x1,jt y y0 y1] at h
   by_cases c1:tm gs x=tm gs (sAt sp i).g
   ·by_cases c2:tm gs y=tm gs (sAt sp i).g
    ·rwa[up (g.held x y x0 x1 y0 y1 (c1.trans c2.symm))]
    ·rw[tQ c1,tP c2] at h
     rwa[(up (g.held x _ x0 x1 g0 g1 c1)).trans (ed.symm.trans (up (g.held _ y s0 s1 y0 y1 h)))]
   ·by_cases c2:tm gs y=tm gs (sAt sp i).g
    ·rw[tP c1,tQ c2] at h
     rwa[(up (g.held x _ x0 x1 s0 s1 h)).trans (ed.trans (up (g.held _ y g0 g1 y0 y1 c2.symm)))]
    ·rw[tP c1,tP c2] at h
     rwa[up (g.held x y x0 x1 y0 y1 h)]
  ·rw[ax]
   rwa[g.cnt.join (tm_mem s0 ↥2) (tm_mem g0 ↥2) e]
theorem Gd.fold {m:Nat}{sp:zS}(E:ke m sp):∀(π:zC) (gs:zI) (tk:zC),(∀i∈π,i<sp.length)->Gd m sp gs tk->Gd m sp (π.foldl (fG sp) (gs,tk)).1 (π.foldl (fG sp) (gs,tk)).2
 | [],_,_,_,g=>g
 | i::π,gs,tk,h,g=>by
  rw[bS];rwa[Gd.fold E π _ _ (λj hj=>h j (az _ hj)) (g.step E (h i ∅))]
theorem Gd.few (g:Gd m sp gs tk)(h:0<m):tk.length<m:=by
 let⟨D,_,mem,l⟩:=g.cnt;have:D≠[]:=λz=>by
  have h0 :=tm_mem (gW 0) (by rw[g.len];cbv)
  cbv
 grind [List.length_pos_iff]
theorem along_tm {sp:zS}{gs:zI}{tk:zC}(h:∀i∈tk,i<sp.length/\tm gs (sAt sp i).s=tm gs (sAt sp i).g):∀(ws:zP) (x y:Int),(∀s∈ws,s.i∈tk/\(s.d=1\/s.d= -1))->p8 sp x ws y->tm gs x=tm gs y
 | [],x,y,_,a=>by cases a;rfl
 | s::ws,x,y,hw,a=>by
  let⟨a1,a2⟩:=a;have ih:=along_tm h ws _ y (λt ht=>hw t (az _ ht)) a2;let⟨h1,h2⟩:=hw s ∅;let⟨h3,h4⟩:=h s.i h1;let⟨f1,f2,f3,f4⟩:=sr h3;let⟨i,d⟩:=s
  lia
structure RK (sp:zS)(tk:zC)(q:Nat×zP):Prop where
 lt:q.1<sp.length
 out:q.1 ∉ tk
 way:∃p,q.2=⟨q.1,1⟩::p/\Pth sp tk (sAt sp q.1).g (sAt sp q.1).s p
theorem RK.rg {m:Int}{q:Nat×zP}(N:iC b m sp)(h:RK sp tk q)(hl:tk.length<=15):Rg sp q.2:=by
 let⟨p,e,P⟩:=h.way;have hk:=h.lt;have eA:sAt sp q.1=sp[q.1]:=by unfold sAt;cbv
 rw[e];rwa[Bk.ring hk (N.all _ (aY hk)).ne ⟨λs hs=>(P.inn s hs).2,by rw[<-eA];exact P.alo,P.one,λs hs z=>?_⟩ ?_]
 ·have z:s.i=q.1:=by lia
  rwa[h.out (z ▸ (P.inn s hs).1)]
 ·have hn:((p.map Stp.i).map λn:Nat=>(n:Int)).Nodup:=by
   rw[bM,cU];rwa[(bM.mp P.one).imp ⋯]
  have:=nc hn λx hx=>by
   let⟨i,hi,rfl⟩:=bc.mp hx;let⟨s,hs,rfl⟩:=bc.mp hi;rwa[bc.mpr ⟨_,(P.inn s hs).1,rfl⟩]
  grind
structure OB (sp:zS)(tk:zC)(bs:zB):Prop where
 len:bs.length=sp.length
 out:∀k,k<sp.length->k ∉ tk->‹3›=((sAt sp k).l,(sAt sp k).o)
 lo:∀k,k<sp.length->(sAt sp k).l<=(‹3›).1/\(‹3›).1<=(‹3›).2/\(‹3›).2<=(sAt sp k).o
theorem ja {bs:zB}{k:Nat}{x:Int×Int}(hj:j<bs.length):(bs.set k x).getD j (0,0)=if k=j then x else bs.getD j (0,0):=by
 grind
theorem OB.one {bs:zB}{k:Nat}{a:Int}(h:OB sp tk bs)(hk:k∈tk)(hn:k<sp.length)(h1:(‹3›).1<=a)(h2:a<(‹3›).2):OB sp tk (kF bs k a):=by
 have l:=h.len;rwa[by rw[rV];rwa[l],λj hj hjn=>?_,λj hj=>?_]
 ·unfold kF
  rw[ja ↥2,tP (λ(z:k=j)=>hjn (z ▸ hk))];rwa[h.out j hj hjn]
 ·unfold kF
  rw[ja ↥2];have:=h.lo j hj
  by_cases e:k=j
  ·rw[tQ e]
   subst e;rwa[this.1,h1,by show a<=_;lia]
  ·rw[tP e];rwa[this]
theorem OB.other {bs:zB}{k:Nat}{a:Int}(h:OB sp tk bs)(hk:k∈tk)(hn:k<sp.length)(h1:(‹3›).1<=a)(h2:a<(‹3›).2):OB sp tk (de bs k a):=by
 have l:=h.len;rwa[by rw[nI];rwa[l],λj hj hjn=>?_,λj hj=>?_]
 ·unfold de
  rw[ja ↥2,tP (λ(z:k=j)=>hjn (z ▸ hk))];rwa[h.out j hj hjn]
 ·unfold de
  rw[ja ↥2];have:=h.lo j hj
  lia
def OB.first {m:Int}(N:iC b m sp)(tk:zC):OB sp tk (sp.map λx=>(x.l,x.o)):=by
 have e:∀k,k<sp.length->(sp.map λx=>(x.l,x.o)).getD k (0,0)=((sAt sp k).l,(sAt sp k).o):=λk hk=>by
  rw[af,av,jr hk];rfl
 rwa[aa ..,λk hk _=>e k hk,λk hk=>?_];rw[e k hk];have:=N.all _ (dB hk);rwa[gW _,this.lo,gW _]
def og (sp:zS)(rg:zK):zQ:=rg.map λq=>((sAt sp q.1).w,q.2)
structure Fx (b:Int)(tk:zC)(rg:zK)(bs:zB):Prop where
 fix:∀k∈tk,(‹3›).1=(‹3›).2
 alive:∀q∈rg,jV b bs q.2=false
structure FF (m:Int)(sp:zS)(tk:zC)(rg:zK):Prop where
 acy:Pots sp tk
 few:(tk.length:Int)<m
 rk:∀q∈rg,RK sp tk q
 all:∀k,k<sp.length->k ∉ tk->∃r,(k,r)∈rg
 one:(rg.map (·.1)).Nodup
theorem low_fix {bs:zB}{tk:zC}(h:∀k∈tk,k<bs.length/\(‹3›).1=(‹3›).2):∀(p:zP),(∀s∈p,s.i∈tk/\(s.d=1\/s.d= -1))->fh bs p=alg (λk=>(‹3›).1) p/\iA bs p=alg (λk=>(‹3›).1) p
 | [],_=>⟨rfl,rfl⟩
 | s::p,hp=>by
  let⟨i1,i2⟩:=low_fix h p λt ht=>hp t (az _ ht)
  let⟨h1,h2⟩:=hp s ∅;let⟨h3,h4⟩:=h s.i h1;have e:bs.getD s.i (0,0)=bs[s.i]:=by rw[af,gE h3];rfl
  have e1:fh bs (s::p)=qo bs s+fh bs p:=rfl;have e2:iA bs (s::p)=k6 bs s+iA bs p:=rfl;have f1:qo bs s=if s.d=1 then bs[s.i].1 else -bs[s.i].2:=by unfold qo;rw[gE h3]
  have f2:k6 bs s=if s.d=1 then bs[s.i].2 else -bs[s.i].1:=by unfold k6;rw[gE h3]
  rw[e] at h4;rw[e1,e2,f1,f2,i1,i2];show _=s.d * (bs.getD s.i (0,0)).1+_/\_=s.d * (bs.getD s.i (0,0)).1+_;rw[e]
  rcases h2 with d1 | d1
  ·rw[d1,tQ rfl,tQ rfl];cbv
  ·rw[d1,tP ↥0,tP ↥0];cbv
theorem qX {bs:zB}{q:Nat×zP}(h:RK sp tk q)(O:OB sp tk bs)(fix:∀k∈tk,(‹3›).1=(‹3›).2) :
  ∃p,q.2=⟨q.1,1⟩::p/\Pth sp tk (sAt sp q.1).g (sAt sp q.1).s p/\fh bs q.2=(sAt sp q.1).l+alg (λk=>(‹3›).1) p/\iA bs q.2=(sAt sp q.1).o+alg (λk=>(‹3›).1) p:=by
 obtain ⟨p,e,P⟩:=h.way;have hk:=h.lt;have l:=O.len;obtain ⟨a1,a2⟩:=low_fix (fun k hk'=>by
  obtain ⟨s,hs,rfl⟩:=bc.mp hk';exact ⟨by rw[l];rwa[(P.inn s hs).2.1],fix _ (P.inn s hs).1⟩) p fun s hs=>⟨↥1,(P.inn s hs).2.2⟩
 have eb:=O.out q.1 hk h.out;rwa[p,e,P,?_,?_]
 ·rw[e,show fh bs (⟨q.1,1⟩::p)=qo bs ⟨q.1,1⟩+fh bs p from rfl]
  unfold qo
  cbv
 ·rw[e,show iA bs (⟨q.1,1⟩::p)=k6 bs ⟨q.1,1⟩+iA bs p from rfl]
  unfold k6
  cbv
theorem beat_one {hi:Int}(hb:0<b)(h:upB b lo<=hi / b)(hw:hi - lo<b):upB b lo=hi / b/\lo<=b * upB b lo/\b * upB b lo<=hi:=by
 have e:=gF (-lo) b;have r0:=cS (-lo) (by lia:b≠0);have e':=gF hi b;have r0':=cS hi (by lia:b≠0);unfold upB at h ⊢;generalize -lo / b=u at *;generalize hi / b=v at *;have m1:b * -u= -(b * u):=Int.mul_neg ..;have h2:b * -u<=b * v:=cW h ⋯
 rcases Int.lt_or_le (-u) v with c | c
 ·have:b * (-u+1)<=b * v:=cW ⋯ ⋯
  lia
 ·lia
theorem fx_sure {m:Int}{rg:zK}{bs:zB}(N:iC b m sp)(f:FF m sp tk rg)(O:OB sp tk bs)(x:Fx b tk rg bs):LfOk b sp bs (.price (og sp rg)):=by
 have m2:=N.m2;have fw:=f.few;have tl:tk.length<=15:=by lia
 rwa[?_,λr hr=>?_]
 ·show(rg.map _).length<=40
  rw[aa];have hn:((rg.map (·.1)).map λn:Nat=>(n:Int)).Nodup:=by
   rw[bM,cU];rwa[(bM.mp f.one).imp ⋯]
  have:=nc hn λz hz=>by
   let⟨i,hi,rfl⟩:=bc.mp hz;let⟨q,hq,rfl⟩:=bc.mp hi;rwa[bc.mpr ⟨_,cg.mpr (f.rk q hq).lt,rfl⟩]
  rw[aa,aa,aa,bL] at this;have:=N.few;lia
 ·let⟨q,hq,rfl⟩:=bc.mp hr
  have K:=f.rk q hq;have sn:=N.all _ (dB K.lt);rwa[K.rg N tl,?_,by have:=sn.w0;lia,sn.w1];let⟨p,e,P,e1,e2⟩:=qX K O x.fix;have al:=x.alive q hq;have al:¬(upB b (fh bs q.2) > iA bs q.2 / b):=by
   grind [jV]
  show decide (upB b (fh bs q.2)=iA bs q.2 / b)=true;rwa[tS (beat_one (by have:=N.b1;lia) ⋯ ?_).1];have:=sn.ob
  lia
theorem alg_pot {sp:zS}{tk:zC}{y:Nat->Int}{π:Int->Int}(ht:∀i∈tk,i<sp.length)(hπ:∀i∈tk,π (sAt sp i).g - π (sAt sp i).s=y i):∀(p:zP) (u z:Int),(∀s∈p,s.i∈tk/\(s.d=1\/s.d= -1))->p8 sp u p z->alg y p=π z - π u
 | [],u,z,_,a=>by
  subst a;show 0=_;cbv
 | s::p,u,z,hp,a=>by
  let⟨a1,a2⟩:=a;have ih:=alg_pot ht hπ p _ z ↥2 a2;let⟨h1,h2⟩:=hp s ∅;let⟨f1,f2,f3,f4⟩:=sr (ht s.i h1);let⟨i,d⟩:=s
  grind [alg]
noncomputable def potT (b:Int)(π:Int->Int)(m:Nat):zI:=(aQ m).map λx:Nat=>(π (x:Nat) - π 0) % b
theorem potT_at {π:Int->Int}{x:Int}(h0:0<=x)(h1:x<m):tm (potT b π m) x=(π x - π 0) % b:=by
 let⟨n,rfl⟩:=cu h0;unfold tm potT;rw[cw,af,av,gc ↥2];rfl
theorem wait_pot {π:Int->Int}{x:Sn}(s0:0<=x.s)(s1:x.s<m)(g0:0<=x.g)(g1:x.g<m):fq b (potT b π m) x=(π x.g - π x.s - x.l) % b:=by
 grind [fq,potT_at,qN]
theorem rest_in {Y l Z:Int}(h0:l<=Y)(h1:Y<l+b):(Y - b * Z - l) % b=Y - l:=by
 rw[show Y - b * Z - l=(Y - l)+b * (-Z) by lia,Int.add_mul_emod_self_left];rwa[Int.emod_eq_of_lt ↥2 ⋯]
theorem sg_no {k:Nat}:∀(p:zP),(∀s∈p,s.i≠k)->sg k p=0
 | [],_=>rfl
 | s::p,h=>by
  show(if s.i=k then s.d else 0)+sg k p=0;rw[tP (h s ∅),sg_no p ↥1];rfl
theorem sgR_no {sp:zS}{tk:zC}{k:Nat}(hk:k ∉ tk):∀(rg:zK),(∀q∈rg,RK sp tk q)->k ∉ rg.map (·.1)->sgR k (og sp rg)=0
 | [],_,_=>rfl
 | q::rg,h,hn=>by
  have ih:=sgR_no hk rg (λt ht=>h t (az _ ht)) ↥1;show(sAt sp q.1).w * sg k q.2+sgR k (og sp rg)=0;let⟨p,e,P⟩:=(h q ∅).way;rw[ih,e,sg_no _ λs hs=>?_,Int.mul_zero];rfl
  rcases bh.mp hs with rfl | hs
  ·grind
  ·rwa[λz=>hk (z ▸ (P.inn s hs).1)]
theorem sgR_own {sp:zS}{tk:zC}{k:Nat}(hk:k ∉ tk):∀(rg:zK),(∀q∈rg,RK sp tk q)->(rg.map (·.1)).Nodup->k∈rg.map (·.1)->sgR k (og sp rg)=(sAt sp k).w
 | [],_,_,h=>tR h ∅
 | q::rg,h,hn,hm=>by
  rw[cz,cy] at hn;show(sAt sp q.1).w * sg k q.2+sgR k (og sp rg)=_;let⟨p,e,P⟩:=(h q ∅).way;have hp:∀s∈p,s.i≠k:=λs hs z=>hk (z ▸ (P.inn s hs).1)
  have e2:sg k q.2=if q.1=k then 1 else 0:=by
   rw[e];show(if q.1=k then 1 else 0)+sg k p=_;rw[sg_no p hp,Int.add_zero]
  rw[e2]
  by_cases c:q.1=k
  ·rw[tQ c,c,Int.mul_one,sgR_no hk rg ↥1 (c ▸ hn.1),Int.add_zero]
  ·rw[tP c,Int.mul_zero,gj]
   rwa[sgR_own hk rg ↥1 hn.2 ↥1]
theorem mem_allT {b:Nat}:∀(n:Nat) (ts:zI),ts.length=n->(∀x∈ts,0<=x/\x<(b:Int))->ts∈allT b n
 | 0,ts,h,_=>by rw[fT.mp h];rwa[bf.mpr rfl]
 | n+1,ts,h,hx=>by
  have hne:ts≠[]:=λz=>by rw[z] at h;cases h
  have e:=k3 hne;have hd:ts.dropLast∈allT b n:=mem_allT n _ (by rw[List.length_dropLast];cbv) λx h'=>hx x ((List.dropLast_sublist _).subset h')
  let⟨l0,l1⟩:=hx _ (List.getLast_mem hne);let⟨c,hc⟩:=cu l0;rwa[List.mem_flatMap.mpr ⟨ts.dropLast,hd,bc.mpr ⟨c,cg.mpr ↥2,?_⟩⟩];rw[gj];show ts.dropLast++[((c:Nat):Int)]=ts;rw[show((c:Nat):Int)=ts.getLast hne from hc.symm];rwa[e]
theorem tight {m:Int}{rg:zK}{bs:zB}(N:iC b m sp)(f:FF m sp tk rg)(O:OB sp tk bs)(x:Fx b tk rg bs) :
  ∃ts∈allT b.toNat m.toNat,ts.getD 0 0=0/\gM b ts sp=true/\cp b ts sp=jN b sp bs (og sp rg):=by
 have hb:0<b:=by have:=N.b1;lia
 have m1:=N.m1;let⟨ht1,ht2⟩:=f.acy.nodup;let⟨π,hπ⟩:=f.acy.pot λk=>(‹3›).1
 have eW:∀k,k<sp.length->fq b (potT b π m.toNat) (sAt sp k)=(π (sAt sp k).g - π (sAt sp k).s - (sAt sp k).l) % b:=λk hk=>by
  have s:=N.all _ (dB hk);rwa[wait_pot s.s0 (by have:=s.s1;lia) s.g0 (by have:=s.g1;lia)]
 have key:∀k,k<sp.length->∃Y,fq b (potT b π m.toNat) (sAt sp k)=Y - (sAt sp k).l/\(‹3›).1<=Y/\Y<=(‹3›).2:=λk hk=>by
  have s:=N.all _ (dB hk);have lo:=O.lo k hk
  by_cases c:k∈tk
  ·have e:=hπ k c
   rwa[(‹3›).1,?_,gW _,↥2];rw[eW k hk,show π (sAt sp k).g - π (sAt sp k).s - (sAt sp k).l=(‹3›).1 - b * 0 - (sAt sp k).l by cbv];rwa[rest_in lo.1 (by have:=s.ob;lia)]
  ·let⟨r,hr⟩:=f.all k hk c
   have K:=f.rk _ hr;let⟨p,e,P,e1,e2⟩:=qX K O x.fix;have al:=x.alive _ hr;have al:¬(upB b (fh bs r) > iA bs r / b):=by grind [jV]
   obtain ⟨_,z1,z2⟩:=beat_one hb (lo:=fh bs r) (hi:=iA bs r) ⋯ (by
    have:=s.ob
    lia)
   have ea:=alg_pot ht2 hπ p _ _ (λs hs=>⟨(P.inn s hs).1,(P.inn s hs).2.2⟩) P.alo;have e1:fh bs r=(sAt sp k).l+alg (λk=>(‹3›).1) p:=e1;have e2:iA bs r=(sAt sp k).o+alg (λk=>(‹3›).1) p:=e2;have eo:=O.out k hk c;rwa[b * upB b (fh bs r) - alg (λk=>(‹3›).1) p,?_,⋯,⋯];have hs:=s.ob;have:=rest_in (b:=b) (Y:=b * upB b (fh bs r) - alg (λk=>(‹3›).1) p) (l:=(sAt sp k).l) (Z:=upB b (fh bs r)) ⋯ ⋯
   grind
 have lay:∀k,k<sp.length->iW b (potT b π m.toNat) sp k=(sAt sp k).l+fq b (potT b π m.toNat) (sAt sp k):=λk hk=>by
  unfold iW;rw[jr hk]
 have hin:InB (iW b (potT b π m.toNat) sp) bs:=λk hk=>by
  have hk:k<sp.length:=by rw[<-O.len];rwa[hk]
  grind
 rwa[potT b π m.toNat,mem_allT _ _ (by unfold potT;cbv) (λz hz=>?_),?_,?_,?_]
 ·let⟨i,_,rfl⟩:=bc.mp hz
  have h0:=cS (π i - π 0) (by lia:b≠0);have h1:=cY (π i - π 0) hb
  lia
 ·have:=potT_at (b:=b) (π:=π) (m:=m.toNat) (gW 0) ⋯
  rw[Int.sub_self] at this;rwa[this]
 ·unfold gM
  rw[j4,iP];intro s hs;let⟨k,hk,rfl⟩:=List.getElem_of_mem hs;have eA:sAt sp k=sp[k]:=by unfold sAt;cbv
  let⟨Y,e,y1,y2⟩:=key k hk;have:=(O.lo k hk).2.2;unfold brk
  lia
 ·have rok :=(fx_sure N f O x).2
  have rw1:∀r∈og sp rg,RwOk sp.length r:=λr hh=>by
   have q:=rok r hh;rwa[q.1.inn,q.1.one,q.1.few,q.2.2.1,q.2.2.2]
  have e1:=rows_in hb O.len hin _ rok;have e2:=sum_sgR (y:=iW b (potT b π m.toNat) sp) (og sp rg) λr hh s hs=>((rw1 r hh).inn s hs).1
  unfold jN;rw[l7,<-e1,<-e2,qr,<-oP];rwa[kJ _ λk hk=>?_]
  unfold pL;have eo:=owK_sg hk rw1;have ew:wOf sp k=(sAt sp k).w:=by unfold wOf;rw[jr hk]
  have keyo:owK sp (og sp rg) k * (if owK sp (og sp rg) k<0 then (‹3›).2 else (‹3›).1)=owK sp (og sp rg) k * iW b (potT b π m.toNat) sp k:=by
   by_cases c:k∈tk
   ·have fx:=x.fix k c
    grind
   ·have z:owK sp (og sp rg) k=0:=by
     let⟨r,hr⟩:=f.all k hk c;rw[eo,ew,sgR_own c rg f.rk f.one ↥1,Int.sub_self]
    lia
  grind
def jM (m:Nat)(sp:zS)(l:zC):Prop:=pZ m sp (l.map λ(i:Nat)=>(i:Int))/\∃π,Ordd sp π/\l.Perm (kT sp m π).2
theorem rW:∀{l k:zC},l.map (λ(i:Nat)=>(i:Int))=k.map (λ(i:Nat)=>(i:Int))->l=k
 | [],[],_=>rfl
 | [],_::_,h=>by cases h
 | _::_,[],h=>by cases h
 | a::l,b::k,h=>by
  rw[cz,cz] at h;injection h with h1 h2
  have h1:a=b:=by lia
  rw[h1,rW h2]
theorem jM.one {k:zC}(a:jM m sp l)(b:jM m sp k):l=k:=rW (pZ.one a.1 b.1)
def jM.gd (E:ke m sp)(a:jM m sp l):∃gs tk,Gd m sp gs tk/\l.Perm tk/\∀i,i<sp.length->tm gs (sAt sp i).s=tm gs (sAt sp i).g:=by
 let⟨_,π,O,pm⟩:=a;rwa[(kT sp m π).1,(kT sp m π).2,Gd.fold E π _ _ (λi hi=>O.lt hi) (Gd.start m sp),pm,λi hi=>?_];rwa[n6 E π (lV m) [] (lF _) (λi hi=>O.lt hi) i (O.1.mem_iff.mpr (cg.mpr hi))]
theorem jM.pots (E:ke m sp)(a:jM m sp l):Pots sp l:=by
 let⟨gs,tk,g,p,_⟩:=a.gd E;rwa[g.acy.pots.perm p]
theorem jM.few (E:ke m sp)(h:0<m)(a:jM m sp l):l.length<m:=by
 let⟨gs,tk,g,p,_⟩:=a.gd E;rw[p.length_eq];rwa[g.few h]
theorem jM.held (E:ke m sp)(a:jM m sp l){k:Nat}(hk:k<sp.length):Held sp l (sAt sp k).s (sAt sp k).g:=by
 let⟨gs,tk,g,p,me⟩:=a.gd E;let⟨s0,s1,g0,g1⟩:=E _ (dB hk);rwa[(g.held _ _ s0 s1 g0 g1 (me k hk)).more λi hi=>p.mem_iff.mpr hi]
noncomputable def rL (sp:zS)(tk:zC):zC:=(aQ sp.length).filter λk=>!(decide (k∈tk))
structure FR (m:Int)(sp:zS)(l:zC)(rg:zK):Prop where
 fr:jM m.toNat sp l
 rk:∀q∈rg,RK sp l q
 ks:rg.map (·.1)=rL sp l
theorem FR.ff {m:Int}{rg:zK}(N:iC b m sp)(a:FR m sp l rg):FF m sp l rg:=by
 have m1:=N.m1;rwa[a.fr.pots N.ends,by have:=a.fr.few N.ends ⋯;cbv,a.rk,λk hk hn=>?_,?_]
 ·have:k∈rg.map (·.1):=by
   rw[a.ks];rwa[cQ.mpr ⟨cg.mpr hk,↥2⟩]
  cbv
 ·rw[a.ks]
  rwa[List.nodup_range.filter _]
def wayQ (q:Nat×zP):Dt:=oH q.2
noncomputable def jh (k:Nat)(q:Nat×zP):Bool:=decide (k∈q.2.map Stp.i)
def Tb.lamT {T:ai}(h:LamT T lp lq H)(e:Tb T H H'):kh H H':=Tb.tupK (LamT.tbl h) e
inductive qA (T:ai)(lp:Pos)(lq:Str)(vs:zA)(H:Hp)(Q:VK)(_:XK):Prop
 | mk (v:V)(b m:Int)(sp:zS)(_:vs=[v])(_:‹4›)(_:iC b m sp)(_:LamT T lp lq H)(_:∀(L:ai) (rl:zA) (l:zC) (rg:zK) (H':Hp),Tb T H H'->LamT T lp lq H'->H L=none->H' L=some (.lst rl)->dg H' rl (rg.map wayQ)->FR m sp l rg->Q (.ref L) H')
inductive spOverR (vs:zA)(H:Hp)(Q:VK)(_:XK):Prop
 | mk (u:ai)(k:Nat)(rl:zA)(rg:zK)(_:vs=[.ref u,.int (k:Nat)])(_:H u=some (.lst rl))(_:dg H rl (rg.map wayQ))(_:rg.length<=40)(_:(∀q∈rg,q.2.length<=1000))(_:∀(L:ai) (rl':zA) (H':Hp),bt H H'->H L=none->H' L=some (.lst rl')->dg H' rl' ((rg.filter (jh k)).map wayQ)->Q (.ref L) H')
structure CsD (H:Hp)(c:ai)(bs:zB)(rs:zK):Prop where
 ex:∃vb u rl,H c=some (.tup [vb,.ref u])/\IsD H vb (pY bs)/\H u=some (.lst rl)/\dg H rl (rs.map wayQ)
theorem CsD.same {c:ai}{bs:zB}(a:CsD H c bs rs)(e:bt H H'):CsD H' c bs rs:=by
 let⟨vb,u,rl,h1,h2,h3,h4⟩:=a.ex;rwa[vb,u,rl,e _ _ h1,h2.same e,e _ _ h3,h4.same e]
inductive spMid (vs:zA)(H:Hp)(Q:VK)(_:XK):Prop
 | mk (c:ai)(k:Nat)(bs:zB)(rs:zK)(_:vs=[.ref c,.int (k:Nat)])(_:CsD H c bs rs)(_:k<bs.length)(_:Q (.int (((‹3›).1+(‹3›).2) / 2)) H)
inductive rh (vs:zA)(H:Hp)(Q:VK)(_:XK):Prop
 | mk (v:V)(c:ai)(b m:Int)(sp:zS)(bs:zB)(rs:zK)(_:vs=[v,.ref c])(_:‹4›)(_:0<b)(_:b<10 ^ 61)(_:CsD H c bs rs)(_:rs.length<=40)(_:(∀q∈rs,qp bs.length q.2))(_:∀r H',bt H H'->((r= .non/\∀q∈rs,jV b bs q.2=false)\/∃q∈rs,IsD H' r (my (.ring q.2))/\jV b bs q.2=true)->Q r H')
inductive Spr (sp:zS):zP->Prop where
 | nil:Spr sp []
 | snoc {S:zP} {s:Stp} (h:Spr sp S) (n:eV sp s≠lG sp s) (o:∀t∈S,eV sp s≠eV sp t/\eV sp s≠lG sp t):Spr sp (S++[s])
structure SI (m:Nat)(sp:zS)(tk:zC)(ex:Int->Prop)(R A:zI)(S:zP):Prop where
 rng:∀r∈R,0<=r/\r<(m:Int)
 nd:R.Nodup
 ahd:∀a∈A,a∈R
 inn:∀s∈S,s.i∈tk/\(s.d=1\/s.d= -1)/\lG sp s∈R/\eV sp s∈R
 spr:Spr sp S
 len:S.length<=R.length
 clo:∀z∈R,z ∉ A->¬ex z->∀s∈dM sp tk z,s.i∈S.map Stp.i
 con:∀π:Int->Int,(∀s∈S,π (lG sp s)=π (eV sp s))->∀a c,(a∈A\/ex a)->(c∈A\/ex c)->π a=π c
def exN:Int->Prop:=λ_=>False
section
variable {R A:zI}
theorem SI.start:SI m sp tk exN [] [] []:=
 ⟨λ_ h=>(by cases h),List.nodup_nil,λ_ h=>(by cases h),λ_ h=>(by cases h),.nil,ay _,λ_ h=>(by cases h),λ_ _ a c h=>(by rcases h with h | h;cases h;cases h)⟩
theorem SI.root {x:Int}(h:SI m sp tk exN R [] S)(hx:x ∉ R)(x0:0<=x)(x1:x<(m:Int)):SI m sp tk exN (R++[x]) [x] S:=by
 rwa[λr hr=>?_,mV.mpr ⟨h.nd,∅,λa ha c hc e=>?_⟩,↥1,λs hs=>?_,h.spr,by rw[ax];rwa[Nat.le_succ_of_le h.len],λz hz hn ex=>?_,λπ _ a c ha hc=>?_]
 ·rcases bj.mp hr with z | z
  ·rwa[h.rng r z]
  cbv
 ·cbv
 ·let⟨a,b,c,d⟩:=h.inn s hs
  cbv
 ·rcases bj.mp hz with y | y
  ·rwa[h.clo z y ∅ ex]
  lia
 ·rcases ha with ha | ha
  ·rcases hc with hc | hc
   ·cbv
   ·rwa[hc.elim]
  ·rwa[ha.elim]
theorem SI.pop {x:Int}(h:SI m sp tk exN R (A++[x]) S):SI m sp tk (· =x) R A S/\x∈R:=by
 rwa[⟨h.rng,h.nd,λa ha=>h.ahd a ↥1,h.inn,h.spr,h.len,λz hz hn ex=>?_,λπ hπ a c ha hc=>?_⟩,h.ahd x ∅]
 ·apply h.clo z hz (λy=>?_) id
  cbv
 ·have up:∀a:Int,(a∈A\/a=x)->a∈A++[x]\/exN a:=↥1
  rwa[h.con π hπ a c (up a ha) (up c hc)]
def pM {x:Int}{s:Stp}(h:s∈dM sp tk x):(s.i∈tk/\(s.d=1\/s.d= -1))/\lG sp s=x:=
 ⟨rX (cQ.mp h).1,tV (cQ.mp h).2⟩
theorem qZ {x:Int}(h:i∈tk)(hd:d=1\/d= -1)(e:lG sp ⟨i,d⟩=x):(⟨i,d⟩:Stp)∈dM sp tk x:=by
 rwa[cQ.mpr ⟨?_,tS e⟩]
 grind [stF,cn,bc,bo]
theorem SI.add {x:Int}{s:Stp}(E:ke m sp)(ht:∀i∈tk,i<sp.length)(h:SI m sp tk (· =x) R A S)(hx:x∈R)(hs:s∈dM sp tk x)(hn:eV sp s ∉ R):SI m sp tk (· =x) (R++[eV sp s]) (A++[eV sp s]) (S++[s]):=by
 let⟨⟨h1,h2⟩,h3⟩:=pM hs;rwa[λr hr=>?_,mV.mpr ⟨h.nd,∅,λa ha c hc e=>?_⟩,λa ha=>?_,λt hT=>?_,.snoc h.spr (λz=>hn ↥2) (λt hT=>⟨λz=>hn (by rw[z];rwa[(h.inn t hT).2.2.2]),λz=>hn (by rw[z];rwa[(h.inn t hT).2.2.1])⟩),by rw[ax,ax];rwa[Nat.succ_le_succ h.len],λz hz hz' ex t hT=>?_,λπ hπ=>?_]
 ·rcases bj.mp hr with z | z
  ·rwa[h.rng r z]
  ·rw[bf.mp z];rwa[mI E (ht _ h1)]
 ·cbv
 ·rcases bj.mp ha with z | z
  ·rwa[cn _ (h.ahd a z)]
  grind
 ·rcases bj.mp hT with z | z
  ·let⟨a,b,c,d⟩:=h.inn t z
   cbv
  grind
 ·rw[au]
  rwa[cn _ ?_]
  rcases bj.mp hz with y | y
  ·rwa[h.clo z y ↥1 ex t hT]
  cbv
 ·have old:∀t∈S,π (lG sp t)=π (eV sp t):=↥1
  have one:∀a:Int,(a∈A++[eV sp s]\/a=x)->π a=π x:=λa ha=>by
   rcases ha with ha | ha
   ·rcases bj.mp ha with z | z
    ·rwa[h.con π old a x (.inl z) (.inr rfl)]
    grind
   ·rw[ha]
  grind
theorem SI.has {x:Int}{s:Stp}(P:Pots sp tk)(ne:∀i∈tk,(sAt sp i).s≠(sAt sp i).g)(h:SI m sp tk (· =x) R A S)(hs:s∈dM sp tk x)(hn:eV sp s∈R):s.i∈S.map Stp.i:=by
 let⟨⟨h1,h2⟩,h3⟩:=pM hs;have lt:=P.nodup.2 _ h1;let⟨f1,f2,f3,f4⟩:=sr lt;have hne:=ne _ h1;let⟨i,d⟩:=s
 by_cases c:eV sp ⟨i,d⟩∈A
 ·apply dv λno=>?_
  let⟨π,hπ⟩:=P.pot λk=>if k=i then 1 else 0
  have e:=h.con π (fun t hT=>by
   let⟨t1,t2,_⟩:=h.inn t hT;have e:=hπ _ t1;rw[tP (λz=>no (bc.mpr ⟨t,hT,z⟩))] at e;let⟨g1,g2,g3,g4⟩:=sr (P.nodup.2 _ t1);let⟨j,dj⟩:=t
   lia) _ x (.inl c) (.inr rfl)
  grind
 ·rcases h2 with rfl | rfl
  ·rw[f2] at hn c
   rwa[h.clo _ hn c (λz=>hne ↥2) ⟨i,-1⟩ (qZ h1 (.inr rfl) f3)]
  ·rw[f4] at hn c
   rwa[h.clo _ hn c (λz=>hne ↥2) ⟨i,1⟩ (qZ h1 (.inl rfl) f1)]
theorem SI.done {x:Int}(h:SI m sp tk (· =x) R A S)(a:∀s∈dM sp tk x,s.i∈S.map Stp.i):SI m sp tk exN R A S:=by
 rwa[h.rng,h.nd,h.ahd,h.inn,h.spr,h.len,λz hz hn _=>?_,λπ hπ a c ha hc=>h.con π hπ a c (.inl (ha.elim id cR)) (.inl (hc.elim id cR))]
 by_cases e:z=x
 ·rw[e];rwa[a]
 ·rwa[h.clo z hz hn e]
theorem SI.few (h:SI m sp tk exN R A S):R.length<=m:=by
 have:=nc (k:=(aQ m).map λi:Nat=>(i:Int)) h.nd λx hx=>by
  let⟨a,b⟩:=h.rng x hx;rwa[bc.mpr ⟨x.toNat,cg.mpr ↥2,⋯⟩]
 rw[aa,bL] at this;rwa[this]
theorem SI.fewX {x:Int}(h:SI m sp tk (· =x) R A S):R.length<=m:=by
 have:=nc (k:=(aQ m).map λi:Nat=>i) h.nd λx hx=>by
  let⟨a,b⟩:=h.rng x hx;rwa[bc.mpr ⟨x.toNat,cg.mpr ↥2,⋯⟩]
 cbv
end
structure SprOk (m:Nat)(sp:zS)(tk:zC)(S:zP):Prop where
 spr:Spr sp S
 inn:∀s∈S,s.i∈tk/\(s.d=1\/s.d= -1)
 all:∀i∈tk,i∈S.map Stp.i
 len:S.length<=m
theorem SI.ok {R:zI}(E:ke m sp)(ht:∀i∈tk,i<sp.length)(h:SI m sp tk exN R [] S)(a:∀x:Nat,x<m->(x:Int)∈R):SprOk m sp tk S:=by
 rwa[h.spr,λs hs=>⟨(h.inn s hs).1,(h.inn s hs).2.1⟩,λi hi=>?_,aU h.len h.few];let⟨s0,s1,_,_⟩:=E _ (dB (ht i hi));let⟨f1,_⟩:=sr (ht i hi);have:=a (sAt sp i).s.toNat ↥2;rw[show(((sAt sp i).s.toNat:Nat):Int)=(sAt sp i).s by lia] at this;rwa[h.clo _ this ∅ id ⟨i,1⟩ (qZ hi (.inl rfl) f1)]
def setT (sp:zS)(y:Nat->Int)(ts:zI)(s:Stp):zI:=ts.set (eV sp s).toNat (tm ts (lG sp s)+s.d * y s.i)
def lg (sp:zS)(y:Nat->Int)(m:Nat)(S:zP):zI:=S.foldl (setT sp y) (bB m 0)
theorem nU {sp:zS}{y:Nat->Int}{m:Nat}:∀(S:zP) (ts:zI),(S.foldl (setT sp y) ts).length=ts.length
 | [],_=>rfl
 | s::S,ts=>by
  rw[bS,nU (m:=m) S];rwa[jD]
theorem tm_set {x v:Int}(x0:0<=x)(x1:x<ts.length)(z0:0<=z):tm (ts.set x.toNat v) z=if z=x then v else tm ts z:=by
 unfold tm;rw[af,af]
 by_cases e:z=x
 ·rw[tQ e,e,fb ↥2];rfl
 ·rw[tP e,d9 ⋯]
theorem tooS_sAt0 {s:Stp}(h:s.i<sp.length):too (sAt sp s.i) s.d=eV sp s/\frm (sAt sp s.i) s.d=lG sp s:=by
 have e:sAt sp s.i=sp[s.i]:=by unfold sAt;rw[af,gE h];rfl
 rw[e];rwa[(mJ h).symm,(oE h).symm]
theorem timesS_ok {y:Nat->Int}(E:ke m sp)(h:Spr sp S):(∀s∈S,s.i<sp.length)->∀s∈S,tm (lg sp y m S) (eV sp s)=tm (lg sp y m S) (lG sp s)+s.d * y s.i:=by
 induction h with
 | nil=>simp
 | snoc h n o ih =>
  rename_i S s;intro hl t ht;have hl':∀t∈S,t.i<sp.length:=↥2
  have frm_rng:∀t:Stp,t.i<sp.length->0<=lG sp t:=λt h'=>by
   have e:=(tooS_sAt0 h').2;let⟨a,b,c,d⟩:=E _ (dB h')
   grind [frm]
  have e:lg sp y m (S++[s])=setT sp y (lg sp y m S) s:=by unfold lg;cbv
  have hs :=hl s ∅;let⟨x0,x1⟩:=mI E hs;have len:(lg sp y m S).length=m:=by unfold lg;rw[nU (m:=m),gz]
  rw[e];unfold setT
  rcases bj.mp ht with z | z
  ·rw[tm_set x0 ↥2 (mI E (hl' t z)).1,tm_set x0 ↥2 (frm_rng t (hl' t z)),tP (λq=>(o t z).1 q.symm),tP (λq=>(o t z).2 q.symm)]
   rwa[ih hl' t z]
  ·rw[bf.mp z,tm_set x0 ↥2 x0,tm_set x0 ↥2 (frm_rng s hs),tQ rfl,tP (λq=>n q.symm)]
theorem SprOk.pot (E:ke m sp)(ht:∀i∈tk,i<sp.length)(h:SprOk m sp tk S)(y:Nat->Int):∀i∈tk,tm (lg sp y m S) (sAt sp i).g - tm (lg sp y m S) (sAt sp i).s=y i:=λi hi=>by
 let⟨s,hs,rfl⟩:=bc.mp (h.all i hi);have e:=timesS_ok (y:=y) E h.spr (λt hT=>ht _ (h.inn t hT).1) s hs;let⟨f1,f2,f3,f4⟩:=sr (ht _ hi);have hd:=(h.inn s hs).2;let⟨i,d⟩:=s
 lia
def lowB (bs:zB)(k:Nat):Int:=(‹3›).1
def tabOf (b:Int)(sp:zS)(bs:zB)(m:Nat)(S:zP):zI:=(lg sp (lowB bs) m S).map (· % b)
abbrev Cse:=zB×zK
noncomputable def wdB (bs:zB)(k:Nat):Nat:=((‹3›).2 - (‹3›).1+1).toNat
def prdN:zC->Nat
 | []=>1
 | x::l=>x * prdN l
def gf (bs:zB)(l:zC):Nat:=prdN (l.map (wdB bs))
theorem oW {f g:Nat->Nat}:∀(l:zC),(∀j∈l,f j=g j)->prdN (l.map f)=prdN (l.map g)
 | [],_=>rfl
 | j::l,h=>by
  show f j * _=g j * _;rw[h j ∅,oW l λi hi=>h i (az _ hi)]
theorem tw {f g h:Nat->Nat}{k:Nat}(e:f k=g k+h k):∀(l:zC),l.Nodup->k∈l->(∀j∈l,j≠k->f j=g j/\f j=h j)->prdN (l.map f)=prdN (l.map g)+prdN (l.map h)
 | [],_,hk,_=>tR hk ∅
 | j::l,nd,hk,hh=>by
  rw[cy] at nd;show f j * _=g j * _+h j * _
  by_cases c:j=k
  ·subst c
   have ne:∀i∈l,i≠j:=λi hi z=>nd.1 (z ▸ hi)
   rw[<-oW (f:=f) (g:=g) l λi hi=>(hh i (az _ hi) (ne i hi)).1,<-oW (f:=f) (g:=h) l λi hi=>(hh i (az _ hi) (ne i hi)).2,e,Nat.add_mul]
  ·let⟨a1,a2⟩:=hh j ∅ c
   rw[tw e l nd.2 ((bh.mp hk).resolve_left λz=>c z.symm) λi hi=>hh i (az _ hi),Nat.mul_add,<-a1,<-a2]
theorem prdN_pos {f:Nat->Nat}:∀(l:zC),(∀j∈l,0<f j)->0<prdN (l.map f)
 | [],_=>Nat.one_pos
 | j::l,h=>Nat.mul_pos (h j ∅) (prdN_pos l λi hi=>h i (az _ hi))
theorem jA {bs:zB}(O:OB sp l bs)(hl:∀k∈l,k<sp.length):0<gf bs l:=prdN_pos l λj hj=>by
 have:=O.lo j (hl j hj);unfold wdB;lia
theorem ox {bs:zB}{k:Nat}{a:Int}(O:OB sp l bs)(nd:l.Nodup)(hl:∀k∈l,k<sp.length)(hk:k∈l)(h1:(‹3›).1<=a)(h2:a<(‹3›).2):gf bs l=gf (kF bs k a) l+gf (de bs k a) l:=by
 have hb:=O.len;have hkl:=hl k hk;rwa[tw ?_ l nd hk λj hj hn=>?_]
 ·unfold wdB kF de
  rw[ja ↥2,ja ↥2,tQ rfl,tQ rfl];show _=(a - _+1).toNat+(_ - (a+1)+1).toNat;lia
 ·have hjl:=hl j hj
  unfold wdB kF de;rw[ja ↥2,ja ↥2,tP (cM hn),tP (cM hn)];rwa[rfl,rfl]
theorem mN {sp:zS}:∀(l:zC),(∀k∈l,k<sp.length)->(∀x∈sp,x.l<=x.o)->((gf (sp.map λx=>(x.l,x.o)) l:Nat):Int)=jg sp l
 | [],_,_=>rfl
 | k::l,h,p=>by
  have ih:=mN l (λj hj=>h j (az _ hj)) p;rw[gT];show((wdB _ k * gf _ l):Int)=_
  grind [dB,wdB,oK,sAt,Int.natCast_mul]
structure jQ (b:Int)(sp:zS)(l:zC)(rg:zK)(c:Cse):Prop where
 ob:OB sp l c.1
 sub:∀q∈c.2,q∈rg
 few:c.2.length<=40
 alive:∀q∈rg,q ∉ c.2->jV b c.1 q.2=false
theorem low_set {bs:zB}{k:Nat}{x:Int×Int}:∀(ws:zP),k ∉ ws.map Stp.i->fh (bs.set k x) ws=fh bs ws/\iA (bs.set k x) ws=iA bs ws
 | [],_=>⟨rfl,rfl⟩
 | s::ws,h=>by
  let⟨i1,i2⟩:=low_set (x:=x) ws λz=>h (az _ z)
  have hs:k≠s.i:=λz=>h (by rw[z];simp)
  have e:(bs.set k x)[s.i]? =bs[s.i]?:=d9 hs
  constructor
  ·show qo _ s+fh _ ws=qo _ s+fh _ ws
   rw[i1];congr 1;unfold qo;rw[e]
  ·show k6 _ s+iA _ ws=k6 _ s+iA _ ws
   rw[i2];congr 1;unfold k6;rw[e]
def dead_set {bs:zB}{k:Nat}{x:Int×Int}{q:Nat×zP}(h:jh k q=false):jV b (bs.set k x) q.2=jV b bs q.2:=by
 let⟨a1,a2⟩:=low_set q.2 (of_decide_eq_false h);unfold jV;rw[a1,a2]
theorem jQ.cut {rg:zK}{c:Cse}(C:jQ b sp l rg c)(lrg:rg.length<=40)(hl:∀k∈l,k<sp.length)(al:∀q∈c.2,jV b c.1 q.2=false){k:Nat}{a:Int}(hk:k∈l)(h1:(c.1.getD k (0,0)).1<=a)(h2:a<(c.1.getD k (0,0)).2) :
  jQ b sp l rg (de c.1 k a,rg.filter (jh k))/\jQ b sp l rg (kF c.1 k a,rg.filter (jh k)):=by
 have sub:∀q∈rg.filter (jh k),q∈rg:=↥2
 have few:(rg.filter (jh k)).length<=40:=↥1
 have all:∀q∈rg,jV b c.1 q.2=false:=λq hq=>by
  by_cases z:q∈c.2
  ·rwa[al q z]
  ·rwa[C.alive q hq z]
 have out:∀q∈rg,q ∉ rg.filter (jh k)->jh k q=false:=↥1
 rwa[⟨C.ob.other hk (hl k hk) h1 h2,sub,few,λq hq hn=>(dead_set (out q hq hn)).trans (all q hq)⟩,⟨C.ob.one hk (hl k hk) h1 h2,sub,few,λq hq hn=>(dead_set (out q hq hn)).trans (all q hq)⟩]
theorem dead_none {bs:zB}{ws:zP}(hb:0<b)(hl:bs.length=sp.length)(h:InB (iW b ts sp) bs)(hr:Rg sp ws):jV b bs ws=false:=by
 let⟨Z,_,z1,z2⟩:=ring_in hb hl h hr;unfold jV;rwa[tU ⋯]
theorem key_pot {m:Int}{rg:zK}{bs:zB}(N:iC b m sp)(f:FF m sp tk rg)(O:OB sp tk bs)(x:Fx b tk rg bs){π:Int->Int}(hπ:∀i∈tk,π (sAt sp i).g - π (sAt sp i).s=(bs.getD i (0,0)).1)
  (eW:∀k,k<sp.length->fq b ts (sAt sp k)=(π (sAt sp k).g - π (sAt sp k).s - (sAt sp k).l) % b):∀k,k<sp.length->(‹3›).1<=iW b ts sp k/\iW b ts sp k<=(‹3›).2:=λk hk=>by
 have hb:0<b:=by have:=N.b1;lia
 let⟨ht1,ht2⟩:=f.acy.nodup;have s:=N.all _ (dB hk);have lo:=O.lo k hk;have lay:iW b ts sp k=(sAt sp k).l+fq b ts (sAt sp k):=by unfold iW;rw[jr hk]
 rw[lay];have fin:∀Y,fq b ts (sAt sp k)=Y - (sAt sp k).l->(‹3›).1<=Y->Y<=(‹3›).2->(‹3›).1<=(sAt sp k).l+fq b ts (sAt sp k)/\(sAt sp k).l+fq b ts (sAt sp k)<=(‹3›).2:=λY e y1 y2=>by lia
 by_cases c:k∈tk
 ·have e:=hπ k c
  have fx:=x.fix k c;rwa[fin (‹3›).1 ?_ (gW _) ↥2];rw[eW k hk,show π (sAt sp k).g - π (sAt sp k).s - (sAt sp k).l=(‹3›).1 - b * 0 - (sAt sp k).l by rw[Int.mul_zero];lia];rwa[rest_in lo.1 (by have:=s.ob;lia)]
 ·let⟨r,hr⟩:=f.all k hk c
  have K:=f.rk _ hr;let⟨p,e,P,e1,e2⟩:=qX K O x.fix;have al:=x.alive _ hr;have al:¬(upB b (fh bs r) > iA bs r / b):=by unfold jV at al;simpa using al
  obtain ⟨_,z1,z2⟩:=beat_one hb (lo:=fh bs r) (hi:=iA bs r) ⋯ (by
   have e1:fh bs r=_:=e1;have e2:iA bs r=_:=e2;have:=s.ob;rw[e1,e2];show (sAt sp k).o+_ - ((sAt sp k).l+_)<b;lia)
  have ea:=alg_pot ht2 hπ p _ _ (λs hs=>⟨(P.inn s hs).1,(P.inn s hs).2.2⟩) P.alo;have e1:fh bs r=(sAt sp k).l+alg (λk=>(‹3›).1) p:=e1;have e2:iA bs r=(sAt sp k).o+alg (λk=>(‹3›).1) p:=e2;have ea:alg (λk=>(‹3›).1) p=π (sAt sp k).s - π (sAt sp k).g:=ea;have eo:=O.out k hk c;rw[eo] at fin ⊢;rwa[fin (b * upB b (fh bs r) - alg (λk=>(‹3›).1) p) ?_ (by show(sAt sp k).l<=_;lia) (by show _<=(sAt sp k).o;lia)];rw[eW k hk];have hs:=s.ob;have:=rest_in (b:=b) (Y:=b * upB b (fh bs r) - alg (λk=>(‹3›).1) p) (l:=(sAt sp k).l) (Z:=upB b (fh bs r)) ⋯ ⋯;rw[<-this];congr 1;lia
theorem fits_lay {m:Int}(h:∀k,k<sp.length->iW b ts sp k<=(sAt sp k).o):gM b ts sp=true:=by
 unfold gM;rw[j4,iP];intro s hs;let⟨k,hk,rfl⟩:=List.getElem_of_mem hs;have eA:sAt sp k=sp[k]:=by unfold sAt;cbv
 have:=h k hk;have lay:iW b ts sp k=(sAt sp k).l+fq b ts (sAt sp k):=by unfold iW;rw[jr hk]
 unfold brk
 lia
structure Kp (H H':Hp):Prop where
 tup:kh H H'
 lst:∀q xs,H q=some (.lst xs)->H' q=some (.lst xs)
 frz:∀q o xs,H q=some (.frz o (.lst xs))->H' q=some (.frz o (.lst xs))
def bt.kp (e:bt H H'):Kp H H':=⟨λ_ _ h=>e _ _ h,λ_ _ h=>e _ _ h,λ_ _ _ h=>e _ _ h⟩
theorem Kp.trans (a:Kp H H1)(b:Kp H1 H2):Kp H H2:=⟨λ_ _ h=>b.tup _ _ (a.tup _ _ h),λ_ _ h=>b.lst _ _ (a.lst _ _ h),λ_ _ _ h=>b.frz _ _ _ (a.frz _ _ _ h)⟩
theorem Tb.kp {T:ai}(h:LamT T lp lq H)(e:Tb T H H'):Kp H H':=by
 let⟨ps,hT⟩:=LamT.tbl h;rwa[λq _ h=>e q _ (fj h hT ↥2) h,λq _ h=>e q _ (fj h hT ↥2) h,λq _ _ h=>e q _ (fj h hT ↥2) h]
theorem Kp.upd {x:ai}{fs:List (Str×V)}(h:H x=some (.ins C dx fs)):Kp H (upd H x o):=
 ⟨λq _ hq=>by rw[bw (fj hq h ↥2)];rwa[hq],λq _ hq=>by rw[bw (fj hq h ↥2)];rwa[hq],λq _ _ hq=>by rw[bw (fj hq h ↥2)];rwa[hq]⟩
theorem LamT.ntb {T U:ai}{lp':Pos}{lq':Str}(h:LamT T lp lq H)(hU:LamT U lp' lq' H)(ne:T≠U)(e:Tb U H H'):LamT T lp lq H':=by
 let⟨ps,eU⟩:=LamT.tbl hU;rwa[LamG.stay h (λps e'=>e _ _ ne e') λa o u e'=>e _ _ (fj e' eU ↥2) e']
theorem n5 {T x:ai}{fs:List (Str×V)}(h:LamT T lp lq H)(hx:H x=some (.ins C dx fs)):LamT T lp lq (upd H x o):=LamT.upd h (λp u z=>by cbv) (λps z=>by cbv)
def wayQ_kp {rl:zA}(e:Kp H H')(h:dg H rl (rs.map wayQ)):dg H' rl (rs.map wayQ):=dg.keepP e.tup h (lQ rs λq _=>lR _ _)
def CsD.kp {c:ai}{bs:zB}(a:CsD H c bs rs)(e:Kp H H'):CsD H' c bs rs:=by
 let⟨vb,u,rl,h1,h2,h3,h4⟩:=a.ex;rwa[vb,u,rl,e.tup _ _ h1,IsD.keepP e.tup h2 (lR _ _),e.lst _ _ h3,wayQ_kp e h4]
structure TchD (H:Hp)(tl:ai)(n:Nat)(rg:zK):Prop where
 ex:∃tv,H tl=some (.lst tv)/\tv.length=n/\∀k,k<n->∃u rl,tv[k]? =some (.ref u)/\H u=some (.lst rl)/\dg H rl ((rg.filter (jh k)).map wayQ)
def TchD.kp {tl:ai}{n:Nat}{rg:zK}(a:TchD H tl n rg)(e:Kp H H'):TchD H' tl n rg:=by
 let⟨tv,h1,h2,h3⟩:=a.ex;rwa[tv,e.lst _ _ h1,h2,λk hk=>?_];let⟨u,rl,a1,a2,a3⟩:=h3 k hk;rwa[u,rl,a1,e.lst _ _ a2,wayQ_kp e a3]
structure CutD (H:Hp)(C x:ai)(sp:zS)(l:zC)(rg:zK):Prop where
 ex:∃(dx c0 tl ol:ai) (ord:zC),H x=some (.ins C dx [("first_case",.ref c0),("touched",.ref tl),("order",.ref ol)])/\CsD H c0 (sp.map λz=>(z.l,z.o)) rg/\TchD H tl sp.length rg/\H ol=some (.lst (ord.map λ(i:Nat)=>V.int i))/\ord.Perm l
theorem CutD.same {x:ai}{rg:zK}(a:CutD H C x sp l rg)(e:bt H H'):CutD H' C x sp l rg:=by
 let⟨dx,c0,tl,ol,ord,h1,h2,h3,h4,h5⟩:=a.ex;rwa[dx,c0,tl,ol,ord,e _ _ h1,h2.same e,h3.kp (bt.kp e),e _ _ h4,h5]
structure CsE (Hb H:Hp)(c:ai)(bs:zB)(rs:zK):Prop where
 ex:∃vb u rl,H c=some (.tup [vb,.ref u])/\IsD H vb (pY bs)/\Hb u=some (.lst rl)/\dg Hb rl (rs.map wayQ)
def CsE.dn {Hb:Hp}{c:ai}{bs:zB}(a:CsE Hb H c bs rs)(e:bt Hb H):CsD H c bs rs:=by
 let⟨vb,u,rl,h1,h2,h3,h4⟩:=a.ex;rwa[vb,u,rl,h1,h2,e _ _ h3,h4.same e]
def CsE.keep {Hb:Hp}{c:ai}{bs:zB}(a:CsE Hb H c bs rs)(e:kh H H'):CsE Hb H' c bs rs:=by
 let⟨vb,u,rl,h1,h2,h3,h4⟩:=a.ex;rwa[vb,u,rl,e _ _ h1,IsD.keepP e h2 (lR _ _),h3,h4]
inductive spInitC (T0:ai)(p0:Pos)(q0:Str)(T1:ai)(p1:Pos)(q1:Str)(C:ai)(vs:zA)(H:Hp)(Q:VK)(_:XK):Prop
 | mk (x dx:ai)(v:V)(b m:Int)(sp:zS)(_:vs=[.ref x,v])(_:H x=some (.ins C dx []))(_:‹4›)(_:iC b m sp)(_:LamT T0 p0 q0 H)(_:LamT T1 p1 q1 H)(_:∀(l:zC) (rg:zK) (H':Hp),(∀a o,a≠T0->a≠T1->a≠x->H a=some o->H' a=some o)->Kp H H'->LamT T0 p0 q0 H'->LamT T1 p1 q1 H'->FR m sp l rg->CutD H' C x sp l rg->Q .non H')
inductive spSpanC (C:ai)(vs:zA)(H:Hp)(Q:VK)(_:XK):Prop
 | mk (x c:ai)(sp:zS)(l:zC)(rg rs:zK)(bs:zB)(_:vs=[.ref x,.ref c])(_:CutD H C x sp l rg)(_:CsD H c bs rs)(_:(∀k∈l,k<bs.length))(_:l.length<=40)(_:((∀k∈l,¬((‹3›).1<(‹3›).2))->Q .non H))(_:∀k∈l,(‹3›).1<(‹3›).2->Q (.int (k:Nat)) H)
inductive spSidesC (C:ai)(vs:zA)(H:Hp)(Q:VK)(_:XK):Prop
 | mk (Hb:Hp)(x c:ai)(k:Nat)(a:Int)(sp:zS)(l:zC)(rg rs:zK)(bs:zB)(_:vs=[.ref x,.ref c,.int (k:Nat),.int a])(_:bt Hb H)(_:CutD Hb C x sp l rg)(_:CsD H c bs rs)(_:k<bs.length)(_:bs.length=sp.length)(_:bs.length<=40)(_:∀(L q1 q2:ai) (H':Hp),bt H H'->H L=none->H' L=some (.lst [.ref q1,.ref q2])->CsE Hb H' q1 (de bs k a) (rg.filter (jh k))->CsE Hb H' q2 (kF bs k a) (rg.filter (jh k))->Q (.ref L) H')
def ord_perm (h:π.Perm (aQ l.length)):(π.map λi=>l.getD i 0).Perm l:=by
 have e:(aQ l.length).map (λi=>l.getD i 0)=l:=by
  rwa[List.ext_getElem (by rw[aa,bL]) λi h1 h2=>?_]
  rw[ia,iq,af,gE h2];rfl
 have:=h.map (λi=>l.getD i 0)
 rw[e] at this;rwa[this]
theorem tm_mod {x:Int}:tm (ts.map (· % b)) x=tm ts x % b:=by
 unfold tm;rw[af,af,av];cases ts[x.toNat]? with
 | none=>rwa[(Int.zero_emod b).symm]
 | some y=>rfl
def nQ (b m:Int)(sp:zS)(t:zI):Prop:=t.length=m.toNat/\(∀x∈t,0<=x/\x<b)/\gM b t sp=true
theorem tab_ok {m:Int}{rg:zK}{bs:zB}(N:iC b m sp)(f:FF m sp l rg)(O:OB sp l bs)(x:Fx b l rg bs)(h:SprOk m.toNat sp l S) :
  nQ b m sp (tabOf b sp bs m.toNat S)/\∀k,k<sp.length->(‹3›).1<=iW b (tabOf b sp bs m.toNat S) sp k/\iW b (tabOf b sp bs m.toNat S) sp k<=(‹3›).2:=by
 have hb:0<b:=by have:=N.b1;lia
 have ht2:=f.acy.nodup.2;have key:=key_pot N f O x (ts:=tabOf b sp bs m.toNat S) (λi hi=>h.pot N.ends ht2 (lowB bs) i hi) λk hk=>by
  unfold fq tabOf;rw[tm_mod,tm_mod,qN]
 rwa[⟨?_,λy hy=>?_,fits_lay (m:=m) λk hk=>?_⟩,key]
 ·unfold tabOf lg
  rw[aa,nU (m:=0),gz]
 ·let⟨z,_,rfl⟩:=bc.mp hy
  rwa[cS _ ⋯,cY _ hb]
 ·have:=key k hk
  have:=(O.lo k hk).2.2;lia
def psC (l:zC):List Cse->Nat
 | []=>0
 | c::cs=>gf c.1 l+psC l cs
theorem rN (l:zC):∀(cs ds:List Cse),psC l (cs++ds)=psC l cs+psC l ds
 | [],ds=>(Nat.zero_add _).symm
 | c::cs,ds=>by
  show _+psC l (cs++ds)=_+psC l cs+psC l ds;rw[rN l cs ds];lia
structure SrcI (b m:Int)(sp:zS)(l:zC)(rg:zK)(cs:List Cse)(Ts:zY):Prop where
 ok:∀c∈cs,jQ b sp l rg c
 tabs:∀t∈Ts,nQ b m sp t
 hold:∀T,gM b T sp=true->(∃t∈Ts,∀k∈l,iW b t sp k=iW b T sp k)\/∃c∈cs,InB (iW b T sp) c.1
 cnt:Ts.length+psC l cs<=gf (sp.map λx=>(x.l,x.o)) l
def szC (l:zC):List Cse->Nat
 | []=>0
 | c::cs=>(2 * gf c.1 l - 1)+szC l cs
theorem oo (l:zC):∀(cs ds:List Cse),szC l (cs++ds)=szC l cs+szC l ds
 | [],ds=>(Nat.zero_add _).symm
 | c::cs,ds=>by
  show _+szC l (cs++ds)=_+szC l cs+szC l ds;rw[oo l cs ds];lia
section
variable {m:Int}{rg:zK}{cs:List Cse}{Ts:zY}{c:Cse}
theorem szC_len (hl:∀k∈l,k<sp.length):∀(cs:List Cse),(∀c∈cs,jQ b sp l rg c)->cs.length<=szC l cs
 | [],_=>ay _
 | c::cs,h=>by
  have ih:=szC_len hl cs λd hd=>h d (az _ hd)
  have:=jA (h c ∅).ob hl;show cs.length+1<=2 * gf c.1 l - 1+szC l cs;lia
theorem SrcI.start (N:iC b m sp)(hl:rg.length<=40):SrcI b m sp l rg [(sp.map λx=>(x.l,x.o),rg)] []:=by
 have hb:0<b:=by have:=N.b1;lia
 rwa[λc hc=>?_,↥2,λT hT=>.inr ⟨_,bf.mpr rfl,lay_in hb hT⟩,by show 0+(gf (sp.map λx=>(x.l,x.o)) l+0)<=_;cbv];rw[bf.mp hc];rwa[OB.first N l,λq hq=>hq,hl,↥2]
theorem SrcI.dead (N:iC b m sp)(f:FF m sp l rg)(I:SrcI b m sp l rg (cs++[c]) Ts){q:Nat×zP}(hq:q∈c.2)(hd:jV b c.1 q.2=true):SrcI b m sp l rg cs Ts:=by
 have hb:0<b:=by have:=N.b1;lia
 have C:=I.ok c ∅;rwa[λd hd=>I.ok d (cn _ hd),I.tabs,λT hT=>?_,by have:=I.cnt;rw[rN] at this;lia]
 rcases I.hold T hT with h | ⟨d,h1,h2⟩
 ·rwa[.inl h]
 ·rcases bj.mp h1 with z | z
  ·rwa[.inr ⟨d,z,h2⟩]
  ·rw[bf.mp z] at h2
   have:=f.few;have m2:=N.m2;rw[dead_none hb C.ob.len h2 ((f.rk q (C.sub q hq)).rg N ⋯)] at hd;cases hd
theorem jQ.all (C:jQ b sp l rg c)(al:∀q∈c.2,jV b c.1 q.2=false):∀q∈rg,jV b c.1 q.2=false:=λq hq=>by
 by_cases z:q∈c.2
 ·rwa[al q z]
 ·rwa[C.alive q hq z]
theorem SrcI.leaf (N:iC b m sp)(f:FF m sp l rg)(h:SprOk m.toNat sp l S)(I:SrcI b m sp l rg (cs++[c]) Ts)(al:∀q∈c.2,jV b c.1 q.2=false)(fx:∀k∈l,¬((c.1.getD k (0,0)).1<(c.1.getD k (0,0)).2)):SrcI b m sp l rg cs (Ts++[tabOf b sp c.1 m.toNat S]):=by
 have C:=I.ok c ∅;have ht2:=f.acy.nodup.2;have fix:∀k∈l,(c.1.getD k (0,0)).1=(c.1.getD k (0,0)).2:=λk hk=>by
  have:=(C.ob.lo k (ht2 k hk)).2.1;have:=fx k hk;lia
 let⟨t1,t2⟩:=tab_ok N f C.ob ⟨fix,C.all al⟩ h;have pc:=jA C.ob ht2;rwa[λd hd=>I.ok d (cn _ hd),λt ht=>?_,λT hT=>?_,by have:=I.cnt;rw[rN] at this;have e:psC l [c]=gf c.1 l+0:=rfl;rw[ax];show Ts.length+1+_<=_;lia]
 ·rcases bj.mp ht with z | z
  ·rwa[I.tabs t z]
  ·rw[bf.mp z];rwa[t1]
 ·rcases I.hold T hT with ⟨t,h1,h2⟩ | ⟨d,h1,h2⟩
  ·rwa[.inl ⟨t,cn _ h1,h2⟩]
  ·rcases bj.mp h1 with z | z
   ·rwa[.inr ⟨d,z,h2⟩]
   ·rw[bf.mp z] at h2
    rwa[.inl ⟨_,bo _ (bf.mpr rfl),λk hk=>?_⟩];have a1:=t2 k (ht2 k hk);have a2:=h2 k (by rw[C.ob.len];rwa[ht2 k hk]);have a3:=fix k hk;lia
theorem SrcI.cut (N:iC b m sp)(f:FF m sp l rg)(lrg:rg.length<=40)(I:SrcI b m sp l rg (cs++[c]) Ts)(al:∀q∈c.2,jV b c.1 q.2=false){k:Nat}{a:Int}(hk:k∈l)(h1:(c.1.getD k (0,0)).1<=a)(h2:a<(c.1.getD k (0,0)).2) :
  SrcI b m sp l rg (cs++[(de c.1 k a,rg.filter (jh k)),(kF c.1 k a,rg.filter (jh k))]) Ts/\szC l (cs++[(de c.1 k a,rg.filter (jh k)),(kF c.1 k a,rg.filter (jh k))])<szC l (cs++[c]):=by
 have C:=I.ok c ∅;have ht2:=f.acy.nodup.2;let⟨o1,o2⟩:=C.cut lrg ht2 al hk h1 h2;rwa[⟨λd hd=>?_,I.tabs,λT hT=>?_,?_⟩,?_]
 ·rcases bj.mp hd with z | z
  ·rwa[I.ok d ↥2]
  grind
 ·rcases I.hold T hT with h | ⟨d,d1,d2⟩
  ·rwa[.inl h]
  ·rcases bj.mp d1 with z | z
   ·grind
   ·rw[bf.mp z] at d2
    by_cases e:iW b T sp k<=a
    ·rwa[.inr ⟨(kF c.1 k a,rg.filter (jh k)),∅,inB_one d2 e⟩]
    ·rwa[.inr ⟨(de c.1 k a,rg.filter (jh k)),∅,inB_other d2 ⋯⟩]
 ·have h0:=I.cnt
  rw[rN] at h0 ⊢;have e:=ox C.ob f.acy.nodup.1 ht2 hk h1 h2
  grind [psC,gf,de,jh,kF]
 ·rw[oo,oo]
  show _+((2 * gf (de c.1 k a) l - 1)+((2 * gf (kF c.1 k a) l - 1)+0))<_+((2 * gf c.1 l - 1)+0);have p1:=jA o1.ob ht2;have p2:=jA o2.ob ht2;have e:=ox C.ob f.acy.nodup.1 ht2 hk h1 h2
  lia
theorem SrcI.less (f:FF m sp l rg)(I:SrcI b m sp l rg (cs++[c]) Ts):szC l cs<szC l (cs++[c]):=by
 have:=jA (I.ok c ∅).ob f.acy.nodup.2;rw[oo];show _<_+((2 * gf c.1 l - 1)+0);lia
end
def CsL (Hb Hc:Hp):zA->List Cse->Prop:=kE λv c=>∃q,v= .ref q/\CsE Hb Hc q c.1 c.2
theorem CsL.keep {Hb Hd:Hp}(e:kh Hc Hd){cs:List Cse}(h:CsL Hb Hc zs cs):CsL Hb Hd zs cs:=Paired.mapP h λ_ _ ⟨q,a,b⟩=>⟨q,a,b.keep e⟩
theorem Paired.app {α β:Type}{R:α->β->Prop}:∀{xs:List α} {ys:List β} {us:List α} {vs:List β},kE R xs ys->kE R us vs->kE R (xs++us) (ys++vs)
 | _,_,_,_,.nil,h=>h
 | _,_,_,_,.cons r t,h=>.cons r (Paired.app t h)
theorem Paired.len {α β:Type}{R:α->β->Prop}:∀{xs:List α} {ys:List β},kE R xs ys->xs.length=ys.length
 | _,_,.nil=>rfl
 | _,_,.cons _ t=>tW (· + 1) (Paired.len t)
theorem Paired.snoc_of {α β:Type}{R:α->β->Prop}:∀{ys:List β} {zs:List α} {y:β},kE R zs (ys++[y])->∃xs x,zs=xs++[x]/\kE R xs ys/\R x y:=by
 intro ys;induction ys with
 | nil=>intro _ _ h;cases h with | cons r t=>cases t;rwa[[],ς,.nil,r]
 | cons _ _ ih=>intro _ _ h;cases h with | cons r t=>let⟨xs,x,rfl,a,b⟩:=ih t;rwa[_::xs,x,rfl,.cons r a,b]
inductive spTabF (T0:ai)(p0:Pos)(q0:Str)(T1:ai)(p1:Pos)(q1:Str)(vs:zA)(H:Hp)(Q:VK)(_:XK):Prop
 | mk (v:V)(b m:Int)(sp:zS)(most:Nat)(_:vs=[v,.int (most:Nat)])(_:‹4›)(_:iC b m sp)(_:most<=4096)(_:(∀l,jM m.toNat sp l->jg sp l<=4096))(_:LamT T0 p0 q0 H)(_:LamT T1 p1 q1 H)(_:∀(L:ai) (tv:zA) (l:zC) (rg:zK) (Ts:zY) (H':Hp),(∀a o,a≠T0->a≠T1->H a=some o->H' a=some o)->Kp H H'->LamT T0 p0 q0 H'->LamT T1 p1 q1 H'->H' L=some (.lst tv)->dg H' tv (gu id Ts)->FR m sp l rg->(∀t∈Ts,nQ b m sp t)->Ts.length<=most->(Ts.length<most\/most=4096->∀T,gM b T sp=true->∃t∈Ts,∀k∈l,iW b t sp k=iW b T sp k)->Q (.ref L) H')
inductive Mrk where
 | leaf (d:Dt)
 | cut (k:Nat) (a:Int)
def mrkD:Mrk->Dt
 | .leaf d=>d
 | .cut k a=>.tup [.str "cut",.int (k:Nat),.int a]
noncomputable def pre:Tq->List Mrk
 | .leaf d=>[.leaf d]
 | .cut k a x y=>.cut k a::(pre x++pre y)
noncomputable def stpT:Option (List Tq)->Mrk->Option (List Tq)
 | some s,.leaf d=>some (.leaf d::s)
 | some (x::y::s),.cut k a=>some (.cut k a x y::s)
 | _,_=>none
theorem stp_none:∀(l:List Mrk),l.foldl stpT none=none
 | []=>rfl
 | .leaf _::l=>stp_none l
 | .cut _ _::l=>stp_none l
theorem stp_pre:∀(t:Tq) (s:List Tq),(pre t).reverse.foldl stpT (some s)=some (t::s)
 | .leaf d,s=>rfl
 | .cut k a x y,s=>by
  show(Mrk.cut k a::(pre x++pre y)).reverse.foldl stpT (some s)=_;rw[e8,List.reverse_append,fU,fU,stp_pre y,stp_pre x];rfl
def stp_at {l:List Mrk}{r:List Tq}(h:l.foldl stpT (some [])=some r){m:Mrk}{s:List Tq}(hm:l[i]? =some m)(hs:(l.take i).foldl stpT (some [])=some s):∃s',stpT (some s) m=some s'/\(l.take (i+1)).foldl stpT (some [])=some s':=by
 have hi:=(aw.mp hm).1;have e:(l.take (i+1)).foldl stpT (some [])=stpT (some s) m:=by
  rw[aE,hm,fU,hs];rfl
 cases q:stpT (some s) m with
 | some s'=>rwa[s',rfl,by rw[e,q]]
 | none =>
  exfalso;rw[<-List.take_append_drop (i+1) l,fU,e,q,stp_none] at h;cases h
def LeafW (d:Dt):Prop:=pl d=true/\∃w x,d= .tup [.str w,x]/\w ≠ "cut"
def pl_cut {k:Nat}{a:Int}{x y:Tq}(hx:pl (jG x)=true)(hy:pl (jG y)=true):pl (jG (.cut k a x y))=true:=by
 show pl (.tup [.str "cut",.int (k:Nat),.int a,jG x,jG y])=true;simp[pl,pls,hx,hy]
theorem dg.snocD {H:Hp}:∀{ds:zM} {zs:zA} {d:Dt},dg H zs (ds++[d])->∃zs' z,zs=zs'++[z]/\dg H zs' ds/\IsD H z d:=by
 intro ds;induction ds with
 | nil=>intro _ _ h;cases h with | cons h t=>cases t;rwa[[],ς,.nil,h]
 | cons _ _ ih=>intro _ _ h;cases h with | cons h t=>let⟨zs',z,rfl,a,b⟩:=ih t;rwa[_::zs',z,rfl,.cons h a,b]
def mW (R:zB->Dt->Prop):Tq->zB->Nat->Prop
 | .leaf d,bs,_=>R bs d
 | .cut _ _ _ _,_,0=>False
 | .cut k a x y,bs,n+1=>k<bs.length/\(‹3›).1<=a/\a<(‹3›).2/\mW R x (kF bs k a) n/\mW R y (de bs k a) n
def sO (R:zB->Dt->Prop)(l:zC)(c:Cse)(t:Tq):Prop:=∀n,2 ^ n * gf c.1 l<=3 ^ n->mW R t c.1 n
theorem pR {f g:Nat->Nat}{k:Nat}:∀(l:zC),l.Nodup->k∈l->(∀j∈l,j≠k->f j=g j)->prdN (l.map g) * f k=prdN (l.map f) * g k
 | [],_,hk,_=>tR hk ∅
 | j::l,nd,hk,hh=>by
  rw[cy] at nd;show g j * _ * f k=f j * _ * g k
  by_cases c:j=k
  ·subst c
   have ne:∀i∈l,i≠j:=λi hi z=>nd.1 (z ▸ hi)
   rw[<-oW (f:=f) (g:=g) l λi hi=>hh i (az _ hi) (ne i hi),ka (g j),ka (f j),iI,iI,ka (g j)]
  ·rw[hh j ∅ c,iI,iI,pR l nd.2 ((bh.mp hk).resolve_left λz=>c z.symm) λi hi=>hh i (az _ hi)]
def scale_le {F G f g:Nat}(e:G * f=F * g)(h:3 * g<=2 * f)(hf:0<f):3 * G<=2 * F:=by
 have h1:3 * G * f<=2 * F * f:=by
  rw[iI,e,ka F g,<-iI,iI 2 F f,ka F f,<-iI];rwa[Nat.mul_le_mul_right F h]
 rwa[Nat.le_of_mul_le_mul_right h1 hf]
theorem prodC_mid {bs:zB}{k:Nat}{a:Int}(O:OB sp l bs)(nd:l.Nodup)(hl:∀k∈l,k<sp.length)(hk:k∈l)(h:(‹3›).1<(‹3›).2)(ha:a=((‹3›).1+(‹3›).2) / 2) :
  3 * gf (kF bs k a) l<=2 * gf bs l/\3 * gf (de bs k a) l<=2 * gf bs l:=by
 have hb:=O.len;have hkl:=hl k hk;have wk1:wdB (kF bs k a) k=(a - (‹3›).1+1).toNat:=by unfold wdB kF;rw[ja ↥2,tQ rfl]
 have wk2:wdB (de bs k a) k=((‹3›).2 - (a+1)+1).toNat:=by unfold wdB de;rw[ja ↥2,tQ rfl]
 have w0:wdB bs k=((‹3›).2 - (‹3›).1+1).toNat:=rfl
 constructor
 ·apply scale_le (pR (f:=wdB bs) (g:=wdB (kF bs k a)) (k:=k) l nd hk λj hj hn=>?_) (by rw[wk1,w0];lia) (by rw[w0];lia)
  have hjl:=hl j hj;unfold wdB kF;rw[ja ↥2,tP (cM hn)]
 ·apply scale_le (pR (f:=wdB bs) (g:=wdB (de bs k a)) (k:=k) l nd hk λj hj hn=>?_) (by rw[wk2,w0];lia) (by rw[w0];lia)
  have hjl:=hl j hj;unfold wdB de;rw[ja ↥2,tP (cM hn)]
section
variable {R:zB->Dt->Prop}{c c0:Cse}{k:Nat}{a:Int}{x y:Tq}{ms:List Mrk}{cr:List Cse}{d:Dt}{rs':zK}
def sO.leaf (h:R c.1 d):sO R l c (.leaf d):=λn _=>by
 cases n <;> rwa[h]
theorem sO.cut (hk:k<c.1.length)(h1:(c.1.getD k (0,0)).1<=a)(h2:a<(c.1.getD k (0,0)).2)(p2:2<=gf c.1 l)(m1:3 * gf (kF c.1 k a) l<=2 * gf c.1 l)(m2:3 * gf (de c.1 k a) l<=2 * gf c.1 l)
  (gx:sO R l (kF c.1 k a,rs) x) (gy:sO R l (de c.1 k a,rs') y):sO R l c (.cut k a x y):=λn hn=>by
 cases n with
 | zero=>lia
 | succ n =>
  have key:∀p,3 * p<=2 * gf c.1 l->2 ^ n * p<=3 ^ n:=λp hp=>by
   have h3:2 ^ n * (3 * p)<=2 ^ n * (2 * gf c.1 l):=Nat.mul_le_mul_left _ hp
   grind
  rwa[hk,h1,h2,gx n (key _ m1),gy n (key _ m2)]
def Wn (R:zB->Dt->Prop)(l:zC)(c0:Cse)(ms:List Mrk)(cr:List Cse):Prop:=∀F:List Tq,kE (sO R l) cr F->∃t,ms++F.flatMap pre=pre t/\sO R l c0 t
theorem Wn.start:Wn R l c0 [] [c0]:=λF h=>by
 cases h with
 | cons g r=>cases r;rwa[_,∅,g]
theorem Wn.leaf (h:Wn R l c0 ms (c::cr))(r:R c.1 d):Wn R l c0 (ms++[.leaf d]) cr:=λF hF=>by
 let⟨t,e,g⟩:=h (.leaf d::F) (.cons (sO.leaf r) hF);rwa[t,by rw[<-e];simp[pre],g]
theorem Wn.cut (h:Wn R l c0 ms (c::cr))(hk:k<c.1.length)(h1:(c.1.getD k (0,0)).1<=a)(h2:a<(c.1.getD k (0,0)).2)(p2:2<=gf c.1 l)(m1:3 * gf (kF c.1 k a) l<=2 * gf c.1 l)(m2:3 * gf (de c.1 k a) l<=2 * gf c.1 l):Wn R l c0 (ms++[.cut k a]) ((kF c.1 k a,rs)::(de c.1 k a,rs')::cr):=λF hF=>by
 cases hF with
 | cons gx r =>
  cases r with
  | cons gy r =>
   rename_i x y F;let⟨t,e,g⟩:=h (.cut k a x y::F) (.cons (sO.cut hk h1 h2 p2 m1 m2 gx gy) r);rwa[t,by rw[<-e];simp[pre],g]
def Wn.fin (h:Wn R l c0 ms []):∃t,ms=pre t/\sO R l c0 t:=by
 let⟨t,e,g⟩:=h [] .nil;rwa[t,by rw[<-e];simp,g]
end
inductive spTreeF (vs:zA)(H:Hp)(Q:VK)(_:XK):Prop
 | mk (L:ai)(ys:zA)(ms:List Mrk)(t:Tq)(_:vs=[.ref L])(_:H L=some (.lst ys))(_:dg H ys (ms.map mrkD))(_:ms=pre t)(_:(∀d,Mrk.leaf d∈ms->LeafW d))(_:ms.length<=10000)(_:∀u H',bt H H'->IsD H' u (jG t)->Q u H')
end HN
theorem law_callTs {mb:Str->zJ}{k:Nat}{fa:ai}{sp:Sp}{s₁:aq}
  (KX:K.In s₁.heap) (hns:s₁.heap.Ns bG mg) (hb:s₁.heap.Ns builtinsNs mb) (hbb:∀x:Str,x ≠ "__name__" ->mb x=bootBuiltins x) (hlim:s₁.heap.NoLimit) (hg:s₁.gens= #[])
  (hbm:BM mg s₁.heap) (hT:∀T∈Ts,s₁.heap.get? T=some (tabObj #[])) (C:∀T∈Ts,∃c,codeHdIn K c T=true) (nt:noTabs K=true)
  (ha:s₁.heap.get? a=some { cls:=.type "list",data:=.seq vs.toArray }) (hi:IntsAre vs ns) (hl:ns.length<=aO) (hr:kX k callerA)
  (F:∀base:bI,K.In base->base.Ns bG mg->BM mg base->bX P w K mg base CX k fa fd [x] sp) (hbind:∀(s:aq) (u:ae),BindsTo s fd ⟨[u],[]⟩ [(x,u)])
  (hsp:∀H:Hp,(∀T∈Ts,H T=some (.tbl #[]))->SqL K H a (ns.map V.int)->sp [.ref a] H (λv _=>v= .bl true) λ_ _ _=>False)
  (hCX:∀H e s',CX [] H s₁ (λ_ _ _=>False) e s'->False) :
  kD (bC P w) callerA (.call (.ref fa) ⟨[.ref a],[]⟩) (λr s'=>r= .ok (.ret (.bool true))/\OldK s₁.heap s'.heap/\s'.os=s₁.os/\AllBare s'.gens) s₁:=by
 have rv:=oM hi;have lenV:=hi.length;have hTK:∀T∈Ts,K.lookup T=none:=λT mT=>by
  cases q:K.lookup T with
  | none=>rfl
  | some o =>
   have e:=KX T o q;rw[hT T mT] at e;cases e;have z:=gm.mp nt (T,tabObj #[]) (mem_of_lookupK q);cases z
 have aT:a ∉ Ts:=λz=>↥1
 have isT:∀T∈Ts,isCodeTable s₁.heap T:=λT mT=>by let⟨c,C⟩:=C T mT;rwa[((codeHd_of_K KX C).tab (hT T mT)).isCodeTable]
 have core:∀H:Hp,SqL K H a (ns.map V.int)->HOk P w H s₁.heap->(∀T∈Ts,H T=some (.tbl #[]))->(∀b,H b≠none->b ∉ Ts->b=a/\∃o xs,H b=some (.frz o (.lst xs)))->(H a≠none->K.lookup a=none) ->
   kD (bC P w) callerA (.call (.ref fa) ⟨[.ref a],[]⟩) (λr s'=>r= .ok (.ret (.bool true))/\OldK s₁.heap s'.heap/\s'.os=s₁.os/\AllBare s'.gens) s₁:=by
  intro H hS hok hHT hA hK;have base_of:∀{b:ai} {o:Obj},s₁.heap.get? b=some o->H b=none->(hidT s₁.heap H).get? b=some o:=λe n=>hidT_get e n
  have no2:∀{b:ai} {o:Obj},s₁.heap.get? b=some o->o≠tabObj #[]->o≠{ cls:=.type "list",data:=.seq vs.toArray }->H b=none:=λ{b o} e d1 d2=>by
   cases q:H b with
   | none=>rfl
   | some u =>
    by_cases hbT:b∈Ts
    ·grind
    grind
  have nsK:∀{b:ai} {m:Str->zJ},s₁.heap.Ns b m->(hidT s₁.heap H).Ns b m:=λ{b m} ⟨o,es,ep,e,d,r⟩=>⟨o,es,ep,base_of e (no2 e (λz=>by lia) (λz=>by lia)),d,r⟩
  have hKb:K.In (hidT s₁.heap H):=fun b o e=>base_of (KX b o e) (by
   grind)
  have hM:Mod K mg (hidT s₁.heap H):=⟨hKb,nsK hns,⟨mb,nsK hb,hbb⟩,let ⟨mc,h1,h2⟩:=hlim;⟨mc,nsK h1,h2⟩⟩;have hBM:BM mg (hidT s₁.heap H):=by
   let⟨bm,ob,b1,b2,b3,b4,b5,b6,b7⟩:=hbm;rwa[bm,ob,b1,b2,b3,base_of b4 (no2 b4 (λz=>by lia) (λz=>by lia)),b5,b6,b7]
  have e0:Env0 P w K mg (hidT s₁.heap H) callerA [] s₁ H:=⟨rfl,hM,λb o e=>of_hidT e,kb (hidT_size _ _),trivial,λb hb=>tR (show b∈([]) from hb) ∅,hok,.of_eq hg⟩;rwa[codeAny_mono ((F _ hKb (nsK hns) hBM).run callerA [] s₁ H ⟨[.ref a],[]⟩ [.ref a] [.ref a] _ _ hr e0 (hbind s₁ (.ref a)) (.cons rfl .nil) (hsp H hHT hS)) λr s' h=>?_]
  cases r with
  | error e=>rwa[(hCX H e s' h).elim]
  | ok fl =>
   cases fl with
   | next=>rwa[cR h]
   | brk=>rwa[cR h]
   | cont=>rwa[cR h]
   | ret u =>
    let⟨v,H',os,bare,un,hok',r',q⟩:=h;have q' :=q;subst q';obtain rfl:u=ae.bool true:=r';have tT:∀T∈Ts,∃more,s'.heap.get? T=some (tabObj (#[]++more)):=λT mT=>by
     let⟨more,eT⟩:=un.tbls T _ (hHT T mT);rwa[more,hok' T _ eT]
    have stay:∀b o,s₁.heap.get? b=some o->b ∉ Ts->s'.heap.get? b=some o:=λb o e hbT=>by
     cases q:H b with
     | none=>rwa[un.keep b o e q (by intro z;exact tR (show b∈([]) from z) ∅) ∅]
     | some u =>
      let⟨_,ob,xs,z⟩:=hA b (by rw[q];simp) hbT;have z2:=un.frzs b ob _ z;let⟨e1,_⟩:=hok b _ z;let⟨e2,_⟩:=hok' b _ z2
      lia
    rwa[rfl,⟨λb o e=>?_,λb o e=>?_⟩,os,bare]
    ·by_cases hbT:b∈Ts
     ·rw[hT b hbT] at e;cases e
      let⟨more,tb⟩:=tT b hbT;rwa[.inr (.inl ⟨isT b hbT,rfl,#[],more,rfl,tb⟩)]
     ·rwa[.inl (stay b o e hbT)]
    grind
 cases hk:K.lookup a with
 | some o =>
  have e:=KX a o hk;rw[ha] at e;cases e;rwa[core (λb=>if b∈Ts then some (.tbl #[]) else none) (.inr ⟨_,vs.toArray,_,hk,rfl,rfl,rfl,↥1,(by omega)⟩) (λb u z=>?_) (λT mT=>tQ mT) ⋯ ⋯]
  by_cases hb:b∈Ts
  ·have z':=(tQ hb).symm.trans z
   cases z';rwa[hT b hb]
  lia
 | none =>
  rwa[core (λb=>if b∈Ts then some (.tbl #[]) else if b=a then some (.frz { cls:=.type "list",data:=.seq vs.toArray } (.lst (ns.map V.int))) else none) (.inl (.inr ⟨{ cls:=.type "list",data:=.seq vs.toArray },(tP aT).trans (tQ rfl)⟩)) (λb u z=>?_) (λT mT=>tQ mT) (λb z hb=>?_) λ_=>hk]
  ·by_cases hb:b∈Ts
   ·have z':=(tQ hb).symm.trans z
    cases z';rwa[hT b hb]
   ·have z:=(tP hb).symm.trans z
    by_cases hb:b=a
    ·have z':=(tQ hb).symm.trans z
     cases z';subst hb;rwa[ha,↥1,vs,_,rv,ha]
    lia
  grind
theorem walk_ofTs {l:PySem.W.OpenLaw}{n k:Nat}{q:aL}{d:DefRec}{K:bp->ag}{CX:bp->CXT}{sp:bp->Sp}
  (hn:l.most=some n) (hn2:n<=aO) (hdf:d.params.defaults=[]) (hr:kX k callerA)
  (hY:∀(w:bp) (h:bI),YP w h->(K w).In h/\∀T∈Ts,h.get? T=some (tabObj #[])) (C:∀w:bp,∀T∈Ts,∃c,codeHdIn (K w) c T=true) (nt:∀w:bp,noTabs (K w)=true)
  (F:∀ (w:bp) (mg:Str->zJ) (fa:ai) (h:bI),(K w).In h->h.Ns bG mg->mg d.name=some (.ref fa) ->
   ∃fd:aM,(∀(s:aq) (u:ae),BindsTo s fd ⟨[u],[]⟩ [(x,u)]) /\
    ∀ base:bI,(K w).In base->base.Ns bG mg->BM mg base->bX l.prog w (K w) mg base (CX w) k fa fd [x] (sp w))
  (hsp:∀(w:bp) (H:Hp) (a:ai) (ns:zI),ns.length<=n->(∀T∈Ts,H T=some (.tbl #[]))->SqL (K w) H a (ns.map V.int)->sp w [.ref a] H (λv _=>v= .bl true) λ_ _ _=>False)
  (hCX:∀(w:bp) (H:Hp) (s:aq) (e:ae) (s':aq),CX w [] H s (λ_ _ _=>False) e s'->False) :
  PySem.W.WalkO q loose XP YP l.row.toRowW d [] (λf vs=>PySem.call f vs):=by
 rwa[Att.attach_call hn hdf λw s₀ s₁ mg mb fa o pm cd doc a vs ns G Y ho hd hcd hmg hobj hints hlen hg=>?_]
 let⟨KX,hT⟩:=hY w _ Y;let⟨fd,hb,hF⟩:=F w mg fa _ KX G.T.g hmg;have hbm:BM mg s₁.heap:=by
  let⟨bm,ob,b1,b2,b3,b4,b5,b6⟩:=G.T.bmain;rwa[bm,ob,b1,b2,λq=>?_,b3,b4,b5,b6];let⟨o,es,ep,e,hd,_⟩:=G.T.g
  cbv
 rwa[law_callTs KX G.T.g G.T.b G.T.builtins G.T.nolimit hg hbm hT (C w) (nt w) hobj hints (aU hlen hn2) hr hF hb ↥1 ↥1]
def ptF (H:Hp)(fz:ai->Option Obj):Hp:=λb=>match fz b with | some o=>some (.frz o (.own 0)) | none=>H b
def ctF (H:Hp)(fz:ai->Option Obj):Hp:=λb=>match fz b with | some _=>none | none=>H b
def Fz (fz:ai->Option Obj)(H:Hp):Prop:=∀b o,fz b=some o->H b=some (.frz o (.own 0))
section
variable {b:ai}{o:Obj}{fs:zX}
theorem rM (e:fz b=some o):ptF H fz b=some (.frz o (.own 0)):=by unfold ptF;rw[e]
theorem iE (e:fz b=none):ptF H fz b=H b:=by unfold ptF;rw[e]
theorem tJ (e:fz b=some o):ctF H fz b=none:=by unfold ctF;rw[e]
theorem iF (e:fz b=none):ctF H fz b=H b:=by unfold ctF;rw[e]
theorem Fz.out (F:Fz fz H){u:HO}(e:H b=some u)(n:∀o,u≠ .frz o (.own 0)):fz b=none:=by
 cases q:fz b with
 | none=>rfl
 | some o=>rw[F b o q] at e;grind
def Fz.cut (F:Fz fz H){u:HO}(e:H b=some u)(n:∀o,u≠ .frz o (.own 0)):ctF H fz b=some u:=by rw[iF (F.out e n)];rwa[e]
theorem HOk.cut (hok:HOk P w H h)(F:Fz fz H):HOk P w (ctF H fz) h:=λa o e=>by
 cases q:fz a with
 | some o'=>rw[tJ q] at e;cases e
 | none =>
  rw[iF q] at e;rwa[(hok a o e).stay (λ_ _ _ e=>e) (λb e'=>F.cut e' (λ_ z=>by cases z)) λb xs e'=>F.cut e' (λ_ z=>by cases z)]
theorem HOk.ptF (hok:HOk P w H h)(N:∀b o,fz b=some o->H b=none)(G:∀b o,fz b=some o->h.get? b=some o):HOk P w (ptF H fz) h:=λa o e=>by
 cases q:fz a with
 | some o' =>
  rw[rM q] at e;cases e;rwa[G a o' q,_,G a o' q]
 | none =>
  rw[iE q] at e;have out:∀b u,H b=some u->fz b=none:=λb u e'=>by
   cases q':fz b with
   | none=>rfl
   | some o'=>rw[N b o' q'] at e';cases e'
  exact(hok a o e).stay (λ_ _ _ e=>e) (λb e'=>by rw[iE (out b _ e')];rwa[e']) λb xs e'=>by rw[iE (out b _ e')];rwa[e']
theorem Un.thaw (u:Un fs [] (ptF H fz) H' h h')(N:∀b o,fz b=some o->H b=none)(hok:HOk P w H' h')(G:∀b o,fz b=some o->h.get? b=some o):Un fs [] H (ctF H' fz) h h':=by
 have F:Fz fz H':=λb o e=>u.frzs b o _ (rM e)
 have out:∀b u,H b=some u->fz b=none:=λb u e'=>by
  cases q':fz b with
  | none=>rfl
  | some o'=>rw[N b o' q'] at e';cases e'
 have same:∀b o ob,fz b=some o->h.get? b=some ob->h'.get? b=some ob:=λb o ob q e=>by
  have e1:=G b o q;rw[e] at e1;cases e1;rwa[(hok b _ (F b _ q)).1]
 rwa[λb o e n hf hx=>?_,λb o e n hf hx=>?_,λb o e n hx=>?_,u.there,λb xs e=>?_,λb o x e=>?_,λb ps e=>?_]
 ·cases q:fz b with
  | some o'=>rwa[same b o' o q e]
  | none=>rwa[u.keep b o e (by rw[iE q];exact n) hf hx]
 ·cases q:fz b with
  | some o'=>rwa[o.slots,same b o' o q e]
  | none=>rwa[u.slot b o e (by rw[iE q];exact n) hf hx]
 ·cases q:fz b with
  | some o'=>rwa[tJ q]
  | none=>rw[iF q];rwa[u.free b o e (by rw[iE q];exact n) hx]
 ·have q:=out b _ e
  rw[iF q];rwa[u.tups b xs (by rw[iE q];exact e)]
 ·have q:=out b _ e
  rw[iF q];rwa[u.frzs b o x (by rw[iE q];exact e)]
 ·have q:=out b _ e
  rw[iF q];rwa[u.tbls b ps (by rw[iE q];exact e)]
theorem Un.froze (u:Un fs [] (ctF H fz) H' h h')(F:Fz fz H):Un fs [] H (ptF H' fz) h h':=by
 have out:∀b,H b=none->fz b=none:=λb n=>by
  cases q:fz b with
  | none=>rfl
  | some o=>rw[F b o q] at n;cases n
 rwa[λb o e n hf hx=>u.keep b o e (by grind [iF]) hf hx,λb o e n hf hx=>u.slot b o e (by grind [iF]) hf hx,λb o e n hx=>?_,u.there,λb xs e=>?_,λb o x e=>?_,λb ps e=>?_]
 ·rw[iE (out b n)];rwa[u.free b o e (by grind [iF]) hx]
 ·have q:=F.out e (λ_ z=>by cases z)
  rw[iE q];rwa[u.tups b xs (by rw[iF q];exact e)]
 ·cases q:fz b with
  | some o'=>rw[F b o' q] at e;cases e;rwa[rM q]
  | none=>rw[iE q];rwa[u.frzs b o x (by rw[iF q];exact e)]
 ·have q:=F.out e (λ_ z=>by cases z)
  rw[iE q];rwa[u.tbls b ps (by rw[iF q];exact e)]
end
structure Clo (cl:List (Str×ai))(fz:ai->Option Obj)(fr:List Str)(ws:zA):Prop where
 all:∀x c,cl.lookup x=some c->∃o,fz c=some o
 cell:∀c o,fz c=some o->∃v,o.data= .cell v
 inj:∀a b c,cl.lookup a=some c->cl.lookup b=some c->a=b
 val:∀(i:Nat) y v,fr[i]? =some y->ws[i]? =some v->∃c o u,cl.lookup y=some c/\fz c=some o/\o.data= .cell (some u)/\gN v u
 len:ws.length=fr.length
structure LmOk (P:aL)(w:bp)(K:ag)(mg:Str->zJ)(base:bI)(k:Nat)(f:ai)(Hf:Hp->Prop)(sp:Sp):Prop where
 isFn:∀H h,Hf H->HOk P w H h->FnAt f h
 run:∀(A:bT) (outer:List Env) (s:aq) (H:Hp) (u:ae) (v:V) (Q:VK),kX k A->Env0 P w K mg base A outer s H->Hf H->gN v u->sp [v] H Q E0->kD (bC P w) A (.call (.ref f) ⟨[u],[]⟩) (CR CX0 outer P w H s Q E0) s
noncomputable def cxLm (P:aL)(w:bp)(K:ag)(mg:Str->zJ)(base:bI)(q:Str)(scope:ft)(cl:List (Str×ai))(L f:ai)(cd:ae)(N:List Str)(A:bT)(outer:List Env)(s:aq)(H:Hp):Cx:=
 { prog:=P,w:=w,K:=K,mg:=mg,base:=base,A:=A.deeper (envX q scope L f cd cl),N:=N,s₀:=s,H₀:=H,env:=envX q scope L f cd cl,outer:=outer,stack:=envX q scope L f cd cl::outer,ex:=[],calm:=true,fn:=λ_=>false,pn:=[],xe:=λ_ _=>False }
theorem lam_run {k:Nat}{ws:zA}{sp:Sp}
  (hbind:∀u pm cdv ct,bindArgs (kla_fn "<lambda>" q params body scope cl pm cdv ct) ⟨[u],[]⟩=gv [(x,u)])
  (hk:scope.kind= .function) (hco:scope.isCoroutine=false) (hgen:scope.isGenerator=false) (jK:∀y∈scope.names,y.2≠ .cell) (hx:scope.names.lookup x=some .local) (hfx:x ∉ fr)
  (C:Clo cl fz fr ws) (hcl:∀y∈scope.names,y.2= .free->∃c,cl.lookup y.1=some c) (hfv:∀y∈fr,scope.names.lookup y=some .free)
  (hb:∀L cd A outer s' H',kX k (A.deeper (envX q scope L f cd cl))->PE (cxLm P w K mg base q scope cl L f cd (x::fr) A outer s' H') body te)
  (ht:∀v H Q,LamF q params body scope cl f H->Fz fz H->sp [v] H Q E0->te (some v::ws.map some) (ctF H fz) (λy H'=>(∀b o,fz b=some o->H' b=none)->Q y (ptF H' fz))) :
  LmOk P w K mg base (k+1) f (λH=>LamF q params body scope cl f H/\Fz fz H) sp:=by
 rwa[λH h ⟨⟨pm,cd,ct,e,_⟩,_⟩ hok=>⟨_,_,_,_,(hok f _ e).1⟩,λA outer s H u v Q hr e0 hz0 ru hsp=>?_];let⟨F,Z⟩:=hz0;have ht:=ht v H Q F Z hsp;let⟨pm,cd,ct,e,oc,vs,t,ec,hdc,hvc⟩:=F;have ho :=(e0.hok f _ e).1;have hoc :=(e0.hok cd _ ec).1;rwa[kla_callFunE (by have:=hr.dp;lia) ho rfl hco hgen rfl ⟨cd,oc,vs,t,rfl,hoc,hdc,hvc⟩ ?_];rw[hbind];rwa[aP (wpAny_newFunctionEnv jK (λy hy=>?_) (λh₁ hns hsb=>⟨?nl,?_⟩) hk)]
 ·cbv
 case nl=>rwa[(e0.mod.nolimit.keeps (λb o e=>(e0.bs b o e).1)).fresh _ hsb]
 have old:∀b o,s.heap.get? b=some o->h₁.get? b=some o:=λb o e=>hsb.extBut b o (bP (aS e)) (ao _ e)
 rwa[kla_codeExpr ?_];have hokc:=HOk.cut e0.hok Z;have cutN:∀b,H b=none->ctF H fz b=none:=λb n=>by
  cases z:fz b with
  | some o=>rwa[tJ z]
  | none=>rw[iF z];rwa[n]
 have ok':(cxLm P w K mg base q scope cl s.heap.objs.size f (.ref cd) (x::fr) A outer s (ctF H fz)).Ok:=by
  rwa[e0.mod,hk,rfl,rfl,ay _,C.inj,λy hy=>?_,λ_ _ z=>tR z (by intro q;cases q),λ_=>hr.hd,bT.frames_deeper e0.frames,.inr ⟨rfl,rfl⟩,λb hb=>tR (show b∈([]) from hb) ∅,λb o e=>⟨(e0.bs b o e).1,cutN b (e0.bs b o e).2⟩,e0.bsz,λb o e hb=>tR (show b∈([]) from hb) ∅,λb hb=>tR (show b∈([]) from hb) ∅,e0.funs,λb hb=>cutN b (e0.frf b hb)]
  rcases hy with hy | hy
  ·rwa[tR rfl (jK _ (cx hy))]
  ·rwa[hcl _ (cx hy) rfl]
 have cellAt:∀c o,fz c=some o->h₁.get? c=some o:=λc o z=>old _ _ (e0.hok c _ (Z c o z)).1
 have I1:Inv (cxLm P w K mg base q scope cl s.heap.objs.size f (.ref cd) (x::fr) A outer s (ctF H fz)) [] (some v::ws.map some) (ctF H fz) { s with heap:=h₁,toks:=s.toks+1 }:=by
  rwa[ok',rfl,e0.bare,Un.kept old,⟨_,hns,λi y v' e1 e2 e3=>?_⟩,λy c e=>?_,hokc.fresh (ay _),λy c e=>?_,λp hp=>tR (show p∈([]) from hp) ∅,hokc.kept old,?_]
  ·cases i with
   | zero =>
    cases e1;cases e2;rwa[u,ru,.inl ⟨hx,↥2⟩]
   | succ i =>
    have e2:(ws.map some)[i]? =some (some v'):=e2;rw[av] at e2;let⟨v2,e2,e4⟩:=aX.mp e2;cases e4;let⟨c,o,u',z1,z2,z3,z4⟩:=C.val i y v' e1 e2;rwa[u',z4,.inr ⟨.inr (hfv y (aZ e1)),c,z1,o,cellAt c o z2,z3⟩]
  ·let⟨o,z⟩:=C.all y c e
   let⟨v',hv'⟩:=C.cell c o z;rwa[v',o,cellAt c o z,hv']
  ·let⟨o,z⟩:=C.all y c e
   rwa[tJ z]
  ·show(some v::ws.map some).length=(x::fr).length
   rw[bE,bE,aa,C.len]
 rwa[cj (hb _ _ A outer s (ctF H fz) (hr.deeper _) [] _ _ (ctF H fz) _ I1 ht) (λy s' hs=>?_) λ_ _ z=>z.elim]
 let⟨v',H',J,rv,qv⟩:=hs;have JB:Un (frs outer) [] (ctF H fz) H' s.heap s'.heap:=J.base;have heapAt:∀b o,fz b=some o->s'.heap.get? b=some o:=λb o z=>JB.keep b o (e0.hok b _ (Z b o z)).1 (tJ z) (λhb=>by have:=e0.frf b hb;rw[Z b o z] at this;cases this) ∅
 have freeAt:∀b o,fz b=some o->H' b=none:=λb o z=>JB.free b o (e0.hok b _ (Z b o z)).1 (tJ z) ∅
 rwa[v',ptF H' fz,J.os,J.bare,Un.froze JB Z,HOk.ptF J.hok freeAt heapAt,rv,qv freeAt]
def tLam (i:Nat)(f:ai)(Hf:Hp->Prop)(sp:Sp)(t:TE):TE:=λσ H Q=>σ[i]? =some (some (.ref f))/\Hf H/\t σ H λv H1=>Hf H1/\sp [v] H1 Q E0
theorem pe_callV {k:Nat}{p:Pos}{t:TE}{sp:Sp}(L:LmOk X.prog X.w X.K X.mg X.base k f Hf sp)(hr:kX k X.A)(ha:PE X e t)(hN:autoParam (X.N[i]? =some x) Ωa)(hv:autoParam (Vis X.env.scope x) Ωe)
  (hd:autoParam ((x == ("__debug__" :Str))=false) Ωb) (hcd:autoParam ((x == ("__classdict__" :Str))=false) Ωb) (he:autoParam (bF [e] X.env=[(false,eO e X.env)]) Ωa):PE X (.Call (.Name x p) [e] [] pos) (tLam i f Hf sp t):=by
 intro aN s σ H Q I ⟨h1,h2,h3⟩;rwa[eP (thn (pe_var hN hv hd hcd aN s σ H (λv H1=>v= .ref f/\H1=H) I ⟨_,h1,rfl,rfl⟩) λu s1 hz0=>?_)];let⟨v,H1,I1,r1,e1,e2⟩:=hz0;subst e1;subst e2;cases r1;rwa[callWith_F (L.isFn _ _ h2 I1.hok) (thn ((aV ha b9 he) pos aN s1 σ H1 (λvs H2=>match vs with | [v]=>Hf H2/\sp [v] H2 Q E0 | _=>False) I1 h3) λus s2 hz0=>?_) he rfl];let⟨vs,H2,I2,r2,q2⟩:=hz0
 ·obtain _ | ⟨v,_ | ⟨v',vs⟩⟩:=vs
  ·rwa[q2.elim]
  rotate_left
  ·rwa[q2.elim]
  let⟨h4,h5⟩:=q2;let⟨u,rfl,ru⟩:=r2.one;rwa[L.isFn _ _ h4 I2.hok,wpAny_call (codeAny_mono (L.run X.A X.stack s2 H2 u v Q hr I2.env0 h4 ru h5) λr s' hq=>?_)];cases r with
  | error e=>rwa[cR hq]
  | ok fl =>
   cases fl with
   | ret u=>rwa[I2.after hq]
   | next=>rwa[cR hq]
   | brk=>rwa[cR hq]
   | cont=>rwa[cR hq]
def LamE (env:Env)(scope:ft)(cl:List (Str×ai)):Prop:=(∀x c,cl.lookup x=some c->env.cells.lookup x=some c)/\∀y∈scope.names,y.2= .free->cl.lookup y.1=env.cells.lookup y.1
def tLamb (env:Env)(T:ai)(lp:Pos)(params:gi)(body:Expr)(scope:ft):TE:=λ_ H Q=>LamT T lp (env.qual ++ "<lambda>") H∧∀g cl H',Tb T H H'→LamT T lp (env.qual ++ "<lambda>") H'→LamF (env.qual ++ "<lambda>") params body scope cl g H'→LamE env scope cl→Q (.ref g) H'
def tCallZ (env:Env)(scope:ft)(fr:List Str)(js:zC)(sp:Sp)(t:TA):TE:=λσ H Q=>t σ H λvs H1=>∃cl ws,LamE env scope cl/\cL σ js=ws.map some/\∀fz,Clo cl fz fr ws->(∀b o,fz b=some o->H1 b=none)->sp vs (ptF H1 fz) (λy H'=>Fz fz H'->Q y (ctF H' fz)) E0
open Classical in
def pW (cl:List (Str×ai))(h:bI):ai->Option Obj:=λb=>if ∃x,cl.lookup x=some b then h.get? b else none
section
variable {σ:List zU}
def pe_lam {c T:ai}(hd:defaultsOf params X.env=([],[]))(sR:X.env.code= .ref c)(C:codeHdIn X.K c T=true)(B:BM X.mg X.base)
  (hfr:∀y∈scope.names,y.2= .free->X.env.scope.names.lookup y.1=some .cell):PE X (.Lambda params body scope pos) (tLamb X.env T pos params body scope):=λ_ _ _ _ _ I ⟨L,h⟩ =>
 o6 I hd sR C B hfr L λf cl H' _ I' t1 T1 F c1 c2=>⟨.ref f,H',I',rfl,h f cl H' t1 T1 F ⟨c1,c2⟩⟩
def pf {b:ai}{o:Obj}(e:pW cl h b=some o):(∃x,cl.lookup x=some b)/\h.get? b=some o:=by
 unfold pW at e;split at e
 ·rename_i z;rwa[z,e]
 ·cases e
def frzOf_of {b:ai}{o:Obj}(z:cl.lookup x=some b)(e:h.get? b=some o):pW cl h b=some o:=by
 unfold pW;rw[tQ ⟨x,z⟩];rwa[e]
theorem Inv.clo {ws:zA}(I:‹1›)(E:LamE X.env scope cl)(hws:cL σ js=ws.map some)(hjs:js.map (λj=>X.N[j]?)=fr.map some)(hfv:∀y∈fr,scope.names.lookup y=some .free)
  (hfr:∀y∈scope.names,y.2= .free->X.env.scope.names.lookup y.1=some .cell):Clo cl (pW cl s.heap) fr ws:=by
 have lens:ws.length=fr.length:=by
  have e:=tW kH hws;have e2:=tW kH hjs;unfold cL at e;rw[aa,aa] at e e2;cbv
 rwa[λx c e=>?_,λc o e=>?_,λa b c e1 e2=>I.ok.inj a b c (E.1 a c e1) (E.1 b c e2),λi y v e1 e2=>?_,lens]
 ·let⟨v,o,ho,_⟩:=I.cell x c (E.1 x c e)
  rwa[o,frzOf_of e ho]
 ·let⟨⟨x,hx⟩,ho⟩:=pf e
  let⟨v,o',ho',hd⟩:=I.cell x c (E.1 x c hx);rw[ho] at ho';cases ho';rwa[v,hd]
 ·have e3:(cL σ js)[i]? =some (some v):=by rw[hws,av,e2];rfl
  unfold cL at e3;rw[av] at e3;let⟨j,ej,e3⟩:=aX.mp e3;have hN:X.N[j]? =some y:=by
   have q:=tW (λl=>l[i]?) hjs;simp only[av,ej,e1,gH] at q;rwa[cV q]
  have hσ:σ[j]? =some (some v):=by
   cases z:σ[j]? with
   | none=>rw[z] at e3;cases e3
   | some w=>rw[z] at e3;rwa[tW some e3]
  have hm:=cx (hfv y (aZ e1));have hce:X.env.scope.names.lookup y=some .cell:=hfr _ hm rfl;let⟨m,_,hl⟩:=I.loc;let⟨u',ru',look⟩:=hl j y v hN hσ (.inr (.inl hce))
  rcases look with ⟨k,_⟩ | ⟨_,c,ec,o,ho,hd⟩
  ·have k:X.env.scope.names.lookup y=some .local:=k
   rw[hce] at k;cases k
  ·have ecl:cl.lookup y=some c:=(E.2 _ hm rfl).trans ec
   rwa[c,o,u',ecl,frzOf_of ecl ho,hd,ru']
theorem pe_callZ {p:Pos}{k:Nat}{sp:Sp}(F:bX X.prog X.w X.K X.mg X.base CX0 k f fd ps sp)(hr:kX k X.A)(hfn:∀x,X.fn x=true)(hg:Gl X x)(hm:X.mg x=some (.ref f))(hk:dh X.K (.ref f)=true)(hb:pE X.K fd ps [])
  (hjs:js.map (λj=>X.N[j]?)=fr.map some) (hfv:∀y∈fr,scope.names.lookup y=some .free) (hfr:∀y∈scope.names,y.2= .free->X.env.scope.names.lookup y.1=some .cell)
  (ha:PA X (e::es) t) (hdb:autoParam ((x == ("__debug__" :Str))=false) Ωb) (he:autoParam (bF (e::es) X.env=(false,eO e X.env)::bF es X.env) Ωa) (hpl:autoParam ((gw pos (bF es X.env)).any (·.1)=false) Ωa) :
  PE X (.Call (.Name x p) (e::es) [] pos) (tCallZ X.env scope fr js sp t):=by
 injections;rwa[eP (sh I hg hm ?_ hdb)];rwa[k7 I.ok.mod.kin hk (thn (ha pos aN s σ H _ I h) λus s1 hz0=>?_) he hpl];let⟨vs,H1,I1,r,q⟩:=hz0;rwa[I1.kIn,?_];let⟨cl,ws,LE,hws,q⟩:=q;have C:=I1.clo LE hws hjs hfv hfr;have N:∀b o,pW cl s1.heap b=some o->H1 b=none:=λb o e=>by
  let⟨⟨x,hx⟩,_⟩:=pf e;rwa[I1.freeC x b (LE.1 x b hx)]
 have G:∀b o,pW cl s1.heap b=some o->s1.heap.get? b=some o:=λb o e=>(pf e).2
 have up:∀b o,pW cl s1.heap b=some o->X.s₀.heap.objs.size<=b:=λb o e=>by
  let⟨⟨x,hx⟩,_⟩:=pf e;rwa[I1.ok.cab x b (hfn x) (LE.1 x b hx)]
 have q:=q _ C N;have hl:us.length=ps.length:=by rw[<-r.length];rwa[F.len _ _ _ _ q]
 have e0:Env0 X.prog X.w X.K X.mg X.base X.A X.stack s1 (ptF H1 (pW cl s1.heap)):=by
  have e:=I1.env0;rwa[e.frames,e.mod,λb o eb=>⟨(e.bs b o eb).1,?_⟩,e.bsz,e.funs,λb hb=>?_,HOk.ptF e.hok N G,e.bare]
  ·cases z:pW cl s1.heap b with
   | none=>rw[iE z];rwa[(e.bs b o eb).2]
   | some o' =>
    have h1:=up b o' z;have h2:=aS eb;have h3:=I1.ok.bsz
    lia
  ·cases z:pW cl s1.heap b with
   | none=>rw[iE z];rwa[e.frf b hb]
   | some o' =>
    rcases bh.mp (I1.stkSub b hb) with el | hb'
    ·let⟨v,hv⟩:=C.cell b o' z
     let⟨m,⟨o2,es2,ep2,ho2,hd2,_⟩,_⟩:=I1.loc
     cbv
    ·let⟨_,o2,ho2,_⟩:=I1.ok.funs.mem hb'
     have h1:=up b o' z;have h2:=aS ho2
     lia
 rwa[wpAny_call (codeAny_mono (F.run X.A X.stack s1 _ ⟨us,[]⟩ us vs _ E0 hr e0 (by have:=hb s1 us I1.kIn ↥2;cbv) r q) λr' s' hq=>?_)];cases r' with
 | error e=>rwa[cR hq]
 | ok fl =>
  cases fl with
  | ret u =>
   let⟨v,H',os,bare,un,hok,rv,qv⟩:=hq;have Z:Fz (pW cl s1.heap) H':=λb o e=>un.frzs b o _ (rM e)
   rwa[I1.after ⟨v,ctF H' (pW cl s1.heap),os,bare,Un.thaw un N hok G,HOk.cut hok Z,rv,qv Z⟩]
  | next=>rwa[cR hq]
  | brk=>rwa[cR hq]
  | cont=>rwa[cR hq]
end
namespace HN
def GrdL (m:Nat)(sp:zS)(l:zC):Prop:=∃π,Ordd sp π/\l.Perm (kT sp m π).2
theorem GrdL.few (E:ke m sp)(h:0<m)(a:GrdL m sp l):l.length<m:=by
 let⟨π,O,pm⟩:=a;rw[pm.length_eq];rwa[(Gd.fold E π _ _ (λi hi=>O.lt hi) (Gd.start m sp)).few h]
end HN
def CGrt (i j:Int):Prop:=i.natAbs<10 ^ 1000/\j.natAbs<10 ^ 1000
theorem qR {x:Int}(h:x.natAbs<10 ^ 1000):ki x<=2 ^ 20:=by
 unfold ki;split
 ·cbv
 ·rename_i hx
  have h0:x.natAbs≠0:=λz=>hx ↥2
  have h2:=(Nat.log2_lt h0).mpr (Nat.lt_trans h (by omega:10 ^ 1000<2 ^ 10000))
  lia
def op_mulG:OpR X (gq .Mult) (rI CGrt λi j=>.int (i * j)):=opI λ_ _ _ _ _ _ _ hc q=>mul_int q (IntMulOk.of_bits (qR hc.1) (qR hc.2))
def ip_mulG:PIp X .Mult (λx y H Q=>∃i j,x= .int i/\y= .int j/\CGrt i j/\Q (.int (i * j)) H):=by
 intro aN s σ H x y v u Q I r1 r2 h;let⟨i,j,e1,e2,hc,q⟩:=h;subst e1;subst e2;let⟨t,rfl⟩:=r1;let⟨t',rfl⟩:=r2;rwa[imul_int ⟨.int _,H,I.tok _,⟨ς⟩,q⟩ (IntMulOk.of_bits (qR hc.1) (qR hc.2))]
def Itvl (K:ag)(a:ai)(n:Nat):It:=
 ⟨λi H=>∃xs x,SqL K H a xs/\xs.length=n/\xs.reverse[i]? =some x,λi H x H'=>H'=H/\∀xs,SqL K H a xs->xs.reverse[i]? =some x,λi _=>i=n⟩
theorem turn_revL (a it:ai)(n:Nat):Turn P w K tg (Itvl K a n) [it] it (λi h=>h.IsRevIter it a ((n:Int) - 1 - (i:Nat))) where
 mem:=by simp
 obj:=λi h st b hb=>by
  have e:b=it:=by simpa using hb
  subst e;let⟨o,e,c,d⟩:=st;rwa[o,e,λv z=>by rw[d] at z;cases z]
 keep:=λi h h' st k=>st.at λo e=>k it ∅ o e
 item:=by
  right;subst hP hw hK;let⟨xs,x,hq,hn,hx⟩:=hg;let⟨its,rv,p,hz⟩:=I.list hq;have hi:i<xs.length:=by
   have:=(aw.mp hx).1;rw[fg] at this;rwa[this]
  have hx2:=hx;rw[List.getElem?_reverse hi] at hx2;let⟨u,hu,ru⟩:=rv.get hx2;let⟨f0,f1,f2,f3,f4,f5⟩:=hf it ∅;have e:(n:Int) - 1 - (i:Nat)=((xs.length - 1 - i:Nat):Int):=by lia
  rw[e] at st;rwa[wpAny_pyNext_rev_item st p.isList (x:=u) (by simpa using hu) λh' st' sb=>?_]
  have I1:Inv X aN σ H { s with heap:=h' }:=I.turned (t':=s.toks) (λb o hb e=>(sb.2 b hb).trans e) f0 f1 f3 f4 f5;let⟨o,e2,c,d⟩:=id st';have e3:((xs.length - 1 - i:Nat):Int) - 1=(n:Int) - 1 - ((i+1:Nat):Int):=by lia
  rw[e3] at st';rwa[u,rfl,go_of (s:={ s with heap:=h' }) e2 c d ↥0 ⟨x,H,I1,ru,⟨rfl,λys hy=>by rw[I.list_inj hy hq];rwa[hx]⟩,st',λb hb=>(hf b hb).1⟩]
 done:=by
  right;subst hP hw hK;let⟨f0,f1,f2,f3,f4,f5⟩:=hf it ∅;have hg:i=n:=hg;have e:(n:Int) - 1 - (i:Nat)= -1:=by lia
  rw[e] at st;rwa[wpAny_pyNext_rev_end (I.ok.hd hc) st λh' eb=>⟨rfl,I.turned (t':=s.toks) (λb o hb e=>eb b o hb e) f0 f1 f3 f4 f5⟩]
 self:=λ_ _ _ _ _ st h=>wpAny_pyIter_revIter st h
def iRevL (K:ag)(ta:TA):TI:=λσ H R=>ta σ H λvs H1=>∃a xs,vs=[.ref a]/\SqL K H1 a xs/\R (Itvl K a xs.length) H1
theorem pi_revL {ta:TA}{p:Pos}(hg:Gl X "reversed")(hm:X.mg "reversed" =none)(ha:PA X [ea] ta)(hs:autoParam (bF [ea] X.env=[(false,eO ea X.env)]) Ωa) :
  PI X tg (.Call (.Name "reversed" p) [ea] [] pos) (iRevL X.K ta):=by
 intro aN s σ H R I h;rwa[Call_ (oj I hg hm boot_reversed (dX (thn (ha pos aN s σ H _ I h) λus s1 z=>?_) hs rfl))];let⟨vs,H1,I1,r1,q1⟩:=z;let⟨a,xs,e,hA,q⟩:=q1;subst e;let⟨u1,rfl,r2⟩:=lZ r1;cases(r2);let⟨its,rv,pt',hz⟩:=I1.list hA;have hl:=rv.length;rwa[call_reversed_list pt'.isList ?_];have z1:(s1.heap.push (revObj a (its.toArray.size - 1))).IsRevIter s1.heap.objs.size a (xs.length - 1 - ((0:Nat))):=by
  rwa[_,aR _ rfl,rfl,?_];rw[br,<-hl,show xs.length - 1 - ((0:Nat))=(xs.length:Int) - 1 by simp];rfl
 rwa[wpAny_pyIter_revIter z1 ⟨s1.heap.objs.size,[s1.heap.objs.size],_,Itvl X.K a xs.length,H1,rfl,I1.kept λc o e=>ao _ e,turn_revL a _ _,z1,λb hb=>?_,q⟩];have e:b=s1.heap.objs.size:=by simpa using hb
 subst e;rwa[I1.fpOk (ay _) (I1.hok.fresh (ay _))]
theorem for_revL {tb:TS}{D:ke}(Pv:Nat->St->Hp->Prop)(h0:Pv 0 σ H)(hl:∀i σ H,i<=xs.length->Pv i σ H->SqL K H a xs)
  (hs:∀i x σ H,xs.reverse[i]? =some x->Pv i σ H->g x σ H λσ2 H2=>tb { D with nx:=Pv (i+1),ct:=Pv (i+1),bk:=D.nx } σ2 H2) (hd:∀σ H,Pv xs.length σ H->D.nx σ H) :
  ∃W:Nat->Nat->St->Hp->Prop,(∃m,W 0 m σ H)/\∀i m σ H,W i m σ H ->
   ((Itvl K a xs.length).stop i H/\D.nx σ H)\/((Itvl K a xs.length).go i H/\∃N:St->Hp->Prop,(∀σ' H',N σ' H'->∃m',m'<m/\W (i+1) m' σ' H')/\∀x H',(Itvl K a xs.length).yld i H x H'->g x σ H' λσ2 H2=>tb { D with nx:=N,ct:=N,bk:=D.nx } σ2 H2):=by
 rwa[λi m σ H=>m=xs.length - i/\i<=xs.length/\Pv i σ H,⟨xs.length,∅,bq _,h0⟩,?_];rintro i m σ H ⟨rfl,hi,p⟩;have q:=hl i σ H hi p
 by_cases e:i=xs.length
 ·subst e
  rwa[.inl ⟨rfl,hd σ H p⟩]
 ·have hlt:i<xs.length:=dt hi e
  rwa[.inr ⟨⟨xs,_,q,rfl,gE (by rw[fg];exact hlt)⟩,Pv (i+1),λσ' H' p'=>⟨xs.length - (i+1),⋯,rfl,⋯,p'⟩,λx H' hy=>?_⟩];let⟨rfl,hx⟩:=hy;rwa[hs i x σ _ (hx xs q) p]
open AutoSeq1 (wpAny_loadPart')
theorem pI (p:ai)(items:Array ae)(x:ae)(e:ae->Bool)(he:∀y,y∈items->PySem.MeetsSeq.EqGives y x (e y))(j:Nat)(hj:j<items.size)(hit:e items[j]=true)(hno:∀m (hm:m<items.size),m<j->e items[m]=false) :
  Meets (dm.«tuple.index» ⟨[.ref p,x],[]⟩) (λ_ R s=>IsTup s.heap p items/\R (.ok (.ret (.int j s.toks))) { s with toks:=s.toks+1 }):=
 .of_wp λprog w A R s h=>by
  let⟨hp,g,d,tk,os⟩:=s;let⟨⟨o,ho,hc,n,hd⟩,h⟩:=h
  wp_walk using jW ho
  rw[hd];rwa[aP (aP ?_)]
  dsimp only
  rwa[ak (aP (ak (aP (ak ?_))))];rw[Nat.min_self,Std.Legacy.Range.forIn_eq_forIn_range'];rwa[wpAny_forIn_list _ (λl b s'=>∃k,l=List.range' k (items.size - k)/\k<=j/\b=(none,())/\s'=⟨hp,g,d,tk,os⟩) _ ?_ ?_ _ _ ?_]
  ·rintro i rest b s' ⟨k,hl,hk,rfl,rfl⟩
   have hk2:items.size - k=(items.size - (k+1))+1:=by lia
   rw[hk2,List.range'_succ] at hl;injection hl with h1 h2
   subst h1;have hik:i<items.size:=by lia
   rw[cq hik];rwa[ak (he _ (Array.getElem_mem hik) prog w _ _ _ _ ?_)]
   by_cases hij:i=j
   ·subst hij
    rw[hit,tQ rfl]
    wp_walk
    first | exact⟨ς,h⟩ | rwa[h]
   ·rw[hno i hik ⋯,tP bK]
    rwa[aP ⟨i+1,h2,⋯,rfl,rfl⟩]
  ·rintro b s' ⟨k,hl,hk,rfl,rfl⟩
   have hk2:items.size - k=(items.size - (k+1))+1:=by lia
   rw[hk2,List.range'_succ] at hl;cases hl
  ·rwa[0,?_,bq _,rfl,rfl]
   simp[Std.Legacy.Range.size]
inductive rIndexT (K:ag)(x:V)(vs:zA)(H:Hp)(Q:VK):Prop
 | mk (p:ai)(ns:zI)(k:Int)(i:Nat)(_:x= .ref p)(_:vs=[.int k])(_:SqT K H p (ns.map V.int))(_:ns[i]? =some k)(_:(∀j,j<i->ns[j]? ≠some k))(_:Q (.int (i:Nat)) H)
def mt_indexT:MtM X "tuple.index" (rIndexT X.K):=by
 push_cast;let⟨p,ns,k,i,rfl,rfl,hq,hi,hno,q⟩:=h;cases(show v=ae.ref p from rx);let⟨u,rfl,ru⟩:=rv.one;let⟨t,rfl⟩:=(show ∃t,u=ae.int k t from ru);let⟨its,r,pl,hz⟩:=I.tuple hq;have hl:its.length=ns.length:=by rw[<-r.length,aa]
 have hil:i<ns.length:=(aw.mp hi).1;have at_:∀(m:Nat) (hm:m<its.toArray.size),∃tk,its.toArray[m]=ae.int (ns[m]'(by rw[<-hl];simpa using hm)) tk:=λm hm=>by
  have hm':m<ns.length:=by rw[<-hl];simpa using hm
  let⟨u,hu,ru⟩:=r.get (i:=m) (x:=V.int ns[m]) (by rw[av,gE hm'];rfl);let⟨tk,rfl⟩:=(show ∃t,u=ae.int ns[m] t from ru);rwa[tk,by have:=(aw.mp hu).2;simpa using this]
 have e0:∀(m:Nat) (hm:m<its.toArray.size),(match its.toArray[m] with | .int y _=>y == k | _=>false)=(ns[m]'(by rw[<-hl];simpa using hm) == k):=λm hm=>by
  let⟨tk,e⟩:=at_ m hm;rw[e]
 have his:i<its.toArray.size:=by rw[br,hl];rwa[hil]
 rwa[jx F.slot_tuple_index ⟨_,pl.choose_spec.1,pl.choose_spec.2.1⟩ F.entry_tuple_index (F.args_tuple_index_2 _ _) (pI p its.toArray (.int k t) (λv=>match v with | .int y _=>y == k | _=>false) (λy hy=>?_) i his ?_ (λm hm hmi=>?_)) ⟨pl,⟨.int (i:Nat),H,I.tok _,⟨ς⟩,q⟩⟩]
 ·let⟨m,hm,rfl⟩:=Array.getElem_of_mem hy
  let⟨tk,e⟩:=at_ m hm;rw[e];rwa[MeetsSeq.EqGives.int _ _ _ _]
 ·rw[e0 i his,beq_iff_eq]
  rwa[(aw.mp hi).2]
 ·rw[e0 m hm,beq_eq_false_iff_ne]
  have hm':m<ns.length:=by rw[<-hl];simpa using hm
  intro z;rwa[hno m hmi (by rw[gE hm',z])]
def Inv.tupleN (I:‹1›)(h:H a=some (.tup xs)):∃its:zD,fZ xs its/\nS s.heap a its.toArray:=by
 let⟨z,its,r,p⟩:=I.hok a _ h;rwa[its,r,p]
def tBMT (r:V->zA->Hp->VK->Prop)(to:TE)(t:TA):TE:=λσ H Q=>to σ H λx H1=>(∃p xs,x= .ref p/\H1 p=some (.tup xs))/\t σ H1 λxs H2=>r x xs H2 Q
def pe_bmT {o:Expr}{cpos:Pos}{id:String}{r:V->zA->Hp->VK->Prop}(slot:Slot "tuple" name id)(hty:typeOf (.builtin id)=gv (.type "method_descriptor"))(hm:MtR X id r)(ho:PE X o to)(ha:PA X (e::es) t)
  (hbase:autoParam (attributeBase o name X.env (eO o X.env)=eO o X.env) Ωa)
  (hfew:autoParam (((gw cpos (bF (e::es) X.env)).all (λx=>!x.1) && (backToKw cpos (keywordEach [] X.env)).all (λx=>x.1.isSome) && decide ((e::es).length+([]:List Keyword).length+(if ([]:List Keyword).isEmpty then 0 else 1)<30))=true) Ωa)
  (hline:autoParam ((apos.endLine == cpos.line)=true) Ωa) (hs:autoParam (bF (e::es) X.env=(false,eO e X.env)::bF es X.env) Ωa) (hplain:autoParam ((gw cpos (bF es X.env)).any (·.1)=false) Ωa) :
  PE X (.Call (.Attribute o name apos) (e::es) [] cpos) (tBMT r to t):=by
 injections;rwa[wpAny_Call_method_late hbase hfew hline rfl (thn (ho aN s σ H _ I h) λv s1 hz0=>?_)];let⟨x,H1,I1,r1,ty,q1⟩:=hz0;let⟨p,xs,rfl,hp⟩:=ty;cases(show v=ae.ref p from r1);let⟨its,rv,ob,e1,c1,d1,n,dd⟩:=I1.tupleN hp;rwa["tuple",id,PySem.F.plainAttrs_tuple,slot,hty,⟨ob,e1,c1⟩,λa ea=>by cases ea;exact⟨ob,e1,d1⟩,?_];have hA:=ha cpos aN s1 σ H1 _ I1 q1;rw[hs] at hA ⊢;rwa[Calls.callWith_builtin (by show(false || (gw cpos (bF es X.env)).any (·.1))=false;rw[hplain] <;> rfl) (Calls.evalArgs_plain ?_)];rwa[thn hA λus s2 ⟨vs,H2,I2,r2,q2⟩=>hm aN s2 σ H2 (.ref p) vs (.ref p) us Q I2 r1 r2 q2]
theorem sorted_tup {l:ai}(hl:IsTup s.heap l vs.toArray)(hI:IntsAre vs ns)(h64:vs.length<64)
  (h:∀(g:bI) (out:Array ae) (ns':zI),(∀b o,s.heap.get? b=some o->g.get? b=some o)->IntsAre out.toList ns'->ns'.Perm ns->ns'.Pairwise (· <= ·)->Q (.ref g.objs.size) { s with heap:=k5 (g.push (bR "list" vs.toArray 0)) g.objs.size vs out }) :
  ‹5› (call (.builtin "sorted") [.ref l]) Q E s:=by
 let⟨ob,ho,hc,n,hd⟩:=hl;rwa[Calls.call_function_entry kind_sorted plain_sorted entry_sorted (args_sorted1 _) ?_];unfold dm.«sorted»;rwa[ak (m:=checkCount "sorted" 1 1 _) (aP ?_)];rwa[ak (wpAny_collect_seq l (.inr rfl) ho hc hd (λg hk=>?_) (by rw[br,cT];lia))];rw[show vs.toArray.toList=vs by simp];rwa[ak (jR ?_ (by rw[cT];lia))];have hoL:(g.push (bR "list" vs.toArray 0)).get? g.objs.size=some (bR "list" vs.toArray 0):=aR _ rfl;show bz _ _ _ _ _ { s with heap:=g.push (bR "list" vs.toArray 0) };rwa[ak (cX (iu slot_list_sort ⟨_,hoL,rfl⟩ entry_list_sort (list_sort_tree hoL hI h64 λout ns' a1 a2 a3=>⟨ς,?_⟩) (args_list_sort _)))];rwa[aP ⟨ς,h g out ns' hk a1 a2 a3⟩]
theorem call_sortedT:jy X (.builtin "sorted") (λxs H Q=>∃(p:ai) (ns:zI),xs=[.ref p]/\SqT X.K H p (ns.map V.int)/\ns.length<64/\∀(l:ai) (ns':zI),H l=none->ns'.Perm ns->ns'.Pairwise (· <= ·)->Q (.ref l) (upd H l (.lst (ns'.map V.int)))):=by
 norm_cast;let⟨p,ns,rfl,hq,hn,q⟩:=h;let⟨u,rfl,ru⟩:=lZ r;cases(ru);let⟨its,rv,pl,hz⟩:=I.tuple hq;have hl:its.length=ns.length:=by rw[<-rv.length,aa]
 rwa[sorted_tup pl (lE rv) ↥2 λg out ns' hk a1 a2 a3=>?_]
 have I1 :=I.kept (t':=s.toks) hk;let⟨c,hc⟩:=mM (aR _ rfl);rwa[.ref g.objs.size,_,I1.laid (o:=.lst (ns'.map V.int)) (λb u e=>kM (bP (aS e)) (ao _ e)) (ay _) ⟨?_,out.toList,c,oM a1,?_⟩,rfl,q _ ns' (I1.hok.fresh (ay _)) a2 a3]
 ·rw[aa,a2.length_eq];cbv
 ·rwa[hc]
theorem pick_backL (its:zD):slicePick its.toArray none none (some (-1))=its.reverse.toArray:=by
 unfold slicePick;have e0:kg none none (some (-1)) its.toArray.size=((its.length:Int) - 1,-1,-1):=by
  rfl
 rw[e0];have ec:(if (-1) > 0 then (if (its.length:Int) - 1< -1 then (-1 - ((its.length:Int) - 1)+ -1 - 1) / -1 else 0) else (if (its.length:Int) - 1 > -1 then (its.length - 1 - -1 - -1 - 1) / (- -1) else 0))=its.length:=by
  lia
 show(((aQ (if (-1) > 0 then (if (its.length:Int) - 1< -1 then (-1 - ((its.length:Int) - 1)+ -1 - 1) / -1 else 0) else (if (its.length:Int) - 1 > -1 then (its.length - 1 - -1 - -1 - 1) / (- -1) else 0)).toNat).map λ(k:Nat)=>(its.length - 1+ -1 * (k:Int)).toNat).filterMap (its.toArray[·]?)).toArray=_;rw[ec,List.filterMap_map];have h:=pick_back its.toArray;rw[br] at h;congr 1;rw[<-h];rwa[tW (λf=>List.filterMap f (aQ its.length)) (funext λk=>?_)]
 cbv
def tBackL (te:TE):TE:=λσ H Q=>te σ H λx H1=>∃a xs,x= .ref a/\H1 a=some (.lst xs)/\New H1 (.lst xs.reverse) Q
theorem pe_backL {p3:Pos}{j}(he:PE X e te):PE X (.Subscript e (.Slice none none (some (.UnaryOp .USub (.Constant (.int 1) j p3) p1)) p2) pos) (tBackL te):=by
 injections;rwa[Subscript_ (thn (he aN s σ H _ I h) λv s1 hz0=>?_)];let⟨x,H1,I1,r1,q1⟩:=hz0;let⟨a,xs,rfl,hx,q⟩:=q1;rwa[wpAny_Slice ?_];rwa[aP (aP ?_)];rwa[thn ((pe_un qV dQ) aN s1 σ H1 (λx H2=>x= .int (-1)/\H2=H1) I1 ⟨ς,rfl,rfl⟩) λu s2 hz0=>?_]
 let⟨x2,H2,I2,r2,e2,e3⟩:=hz0;subst e2 e3;let⟨t,rfl⟩:=r2;cases r1;have I4:Inv X aN σ H2 { s2 with heap:=s2.heap.push { cls:=.type "slice",data:=.fields #[.none,.none,.int (-1) t] } }:=I2.kept λb ob q=>ao _ q
 let⟨its,r,ht,hz⟩:=I4.list (zL hx);have hlen :=r.length.symm;rwa[tail_any ht.isList.typeIs slot_list_getitem.lookup (wpAny_getItem_list_slice ht.isList (bI.IsSliceOf.new ..) .none .none (.int (-1) t) ↥0 ?_ ↥2) (by with_unfolding_all rfl)];rw[pick_backL];rwa[.ref _,_,I4.laid (o:=.lst xs.reverse) (λ_ _ z=>ao _ z) (ay _) ⟨↥2,its.reverse,0,vals_back r,aR _ rfl⟩,rfl,q.of _ I4.fresh]
section
variable {κ:Type} [DecidableEq κ]
noncomputable def pH (kvs:List (κ×V))(k:κ):zU:=(kvs.find? λkv=>decide (kv.1=k)).map (·.2)
noncomputable def oi (kvs:List (κ×V))(k:κ)(v:V):List (κ×V):=
 if (kvs.any λkv=>decide (kv.1=k))=true then kvs.map (λkv=>if kv.1=k then (kv.1,v) else kv) else kvs++[(k,v)]
theorem i9 {p:κ×V}{r:List (κ×V)}{k:κ}(e:p.1=k):pH (p::r) k=some p.2:=by simp[pH,jE,e]
theorem iN {p:κ×V}{r:List (κ×V)}{k:κ}(e:¬p.1=k):pH (p::r) k=pH r k:=by simp[pH,jE,e]
theorem oN (k:κ):∀kvs:List (κ×V),(kvs.any λkv=>decide (kv.1=k))=(pH kvs k).isSome
 | []=>rfl
 | p::r=>by
  rw[gX]
  by_cases e:p.1=k
  ·simp only[i9 e,tS e,Bool.true_or,Option.isSome_some]
  ·rw[iN e,tU e];rwa[oN k r]
theorem valV_map (k j:κ)(y:V):∀kvs:List (κ×V),pH (kvs.map λkv=>if kv.1=k then (kv.1,y) else kv) j=(pH kvs j).map λx=>if j=k then y else x
 | []=>rfl
 | p::r=>by
  have ih:=valV_map k j y r;rw[cz]
  by_cases h:p.1=k
  ·rw[tQ h]
   by_cases e:p.1=j
   ·rw[i9 (p:=(p.1,y)) e,i9 e,gH,tQ (e.symm.trans h)]
   ·rw[iN (p:=(p.1,y)) e,iN e,ih]
  ·rw[tP h]
   by_cases e:p.1=j
   ·rw[i9 (p:=p) e,i9 e,gH,tP (λz=>h (e.trans z))]
   ·rw[iN (p:=p) e,iN e,ih]
theorem valV_snoc (k j:κ)(y:V):∀kvs:List (κ×V),pH kvs k=none->pH (kvs++[(k,y)]) j=if j=k then some y else pH kvs j
 | [],_=>by
  by_cases e:k=j
  ·rw[tQ e.symm];rwa[i9 (p:=(k,y)) e]
  ·rw[tP (λz=>e z.symm)];rwa[iN (p:=(k,y)) e]
 | p::r,hn=>by
  rw[ib];have hk:¬p.1=k:=λz=>by rw[i9 z] at hn;cases hn
  rw[iN hk] at hn;have ih:=valV_snoc k j y r hn
  by_cases e:p.1=j
  ·rw[i9 e,i9 e,tP (λz=>hk (e.trans z))]
  ·rw[iN e,iN e,ih]
theorem valV_put (kvs:List (κ×V))(k j:κ)(y:V):pH (oi kvs k y) j=if j=k then some y else pH kvs j:=by
 unfold oi
 by_cases a:(kvs.any λkv=>decide (kv.1=k))=true
 ·rw[tQ a,valV_map]
  rw[oN] at a
  by_cases e:j=k
  ·let⟨x,hx⟩:=Option.isSome_iff_exists.mp a
   rw[tQ e,e,hx,gH,tQ rfl]
  ·rw[tP e]
   cases pH kvs j with
   | none=>rfl
   | some x=>rw[gH,tP e]
 ·rw[tP a]
  rwa[valV_snoc k j y kvs ?_];rw[oN] at a;cases q:pH kvs k with
  | none=>rfl
  | some x=>rw[q] at a;rwa[(a rfl).elim]
theorem mQ (kvs:List (κ×V))(k:κ)(v:V):(oi kvs k v).length<=kvs.length+1:=by
 unfold oi;split
 ·rw[aa];cbv
 ·rw[ax,bE,List.length_nil];lia
theorem putK_new {kvs:List (κ×V)}{k:κ}(v:V)(h:pH kvs k=none):oi kvs k v=kvs++[(k,v)]:=by
 unfold oi;rw[oN]
 cbv
theorem RelO.isSome_eq {o:zU}{u:zJ}(r:RelO o u):o.isSome=u.isSome:=by
 cases o with
 | none=>cases u with
  | none=>rfl
  | some _=>rwa[(r).elim]
 | some _=>cases u with
  | none=>rwa[(r).elim]
  | some _=>rfl
theorem KV.val {kvs:List (κ×V)}{vs:List (κ×ae)}(r:KV kvs vs)(k:κ):RelO (pH kvs k) (valueAt vs k):=by
 induction r with
 | nil=>rwa[True.intro]
 | @cons p q ps qs h t ih =>
  let⟨h1,h2⟩:=h
  by_cases e:p.1=k
  ·have e' :=h1.symm.trans e
   have b:valueAt (q::qs) k=some q.2:=by simp[valueAt,jE,e']
   rw[i9 e,b];rwa[h2]
  ·have e':¬q.1=k:=λz=>e (h1.trans z)
   have b:valueAt (q::qs) k=valueAt qs k:=by simp[valueAt,jE,e']
   rw[iN e,b];rwa[ih]
theorem KV.any {kvs:List (κ×V)}{vs:List (κ×ae)}(r:KV kvs vs)(k:κ):(kvs.any λkv=>decide (kv.1=k))=vs.any λkv=>decide (kv.1=k):=by
 unfold KV at r
 induction r with
 | nil=>rfl
 | cons h t ih=>rw[gX,gX,ih,h.1]
theorem KV.repl {kvs:List (κ×V)}{vs:List (κ×ae)}(r:KV kvs vs)(k:κ)(ry:gN y u) :
  KV (kvs.map λkv=>if kv.1=k then (kv.1,y) else kv) (vs.map λkv=>if kv.1=k then (kv.1,u) else kv):=by
 induction r with
 | nil=>rwa[.nil]
 | @cons p q ps qs h t ih =>
  rwa[.cons ?_ ih]
  lia
theorem KV.put {kvs:List (κ×V)}{vs:List (κ×ae)}(r:KV kvs vs)(k:κ)(ry:gN y u):KV (oi kvs k y) (stored vs k u):=by
 unfold oi stored;rw[r.any k]
 by_cases e:(vs.any λkv=>decide (kv.1=k))=true
 ·rw[tQ e,tQ e];rwa[r.repl k ry]
 ·rw[tP e,tP e];rwa[Paired.snoc r ⟨rfl,ry⟩]
theorem KV.length {kvs:List (κ×V)}{vs:List (κ×ae)}(r:KV kvs vs):kvs.length=vs.length:=Paired.length r
end
def kV_is {k:Key}(r:gN (kV k) u):(ji P w).is k u=true:=by
 cases k with
 | inl i=>let⟨t,e⟩:=(r);subst e;rwa[mixKind_int P w i t]
 | inr x=>let⟨t,e⟩:=(r);subst e;rwa[mixKind_str P w x t]
theorem items_are {P:aL}{w:bp}:∀{ks:List Key} {us:zD},fZ (ks.map kV) us->ItemsAre (ji P w) ks us
 | [],_,r=>by cases r;rwa[.nil]
 | k::ks,_,r=>by
  cases r with
  | cons h t=>rwa[.cons (kV_is h) (items_are t)]
abbrev KT (H:Hp):List (List Key×V)->List (List Key×ai×ae)->Prop:=kE λp q=>p.1=q.1/\H q.2.1=some (.tup (p.1.map kV))/\gN p.2 q.2.2
theorem KT.val {xs:List (List Key×ai×ae)}(r:KT H kvs xs)(k:List Key):RelO (pH kvs k) ((atKey xs k).map (·.2)):=by
 induction r with
 | nil=>rwa[True.intro]
 | @cons p q ps qs h t ih =>
  let⟨h1,_,h2⟩:=h
  by_cases e:p.1=k
  ·have e' :=h1.symm.trans e
   have b:atKey (q::qs) k=some q.2:=by simp[atKey,jE,e']
   rw[i9 e,b];rwa[h2]
  ·have e':¬q.1=k:=λz=>e (h1.trans z)
   have b:atKey (q::qs) k=atKey qs k:=by simp[atKey,jE,e']
   rw[iN e,b];rwa[ih]
theorem KT.repl {xs:List (List Key×ai×ae)}(r:KT H kvs xs)(k:List Key)(ry:gN y u) :
  KT H (kvs.map λkv=>if kv.1=k then (kv.1,y) else kv) (xs.map (putAt k u)):=by
 induction r with
 | nil=>rwa[.nil]
 | @cons p q ps qs h t ih =>
  rwa[.cons ?_ ih];unfold putAt
  lia
theorem KT.put {xs:List (List Key×ai×ae)}(r:KT H kvs xs)(k:List Key){b:ai}(hb:H b=some (.tup (k.map kV)))(ry:gN y u) :
  KT H (oi kvs k y) (storedH xs k b u):=by
 have e:(kvs.any λkv=>decide (kv.1=k))=(atKey xs k).isSome:=by
  rw[oN,(r.val k).isSome_eq,Option.isSome_map]
 unfold oi storedH;rw[e]
 by_cases q:(atKey xs k).isSome=true
 ·rw[tQ q,tQ q];rwa[r.repl k ry]
 ·rw[tP q,tP q];rwa[Paired.snoc r ⟨rfl,hb,ry⟩]
def KT.keeps {xs:List (List Key×ai×ae)}(r:KT H kvs xs)(ht:∀b ys,H b=some (.tup ys)->H' b=some (.tup ys)):KT H' kvs xs:=
 Paired.mapP r λ_ _ z=>⟨z.1,ht _ _ z.2.1,z.2.2⟩
def rd_of {u:HO}(ok:HOk P w H h)(e:Rd H a u):km P w H h a u:=e.ok ok
def dk_rd {kvs:za}(ok:HOk P w H h)(e:Rd H a (.dK kvs)):kvs.length<=aO/\(a == j5)=false/\∃vs,KV kvs vs/\h.DictOf (ji P w) a vs:=
 rd_of ok e
def dk_of {kvs:za}(ok:HOk P w H h)(e:H a=some (.dK kvs)):kvs.length<=aO/\(a == j5)=false/\∃vs,KV kvs vs/\h.DictOf (ji P w) a vs:=dk_rd ok (.inl e)
theorem key_of {ks:List Key}(ok:HOk P w H h)(e:H a=some (.tup (ks.map kV))):(tupleKind (ji P w)).is h ks a:=by
 let⟨_,its,r,o,h1,h2,_,n,h3⟩:=(ok a _ e);rwa[o,its.toArray,n,h1,h2,h3,by simpa using items_are r]
theorem dt_rd (ok:HOk P w H h)(e:Rd H a (.dT kvs)):kvs.length<=aO/\(a == j5)=false /\
  ∃xs,KT H kvs xs/\h.DictOfH (tupleKind (ji P w)) a xs:=by
 let⟨z,y,xs,r,o,es,ep,h1,h2,h3,h4,h5⟩:=(rd_of ok e);rwa[z,y,xs,r,o,es,ep,h1,h2,h3,h4,λx hx=>?_,h5];have all:∀{l:List (List Key×V)} {m:List (List Key×ai×ae)},KT H l m->∀x∈m,(tupleKind (ji P w)).is h x.1 x.2.1:=by
  intro l m q
  induction q with
  | nil=>cbv
  | @cons p q ps qs hq t ih =>
   grind [bh,key_of]
 rwa[all r x hx]
def dt_of (ok:HOk P w H h)(e:H a=some (.dT kvs)):kvs.length<=aO/\(a == j5)=false /\
  ∃xs,KT H kvs xs/\h.DictOfH (tupleKind (ji P w)) a xs:=dt_rd ok (.inl e)
def DGet (H:Hp)(a:ai)(y:V)(r:zU):Prop:=
 (∃kvs k,Rd H a (.dK kvs)/\y=kV k/\r=pH kvs k)\/∃kvs k b,Rd H a (.dT kvs)/\y= .ref b/\H b=some (.tup (k.map kV))/\r=pH kvs k
def DPut (H:Hp)(a:ai)(y v:V)(H':Hp):Prop:=
 (∃kvs k,H a=some (.dK kvs)/\y=kV k/\kvs.length<aO/\H'=upd H a (.dK (oi kvs k v))) \/
 ∃kvs k b,H a=some (.dT kvs)/\y= .ref b/\H b=some (.tup (k.map kV))/\kvs.length<aO/\H'=upd H a (.dT (oi kvs k v))
theorem DGet.k {H:Hp}{a:ai}{kvs:za}{k:Key}(e:H a=some (.dK kvs)):DGet H a (kV k) (pH kvs k):=.inl ⟨kvs,k,.inl e,rfl,rfl⟩
theorem DPut.k {H:Hp}{a:ai}{kvs:za}{k:Key}{v:V}(e:H a=some (.dK kvs))(hl:kvs.length<aO):DPut H a (kV k) v (upd H a (.dK (oi kvs k v))):=.inl ⟨kvs,k,e,rfl,hl,rfl⟩
section
variable {v:V}{r:ae}{o:zU}
def d_getItem (hu:A.units+1<cLine)(I:‹1›)(g:DGet H a y (some v))(ry:gN y u)(h:∀w' s',Inv X aN σ H s'->gN v w'->Q w' s') :
  bz (bC X.prog X.w) A (getItem (.ref a) u) Q E s:=by
 rcases g with ⟨kvs,k,e,ey,l⟩ | ⟨kvs,k,b,e,ey,eb,l⟩
 ·subst ey
  let⟨z,hd,vs,rel,dd⟩:=dk_rd I.hok e;let⟨w',hw,rw'⟩:=RelO.some_of (by rw[l];rwa[rel.val k]);rwa[wpAny_getItem_of (kV_is ry) dd.mapOf hw (h w' _ (I.tok _) rw')]
 ·subst ey
  cases(ry);let⟨z,hd,xs,rel,dd⟩:=dt_rd I.hok e;let⟨w',hw,rw'⟩:=RelO.some_of (by rw[l];rwa[rel.val k]);let⟨p,hp,hp2⟩:=aX.mp hw;rwa[wpAny_getItem_heap (tupleKind_room_in1 hu) (key_of I.hok eb) dd hp ?_];rw[hp2];rwa[h w' _ (I.tok _) rw']
def d_notIn (hu:A.units+1<cLine)(I:‹1›)(g:DGet H a y o)(ry:gN y u)(h:∀s',Inv X aN σ H s'->Q (.bool (!o.isSome)) s') :
  bz (bC X.prog X.w) A (cZ .NotIn u (.ref a)) Q E s:=by
 rcases g with ⟨kvs,k,e,ey,l⟩ | ⟨kvs,k,b,e,ey,eb,l⟩
 ·subst ey
  let⟨z,hd,vs,rel,dd⟩:=dk_rd I.hok e;rwa[wpAny_notIn_of (kV_is ry) hd dd.mapOf ?_];rw[<-(rel.val k).isSome_eq,<-l];rwa[h _ (I.tok _)]
 ·subst ey
  cases(show u=ae.ref b from ry);let⟨z,hd,xs,rel,dd⟩:=dt_rd I.hok e;rwa[wpAny_notIn_heap (tupleKind_room_in1 hu) (key_of I.hok eb) hd dd ?_];have q:=(rel.val k).isSome_eq;rw[Option.isSome_map] at q;rw[<-q,<-l];rwa[h _ (I.tok _)]
def d_write {ob:HO}(I:‹1›)(mu:Mut (H a))(hs:df a s.heap h')(he:∃q,h'.get? a=some q)(new:km X.prog X.w (upd H a ob) h' a ob) :
  Inv X aN σ (upd H a ob) { s with heap:=h',toks:=t' }:=
 I.write mu (.inl rfl) (λb q hb z=>(hs.2 b hb).trans z) he new
def dk_new {kvs:za}{vs:List (Key×ae)}(z:kvs.length<=aO)(hd:(a == j5)=false)(rel:KV kvs vs)(dd:h'.DictOf (ji P w) a vs) :
  km P w H' h' a (.dK kvs):=⟨z,hd,vs,rel,dd⟩
theorem d_setItem {Q:Unit->aq->Prop}(hu:A.units+1<cLine)(I:‹1›)(g:DPut H a y v H')(ry:gN y u)(rv:gN v r)(h:∀s',Inv X aN σ H' s'->Q () s') :
  bz (bC X.prog X.w) A (setItem (.ref a) u r) Q E s:=by
 rcases g with ⟨kvs,k,e,ey,l,eH⟩ | ⟨kvs,k,b,e,ey,eb,l,eH⟩
 ·subst ey eH
  let⟨z,hd,vs,rel,dd⟩:=dk_of I.hok e;have hz:vs.length<=aO:=by rw[<-rel.length];rwa[z]
  have hl:(oi kvs k v).length<=aO:=by have:=mQ kvs k v;lia
  rwa[wpAny_setItem_pairs (kV_is ry) dd λh' dd' hs=>h _ ?_]
  have he:∃q,h'.get? a=some q:=let ⟨q,_,_,hq,_⟩:=dd';⟨q,hq⟩;rwa[d_write I (by rw[e];exact True.intro) hs he (dk_new hl hd (rel.put k rv) dd')]
 ·subst ey eH
  cases(ry);let⟨z,hd,xs,rel,dd⟩:=dt_of I.hok e;have hz:xs.length<=aO:=by rw[<-Paired.length rel];rwa[z]
  have hl:(oi kvs k v).length<=aO:=by have:=mQ kvs k v;lia
  rwa[wpAny_setItem_heap (tupleKind_room_in1 hu) (key_of I.hok eb) dd λh' dd' hs=>h _ ?_]
  let⟨q,es,ep,hq,h2,h3,h4,_,h5⟩:=dd';rwa[d_write I (by rw[e];exact True.intro) hs ⟨q,hq⟩ ⟨hl,hd,_,(rel.put k eb rv).keeps λc ys ec=>?_,q,es,ep,hq,h2,h3,h4,h5⟩];rw[bw ⋯];rwa[ec]
end
def NoSl (i:Expr):Prop:=∀ov iv,subscripted i false ov iv=operate [ov,iv] (getItem ov iv)
theorem subD_of {slice:Expr}{id:String}
  (hl:typeLookup (.type T) "__getitem__" =gv (some (.builtin id))) (hs:NoSl slice)
  (h:‹5› (eO value env) (λo s₁=>‹5› (eO slice env) (λi s₂=>s₂.TypeIs o T/\‹5› (getItem o i) Q E s₂) E s₁) E s) :
  ‹5› (eO (.Subscript value slice pos) env) Q E s:=by
 rwa[Subscript_ (cj h (λo s₁ h₁=>cj h₁ (λi s₂ h₂=>?_) λ_ _ x=>x) λ_ _ x=>x)];let⟨hT,h₂⟩:=h₂;rwa[ak ?_];rwa[ak (wpAny_specialOf hT hl ?_)];have fin:‹5› (subscripted slice false o i) (λr s₃=>‹5› (letTemporaryGo value o r >>= λ_=>gv r) Q E s₃) E s₂:=by
  rw[hs o i];rwa[wpAny_operating (cj h₂ (λr s₃ h₃=>ak (wpAny_letTemporaryGo (aP h₃))) λ_ _ x=>x)]
 grind [aP,ak]
def dict_typeIs {o:zU}(I:‹1›)(g:DGet H a y o):s.TypeIs (.ref a) "dict":=by
 rcases g with ⟨kvs,k,e,_,_⟩ | ⟨kvs,k,b,e,_,_,_⟩
 ·let⟨_,_,vs,_,dd⟩:=dk_rd I.hok e
  rwa[dd.typeIs]
 ·let⟨_,_,xs,_,dd⟩:=dt_rd I.hok e
  rwa[dd.typeIs]
def tDGet (td ty:TE):TE:=λσ H Q=>td σ H λx H1=>ty σ H1 λy H2=>∃a v,x= .ref a/\DGet H2 a y (some v)/\Q v H2
def tDNotIn (ty td:TE):TE:=λσ H Q=>ty σ H λy H1=>td σ H1 λx H2=>∃a o,x= .ref a/\DGet H2 a y o/\Q (.bl (!o.isSome)) H2
def sDPut (td ty tv:TE):TS:=λD σ H=>tv σ H λv H1=>td σ H1 λx H2=>ty σ H2 λy H3=>∃a H4,x= .ref a/\DPut H3 a y v H4/\D.nx σ H4
section
variable {o i:Expr}{td ty tv:TE}
def pe_dget (hu:X.A.units+1<cLine)(ho:PE X o td)(hi:PE X i ty)(hs:NoSl i):PE X (.Subscript o i pos) (tDGet td ty):=by
 injections;rwa[subD_of PySem.F.slot_dict_getitem.lookup hs (thn (ho aN s σ H _ I h) λu s1 ⟨x,H1,I1,rx,q1⟩=>thn (hi aN s1 σ H1 _ I1 q1) λiv s2 hz0=>?_)];let⟨y,H2,I2,ry,a,v,ex,g,q2⟩:=hz0;subst ex;obtain rfl:u=ae.ref a:=rx;rwa[dict_typeIs I2 g,d_getItem hu I2 g ry λw' s3 I3 rw'=>⟨v,H2,I3,rw',q2⟩]
def mj (hu:X.A.units+1<cLine)(hi:PE X i ty)(ho:PE X o td):PC X .NotIn i o (tDNotIn ty td):=by
 injections;rwa[thn (hi aN s σ H _ I h) λiv s1 ⟨y,H1,I1,ry,q1⟩=>thn (ho aN s1 σ H1 _ I1 q1) λu s2 hz0=>?_]
 let⟨x,H2,I2,rx,a,ov,ex,g,q2⟩:=hz0;subst ex;obtain rfl:u=ae.ref a:=rx;rwa[d_notIn hu I2 g ry λs3 I3=>⟨.bl (!ov.isSome),H2,I3,rfl,q2⟩]
def ps_dput (hu:X.A.units+1<cLine)(ho:PE X o td)(hi:PE X i ty)(hv:PE X value tv)(hs:swapsWith value (some (.Subscript o i pos')) pos.line X.env=gv false) :
  PS X (.Assign [.Subscript o i pos'] value pos) (sDPut td ty tv):=by
 intro aN s σ H D I h;rwa[wpAny_Assign_Subscript (thn (hv aN s σ H _ I h) λr s1 ⟨v,H1,I1,rv,q1⟩=>thn (ho aN s1 σ H1 _ I1 q1) λu s2 ⟨x,H2,I2,rx,q2⟩=>thn (hi aN s2 σ H2 _ I2 q2) λiv s3 hz0=>?_) hs];let⟨y,H3,I3,ry,a,H4,ex,g,q3⟩:=hz0;subst ex;obtain rfl:u=ae.ref a:=rx;rwa[d_setItem hu I3 g ry rv λs4 I4=>⟨σ,H4,I4,q3⟩]
end
def tPairs:List (TE×TE)->St->Hp->(List (V×V)->Hp->Prop)->Prop
 | [],_,H,Q=>Q [] H
 | (tk,tv)::r,σ,H,Q=>tk σ H λx H1=>tv σ H1 λy H2=>tPairs r σ H2 λps H3=>Q ((x,y)::ps) H3
abbrev VV:List (V×V)->List (ae×ae)->Prop:=kE λp q=>gN p.1 q.1/\gN p.2 q.2
def PPs (X:Cx)(pos:Pos)(keys:List (Option Expr))(values:List Expr)(trs:List (TE×TE)):Prop:=
 ∀(aN:List (ai×Obj)) (s:aq) (σ:St) (H:Hp) (Q:List (V×V)->Hp->Prop),‹1›->tPairs trs σ H Q ->
  ‹2› (evalPairs (pairTrees keys values X.env pos)) (λvs s'=>∃ps H',Inv X aN σ H' s'/\VV ps vs/\Q ps H') X.xe s
def pps_nil:PPs X pos [] [] []:=λaN s σ H Q I h=>pairTrees_nil_walk ⟨[],H,I,.nil,h⟩
def pps_cons {k v:Expr}{ks:List (Option Expr)}{vs:List Expr}{tk tv:TE}(hk:PE X k tk)(hv:PE X v tv)(hr:PPs X pos ks vs trs) :
  PPs X pos (some k::ks) (v::vs) ((tk,tv)::trs):=λaN s σ H Q I h =>
 pairTrees_cons_walk (thn (hk aN s σ H _ I h) fun u s1 ⟨x,H1,I1,rx,q1⟩=>thn (hv aN s1 σ H1 _ I1 q1) fun w2 s2 ⟨y,H2,I2,ry,q2⟩ =>
  thn (hr aN s2 σ H2 _ I2 q2) fun ws s3 ⟨ps,H3,I3,rel,q3⟩=>⟨(x,y)::ps,H3,I3,.cons ⟨rx,ry⟩ rel,q3⟩)
def mq (kvs more:za):za:=more.foldl (λacc kv=>oi acc kv.1 kv.2) kvs
theorem KV.merge:∀{more:za} {rs:List (Key×ae)} {kvs:za} {vs:List (Key×ae)},KV more rs->KV kvs vs->KV (mq kvs more) (merged vs rs):=by
 intro more rs kvs vs r
 induction r generalizing kvs vs with
 | nil=>intro q;rwa[q]
 | @cons p q ps qs h t ih =>
  intro r0;have e:KV (oi kvs p.1 p.2) (stored vs q.1 q.2):=by
   have:=r0.put p.1 h.2
   cbv
  rwa[ih e]
theorem oZ:∀(more kvs:za),(mq kvs more).length<=kvs.length+more.length
 | [],kvs=>by show kvs.length<=kvs.length+0;(constructor <;> lia)
 | p::r,kvs=>by
  have h1:=oZ r (oi kvs p.1 p.2)
  grind [mQ,mq,oi,bE]
theorem tM {P:aL}{w:bp}:∀{kvs:za} {ws:List (ae×ae)},VV (kvs.map λkv=>(kV kv.1,kv.2)) ws->∃rs,Carries (ji P w) ws rs/\KV kvs rs
 | [],_,r=>by cases r;rwa[[],True.intro,.nil]
 | p::kvs,_,r=>by
  cases r with
  | @cons a b as bs h t =>
   let⟨rs,c,q⟩:=tM t;let⟨b1,b2⟩:=b;rwa[(p.1,b2)::rs,⟨kV_is h.1,rfl,c⟩,.cons ⟨rfl,h.2⟩ q]
def tDisp (trs:List (TE×TE)):TE:=λσ H Q=>∀p,H p=none->tPairs trs σ (upd H p (.dK [])) λps H2=>H2 p=some (.dK [])/\∃kvs:za,ps=kvs.map (λkv=>(kV kv.1,kv.2))/\kvs.length<=15/\Q (.ref p) (upd H2 p (.dK (mq [] kvs)))
theorem pe_disp {values:List Expr}(h:PPs X pos keys values trs)(hall:keys.all (·.isSome)=true)(hl:keys.length=values.length)(h0:keys≠[])
  (h15:keys.length<=15):PE X (.Dict keys values pos) (tDisp trs):=by
 intro aN s σ H Q I q;have hn:=I.hok.fresh (ay s.heap.objs.size);have I1:=I.laid (t':=s.toks) (λ_ _ q=>ao _ q) (ay _) (dk_empty s.heap I.big);rwa[wpAny_Dict_walk (knd:=ji X.prog X.w) hall hl h0 h15 (thn (h aN _ σ _ _ I1 (q _ hn)) λws s2 hz0=>?_)];let⟨ps,H2,I2,rel,e,kvs,ep,lk,q2⟩:=hz0;subst ep;let⟨rs,c,rk⟩:=tM rel;let⟨z,hd,vs0,r0,dd⟩:=dk_of I2.hok e;cases r0;rwa[rs,c,dd,λh' dd' hs=>⟨.ref s.heap.objs.size,_,?_,rfl,q2⟩];have hz:(mq [] kvs).length<=aO:=by
  grind [oZ,List.length_nil,cT]
 have he:∃q,h'.get? s.heap.objs.size=some q:=let ⟨q,_,_,hq,_⟩:=dd';⟨q,hq⟩;rwa[d_write I2 (by rw[e];exact True.intro) hs he (dk_new hz hd (rk.merge .nil) dd')]
theorem wp_forIn {α β:Type}{f:α->β->Sem (ForInStep β)}{Q:β->aq->Prop}:∀(l:List α) (I:Nat->β->aq->Prop) (b:β) (s:aq),I 0 b s ->
  (∀i a b s,l[i]? =some a->I i b s->bz M A (f a b) (λr s'=>∃b',r= .yield b'/\I (i+1) b' s') E s)->(∀b s,I l.length b s->Q b s)->bz M A (forIn l b f) Q E s
 | [],_,b,s,h0,_,hd=>by
  rw[List.forIn_nil];rwa[aP (hd b s h0)]
 | a::l,I,b,s,h0,hs,hd=>by
  rw[List.forIn_cons];rwa[ak (cj (hs 0 a b s rfl h0) (λr s' hz0=>?_) λ_ _ f=>f)];let⟨b',e,h'⟩:=hz0;subst e;rwa[wp_forIn l (λi=>I (i+1)) b' s' h' (λi a b s ha hi=>hs (i+1) a b s ha hi) λb s h=>hd b s h]
structure Sq where
 l:Bool
 a:ai
def SqAt (h:bI)(c:Sq)(xs:Array ae):Prop:=match c.l with | true=>h.IsList c.a xs | false=>h.IsTuple c.a xs
def ItAt (h:bI)(c:Sq)(i:ai)(k:Nat):Prop:=match c.l with | true=>h.IsListIter i c.a k | false=>h.IsTupleIter i c.a k
abbrev pB (h:bI)(T:ai)(vs:zD):Prop:=h.get? T=some { cls:=.type "tuple",data:=.seq vs.toArray }
theorem SqAt.ext {g:bI}{c:Sq}{xs:Array ae}(x:SqAt h c xs)(e:∀o,h.get? c.a=some o->g.get? c.a=some o):SqAt g c xs:=by
 let⟨l,a⟩:=c;cases l with
 | true=>let⟨o,ho,r⟩:=(x);rwa[o,e o ho,r]
 | false=>let⟨o,ho,r⟩:=(x);rwa[o,e o ho,r]
theorem ItAt.ext {g:bI}{c:Sq}{i:ai}{k:Nat}(x:ItAt h c i k)(e:∀o,h.get? i=some o->g.get? i=some o):ItAt g c i k:=by
 let⟨l,a⟩:=c;cases l with
 | true=>let⟨o,ho,r⟩:=(x);rwa[o,e o ho,r]
 | false=>let⟨o,ho,r⟩:=(x);rwa[o,e o ho,r]
theorem ItAt.obj {c:Sq}{i:ai}{k:Nat}(x:ItAt h c i k):∃o,h.get? i=some o/\∀v,o.data≠ .cell v:=by
 let⟨l,a⟩:=c;cases l with
 | true=>let⟨o,ho,_,d⟩:=(x);cbv
 | false=>let⟨o,ho,_,d⟩:=(x);cbv
theorem nextS_item {c:Sq}{i:ai}{k:Nat}{xs:Array ae}{v:ae}(jt:ItAt s.heap c i k)(tt:SqAt s.heap c xs)(hv:xs[k]? =some v)
  (q:∀g,ItAt g c i (k+1)->df i s.heap g->Q v { s with heap:=g }):‹5› (fQ (.ref i)) Q E s:=by
 let⟨l,a⟩:=c;cases l with
 | true=>rwa[wpAny_nextOf_list_item (jt) (tt) hv λg h1 h2=>q g h1 h2]
 | false=>rwa[tG (jt) (tt) hv λg h1 h2=>q g h1 h2]
theorem nextS_end {c:Sq}{i:ai}{k:Nat}{xs:Array ae}(hh:A.handled=none)(jt:ItAt s.heap c i k)(tt:SqAt s.heap c xs)(hv:xs[k]? =none)
  (q:∀g x,bI.ExtBut i s.heap g->(∃o,g.get? x=some o/\o.cls= .type "StopIteration")->E (.ref x) { s with heap:=g }):‹5› (fQ (.ref i)) Q E s:=by
 let⟨l,a⟩:=c;cases l with
 | true=>rwa[wpAny_nextOf_list_end hh (jt) (tt) hv (by omega)]
 | false=>rwa[nextT_end hh (jt) (tt) hv (by omega)]
theorem iterS {c:Sq}{xs:Array ae}(tt:SqAt s.heap c xs)
  (q:∀g,ItAt g c s.heap.objs.size 0->g.objs.size=s.heap.objs.size+1->(∀b o,s.heap.get? b=some o->g.get? b=some o)->Q (.ref s.heap.objs.size) { s with heap:=g }):‹5› (pyIter (.ref c.a)) Q E s:=by
 let⟨l,a⟩:=c;cases l with
 | true=>rwa[wpAny_pyIter_list (tt) (q _ ⟨_,aR _ rfl,rfl,rfl⟩ (fc ..) λb o e=>ao _ e)]
 | false=>rwa[iL (tt) (q _ ⟨_,aR _ rfl,rfl,rfl⟩ (fc ..) λb o e=>ao _ e)]
def updRow {T:ai}{x:ae}{k:Nat}{Q:Unit->aq->Prop}(hT:pB s.heap T vs)(hz:vs.length<=100)
  (h:∀g,pB g T (vs.set k x)->df T s.heap g->Q () { s with heap:=g }):‹5› (updateSeq T (·.setIfInBounds k x)) Q E s:=by
 rwa[wpAny_updateSeq hT rfl (h _ ?_ (gJ ..)) (by exact aU hz ↥0) (by rw[Array.size_setIfInBounds];exact aU hz ↥0)];show bI.get? _ T=_;rw[bI.get?_update_self _ hT rfl];simp[cE]
structure ZIn (h g:bI)(z TI TO:ai)(cs:List Sq)(is:zX)(k j:Nat)(vs old:zD):Prop where
 sz:g.objs.size=h.objs.size
 zip:IsZip g z TI TO .ellipsis
 row:pB g TO (vs.take j++old.drop j)
 its:∀(n:Nat) c i,cs[n]? =some c->is[n]? =some i->ItAt g c i (if n<j then k+1 else k)
 ext:∀e o,e≠z->e≠TO->e ∉ is->h.get? e=some o->g.get? e=some o
structure ZOk (h:bI)(z TI TO:ai)(cs:List Sq)(is:zX)(k:Nat)(old:zD):Prop where
 len:is.length=cs.length
 few:cs.length<=8
 pos:0<cs.length
 nod:(z::TI::TO::is).Nodup
 zip:IsZip h z TI TO .none
 ti:pB h TI (is.map ae.ref)
 to:pB h TO old
 lo:old.length=cs.length
 its:∀(n:Nat) c i,cs[n]? =some c->is[n]? =some i->ItAt h c i k
 off:∀c∈cs,c.a≠z/\c.a≠TO/\c.a ∉ is
def nod_ne {is:zX}{i:ai}{n:Nat}{e:ai}(hn:is.Nodup)(h1:is[j]? =some i)(h2:is[n]? =some e)(h:n≠j):e≠i:=λz=>by
 subst z;have a:=(aw.mp h1);have b:=(aw.mp h2);let⟨ha,ea⟩:=a;let⟨hb,eb⟩:=b;rwa[h ((List.getElem_inj hn).mp (eb.trans ea.symm))]
theorem ZIn.step {g:bI}{z TI TO:ai}{cs:List Sq}{is:zX}{k:Nat}{old:zD}{i:ai}{c:Sq}(D:ZOk h z TI TO cs is k old)(Z:ZIn h g z TI TO cs is k j vs old)(hi:is[j]? =some i)(hc:cs[j]? =some c){g2 g3:bI}{v:ae}(hv:vs[j]? =some v)(lv:vs.length=cs.length)
  (n2:ItAt g2 c i (k+1)) (s2:df i g g2) (r3:pB g3 TO ((vs.take j++old.drop j).set j v)) (s3:df TO g2 g3):ZIn h g3 z TI TO cs is k (j+1) vs old:=by
 have nod:=D.nod;rw[cy,cy,cy] at nod;let⟨nz,nT,nO,ni⟩:=nod;have mi:i∈is:=aZ hi;have iz:z≠i:=λq=>nz (by rw[q];simp[mi])
 have iO:TO≠i:=λq=>nO ↥2
 have zO:z≠TO:=λq=>nz (by rw[q];simp)
 have jl:j<cs.length:=(aw.mp hc).1;rwa[by rw[s3.1,s2.1,Z.sz],s3.extBut _ _ zO (s2.extBut _ _ iz Z.zip),?_,λn c' i' hc' hi'=>?_,λe o e1 e2 e3 q=>s3.extBut _ _ e2 (s2.extBut _ _ (λy=>e3 ↥2) (Z.ext e o e1 e2 e3 q))]
 ·have lo:=D.lo
  have e:(vs.take j++old.drop j).set j v=vs.take (j+1)++old.drop (j+1):=by
   have l1:(vs.take j).length=j:=↥1
   rw[List.set_append,tP ↥2,l1,Nat.sub_self,List.drop_eq_getElem_cons (by cbv:j<old.length),List.set_cons_zero,aE,hv];simp
  lia
 ·have mi':i'∈is:=aZ hi'
  have iO':i'≠TO:=λq=>nO ↥2
  by_cases e:n=j
  ·subst e
   rw[hi] at hi';rw[hc] at hc';cases hi';cases hc';rw[tQ (by (constructor <;> lia))];rwa[n2.ext λo q=>s3.extBut _ _ iO' q]
  ·have q:=Z.its n c' i' hc' hi'
   have e2:(if n<j+1 then k+1 else k)=(if n<j then k+1 else k):=by
    lia
   rw[e2];rwa[q.ext λo r=>s3.extBut _ _ iO' (s2.extBut _ _ (nod_ne ni hi hi' e) r)]
theorem zipS_all {z TI TO:ai}{cs:List Sq}{is:zX}{k:Nat}{old:zD}{Q:zJ->aq->Prop}(hh:A.handled=none)(D:ZOk s.heap z TI TO cs is k old)
  (hv:∀(n:Nat) c,cs[n]? =some c->n<m->∃xs v,SqAt s.heap c xs/\xs[k]? =some v/\vs[n]? =some v) (lv:vs.length=cs.length) (he:∀c,cs[m]? =some c->∃xm,SqAt s.heap c xm/\xm[k]? =none)
  (q0:m<cs.length->∀g,(∀e o,e≠z->e≠TO->e ∉ is->s.heap.get? e=some o->g.get? e=some o)->Q none { s with heap:=g })
  (q:cs.length<=m->∀ g,IsZip g z TI TO (rawInt s.heap.objs.size)->pB g TO vs->(∀ (n:Nat) c i,cs[n]? =some c->is[n]? =some i->ItAt g c i (k+1))->pB g s.heap.objs.size vs->g.objs.size=s.heap.objs.size+1 ->
   (∀ e o,e≠z->e≠TO->e ∉ is->s.heap.get? e=some o->g.get? e=some o)->Q (some (.ref s.heap.objs.size)) { s with heap:=g }):‹5› (pyNext (.ref z)) Q E s:=by
 have hT:s.TypeIs (.ref z) "zip":=⟨_,D.zip,rfl⟩;have nod:=D.nod;rw[cy,cy,cy] at nod;let⟨nz,nT,nO,ni⟩:=nod;have zO:z≠TO:=λq=>nz (by rw[q];simp)
 have few:=D.few;have len:=D.len;have fin:m<cs.length->∀g x,(∀e o,e≠z->e≠TO->e ∉ is->s.heap.get? e=some o->g.get? e=some o)->(∃o,g.get? x=some o/\o.cls= .type "StopIteration") ->
   ‹5› (do if <- isInstance (.ref x) (.type "StopIteration") then gv none else throw (.ref x)) Q E { s with heap:=g }:=λml g x k ⟨o,ho,hc⟩=>by
  rwa[ak (wpAny_isInstance (T:="StopIteration") (b:=true) ⟨o,ho,hc⟩ isSubtype_stop ?_)];rwa[aP (q0 ml g k)]
 unfold pyNext;rwa[ak (wpAny_attempt (iw (name:=Str.ofString "__next__") hT F.slot_zip_next (iu F.slot_zip_next hT F.entry_zip_next ?_ (F.args_zip_next_1 _))))];show bz _ _ (field (.ref z) 2 >>= _) _ _ s;rwa[ak (hV D.zip rfl (x:=.bool false) (by rfl) ?_)];show bz _ _ (field (.ref z) 3 >>= _) _ _ s;rwa[ak (hV D.zip rfl (x:=.ref TI) (by rfl) ?_)];rwa[ak (ir D.ti rfl ?_)]
 dsimp only
 rw[tP (by intro y;rw[Array.isEmpty_iff_size_eq_zero,br,aa,len] at y;have:=D.pos;lia)];rwa[ak ?_];unfold dm.SmallTypes.ownedTupleIsFree;rwa[ak (hV D.zip rfl (x:=.none) (by rfl) (aP ?_))];simp only[if_true];rwa[ak (wpAny_rule ?_)];rwa[ak (hV D.zip rfl (x:=.ref TO) (by rfl) ?_)];rwa[ak (mY D.zip ∅ λg1 z1 s1=>?_)];have z1:IsZip g1 z TI TO .ellipsis:=z1;rwa[ak ?_];rwa[wp_forIn _ (λj b s'=>b=_/\j<=m/\∃g,s'={ s with heap:=g }/\ZIn s.heap g z TI TO cs is k j vs old) _ _ ⟨rfl,bq _,g1,rfl,?_⟩ ?_ ?_]
 ·rwa[s1.1,z1,s1.extBut _ _ zO.symm D.to,λn c i hc hi=>?_,λe o e1 _ _ h=>s1.extBut _ _ e1 h]
  rw[tP ∅];rwa[(D.its n c i hc hi).ext λo h=>s1.extBut _ _ (λy=>nz (by rw[<-y];simp[aZ hi])) h]
 ·rintro j a b s' ha ⟨rfl,jm,g,rfl,Z⟩
  rw[List.getElem?_zipIdx] at ha;let⟨x,hx,rfl⟩:=aX.mp ha;have hx:(is.map ae.ref)[j]? =some x:=by simpa using hx
  rw[av] at hx;let⟨i,hi,rfl⟩:=aX.mp hx;have jl:j<cs.length:=by rw[<-len];rwa[(aw.mp hi).1]
  have hc:cs[j]? =some cs[j]:=gE jl;let⟨o1,o2,o3⟩:=D.off _ (aY jl);have it:=Z.its j _ i hc hi;rw[tP ∅] at it;have iO:TO≠i:=λq=>nO (by rw[q];rwa[aZ hi])
  have iz:z≠i:=λq=>nz (by rw[q];simp[aZ hi])
  dsimp only
  rwa[ak (wpAny_onRaise ?_)];show bz _ _ (fQ (.ref i) >>= _) _ _ _
  by_cases e:j=m
  ·subst e
   let⟨xm,hxm,hem⟩:=he _ hc;rwa[ak (nextS_end hh it (hxm.ext λo h=>Z.ext _ o o1 o2 o3 h) hem λg2 x s2 hx2=>?_)];let⟨oe,e1,e2⟩:=hx2;have z2:IsZip g2 z TI TO .ellipsis:=s2 _ _ iz Z.zip;have xz:x≠z:=λr=>by subst r;rw[z2] at e1;cases e1;simp at e2
   rwa[mY z2 ∅ λg3 _ s3=>fin jl g3 x (λe o c1 c2 c3 h=>s3.extBut _ _ c1 (s2 _ _ (λy=>c3 (by rw[y];exact aZ hi)) (Z.ext e o c1 c2 c3 h))) ⟨oe,s3.extBut _ _ xz e1,e2⟩]
  ·let⟨xs,v,hq,hxv,hvv⟩:=hv j _ hc ⋯
   rwa[ak (nextS_item it (hq.ext λo h=>Z.ext _ o o1 o2 o3 h) hxv λg2 n2 s2=>aP ?_)];have r2:pB g2 TO (vs.take j++old.drop j):=s2.extBut _ _ iO Z.row;rwa[ak (ir r2 rfl ?_)];rwa[ak (updRow (x:=v) (k:=0+j) r2 (by rw[ax,bD,gk];have:=D.lo;lia) λg3 r3 s3=>?_)];rw[Nat.zero_add] at r3;rwa[ak (wpAny_letGo (aP ⟨ς,rfl,⋯,g3,rfl,Z.step D hi hc hvv lv n2 s2 r3 s3⟩))]
 ·rintro b s' ⟨rfl,jm,g5,rfl,Z⟩
  have ll:((is.map ae.ref).toArray.toList.zipIdx).length=cs.length:=by simp[len]
  rw[ll] at Z jm;have z5:=Z.zip;have o5:pB g5 TO vs:=by
   have:=Z.row;rw[<-lv,aG,lv,<-D.lo,List.drop_length,fk] at this;rwa[this]
  have m5:∀(n:Nat) c i,cs[n]? =some c->is[n]? =some i->ItAt g5 c i (k+1):=λn c i hc hi=>by
   have:=Z.its n c i hc hi;rw[tQ (aw.mp hc).1] at this;rwa[this]
  dsimp only
  rwa[ak (ir o5 rfl ?_)];rwa[ak (ku ?_)];have zlt:z<g5.objs.size:=aS z5;have sz:=Z.sz;rwa[ak ?_];unfold dm.SmallTypes.ownedTupleHandOut;have z6:IsZip (g5.push { cls:=.type "tuple",data:=.seq vs.toArray }) z TI TO .ellipsis:=ao _ z5;rwa[ak (mY z6 ∅ λg7 z7 s7=>?_)];have z7:IsZip g7 z TI TO (rawInt g5.objs.size):=z7;rwa[mY z7 ∅ λg8 z8 s8=>?_]
  have z8:IsZip g8 z TI TO (rawInt g5.objs.size):=z8;have up:∀e o,e≠z->g5.get? e=some o->g8.get? e=some o:=λe o c1 h=>s8.extBut _ _ c1 (s7.extBut _ _ c1 (ao _ h))
  have t8:pB g8 g5.objs.size vs:=s8.extBut _ _ (fO zlt) (s7.extBut _ _ (fO zlt) (aR _ rfl));have sz8:g8.objs.size=g5.objs.size+1:=by rw[s8.1,s7.1,fc]
  rw[sz] at z8 t8 sz8;rwa[aP ⟨ς,?_⟩];rwa[aP ?_];show Q (some (.ref g5.objs.size)) _;rw[sz];rwa[q jm g8 z8 (up _ _ zO.symm o5) (λn c i hc hi=>(m5 n c i hc hi).ext λo h=>up _ o (λy=>nz (by rw[<-y];simp[aZ hi])) h) t8 sz8 λe o c1 c2 c3 h=>up e o c1 (Z.ext e o c1 c2 c3 h)]
theorem oF {α:Type}{P:Nat->α->Prop}:∀(k:Nat),(∀n,n<k->∃u,P n u)->∃us:List α,us.length=k/\∀(n:Nat) u,us[n]? =some u->P n u
 | 0,_=>⟨[],rfl,λn u h=>by simp at h⟩
 | k+1,h=>by
  let⟨us,hl,hu⟩:=oF k λn hn=>h n ⋯
  let⟨u,pu⟩:=h k (by (constructor <;> lia));rwa[us++[u],by rw[ax,hl];rfl,λn v hv=>?_]
  by_cases e:n<us.length
  ·rw[fu e] at hv
   rwa[hu n v hv]
  ·rw[bU ↥2] at hv
   have hn:n=us.length:=by
    have:=(aw.mp hv).1;simp at this;lia
   subst hn;rw[Nat.sub_self] at hv;cases hv;rw[hl];rwa[pu]
theorem vals_of:∀{vs:zA} {us:zD},vs.length=us.length->(∀(n:Nat) v u,vs[n]? =some v->us[n]? =some u->gN v u)->fZ vs us
 | [],[],_,_=>.nil
 | v::vs,u::us,hl,h=>.cons (h 0 v u rfl rfl) (vals_of (by simpa using hl) λn v' u' a b=>h (n+1) v' u' a b)
 | [],_::_,hl,_=>by simp at hl
 | _::_,[],hl,_=>by simp at hl
def HSq (H:Hp)(c:Sq)(xs:zA):Prop:=match c.l with | true=>H c.a=some (.lst xs) | false=>H c.a=some (.tup xs)
theorem HSq.inj {c:Sq}(a:HSq H c xs)(b:HSq H c ys):xs=ys:=by
 let⟨l,q⟩:=c;cases l with
 | true=>have a:H q=some (.lst xs):=a;have b:H q=some (.lst ys):=b;cbv
 | false=>have a:H q=some (.tup xs):=a;have b:H q=some (.tup ys):=b;cbv
theorem HSq.has {c:Sq}(a:HSq H c xs):∃o,H c.a=some o:=by
 let⟨l,q⟩:=c;cases l with
 | true=>rwa[_,a]
 | false=>rwa[_,a]
theorem HSq.at {c:Sq}(I:‹1›)(h:HSq H c xs):∃its,fZ xs its/\SqAt s.heap c its.toArray:=by
 let⟨l,q⟩:=c;cases l with
 | true =>
  let⟨its,r,p,_⟩:=I.list (zL (h));rwa[its,r,p.isList]
 | false =>
  let⟨its,r,p,_⟩:=I.tuple (zT (h));rwa[its,r,p]
def Itq (cs:List Sq):It:=
 ⟨fun i H=>∃ vs:zA,vs.length=cs.length/\∀ (n:Nat) c,cs[n]? =some c->∃ xs x,HSq H c xs/\xs[i]? =some x/\vs[n]? =some x,
  λi H v H'=>∃p vs,H p=none/\v= .ref p/\H'=upd H p (.tup vs)/\vs.length=cs.length/\∀(n:Nat) c x xs,cs[n]? =some c->HSq H c xs->vs[n]? =some x->xs[i]? =some x,
  fun i H=>∃ m cm xm,cs[m]? =some cm/\HSq H cm xm/\xm.length<=i/\∀ (n:Nat) c,cs[n]? =some c->n<m->∃ xs x,HSq H c xs/\xs[i]? =some x⟩
theorem turn_zipS {k0}{z TI TO:ai}{cs:List Sq}{is:zX} :
  Turn P w K (.Tuple es k0 pos) (Itq cs) (z::TI::TO::is) z (λi h=>∃old,ZOk h z TI TO cs is i old) where
 mem:=by simp
 obj:=λi h st c hc=>by
  let⟨old,D⟩:=st;simp only[bh] at hc
  rcases hc with rfl | rfl | rfl | hc
  ·rwa[_,D.zip,λv z=>by cases z]
  ·rwa[_,D.ti,λv z=>by cases z]
  ·rwa[_,D.to,λv z=>by cases z]
  ·let⟨n,hn⟩:=iY hc
   have hl:n<cs.length:=by rw[<-D.len];rwa[(aw.mp hn).1]
   rwa[(D.its n _ c (gE hl) hn).obj]
 keep:=λi h h' st k=>by
  let⟨old,D⟩:=st;rwa[old,D.len,D.few,D.pos,D.nod,k z ∅ _ D.zip,k TI ∅ _ D.ti,k TO ∅ _ D.to,D.lo,λn c i hc hi=>(D.its n c i hc hi).ext λo e=>k i (by simp[aZ hi]) o e,D.off]
 item:=by
  right;subst hP hw hK;let⟨old,D⟩:=st;let⟨vs,lv,hv⟩:=hg;have nz:∀e∈z::TI::TO::is,H e=none:=λe he=>(hf e he).1
  have hT:H s.heap.objs.size=none:=I.fresh;have ex:∀n,n<cs.length->∃u:ae,(∀c,cs[n]? =some c->∃xs,SqAt s.heap c xs/\xs[i]? =some u)/\∀v,vs[n]? =some v->gN v u:=λn hn=>by
   let⟨xs,x,h1,h2,h3⟩:=hv n _ (gE hn);let⟨its,r,p⟩:=h1.at I;let⟨u,hu,ru⟩:=r.get h2;rwa[u,λc hc=>?_,λv hv'=>?_]
   ·rw[gE hn] at hc
    cases hc;rwa[_,p,by simpa using hu]
   ·rw[h3] at hv'
    cases hv';rwa[ru]
  let⟨us,lu,hu⟩:=oF cs.length ex;have hrel:fZ vs us:=vals_of ⋯ λn v u a b=>(hu n u b).2 v a
  rwa[zipS_all (I.ok.hd hc) D (vs:=us) (m:=cs.length) (λn c hc _=>?_) lu (λc h=>by simp at h) (λh=>tR h (g6 _)) λ_ g z1 to1 m1 tp sz kk=>⟨ς,?_⟩]
  ·have hn:n<us.length:=by rw[lu];exact(aw.mp hc).1
   let⟨xs,a,b⟩:=(hu n _ (gE hn)).1 c hc;rwa[xs,us[n],a,b,gE hn]
  rwa[wpAny_letOwnedTupleGo_zip z1 λg2 z2 s2=>?_]
  have s2:df z g g2:=s2;have k2:∀e o,e ∉ z::TO::is->s.heap.get? e=some o->g2.get? e=some o:=λe o hn h=>by
   simp only[bh,not_or] at hn;rwa[s2.extBut _ _ hn.1 (kk e o hn.1 hn.2.1 hn.2.2 h)]
  have zlt:z<s.heap.objs.size:=aS D.zip;have tp2:pB g2 s.heap.objs.size us:=s2.extBut _ _ (fO zlt) tp;have sub:∀e∈z::TO::is,e∈z::TI::TO::is:=λe he=>by
   simp only[bh] at he ⊢
   rcases he with rfl | rfl | he <;> simp[*]
  have trk:∀e o,H e=some o->e ∉ z::TO::is:=λe o he hm=>by rw[nz e (sub e hm)] at he;cases he
  have J:Inv X aN σ (upd H s.heap.objs.size (.tup vs)) { s with heap:=g2 }:=by
   rwa[I.turnAll (ch:=z::TO::is) (λe he=>hf e (sub e he)) k2 (λe o h=>by rw[bw (bJ h hT)];exact h) (λe o h n=>by rw[bw (bP (aS h))];exact n) λe o h=>?_]
   by_cases q:e=s.heap.objs.size
   ·subst q
    rw[aJ] at h;cases h;rwa[by rw[lv];rwa[aU D.few ↥0],us,hrel,_,tp2,rfl,rfl,ς]
   ·rw[bw q] at h
    apply (I.hok e o h).stay (fun c v hc' q'=>k2 c v (by
     rcases hc' with z' | z'
     ·rw[z'];rwa[trk e o h]
     ·rwa[trk c _ z']) q') (fun c q'=>by rw[bw (bJ q' hT)];rwa[q']) fun c xs q'=>by rw[bw (bJ q' hT)];rwa[q']
  have nod:=D.nod;rw[cy,cy,cy] at nod;let⟨nz',nT,nO,ni⟩:=nod;rwa[.ref s.heap.objs.size,_,J,rfl,⟨_,vs,hT,rfl,rfl,lv,λn c x xs hc hq hx=>?_⟩,⟨us,D.len,D.few,D.pos,D.nod,z2,?_,s2.extBut _ _ (λy=>nz' (by rw[<-y];simp)) to1,lu,λn c j hc hj=>?_,D.off⟩,λe he=>?_]
  ·let⟨ys,y,h1,h2,h3⟩:=hv n c hc
   rw[h1.inj hq] at h2;rw[h3] at hx;cases hx;rwa[h2]
  ·apply k2 _ _ (λy=>?_) D.ti
   rcases bh.mp y with y | y
   ·rwa[nz' (by rw[<-y];simp)]
   ·rwa[nT y]
  ·rwa[(m1 n c j hc hj).ext λo e=>s2.extBut _ _ (λy=>nz' (by rw[<-y];simp[aZ hj])) e]
  ·have hlt:e<s.heap.objs.size:=by
    simp only[bh] at he
    rcases he with rfl | rfl | rfl | he
    ·rwa[aS D.zip]
    ·rwa[aS D.ti]
    ·rwa[aS D.to]
    ·let⟨n,hn⟩:=iY he
     have hl:n<cs.length:=by rw[<-D.len];rwa[(aw.mp hn).1]
     let⟨o,ho,_⟩:=(D.its n _ e (gE hl) hn).obj;rwa[aS ho]
   rw[bw (bP hlt)];rwa[nz e he]
 done:=by
  right;subst hP hw hK;let⟨old,D⟩:=st;let⟨m,cm,xm,hm,hxm,hi,hv⟩:=hg;have nz:∀e∈z::TI::TO::is,H e=none:=λe he=>(hf e he).1
  have ex:∀n,n<cs.length->∃u:ae,∀c,cs[n]? =some c->n<m->∃xs,SqAt s.heap c xs/\xs[i]? =some u:=λn hn=>by
   by_cases e:n<m
   ·let⟨xs,x,h1,h2⟩:=hv n _ (gE hn) e
    let⟨its,r,p⟩:=h1.at I;let⟨u,hu,ru⟩:=r.get h2;rwa[u,λc hc _=>?_];rw[gE hn] at hc;cases hc;rwa[_,p,by simpa using hu]
   ·rwa[.none,λc _ z=>tR z e]
  let⟨us,lu,hu⟩:=oF cs.length ex;let⟨its,r,p⟩:=hxm.at I;have hl:=r.length;rwa[zipS_all (I.ok.hd hc) D (vs:=us) (m:=m) (λn c hc hn=>?_) lu (λc h=>by rw[hm] at h;cases h;rwa[_,p,by simp;lia]) (λ_ g kk=>⟨rfl,?_⟩) λh=>tR (aw.mp hm).1 ↥2]
  ·have hn':n<us.length:=by rw[lu];exact(aw.mp hc).1
   let⟨xs,a,b⟩:=hu n _ (gE hn') c hc hn;rwa[xs,us[n],a,b,gE hn']
  have sub:∀e∈z::TO::is,e∈z::TI::TO::is:=λe he=>by
   simp only[bh] at he ⊢
   rcases he with rfl | rfl | he <;> simp[*]
  have k2:∀e o,e ∉ z::TO::is->s.heap.get? e=some o->g.get? e=some o:=λe o hn h=>by
   simp only[bh,not_or] at hn;rwa[kk e o hn.1 hn.2.1 hn.2.2 h]
  have trk:∀e o,H e=some o->e ∉ z::TO::is:=λe o he hm=>by rw[nz e (sub e hm)] at he;cases he
  rwa[I.turnAll (ch:=z::TO::is) (λe he=>hf e (sub e he)) k2 (λ_ _ h=>h) (λ_ _ _ n=>n) λe o h=>?_]
  exact (I.hok e o h).stay (fun c v hc' q'=>k2 c v (by
   rcases hc' with z' | z'
   ·rw[z'];rwa[trk e o h]
   ·rwa[trk c _ z']) q') (fun _ q'=>q') fun _ _ q'=>q'
 self:=λ_ _ _ _ _ st h=>let ⟨_,D⟩:=st;wpAny_pyIter_zip D.zip h
structure ZNew (h g:bI)(cs:List Sq):Prop where
 zip:IsZip g (h.objs.size+cs.length+2) (h.objs.size+cs.length) (h.objs.size+cs.length+1) .none
 ti:pB g (h.objs.size+cs.length) (((aQ cs.length).map λj=>h.objs.size+j).map ae.ref)
 to:pB g (h.objs.size+cs.length+1) (bB cs.length .none)
 its:∀(n:Nat) c,cs[n]? =some c->ItAt g c (h.objs.size+n) 0
 ext:∀b o,h.get? b=some o->g.get? b=some o
def newClass_zip (vs:zD):dm.SmallTypes.newClass "zip" ⟨.type "zip" :: vs,[]⟩=gv (.type "zip",vs):=by
 unfold dm.SmallTypes.newClass;simp only[isType,sub_zip,pure_bind,Bool.not_true,lY,if_false]
theorem zipS_new (cs:List Sq)(few:cs.length<=8) :
  Meets (dm.«zip.__new__» ⟨.type "zip" :: cs.map λc=>ae.ref c.a,[]⟩) (λ_ R s=>(∀c∈cs,∃xs,SqAt s.heap c xs)/\∀g,ZNew s.heap g cs->R (.ok (.ret (.ref (s.heap.objs.size+cs.length+2)))) { s with heap:=g }):=
 .of_wp λprog w A R s h=>by
  let⟨h1,h⟩:=h;rwa[ak (wpAny_of_eq (newClass_zip _) ?_)];rwa[ak ?_];rwa[ak (wp_forIn _ (λj its s'=>∃g,s'={ s with heap:=g }/\g.objs.size=s.heap.objs.size+j/\its=((aQ j).map λi=>ae.ref (s.heap.objs.size+i)).toArray/\(∀(n:Nat) c,n<j->cs[n]? =some c->ItAt g c (s.heap.objs.size+n) 0)/\∀b o,s.heap.get? b=some o->g.get? b=some o) _ _ ⟨s.heap,rfl,rfl,rfl,λn c hn=>tR hn ↥2,λ_ _ e=>e⟩ ?_ ?_)]
  ·rintro j a its s' ha ⟨g,rfl,sz,rfl,hit,ext⟩
   rw[av] at ha;let⟨c,hc,rfl⟩:=aX.mp ha;let⟨xs,hx⟩:=h1 c ↥1;rwa[ak (cX (iterS (hx.ext λo e=>ext _ o e) λg2 i2 z2 e2=>?_))];rwa[aP ⟨ς,g2,rfl,?_,?_,λn c' hn hc'=>?_,↥1⟩]
   ·lia
   ·grind [kZ,au]
   ·by_cases e:n=j
    ·cbv
    ·rwa[(hit n c' ⋯ hc').ext λo q=>e2 _ o q]
  ·rintro its s' ⟨g,rfl,sz,rfl,hit,ext⟩
   have ll:(cs.map λc=>ae.ref c.a).length=cs.length:=aa ..;rw[ll] at sz hit ⊢;rwa[aP ?_];have n8:((aQ cs.length).map λi=>ae.ref (s.heap.objs.size+i)).length<=aO:=by
    rw[aa,bL];rwa[aU few ↥0]
   rwa[ak (ku ?_ (by omega))];rwa[ak (ku ?_ (by simpa using n8))];rwa[ak ?_];unfold dm.SmallTypes.newRecord;rwa[fm (aP ⟨ς,?_⟩) (by show 5<=aO+2;decide)];have e1:(g.push { cls:=.type "tuple",data:=.seq ((aQ cs.length).map λi=>ae.ref (s.heap.objs.size+i)).toArray }).objs.size=s.heap.objs.size+cs.length+1:=by rw[fc,sz]
   have e2:((g.push { cls:=.type "tuple",data:=.seq ((aQ cs.length).map λi=>ae.ref (s.heap.objs.size+i)).toArray }).push { cls:=.type "tuple",data:=.seq ((((aQ cs.length).map λi=>ae.ref (s.heap.objs.size+i)).toArray.toList.map λ_=>ae.none)).toArray }).objs.size=s.heap.objs.size+cs.length+2:=by rw[fc,e1]
   have key:=h (((g.push { cls:=.type "tuple",data:=.seq ((aQ cs.length).map λi=>ae.ref (s.heap.objs.size+i)).toArray }).push { cls:=.type "tuple",data:=.seq ((((aQ cs.length).map λi=>ae.ref (s.heap.objs.size+i)).toArray.toList.map λ_=>ae.none)).toArray }).push { cls:=.type "zip",data:=.fields #[.none,.bool false,.bool false,.ref (s.heap.objs.size+cs.length),.ref (s.heap.objs.size+cs.length+1)] })
    ⟨by rw[<-e2];rwa[aR _ rfl],?_,?_,λn c hc=>(hit n c (aw.mp hc).1 hc).ext λo q=>ao _ (ao _ (ao _ q)),λb o q=>ao _ (ao _ (ao _ (ext b o q)))⟩
   ·rw[<-e2] at key
    have e1' :=sz.symm;rw[<-e1,e1'] at key;rwa[key]
   ·have em:(((aQ cs.length).map λj=>s.heap.objs.size+j).map ae.ref)=((aQ cs.length).map λi=>ae.ref (s.heap.objs.size+i)):=by rw[bZ];rfl
    rw[em,<-sz];rwa[ao _ (ao _ (aR _ rfl))]
   ·rw[<-e1]
    have er:(((aQ cs.length).map λi=>ae.ref (s.heap.objs.size+i)).toArray.toList.map λ_=>ae.none)=bB cs.length ae.none:=by
     rw[List.eq_replicate_iff]
     cbv
    rw[er];rwa[ao _ (aR _ rfl)]
def zip_args3 (a b c d:ae):argsOk "object.__init__" ⟨[a,b,c,d],[]⟩:=by
 unfold argsOk;rw[signature?_of (id:="object.__init__") (n:=['_','_','t','i','n','i','_','_']) (o:=['t','c','e','j','b','o']) (by kernel_rfl) F.owner_object]
 kernel_rfl
def zip_type3 (a b c:ae):checkTypeCall "zip" ⟨[a,b,c],[]⟩=gv ():=by kernel_rfl
def zip_new3 (a b c:ae):checkBuiltinCall "zip.__new__" ⟨[.type "zip",a,b,c],[]⟩=gv ():=by kernel_rfl
theorem zip_walk {s1:aq}{k0}{pt:Pos}{R:It->Hp->Prop}{cs:List Sq}(I1:Inv X aN σ H1 s1)(few:cs.length<=8)(pos:0<cs.length)(hq:∀c∈cs,∃xs,HSq H1 c xs)(q:R (Itq cs) H1){g:bI}(Z:ZNew s1.heap g cs) :
  ‹2› (pyIter (.ref (s1.heap.objs.size+cs.length+2))) (PIE X aN σ (.Tuple es k0 pt) R) E { s1 with heap:=g }:=by
 have small:∀c∈cs,c.a<s1.heap.objs.size:=λc hc=>by
  let⟨xs,hx⟩:=hq c hc;let⟨o,ho⟩:=hx.has;exact Nat.lt_of_not_le λhge=>by rw[I1.hok.fresh hge] at ho;cases ho
 rwa[wpAny_pyIter_zip Z.zip ⟨_,(s1.heap.objs.size+cs.length+2)::(s1.heap.objs.size+cs.length)::(s1.heap.objs.size+cs.length+1)::((aQ cs.length).map λj=>s1.heap.objs.size+j),_,Itq cs,H1,rfl,I1.kept Z.ext,turn_zipS,⟨_,?_,few,pos,?_,Z.zip,Z.ti,Z.to,↥2,λn c i hc hi=>?_,λc hc=>?_⟩,λe he=>?_,q⟩]
 ·cbv
 ·have nd:((aQ cs.length).map λj=>s1.heap.objs.size+j).Nodup:=by
   grind [bM,cU,List.nodup_range]
  grind
 ·rw[av,gc (aw.mp hc).1] at hi
  cases hi;rwa[Z.its n c hc]
 ·grind
 ·have hge:s1.heap.objs.size<=e:=by
   grind
  rwa[I1.fpOk hge (I1.hok.fresh hge)]
def iZip2 (ta:TA):TI:=λσ H R=>ta σ H λvs H1=>∃c1 c2 xs ys,vs=[.ref c1.a,.ref c2.a]/\HSq H1 c1 xs/\HSq H1 c2 ys/\R (Itq [c1,c2]) H1
theorem pi_zip2 {eb:Expr}{ta:TA}{p:Pos}{k0}{pt:Pos}(hg:Gl X "zip")(hm:X.mg "zip" =none)(ha:PA X [ea,eb] ta)(hs:autoParam (bF [ea,eb] X.env=[(false,eO ea X.env),(false,eO eb X.env)]) Ωa)(hs2:autoParam (bF [eb] X.env=[(false,eO eb X.env)]) Ωa) :
  PI X (.Tuple es k0 pt) (.Call (.Name "zip" p) [ea,eb] [] pos) (iZip2 ta):=by
 intro aN s σ H R I h;rwa[Call_ (oj I hg hm boot_zip (dX (thn (ha pos aN s σ H _ I h) λus s1 hz0=>?_) (by rw[hs,hs2]) (by rw[hs2];rfl)))];let⟨vs,H1,I1,r1,q1⟩:=hz0;let⟨c1,c2,xs,ys,e,h1,h2,q⟩:=q1;subst e;let⟨u1,u2,rfl,r2,r3⟩:=vals2 r1;cases(r2);cases(r3);let⟨_,_,p1⟩:=h1.at I1;let⟨_,_,p2⟩:=h2.at I1;rwa[callType_new F.called_zip ↥0 (F.typeCall_zip_2 _ _) (F.newCall_zip_2 _ _) (λobj=>F.args_object_init_3 obj _ _) F.entry_zip_new (zipS_new [c1,c2] (by show 2<=8;decide)) ⟨λc hc=>?_,λg Z=>⟨⟨_,Z.zip,rfl⟩,?_⟩⟩]
 ·grind
 ·apply zip_walk I1 (by show 2<=8;decide) (by show 0<2;decide) (λc hc=>?_) q Z
  grind
def valsThree {x z:V}(h:fZ [x,y,z] us):∃u1 u2 u3,us=[u1,u2,u3]/\gN x u1/\gN y u2/\gN z u3:=by
 cases h with
 | cons h1 r1=>cases r1 with
  | cons h2 r2=>cases r2 with
   | cons h3 r3=>cases r3;rwa[_,_,ς,h1,h2,h3]
def iZip3 (ta:TA):TI:=λσ H R=>ta σ H λvs H1=>∃c1 c2 c3 xs ys zs,vs=[.ref c1.a,.ref c2.a,.ref c3.a]/\HSq H1 c1 xs/\HSq H1 c2 ys/\HSq H1 c3 zs/\R (Itq [c1,c2,c3]) H1
theorem pi_zip3 {eb ec:Expr}{ta:TA}{p:Pos}{k0}{pt:Pos}(hg:Gl X "zip")(hm:X.mg "zip" =none)(ha:PA X [ea,eb,ec] ta)(hs:autoParam (bF [ea,eb,ec] X.env=[(false,eO ea X.env),(false,eO eb X.env),(false,eO ec X.env)]) Ωa)(hs2:autoParam (bF [eb,ec] X.env=[(false,eO eb X.env),(false,eO ec X.env)]) Ωa) :
  PI X (.Tuple es k0 pt) (.Call (.Name "zip" p) [ea,eb,ec] [] pos) (iZip3 ta):=by
 intro aN s σ H R I h;rwa[Call_ (oj I hg hm boot_zip (dX (thn (ha pos aN s σ H _ I h) λus s1 hz0=>?_) (by rw[hs,hs2]) (by rw[hs2];rfl)))];let⟨vs,H1,I1,r1,q1⟩:=hz0;let⟨c1,c2,c3,xs,ys,zs,e,h1,h2,h3,q⟩:=q1;subst e;let⟨u1,u2,u3,rfl,r2,r3,r4⟩:=valsThree r1;cases(r2);cases(r3);cases(r4);let⟨_,_,p1⟩:=h1.at I1;let⟨_,_,p2⟩:=h2.at I1;let⟨_,_,p3⟩:=h3.at I1;rwa[callType_new F.called_zip ↥0 (zip_type3 _ _ _) (zip_new3 _ _ _) (λobj=>zip_args3 obj _ _ _) F.entry_zip_new (zipS_new [c1,c2,c3] (by show 3<=8;decide)) ⟨λc hc=>?_,λg Z=>⟨⟨_,Z.zip,rfl⟩,?_⟩⟩]
 ·grind
 ·apply zip_walk I1 (by show 3<=8;decide) (by show 0<3;decide) (λc hc=>?_) q Z
  grind
theorem for_zip2 {c1 c2:Sq}{tb:TS}{D:ke}(Pv:Nat->St->Hp->Prop)(h0:Pv 0 σ H)(hl:∀i σ H,i<=xs.length->Pv i σ H->HSq H c1 xs/\HSq H c2 ys)(hxy:xs.length=ys.length)
  (hs:∀i x y p σ H,xs[i]? =some x->ys[i]? =some y->Pv i σ H->H p=none->g (.ref p) σ (upd H p (.tup [x,y])) λσ2 H2=>tb { D with nx:=Pv (i+1),ct:=Pv (i+1),bk:=D.nx } σ2 H2) (hd:∀σ H,Pv xs.length σ H->D.nx σ H) :
  ∃W:Nat->Nat->St->Hp->Prop,(∃m,W 0 m σ H)/\∀i m σ H,W i m σ H ->
   ((Itq [c1,c2]).stop i H/\D.nx σ H)\/((Itq [c1,c2]).go i H/\∃N:St->Hp->Prop,(∀σ' H',N σ' H'->∃m',m'<m/\W (i+1) m' σ' H')/\∀x H',(Itq [c1,c2]).yld i H x H'->g x σ H' λσ2 H2=>tb { D with nx:=N,ct:=N,bk:=D.nx } σ2 H2):=by
 rwa[λi m σ H=>i<=xs.length/\m=xs.length - i/\Pv i σ H,⟨_,bq _,rfl,h0⟩,λi m σ H hz0=>?_];let⟨hi,hm,hp⟩:=hz0;let⟨qa,qb⟩:=hl i σ H hi hp
 by_cases e:i=xs.length
 ·subst e
  rwa[.inl ⟨⟨0,c1,xs,rfl,qa,ay _,λn c _ hn=>tR hn ↥2⟩,hd σ H hp⟩]
 ·have hlt:i<xs.length:=dt hi e
  have hlt2:i<ys.length:=by cbv
  rwa[.inr ⟨⟨[xs[i],ys[i]],rfl,λn c hc=>?_⟩,Pv (i+1),λσ' H' hp'=>⟨xs.length - (i+1),⋯,⋯,rfl,hp'⟩,λv H3 hy=>?_⟩]
  ·match n,hc with
   | 0,hc=>cases hc;rwa[xs,xs[i],qa,gE hlt,rfl]
   | 1,hc=>cases hc;rwa[ys,ys[i],qb,gE hlt2,rfl]
   | n+2,hc=>simp at hc
  ·let⟨p,vs,hn,rfl,rfl,lv,hx⟩:=hy
   rcases vs with _ | ⟨x,_ | ⟨y,_ | ⟨u,vs⟩⟩⟩ <;> first | rwa[hs i x y p σ H (hx 0 c1 x xs rfl qa rfl) (hx 1 c2 y ys rfl qb rfl) hp hn]| simp at lv
theorem for_zip3 {c1 c2 c3:Sq}{tb:TS}{D:ke}(Pv:Nat->St->Hp->Prop)(h0:Pv 0 σ H)(hl:∀i σ H,i<=xs.length->Pv i σ H->HSq H c1 xs/\HSq H c2 ys/\HSq H c3 zs)(hxy:xs.length=ys.length)(hxz:xs.length=zs.length)
  (hs:∀i x y z p σ H,xs[i]? =some x->ys[i]? =some y->zs[i]? =some z->Pv i σ H->H p=none->g (.ref p) σ (upd H p (.tup [x,y,z])) λσ2 H2=>tb { D with nx:=Pv (i+1),ct:=Pv (i+1),bk:=D.nx } σ2 H2) (hd:∀σ H,Pv xs.length σ H->D.nx σ H) :
  ∃W:Nat->Nat->St->Hp->Prop,(∃m,W 0 m σ H)/\∀i m σ H,W i m σ H ->
   ((Itq [c1,c2,c3]).stop i H/\D.nx σ H)\/((Itq [c1,c2,c3]).go i H/\∃N:St->Hp->Prop,(∀σ' H',N σ' H'->∃m',m'<m/\W (i+1) m' σ' H')/\∀x H',(Itq [c1,c2,c3]).yld i H x H'->g x σ H' λσ2 H2=>tb { D with nx:=N,ct:=N,bk:=D.nx } σ2 H2):=by
 rwa[λi m σ H=>i<=xs.length/\m=xs.length - i/\Pv i σ H,⟨_,bq _,rfl,h0⟩,λi m σ H hz0=>?_];let⟨hi,hm,hp⟩:=hz0;let⟨qa,qb,qc⟩:=hl i σ H hi hp
 by_cases e:i=xs.length
 ·subst e
  rwa[.inl ⟨⟨0,c1,xs,rfl,qa,ay _,λn c _ hn=>tR hn ↥2⟩,hd σ H hp⟩]
 ·have hlt:i<xs.length:=dt hi e
  have hlt2:i<ys.length:=by cbv
  have hlt3:i<zs.length:=by cbv
  rwa[.inr ⟨⟨[xs[i],ys[i],zs[i]],rfl,λn c hc=>?_⟩,Pv (i+1),λσ' H' hp'=>⟨xs.length - (i+1),⋯,⋯,rfl,hp'⟩,λv H3 hy=>?_⟩]
  ·match n,hc with
   | 0,hc=>cases hc;rwa[xs,xs[i],qa,gE hlt,rfl]
   | 1,hc=>cases hc;rwa[ys,ys[i],qb,gE hlt2,rfl]
   | 2,hc=>cases hc;rwa[zs,zs[i],qc,gE hlt3,rfl]
   | n+3,hc=>simp at hc
  ·let⟨p,vs,hn,rfl,rfl,lv,hx⟩:=hy
   rcases vs with _ | ⟨x,_ | ⟨y,_ | ⟨z,_ | ⟨u,vs⟩⟩⟩⟩ <;> first | rwa[hs i x y z p σ H (hx 0 c1 x xs rfl qa rfl) (hx 1 c2 y ys rfl qb rfl) (hx 2 c3 z zs rfl qc rfl) hp hn]| simp at lv
variable {c1 c2:Sq}{cs:List Sq}
def cxN {o:List Env}{E:XK}:(cxOf CX P w K mg base N q sc f cd A o s H E).nox.N=N:=rfl
def wE {t:TS}(e:X.N=N)(k:X.N=N->PSs X sts t):PSs X sts t:=k e
def pvX (z:X.N=N)(h:N[i]? =some x)(hv:Vis X.env.scope x:=by first | rwa[Or.inl rfl]| rwa[Or.inr (.inl rfl)]| rwa[Or.inr (.inr rfl)])(hd:(x == ("__debug__" :Str))=false:=by decide)(hcd:(x == ("__classdict__" :Str))=false:=by decide):PE X (.Name x pos) (tVar i):=pe_var (z ▸ h) hv hd hcd
def ps_setX (z:X.N=N)(hN:X.N.Nodup)(hi:N[i]? =some x)(he:PE X e te)(hx:Loc X.env.scope x:=by first | rwa[Or.inl rfl]| rwa[Or.inr rfl])(hs:swapsWith e (some (.Name x pos')) pos.line X.env=gv false:=by rfl)(hf:X.fn x=true\/X.env.scope.names.lookup x=some .local:=by first | rwa[Or.inr rfl]| rwa[Or.inl rfl]):PS X (.Assign [.Name x pos'] e pos) (tAsg te (o9 i)):=ps_set hN (z ▸ hi) hx he hs hf
def pg_nameX (z:X.N=N)(hN:X.N.Nodup)(hi:N[i]? =some x)(hx:Loc X.env.scope x:=by first | rwa[Or.inl rfl]| rwa[Or.inr rfl])(hf:X.fn x=true\/X.env.scope.names.lookup x=some .local:=by first | rwa[Or.inr rfl]| rwa[Or.inl rfl]):PG X (.Name x pos) (o9 i):=oy hN (z ▸ hi) hx hf
def ps_augX {op:Operator}{ti:TIp}(z:X.N=N)(hN:X.N.Nodup)(hi:N[i]? =some x)(he:PE X e te)(ho:PIp X op ti)(hx:Loc X.env.scope x:=by first | rwa[Or.inl rfl]| rwa[Or.inr rfl])(hf:X.fn x=true\/X.env.scope.names.lookup x=some .local:=by first | rwa[Or.inr rfl]| rwa[Or.inl rfl]):PS X (.AugAssign (.Name x pos') op e pos) (tAug i te ti):=ps_aug hN (z ▸ hi) hx he ho hf
section
variable {a b c d e f g h j k l m:Str}{n:List Str}
def iq0:(x::n)[0]? =some x:=rfl
def iq1:(a::x::n)[1]? =some x:=rfl
def iq2:(a::b::x::n)[2]? =some x:=rfl
def iq3:(a::b::c::x::n)[3]? =some x:=rfl
def iq4:(a::b::c::d::x::n)[4]? =some x:=rfl
def iq5:(a::b::c::d::e::x::n)[5]? =some x:=rfl
def iq6:(a::b::c::d::e::f::x::n)[6]? =some x:=rfl
def iq7:(a::b::c::d::e::f::g::x::n)[7]? =some x:=rfl
def iq8:(a::b::c::d::e::f::g::h::x::n)[8]? =some x:=rfl
def iq9:(a::b::c::d::e::f::g::h::j::x::n)[9]? =some x:=rfl
def iq10:(a::b::c::d::e::f::g::h::j::k::x::n)[10]? =some x:=rfl
def iq11:(a::b::c::d::e::f::g::h::j::k::l::x::n)[11]? =some x:=rfl
def iq12:(a::b::c::d::e::f::g::h::j::k::l::m::x::n)[12]? =some x:=rfl
end
abbrev zV:=Nat->St->Hp->Prop
abbrev zW:=Nat->List V->Hp->Prop
namespace HN
abbrev sSum:bY:=top 29
abbrev sBeats:bY:=top 30
def scSum:bH ["bounds","way","low","high","step","bound"] pzH (defScope sSum):=⇑0
theorem cxK {CX:CXT}{o:List Env}{H:Hp}{E:XK}:(cxOf CX P w K mg base N q sc f cd A o s H E).nox.K=K:=rfl
theorem ok_sum (F:Fun K "sum_of" "sum_of" sSum f fd):‹0› 1 f fd pzH spSum:=by
 specialize F.ok scSum;let⟨vb,vw,bs,ws,rfl,hb,hw,hin,k⟩:=h;let⟨pb,yb,rfl,hpb,hlb,rb⟩:=fJ hb;let⟨pw,yw,rfl,hpw,hlw,rw'⟩:=fJ hw
 exists 3,scSum
 rwa[ς,pw,rfl,⟨_,zT hpw⟩,?_]
 let pZ1:zV:=λi σ H2=>H2=H/\∃v4 v5,σ=[some (.ref pb),some (.ref pw),some (.int (fh bs (ws.take i))),some (.int (iA bs (ws.take i))),v4,v5]
 rwa[jU (K:=K) (xs:=yw) pZ1 ⟨rfl,none,none,rfl⟩ (λi σ H2 _ ⟨e1,_⟩=>by rw[e1];exact zT hpw) ?_ ?_]
 ·rintro i y σ H2 hy ⟨rfl,v4,v5,rfl⟩
  have hi:i<ws.length:=by rw[<-hlw];rwa[(aw.mp hy).1]
  let⟨q,hq,hq2⟩:=gn rw' (gE hi);rw[hy] at hq;cases hq;let⟨i1,d1⟩:=hin ws[i] (aY hi);have hm1:fh bs (ws.take (i+1))=fh bs (ws.take i)+qo bs ws[i]:=by
   unfold fh;rw[aE,gE hi,au,jC];simp
  have hm2:iA bs (ws.take (i+1))=iA bs (ws.take i)+k6 bs ws[i]:=by
   unfold iA;rw[aE,gE hi,au,jC];simp
  let⟨qb,hqb,hqb2⟩:=gn rb (gE i1);rwa[ς,ς,ϲ hq2 0,ϲ hpb ws[i].i hqb,?_];rwa[ς,ϲ hq2 1,rfl,ς,?_];rwa[oJ (λh1=>?_) (λh1=>?_)]
  ·have h1:ws[i].d=1:=by have:=tV h1;injection this
   rwa[ς,ς,ϲ hqb2 0,τ,?_];rwa[ς,ς,ϲ hqb2 1,τ,rfl,some (.ref q),some (.ref qb),?_];have l1:qo bs ws[i]=bs[ws[i].i].1:=by unfold qo;rw[gE i1];rwa[tQ h1]
   have l2:k6 bs ws[i]=bs[ws[i].i].2:=by unfold k6;rw[gE i1];rwa[tQ h1]
   rw[hm1,hm2,l1,l2];rfl
  ·have h1:ws[i].d≠1:=λz=>h1 (tS (by rw[z]))
   rwa[ς,ς,ϲ hqb2 1,τ,?_];rwa[ς,ς,ϲ hqb2 0,τ,rfl,some (.ref q),some (.ref qb),?_];have l1:qo bs ws[i]= -bs[ws[i].i].2:=by unfold qo;rw[gE i1];rwa[tP h1]
   have l2:k6 bs ws[i]= -bs[ws[i].i].1:=by unfold k6;rw[gE i1];rwa[tP h1]
   rw[hm1,hm2,l1,l2,<-mH,<-mH];rfl
 ·rintro σ H2 ⟨rfl,v4,v5,rfl⟩
  rw[hlw,aG];rwa[ς,ς,lh,λp3 H3 S3 h3=>k p3 H3 S3 h3]
def scBeats:bH ["net","bounds","ring","beat","ends"] pzh (defScope sBeats):=⇑0
theorem ok_beats (F:Fun K "beats_of" "beats_of" sBeats f fd)(G1:Fn K mg "sum_of" sSum pzH f1 fd1):‹0› 2 f fd pzh nq:=by
 have F1:‹0› 1 f1 fd1 pzH spSum:=ok_sum G1.F;specialize F.ok scBeats;let⟨vn,vb,vw,b,m,sp,bs,ws,rfl,hv,hb0,hb1,hb,hw,hin,k⟩:=h;let⟨t,pn,ys,rfl,ht,_⟩:=c5 hv
 exists 2,scBeats,9,G1,11,nZ,8,nZ
 rwa[ς,ϲ ht,?_];rwa[ς,ς,vb,vw,bs,ws,rfl,hb,hw,hin,λp1 H1 S1 h1=>?_];rwa[ς,ϲ h1,ς,ς,τ,tH hb0 hb1,ς,?_];rwa[ς,ϲ h1,ς,τ,tH hb0 hb1,lh,λp2 H2 S2 h2=>k p2 H2 (S1.trans S2) h2]
abbrev sSure:bY:=top 32
def scSure:bH ["net","bounds","ring","beats"] pzh (defScope sSure):=⇑0
theorem ok_sure (F:Fun K "is_sure" "is_sure" sSure f fd)(G1:Fn K mg "beats_of" sBeats pzh f1 fd1)(F1:‹0› 2 f1 fd1 pzh nq):‹0› 3 f fd pzh spSure:=by
 specialize F.ok scSure;let⟨vn,vb,vw,b,m,sp,bs,ws,rfl,hv,hb0,hb1,hb,hw,hin,k⟩:=h
 exists 1,scSure,3,G1
 rwa[ς,ς,ς,vn,vb,vw,b,m,sp,bs,ws,rfl,hv,hb0,hb1,hb,hw,hin,λp1 H1 S1 h1=>?_];rwa[ς,ϲ h1 0,ς,ϲ h1 1,rfl,?_];have e:decide (V.int (upB b (fh bs ws))=V.int (iA bs ws / b))=sureB b bs ws:=decide_eq_decide.mpr ⟨λz=>by injection z,λz=>by rw[z]⟩;have k1:=k H1 S1;rw[<-e] at k1;rwa[k1]
abbrev sOwn:bY:=top 61
abbrev sWorth:bY:=top 62
def rGetL:V->V->Hp->VK->Prop:=λo i H Q=>∃p xs k y,o= .ref p/\i= .int ((k:Nat):Int)/\H p=some (.lst xs)/\xs[k]? =some y/\Q y H
theorem get_listP:PGet X rGetL:=by
 intro aN s σ H o i ov iv Q I ro ri h;let⟨p,xs,k,y,rfl,rfl,hp,hy,q⟩:=h;cases(ro);let⟨t,rfl⟩:=ri;let⟨its,r,pl,hz⟩:=I.list (zL hp);let⟨u,hu,ru⟩:=r.get hy;have hk :=(aw.mp hy).1;have l63:=se;rwa[wpAny_getItem_list pl.isList (by (constructor <;> lia)) ⋯ (by simpa using hu) ⟨y,H,I,ru,q⟩]
def row_of {v:V}{r:Int×zP}(h:IsD H v (rowD r)):∃q vw,v= .ref q/\H q=some (.tup [.int r.1,vw])/\IsD H vw (oH r.2):=by
 let⟨q,xs,rfl,hq,rx⟩:=IsD.tup_of (show IsD H v (.tup [.int r.1,oH r.2]) from h);cases rx with
 | cons g1 gr=>cases gr with
  | cons g2 gr =>
   cases gr;cases g1;rwa[q,ς,hq,g2]
def price_of {v:V}(h:IsD H v (my (.price rows))):∃p pr ys,v= .ref p/\H p=some (.tup [.str "price",.ref pr])/\H pr=some (.tup ys)/\dg H ys (rows.map rowD):=by
 let⟨p,xs,rfl,hp,rx⟩:=IsD.tup_of (show IsD H v (.tup [.str "price",.tup (rows.map rowD)]) from h);cases rx with
 | cons g1 gr=>cases gr with
  | cons g2 gr =>
   cases gr;cases g1;let⟨pr,ys,rfl,hpr,ry⟩:=g2.tup_of;rwa[p,pr,ys,rfl,hp,hpr,ry]
theorem sv {β:Type}(f:β->α->β)(b:β){xs:List α}(h:i<xs.length):(xs.take (i+1)).foldl f b=f ((xs.take i).foldl f b) xs[i]:=by
 rw[aE,gE h,fU];rfl
theorem sum_take (f:α->Int){xs:List α}(h:i<xs.length):((xs.take (i+1)).map f).sum=((xs.take i).map f).sum+f xs[i]:=by
 rw[aE,gE h,au];simp
theorem qY (f:Nat->Int)(i:Nat):((aQ (i+1)).map f).sum=((aQ i).map f).sum+f i:=by
 rw[kZ,au];simp
def scOwn:bH ["net","rows","prices","row","step"] ["net","rows"] (defScope sOwn):=⇑0
theorem ok_own (F:Fun K "own_prices" "own_prices" sOwn f fd):‹0› 1 f fd ["net","rows"] spOwn:=by
 specialize F.ok scOwn;let⟨v,pr,b,m,sp,rows,rfl,hv,few,hrr,hok,k⟩:=h;let⟨t,pn,ys,rfl,ht,hpn,hl,hy⟩:=c5 hv;let⟨pr',yr,e0,hpr,ry⟩:=hrr.tup_of;cases e0;have lr:yr.length=rows.length:=by rw[ry.length,aa]
 exists 2,scOwn,2,ps_setC (iy:=2) (fr:=[]) (js:=[]) scOwn.nd rfl (.inl rfl) rfl (jO (ixZ (pv 0))) ⇑0 rfl ⇑0 rfl (by exists sOwn) ⇑0 rfl ⇑0 (λ_ _ _ _ _=>⟨(jH (r:=qd K) g9 (pv 0) dQ),dU⟩),14,ps_augS ?_ ?_ get_listP ?_ ip_sub set_list
 rwa[ς,ϲ ht 2,pn,rfl,⟨_,zT hpn⟩,?_]
 let pZ1:zW:=λi zs H2=>H2=H/\zs=((sp.take i).map Sn.w).map V.int
 rwa[gO (K:=K) (a:=pn) (xs:=ys) pZ1 ⟨rfl,rfl⟩ (λi zs H2 hi ⟨e1,e2⟩=>?_) (by rw[hl];exact cO ⋯) (λi x zs H2 hx ⟨e1,e2⟩=>?_) (λzs H2 ⟨e1,e2⟩ D hD=>?_)]
 ·subst e1
  rwa[zT hpn,?_];rw[e2,aa,aa,bD];cbv
 ·subst e1
  have hi:i<sp.length:=by rw[<-hl];rwa[(aw.mp hx).1]
  let⟨q,hq,hq2⟩:=hy i sp[i] (gE hi);rw[hx] at hq;cases hq;rwa[eZ ⟨ς,ϲ hq2 4,rfl,?_⟩];rw[e2,aE,gE hi,au,au];rfl
 subst e1;rw[hl,aG] at e2;subst e2;have S1:bt H2 (upd H2 D (.lst ((sp.map Sn.w).map V.int))):=bt.put (bt.refl H2) hD;have hD1:(upd H2 D (.lst ((sp.map Sn.w).map V.int))) D=some (.lst ((sp.map Sn.w).map V.int)):=aJ;generalize upd H2 D (.lst ((sp.map Sn.w).map V.int))=H1 at S1 hD1 ⊢;rwa[ς,pr,rfl,⟨_,zT (S1 _ _ hpr)⟩,?_]
 let pZ1:zV:=λi σ H3=>bt H2 H3/\(∃v3 v4,σ=[some (.ref t),some (.ref pr),some (.ref D),v3,v4])/\H3 D=some (.lst (((rows.take i).foldl rowP (sp.map Sn.w)).map V.int))
 rwa[jU (K:=K) (xs:=yr) pZ1 ⟨S1,⟨none,none,rfl⟩,hD1⟩ (λi σ H3 _ ⟨S3,_⟩=>zT (S3 _ _ hpr)) ?_ ?_]
 ·rintro i y σ H3 hy3 ⟨S3,⟨v3,v4,rfl⟩,hD3⟩
  sleep 0
  have hi:i<rows.length:=by rw[<-lr];rwa[(aw.mp hy3).1]
  let⟨d,hd,dy⟩:=ry.get hy3;rw[av,gE hi] at hd;cases hd;let⟨q,vw,rfl,hq,hw⟩:=row_of dy;let⟨pw,yw,rfl,hpw,hlw,rw'⟩:=fJ hw;have ok:=hok rows[i] (aY hi);obtain⟨ps,hps⟩:∃ps,ps=(rows.take i).foldl rowP (sp.map Sn.w):=⟨ς⟩;have lps:ps.length=sp.length:=by rw[hps,rows_len,aa]
  rw[<-hps] at hD3;rwa[ς,ϲ (S3 _ _ hq) 1,pw,rfl,⟨_,zT (S3 _ _ hpw)⟩,?_]
  let pZ2:zV:=λj σ H4=>bt H2 H4/\(∃v4,σ=[some (.ref t),some (.ref pr),some (.ref D),some (.ref q),v4])/\H4 D=some (.lst (((rows[i].2.take j).foldl (lO rows[i].1) ps).map V.int))
  rwa[jU (K:=K) (xs:=yw) pZ2 ⟨S3,⟨ς⟩,hD3⟩ (λj σ H4 _ ⟨S4,_⟩=>zT (S4 _ _ hpw)) ?_ ?_]
  ·rintro j z σ H4 hz ⟨S4,⟨v4,rfl⟩,hD4⟩
   sleep 0
   have hj:j<rows[i].2.length:=by rw[<-hlw];rwa[(aw.mp hz).1]
   let⟨q2,e2,h2⟩:=gn rw' (gE hj);rw[hz] at e2;cases e2;let⟨i1,d1⟩:=ok.inn rows[i].2[j] (aY hj);obtain⟨qs,hqs⟩:∃qs,qs=(rows[i].2.take j).foldl (lO rows[i].1) ps:=⟨ς⟩;have lqs:qs.length=sp.length:=by rw[hqs,ng,lps]
   rw[<-hqs] at hD4;have hgs:qs[rows[i].2[j].i]? =some (qs.getD rows[i].2[j].i 0):=by rw[af,gE ↥2];rfl
   rwa[ς,ς,ϲ (S4 _ _ h2) 0,D,_,rows[i].2[j].i,ς,rfl,hD4,by rw[av,hgs];rfl,ς,ϲ (S4 _ _ hq) 0,ς,ϲ (S4 _ _ h2) 1,τ,.inr ?_,τ,D,_,_,rows[i].2[j].i,rfl,rfl,hD4,(by simp[ixN,lqs,i1]),?_]
   ·rcases d1 with d1 | d1 <;> rw[d1] <;> rwa[↥0,↥0]
   rwa[λbb o e=>?_,⟨ς⟩,?_]
   ·rw[bw (λz=>by rw[z,hD] at e;cases e)]
    rwa[S4 _ _ e]
   ·rw[aJ,sv _ _ hj,<-hqs]
    congr 2;unfold lO;rw[List.map_set]
  ·rintro σ H4 ⟨S4,⟨v4,rfl⟩,hD4⟩
   sleep 0
   rwa[S4,⟨_,ς⟩,?_];rw[sv _ _ hi,<-hps,hD4,hlw,aG];rfl
 ·rintro σ H3 ⟨S3,⟨v3,v4,rfl⟩,hD3⟩
  sleep 0
  rwa[ς,k D H3 S3 ?_];rw[hD3,lr,aG];rfl
def scWorth:bH ["net","bounds","leaf","worth","row","price","bound","span"] pzI (defScope sWorth):=⇑0
theorem ok_worth (F:Fun K "worth_of" "worth_of" sWorth f fd)(T:Nm mg)(T2:Nt mg)(G1:Fn K mg "beats_of" sBeats pzh f1 fd1)(F1:‹0› 2 f1 fd1 pzh nq)(G2:Fn K mg "own_prices" sOwn ["net","rows"] f2 fd2):‹0› 3 f fd pzI spWorth:=by
 have F2:‹0› 1 f2 fd2 ["net","rows"] spOwn:=ok_own G2.F;specialize F.ok scWorth;let⟨v,vb,vl,b,m,sp,bs,rows,rfl,W,k⟩:=h;let⟨hv,hb,hl0,b0,b61,lb,few,bu,hws,hok,lr41⟩:=W;let⟨t,pn,ys,rfl,ht,hpn,hl,hy⟩:=c5 hv;let⟨p,pr,yr,rfl,hp,hpr,ry⟩:=price_of hl0;let⟨pb,yb,rfl,hpb,hlb,rb⟩:=fJ hb;have lr:yr.length=rows.length:=by rw[ry.length,aa]
 exists 3,scWorth,15,op_mulB,8,G1,18,pi_zip3 rfl T2.zip ?_,1,G2
 rwa[ς,ϲ hp,pr,rfl,⟨_,zT hpr⟩,?_]
 let pZ1:zV:=λi σ H3=>bt H H3/\∃v4 v5 v6 v7,σ=[some (.ref t),some (.ref pb),some (.ref p),some (.int (oT b bs (rows.take i))),v4,v5,v6,v7]
 rwa[jU pZ1 ⟨bt.refl H,none,none,none,none,rfl⟩ (λi σ H3 _ ⟨S3,_⟩=>zT (S3 _ _ hpr)) ?_ ?_]
 ·rintro i y σ H3 hy3 ⟨S3,v4,v5,v6,v7,rfl⟩
  have hi:i<rows.length:=↥1
  let⟨d,hd,dy⟩:=ry.get hy3;rw[av,gE hi] at hd;cases hd;let⟨q,vw,rfl,hq,hw⟩:=row_of dy;have ok:=hok rows[i] (aY hi);have u1:=up_abs b0 bu ok.few;have p1:=ok.lo;have p2:=ok.hi;rwa[ς,ς,ϲ (S3 _ _ hq),ς,ς,ς,ϲ (S3 _ _ hq),.ref t,.ref pb,vw,b,m,sp,bs,rows[i].2,rfl,hv.same S3,b0,b61,hb.same S3,hw.same S3,by rw[lb];rwa[ok.inn],λq5 H5 S5 h5=>?_];rwa[ϲ h5,τ,.inl ⟨⋯,⋯⟩,ς,ϲ (S5 _ _ (S3 _ _ ht)),τ,⟨?_,?_⟩,τ,S3.trans S5,some (.ref q),v5,v6,v7,?_]
  ·rw[Int.natAbs_mul]
   have h1:rows[i].1.natAbs<=10 ^ 12:=by lia
   rwa[bV (Nat.mul_le_mul h1 u1) ⋯]
  ·lia
  grind [oT,sum_take]
 rintro σ H3 ⟨S3,v4,v5,v6,v7,rfl⟩;rw[lr,aG];have hrr:IsD H3 (.ref pr) (.tup (rows.map rowD)):=.tup (S3 _ _ hpr) (ry.same S3);rwa[ς,ς,ϲ (S3 _ _ hp),.ref t,pr,b,m,sp,rows,rfl,hv.same S3,few,hrr,hok,λL H4 S4 hL=>?_];have S04:=S3.trans S4;rwa[ς,ς,ϲ (S04 _ _ ht),⟨true,L⟩,⟨false,pb⟩,⟨false,pn⟩,_,_,ς,hL,S04 _ _ hpb,S04 _ _ hpn,?_];have lo:=own_len sp rows
 let pZ1:zV:=λi σ H5=>bt H4 H5/\∃v4 v5 v6 v7,σ=[some (.ref t),some (.ref pb),some (.ref p),some (.int (oT b bs rows+((aQ i).map (pL sp bs rows)).sum)),v4,v5,v6,v7]
 rwa[for_zip3 pZ1 ⟨bt.refl H4,v4,v5,v6,v7,∅⟩ (λi σ H5 _ ⟨S5,_⟩=>⟨S5 _ _ hL,S5 _ _ (S04 _ _ hpb),S5 _ _ (S04 _ _ hpn)⟩) ↥2 ↥2 ?_ ?_]
 ·rintro i x y z pz σ H5 hx hy5 hz ⟨S5,v4,v5,v6,v7,rfl⟩ hpz
  have hi:i<sp.length:=↥1
  have hib:i<bs.length:=by cbv
  rw[av,gE ↥2] at hx;cases hx;let⟨qb,e1,h1⟩:=gn rb (gE hib);rw[hy5] at e1;cases e1;let⟨qz,e2,h2⟩:=hy i sp[i] (gE hi);rw[hz] at e2;cases e2;have eo:(ownM sp rows)[i]=owK sp rows i:=by
   rw[<-own_at hi hok,af,gE ↥2];rfl
  rw[eo];have S6:bt H4 (upd H5 pz (.tup [.int (owK sp rows i),.ref qb,.ref qz])):=S5.put hpz;have h6:(upd H5 pz (.tup [.int (owK sp rows i),.ref qb,.ref qz])) pz=some (.tup [.int (owK sp rows i),.ref qb,.ref qz]):=aJ;have S06:=S04.trans S6;have ob:=owK_abs (k:=i) hws hok lr41;have wx:=hws sp[i] (aY hi);have ew:wOf sp i=sp[i].w:=by unfold wOf;cbv
  have el:lOf sp i=sp[i].l:=by unfold lOf;cbv
  have et:pL sp bs rows i=owK sp rows i * (if owK sp rows i<0 then bs[i].2 else bs[i].1) - sp[i].w * sp[i].l:=by grind [pL]
  rwa[pz,ς,zT h6,rfl,_,ς,_,ς,τ,?_];rwa[ς,ς,ς,τ,ς,?_]
  by_cases hneg:owK sp rows i<0
  ·apply mR (tS hneg) ?_
   rwa[ς,ϲ (S06 _ _ h1),τ,.inl ⟨↥2,↥2⟩,ς,ϲ (S06 _ _ h2),ς,ϲ (S06 _ _ h2),τ,.inl ⟨⋯,⋯⟩,τ,τ,S6,v4,some (.int (owK sp rows i)),some (.ref qb),some (.ref qz),?_];rw[qY,et,tQ hneg,<-Int.add_assoc];rfl
  ·apply hX (tU hneg) ?_
   rwa[ς,ϲ (S06 _ _ h1),τ,.inl ⟨↥2,↥2⟩,ς,ϲ (S06 _ _ h2),ς,ϲ (S06 _ _ h2),τ,.inl ⟨⋯,⋯⟩,τ,τ,S6,v4,some (.int (owK sp rows i)),some (.ref qb),some (.ref qz),?_];rw[qY,et,tP hneg,<-Int.add_assoc];rfl
 ·rintro σ H5 ⟨S5,v4,v5,v6,v7,rfl⟩
  rwa[ς,?_];have k1:=k H5 (S04.trans S5)
  grind [jN,aa]
abbrev sDead:bY:=top 31
def scDead:bH ["net","bounds","ring","beats"] pzh (defScope sDead):=⇑0
theorem ok_dead (F:Fun K "is_dead" "is_dead" sDead f fd)(G1:Fn K mg "beats_of" sBeats pzh f1 fd1)(F1:‹0› 2 f1 fd1 pzh nq):‹0› 3 f fd pzh spDead:=by
 specialize F.ok scDead;let⟨vn,vb,vw,b,m,sp,bs,ws,rfl,hv,hb0,hb1,hb,hw,hin,k⟩:=h
 exists 1,scDead,3,G1
 rwa[ς,ς,ς,vn,vb,vw,b,m,sp,bs,ws,rfl,hv,hb0,hb1,hb,hw,hin,λp1 H1 S1 h1=>?_];rwa[ς,ϲ h1,ς,ϲ h1,τ,k H1 S1]
abbrev sWidth:bY:=top 21
def scWidth:bH ["net","span","least","most"] pzk (defScope sWidth):=⇑0
theorem ok_width (F:Fun K "width_of" "width_of" sWidth f fd):‹0› 1 f fd pzk spWidth:=by
 specialize F.ok scWidth;let⟨v,b,m,sp,i,x,rfl,hv,hx,k⟩:=h;let⟨t,p,ys,rfl,ht,hp,hl,hy⟩:=c5 hv;let⟨q,hq,hq2⟩:=hy i x hx
 exists 2,scWidth
 rwa[ς,ϲ ht,ς,ϲ hp _ hq,ϲ hq2,?_];rwa[ς,ϲ ht,ς,ϲ hp _ hq,ϲ hq2,?_];rwa[ς,ς,τ,k]
abbrev sSpW:bY:=top 34
abbrev ny:bY:=top 35
noncomputable def lamPos:List bY->Pos
 | [.Return (some (.Call _ _ [⟨_,.Lambda _ _ _ lp,_⟩] _)) _]=>lp
 | _=>⟨0,0,0,0⟩
abbrev lpW:Pos:=lamPos (gp sSpW)
abbrev lqW:Str:=(("spans_by_width" :Str) ++ ".<locals>.") ++ "<lambda>"
theorem okC {c:ai}{k:Nat}{sp:Sp}(F:Fun K x qual st f fd)(hc:fd.code= .ref c)(S:bH N ps (defScope st))(len:∀vs H Q E,sp vs H Q E->vs.length=ps.length)
  (hbody:∀ (A:bT) (outer:List Env) (s:aq) (H:Hp) (vs:zA) (Q:VK) (E:XK),kX k (A.deeper (envOfC qual (defScope st) s.heap.objs.size f (.ref c)))->sp vs H Q E ->
   ∃ t,PSs (cxOf CX0 P w K mg base N qual (defScope st) f (.ref c) A outer s H E).nox (gp st) t/\t { nx:=fun _ H'=>Q .non H',rt:=Q } (start N vs) H):‹0› (k+1) f fd ps sp:=by
 let⟨oc,od,kV,doc,pm,an,cdv,ct,osl,rfl,lk,hcd⟩:=F.ex;subst hc;rwa[fn_of lk hcd S len λA outer s H vs Q E hr hsp=>?_]
 let⟨t,h,q⟩:=hbody A outer s H vs Q E hr hsp;rwa[t,h.nox,q]
def scSpW:bH pza pza (defScope sSpW):=⇑0
theorem ok_spW {c:ai}(F:Fun K "spans_by_width" "spans_by_width" sSpW f fd)(hcd:fd.code= .ref c)(C:d5 K c Tb0=true)(B:BM mg base)(T:Nm mg)(T2:Nt mg)(ms:mg "sorted" =none)(G1:Fn K mg "width_of" sWidth pzk f1 fd1) :
  ‹0› 5 f fd pza (spSpW Tb0 lpW lqW):=by
 have F1:‹0› 1 f1 fd1 pzk spWidth:=ok_width G1.F;rwa[okC F hcd scSpW (by contradiction) (λA outer s H vs Q E hr h=>?_)];let⟨v,b,m,sp,rfl,hv,few,hT,k⟩:=h;let⟨t,p,ys,rfl,ht,hp,hl,hy⟩:=c5 hv
 exists 98,_,2,pe_sortK (js:=[0]) (fr:=pza) rfl hr.depth rfl ms (fP pq rfl T2.range boot_range (aV (cP iG rfl T.len eY (aV (ixZ (pv 0)) b9)) b9)) rfl rfl C B (λ_ _ _ _ _ _=>rfl) rfl rfl rfl ⇑0 rfl ↥0 (by exists sSpW) rfl ⇑0 (λcl L f' cd s' H'=>pe_tup (aV (pc1 G1 F1 (((hr.in1).in1).deeper _) (aV (pv 1) (aV (pv 0) b9))) (aV (pv 0) b9)))
 rwa[ς,ϲ ht,p,ς,.inr (zT hp),ς,λr H1 S1 hr1=>?_];have hv1 :=hv.same S1;have hT1:=LamT.same S1 hT;rwa[r,ys.length,_,oK sp,rfl,.rng hr1,⋯,hT1,sV sp _,λi hi H2 tb=>?_,λD H4 π tb lt hD pm pw=>?_]
 ·have hv2:=cf (Tb.tupK (LamT.tbl hT1) tb) hv1
  rwa[ς,ς,.ref t,b,m,sp,i,sAt sp i,rfl,hv2,jr ↥2,ς,lh,λq hq=>⟨λa o e=>by rw[bw (bJ e hq)];rwa[e],q,rfl,aJ⟩]
 ·rwa[k D H4 π ((bt.tb S1).trans tb) lt hD ⟨↥2,pw⟩]
def scForest:bH ["net","groups","taken","span","one","other"] pza (defScope ny):=⇑0
theorem ok_forest (F:Fun K "forest_of" "forest_of" ny f fd)(T:Nm mg)(T2:Nt mg)(ms:mg "sorted" =none)(G1:Fn K mg "spans_by_width" sSpW pza f1 fd1)(F1:‹0› 5 f1 fd1 pza (spSpW Tb0 lp lq)) :
  ‹0› 6 f fd pza (mL Tb0 lp lq):=by
 specialize F.ok scForest;let⟨v,b,m,sp,rfl,hv,N,hT,k⟩:=h;let⟨t,p,ys,rfl,ht,hp,hl,hy⟩:=c5 hv;let⟨mn,rfl⟩:=cu (show 0<=m by have:=N.m1;lia);have m2:=N.m2;have few:=N.few;have E:=N.ends;rw[cw] at E k
 exists 3,scForest,3,fP (pX rfl) rfl T2.tlist boot_list ?_,1,fP pq rfl T2.range boot_range ?_,13,gU ?_,G1,8,fR,14,fR,26,ps_setC (iy:=1) (fr:=["one","other"]) (js:=[4,5]) scForest.nd rfl (.inl rfl) rfl (gU (pv 1)) ⇑0 rfl ⇑0 rfl (by exists ny) ⇑0 rfl ⇑0 (λ_ _ _ _ _=>⟨(pe_ifExp (lP op_eq (pv 0) (pv 2) (qf _)) (pv 1) (pv 0)),dU⟩),5,cP call_sortedI rfl ms boot_sorted ?_
 rwa[ς,ϲ ht,mn,rfl,λa1 H1 S1 h1=>⟨a1,mn,rfl,h1,⋯,λLg hLg=>?_⟩];have S2:bt H (upd H1 Lg (.lst ((aQ mn).map λk=>V.int (k:Nat)))):=S1.trans (bt.put (bt.refl H1) hLg);have hLg2:(upd H1 Lg (.lst ((aQ mn).map λk=>V.int (k:Nat)))) Lg=some (.lst ((lV mn).map V.int)):=by rw[aJ];unfold lV;rw[bZ];rfl
 generalize upd H1 Lg (.lst ((aQ mn).map λk=>V.int (k:Nat)))=H2 at S2 hLg2 ⊢;rwa[bq _,λLt hLt=>?_];have S3:bt H (upd H2 Lt (.lst [])):=S2.trans (bt.put (bt.refl H2) hLt);have hgt:Lg≠Lt:=λz=>by cbv
 have hLt3:(upd H2 Lt (.lst [])) Lt=some (.lst []):=aJ;have hLg3:(upd H2 Lt (.lst [])) Lg=some (.lst ((lV mn).map V.int)):=by rw[bw hgt];rwa[hLg2]
 generalize upd H2 Lt (.lst [])=H3 at S3 hLt3 hLg3 ⊢;have hT3:=LamT.same S3 hT;let⟨ps3,hTb3⟩:=LamT.tbl hT3;rwa[ς,.ref t,b,mn,sp,rfl,hv.same S3,few,hT3,λD H4 π tb4 hT4 hD O=>?_];let⟨ps4,hTb4⟩:=LamT.tbl hT4;have nLg:Lg≠Tb0:=by lia
 have nLt:Lt≠Tb0:=by lia
 have hLg4:=tb4 _ _ nLg hLg3;have hLt4:=tb4 _ _ nLt hLt3;have nDg:D≠Lg:=λz=>by cbv
 have nDt:D≠Lt:=λz=>by cbv
 have S5:bt H4 (upd H4 D (.lst (π.map λ(i:Nat)=>V.int i))):=bt.put (bt.refl H4) hD;have tb5 :=((bt.tb S3).trans tb4).trans (bt.tb S5);have hT5:=LamT.same S5 hT4;have hD5:(upd H4 D (.lst (π.map λ(i:Nat)=>V.int i))) D=some (.lst (π.map λ(i:Nat)=>V.int i)):=aJ;have hLg5:=S5 _ _ hLg4;have hLt5:=S5 _ _ hLt4;generalize upd H4 D (.lst (π.map λ(i:Nat)=>V.int i))=H5 at tb5 hT5 hD5 hLg5 hLt5 ⊢;have hLtN:∀o,H Lt=some o->False:=λo e=>by rw[S2 _ _ e] at hLt;cases hLt
 clear hLg4 hLt4 S5 hD hTb4 hT4 tb4 hLg3 hLt3 hT3 hTb3 hLg2 hLt S2 h1 S1 hLg S3;rwa[D,rfl,⟨_,zL hD5⟩,?_];have tkE:∀{H':Hp},Tb Tb0 H H'->kh H H':=λe=>Tb.tupK (LamT.tbl hT) e
 apply jb (λi σ HA=>Tb Tb0 H HA/\LamT Tb0 lp lq HA/\HA D=some (.lst (π.map λ(i:Nat)=>V.int i))/\∃(La:ai) (v3 v4 v5:zU),σ=[some (.ref t),some (.ref La),some (.ref Lt),v3,v4,v5]/\La≠Lt/\HA La=some (.lst (((π.take i).foldl (fG sp) (lV mn,[])).1.map V.int))/\HA Lt=some (.lst (((π.take i).foldl (fG sp) (lV mn,[])).2.map λ(i:Nat)=>V.int i)))
  ⟨tb5,hT5,hD5,Lg,none,none,none,rfl,hgt,hLg5,hLt5⟩ (by rintro i σ HA _ ⟨_,_,h,_⟩;rwa[zL h]) ?_ ?_
 ·rintro i x σ HA hx ⟨tbA,hTA,hDA,La,v3,v4,v5,rfl,nLa,hLa,hLtA⟩
  rw[av] at hx;let⟨j,hj,rfl⟩:=aX.mp hx;have hjn:j<sp.length:=O.lt ↥1;have hvA:=cf (tkE tbA) hv;let⟨t',p',ys',e0,htA,hpA,hlA,hyA⟩:=c5 hvA;cases e0;let⟨q,hq,hq2⟩:=hyA j _ (jr hjn);let⟨s0,s1,g0,g1⟩:=E _ (dB hjn);have fold:(π.take (i+1)).foldl (fG sp) (lV mn,[])=fG sp ((π.take i).foldl (fG sp) (lV mn,[])) j:=by
   grind [aE,fU]
  rw[fold];obtain⟨gl,gb⟩:((π.take i).foldl (fG sp) (lV mn,[])).1.length=mn/\((π.take i).foldl (fG sp) (lV mn,[])).2.length<=sp.length:=by
   rwa[(sq E (π.take i) _ _ [] (λi hi=>O.lt ↥1) (Rl.start mn)).1.len,?_];have:=(kL sp (π.take i) (lV mn,[])).2;rw[bD] at this;have h2:=O.len
   grind
  generalize (π.take i).foldl (fG sp) (lV mn,[])=c at hLa hLtA gl gb ⊢;let⟨gs,tk⟩:=c;have hLa :=hLa;have hLtA :=hLtA;have gl:gs.length=mn:=gl;have gb :=gb;have es:=tm_at (ts:=gs) s0 ↥2;have eg:=tm_at (ts:=gs) g0 ↥2;rwa[ς,ς,ϲ htA,ς,ϲ hpA _ hq,ϲ hq2,La,ϱ,zL hLa,es,?_];rwa[ς,ς,ϲ htA,ς,ϲ hpA _ hq,ϲ hq2,La,ϱ,zL hLa,eg,?_];rwa[ς,ς,rfl,ς,?_]
  by_cases e:tm gs (sAt sp j).s=tm gs (sAt sp j).g
  ·have st:fG sp (gs,tk) j=(gs,tk):=by unfold fG;cbv
   rw[st,e,tS rfl];rwa[iteF ⟨tbA,hTA,hDA,La,_,_,ς,nLa,hLa,hLtA⟩]
  ·have st:fG sp (gs,tk) j=(jI gs (tm gs (sAt sp j).s) (tm gs (sAt sp j).g),tk++[j]):=by unfold fG;cbv
   rw[st,tU (λz=>e (V.int.inj z))];rwa[iteT ?_];obtain⟨x,hx⟩:∃x,x=tm gs (sAt sp j).s:=⟨ς⟩;obtain⟨y,hy⟩:∃y,y=tm gs (sAt sp j).g:=⟨ς⟩;rw[<-hx,<-hy] at e ⊢;rwa[ς,.inl ⟨rfl,_,zL hLtA⟩,ς,Lt,τ,hLtA,oR ↥1,?_];have hLt6:(upd HA Lt (.lst ((tk.map λ(i:Nat)=>V.int i)++[V.int j]))) Lt=some (.lst ((tk++[j]).map λ(i:Nat)=>V.int i)):=by rw[aJ,au];rfl
   have keep:∀a o,a≠Lt->HA a=some o->(upd HA Lt (.lst ((tk.map λ(i:Nat)=>V.int i)++[V.int j]))) a=some o:=λa o h e=>by rw[bw h];rwa[e]
   have nTL:Tb0≠Lt:=λz=>nLt z.symm
   have tb6:Tb Tb0 H (upd HA Lt (.lst ((tk.map λ(i:Nat)=>V.int i)++[V.int j]))):=λa o hn e=>keep a o (λz=>by cbv) (tbA a o hn e)
   have hT6:LamT Tb0 lp lq (upd HA Lt (.lst ((tk.map λ(i:Nat)=>V.int i)++[V.int j]))):=LamT.upd hTA (λp u z=>by cbv) λps z=>by cbv
   have hD6:=keep _ _ nDt hDA;have hLa6:=keep _ _ nLa hLa;generalize upd HA Lt (.lst ((tk.map λ(i:Nat)=>V.int i)++[V.int j]))=HB at hLt6 keep tb6 hT6 hD6 hLa6 ⊢;rwa[ς,La,rfl,⟨_,zL hLa6⟩,?_];rwa[j7 (xs:=gs.map V.int) (λi zs HC=>HC=HB/\zs=(jI (gs.take i) x y).map V.int) ⟨rfl,rfl⟩ (λi zs HC hi ⟨e1,e2⟩=>?_) (by rw[aa];exact cO ⋯) (λi v zs HC hv ⟨e1,e2⟩=>?_) (λzs HC ⟨e1,e2⟩ L hL=>?_)]
   ·subst e1
    rwa[zL hLa6,?_];rw[aa] at hi;rw[e2,aa];unfold jI;rw[aa,bD];cbv
   ·subst e1
    rw[av] at hv;let⟨g,hg,rfl⟩:=aX.mp hv;rwa[eZ ?_];have nx:zs++[V.int (if g=y then x else g)]=(jI (gs.take (i+1)) x y).map V.int:=by
     rw[e2];unfold jI;rw[aE,hg,au,au];rfl
    rwa[ς,ς,rfl,ς,?_]
    by_cases eg:g=y
    ·rw[eg,tS rfl]
     rwa[iteT ⟨ς,rfl,?_⟩]
     lia
    ·rw[tU (λz=>eg (V.int.inj z))]
     rwa[iteF ⟨ς,rfl,?_⟩]
     lia
   ·subst e1
    have eL:zs=(jI gs x y).map V.int:=by rw[e2,aa,aG]
    subst eL;have S7:bt HC (upd HC L (.lst ((jI gs x y).map V.int))):=bt.put (bt.refl HC) hL;have nLL:L≠Lt:=λz=>by lia
    rwa[tb6.trans (bt.tb S7),LamT.same S7 hT6,S7 _ _ hD6,L,_,_,ς,nLL,aJ,S7 _ _ hLt6]
 ·rintro σ HA ⟨tbA,hTA,hDA,La,v3,v4,v5,rfl,nLa,hLa,hLtA⟩
  rw[aa,aG] at hLtA;have tl:(π.foldl (fG sp) (lV mn,[])).2.length<=40:=by
   have:=(kL sp π (lV mn,[])).2;have h2:=O.len
   grind
  have hLtI:HA Lt=some (.lst (((kT sp mn π).2.map λ(i:Nat)=>(i:Int)).map V.int)):=by rw[hLtA,bZ];rfl
  rwa[ς,Lt,ς,zL hLtI,by grind [aa,bV],λL ns hL pm pw=>?_];have S7:bt HA (upd HA L (.lst (ns.map V.int))):=bt.put (bt.refl HA) hL;rwa[L,ς,.inl (Rd.of aJ),λu H8 S8 hu=>?_];rwa[k u H8 ns ((tbA.trans (bt.tb S7)).trans (bt.tb S8)) (LamT.same S8 (LamT.same S7 hTA)) hu ⟨π,O,pm,pw⟩]
abbrev sFrom:bY:=top 24
abbrev sTo:bY:=top 25
def scFrom:bH ["net","step","span"] pzd (defScope sFrom):=⇑0
theorem ok_from (F:Fun K "leads_from" "leads_from" sFrom f fd):‹0› 1 f fd pzd spFrom:=by
 rwa[F.ok scFrom (by contradiction) (λcdv A outer s0 H vs Q E hr h=>?_)];let⟨v,q,b,m,sp,s,x,rfl,hv,hq,hx,k⟩:=h;let⟨t,p,ys,rfl,ht,hp,hl,hy⟩:=c5 hv;let⟨qx,hqx,hqx2⟩:=hy s.i x hx
 exists 1,scFrom
 rwa[ς,ϲ ht,ς,ϲ hq,ϲ hp _ hqx,?_];rwa[ς,ϲ hq,rfl,ς,?_];rwa[oJ (λh1=>?_) (λh1=>?_)]
 ·have h1:s.d=1:=by cbv
  rwa[ς,ϲ hqx2,?_];have e:frm x s.d=x.s:=tQ h1
  lia
 ·have h1:s.d≠1:=by cbv
  rwa[ς,ϲ hqx2,?_];have e:frm x s.d=x.g:=tP h1
  lia
def scTo:bH ["net","step","span"] pzd (defScope sTo):=⇑0
theorem ok_to (F:Fun K "leads_to" "leads_to" sTo f fd):‹0› 1 f fd pzd spTo:=by
 rwa[F.ok scTo (by contradiction) (λcdv A outer s0 H vs Q E hr h=>?_)];let⟨v,q,b,m,sp,s,x,rfl,hv,hq,hx,k⟩:=h;let⟨t,p,ys,rfl,ht,hp,hl,hy⟩:=c5 hv;let⟨qx,hqx,hqx2⟩:=hy s.i x hx
 exists 1,scTo
 rwa[ς,ϲ ht,ς,ϲ hq,ϲ hp _ hqx,?_];rwa[ς,ϲ hq,rfl,ς,?_];rwa[oJ (λh1=>?_) (λh1=>?_)]
 ·have h1:s.d=1:=by cbv
  rwa[ς,ϲ hqx2,?_];have e:too x s.d=x.g:=tQ h1
  lia
 ·have h1:s.d≠1:=by cbv
  rwa[ς,ϲ hqx2,?_];have e:too x s.d=x.s:=tP h1
  lia
abbrev sSteps:bY:=top 36
abbrev sWayB:bY:=top 37
abbrev sRingBy:bY:=top 38
inductive spSteps (vs:zA)(H:Hp)(Q:VK)(_:XK):Prop
 | mk (v u b m sp tk x:_)(_:vs=[v,.ref u,.int x])(_:‹4›)(_:H u=some (.tup (tk.map λ(i:Nat)=>V.int i)))(_:(∀i∈tk,i<sp.length))(_:tk.length<=40)(_:∀L H' zs,bt H H'->H L=none->H' L=some (.lst zs)->dg H' zs (gu Stp.row (dM sp tk x))->Q (.ref L) H')
inductive spWayBt (vs:zA)(H:Hp)(Q:VK)(_:XK):Prop
 | mk (v u b m sp tk be en:_)(_:vs=[v,.ref u,.int be,.int en])(_:‹4›)(_:iC b m sp)(_:H u=some (.tup (tk.map λ(i:Nat)=>V.int i)))(_:(∀i∈tk,i<sp.length))(_:tk.length<=40)(_:0<=be)(_:be<m)(_:Held sp tk be en)(_:∀q H' p,bt H H'->IsD H' q (oH p)->WayR sp tk be en p->Q q H')
inductive spRingBy (T:ai)(lp:Pos)(lq:Str)(vs:zA)(H:Hp)(Q:VK)(_:XK):Prop
 | mk (v b m sp k:_)(_:vs=[v,.int (k:Nat)])(_:‹4›)(_:iC b m sp)(_:LamT T lp lq H)(_:k<sp.length)(_:∀q H' (l π:zC) p,Tb T H H'->LamT T lp lq H'->IsD H' q (oH (⟨k,1⟩::p))->pZ m.toNat sp (l.map λ(i:Nat)=>(i:Int))->Ordd sp π->l.Perm (kT sp m.toNat π).2->WayR sp l (sAt sp k).g (sAt sp k).s p->Q q H')
def DW (H:Hp):za->zQ->Prop:=kE λ(p:Key×V) (q:Int×zP)=>p.1= .inl q.1/\IsD H p.2 (oH q.2)
theorem DW.none {H:Hp}{x:Int}:∀{kvs:za} {l:zQ},DW H kvs l->lkW l x=none->pH kvs (.inl x)=none
 | _,_,.nil,_=>rfl
 | _,_,.cons (b:=q) r t,h=>by
  rw[mP] at h
  by_cases e:q.1=x
  ·cbv
  ·rw[tP e] at h
   rw[iN ↥2];rwa[DW.none t h]
theorem DW.some {H:Hp}{x:Int}{ws:zP}:∀{kvs:za} {l:zQ},DW H kvs l->lkW l x=some ws->∃v,pH kvs (.inl x)=some v/\IsD H v (oH ws)
 | _,_,.nil,h=>by cases h
 | _,_,.cons (b:=q) r t,h=>by
  rw[mP] at h
  by_cases e:q.1=x
  ·grind [i9]
  ·rw[tP e] at h
   rw[iN ↥2];rwa[DW.some t h]
def pG {v:V}{ws:zP}(e:kh H H')(h:IsD H v (oH ws)):IsD H' v (oH ws):=by
 let⟨p,ys,rfl,hp,_,r⟩:=fJ h;rwa[.tup (e _ _ hp) (eM e r)]
def DW.keep (e:kh H H'){kvs:za}{l:zQ}(h:DW H kvs l):DW H' kvs l:=Paired.mapP h λ_ _ z=>⟨z.1,pG e z.2⟩
theorem DW.len {H:Hp}:∀{kvs:za} {l:zQ},DW H kvs l->kvs.length=l.length
 | _,_,.nil=>rfl
 | _,_,.cons _ t=>tW (· + 1) (DW.len t)
theorem DW.snoc {H:Hp}{p:Key×V}{q:Int×zP}(h:p.1= .inl q.1/\IsD H p.2 (oH q.2)):∀{kvs:za} {l:zQ},DW H kvs l->DW H (kvs++[p]) (l++[q])
 | _,_,.nil=>.cons h .nil
 | _,_,.cons r t=>.cons r (DW.snoc h t)
structure JW (H Hc:Hp)(Da La:ai)(c:zQ×zI):Prop where
 same:bt H Hc
 da:∃kvs,Hc Da=some (.dK kvs)/\DW Hc kvs c.1
 la:Hc La=some (.lst (c.2.map V.int))
def JW.on {Hc':Hp}(j:JW H Hc Da La c)(e:bt Hc Hc'):JW H Hc' Da La c:=by
 let⟨kvs,h1,h2⟩:=j.da;rwa[j.same.trans e,⟨kvs,e _ _ h1,h2.keep (bt.tupK e)⟩,e _ _ j.la]
def JW.upL {td:zI}(j:JW H Hc Da La c)(hL:H La=none)(n:Da≠La):JW H (upd Hc La (.lst (td.map V.int))) Da La (c.1,td):=by
 let⟨kvs,h1,h2⟩:=j.da;rwa[λa o e=>by rw[bw (bJ e hL)];rwa[j.same a o e],⟨kvs,by rw[bw n];rwa[h1],h2.keep (eJ j.la)⟩,aJ]
def mapI_at {x:V}(h:(l.map λ(i:Nat)=>V.int i)[i]? =some x):∃j,l[i]? =some j/\x=V.int (j:Nat):=by
 rw[av] at h;let⟨j,hj,rfl⟩:=aX.mp h;rwa[j,hj,rfl]
theorem oO {s:Stp}(h:s.i<sp.length):too (sAt sp s.i) s.d=eV sp s/\frm (sAt sp s.i) s.d=lG sp s:=by
 have e:sAt sp s.i=sp[s.i]:=by unfold sAt;cbv
 rw[e];rwa[(mJ h).symm,(oE h).symm]
def last_mem {l:zI}(h:l.getLast? =some z):z∈l:=by
 let⟨ys,rfl⟩:=List.getLast?_eq_some_iff.mp h;simp
def scSteps:bH ["net","spans","happening","steps"] pzr (defScope sSteps):=⇑0
theorem ok_steps (F:Fun K "steps_from" "steps_from" sSteps f fd)(G1:Fn K mg "leads_from" sFrom pzd f1 fd1):‹0› 2 f fd pzr spSteps:=by
 have F1:‹0› 1 f1 fd1 pzd spFrom:=ok_from G1.F;specialize F.ok scSteps;let⟨v,u,b,m,sp,tk,x,rfl,hv,hu,hlt,few,k⟩:=h;have hr1:=hr
 exists 1,scSteps,4,op_catL,eN (fr:=[]) (js:=[]) rfl (jO (pv 1)) ⇑0 rfl ⇑0 rfl ∅ ⇑0 rfl ⇑0 (λ_ _ _ _ _=>⟨(jS (aV (pv 0) (aV dQ b9))),dU⟩),eN (fr:=[]) (js:=[]) rfl (jO (pv 1)) ⇑0 rfl ⇑0 rfl ∅ ⇑0 rfl ⇑0 (λ_ _ _ _ _=>⟨(jS (aV (pv 0) (aV (pe_un qV dQ) b9))),dU⟩),2,eN (fr:=["happening","net"]) (js:=[2,0]) rfl (gU (pv 3)) ⇑0 rfl ⇑0 rfl (by exists sSteps) ⇑0 rfl ⇑0 (λ_ _ _ _ _=>⟨(pv 0),(oq (lP op_eq (pc1 G1 F1 hr1 (aV (pv 2) (aV (pv 0) b9))) (pv 1) (qf _)))⟩)
 have half:∀(d:Int) (td:TE) (H0:Hp) (Rt:V->Hp->Prop),(∀σ H1 (R:VK),R (.int d) H1->td σ H1 R)->bt H H0->(∀L H' zs,bt H0 H'->H' L=some (.lst zs)->dg H' zs (gu Stp.row (tk.map λi=>⟨i,d⟩))->Rt (.ref L) H') ->
   CompW [] tNoIf (tTupA (om (tVar 0) (om td tNil))) [some v,some (.ref u),some (.int x),none] Rt (Itt K u) H0:=λd td H0 Rt htd S0 fin=>by
  rwa[gO (λi zs HC=>bt H0 HC/\zs.length=i/\dg HC zs (gu Stp.row ((tk.take i).map λi=>⟨i,d⟩))) ⟨bt.refl H0,rfl,.nil⟩ (λi zs HC hi ⟨e1,e2,_⟩=>⟨zT (e1 _ _ (S0 _ _ hu)),kb e2⟩) (by rw[aa];exact cO ⋯) (λi y zs HC hy ⟨e1,e2,e3⟩=>?_) (λzs HC ⟨e1,e2,e3⟩ D hD=>?_)]
  ·let⟨j,hj,rfl⟩:=mapI_at hy
   rwa[eZ ⟨ς,htd _ _ _ ⟨lh,λq H2 S2 h2=>⟨e1.trans S2,↥2,?_⟩⟩⟩];rw[aE,hj];unfold gu at e3 ⊢;rw[au,au];rwa[(e3.same S2).append (.cons (.tup h2 (dg.ints (Stp.row ⟨j,d⟩))) .nil)]
  ·have S2:=bt.put (bt.refl HC) hD (o:=.lst zs)
   rw[aa,aG] at e3;rwa[fin D _ zs (e1.trans S2) aJ (e3.same S2)]
 rwa[ς,u,rfl,⟨_,zT hu⟩,half 1 _ H _ (λ_ _ _ h=>h) (bt.refl H) λL1 H1 z1 S1 h1 d1=>?_];rwa[ς,u,rfl,⟨_,zT (S1 _ _ hu)⟩,half (-1) _ H1 _ (λ_ _ _ h=>⟨1,rfl,h⟩) S1 λL2' H2 z2 S2 h2 d2=>?_];have l1:z1.length=tk.length:=by rw[d1.length];grind
 have l2:z2.length=tk.length:=by rw[d2.length];grind
 rwa[L1,L2',τ,S2 _ _ h1,h2,by rwa[cO ⋯],λL3 H3 S3 h3=>?_];have d3:dg H3 (z1++z2) (gu Stp.row (stF tk)):=by
  unfold stF gu;rw[au];rwa[((d1.same S2).same S3).append (d2.same S3)]
 have S03:=S1.trans (S2.trans S3);have hv3:=hv.same S03;rwa[ς,L3,rfl,⟨_,zL h3⟩,?_];have ls:(z1++z2).length=(stF tk).length:=by rw[d3.length];simp
 rwa[j7 (xs:=z1++z2) (λi zs HC=>HC=H3/\zs.length<=i/\dg H3 zs (gu Stp.row (((stF tk).take i).filter λs=>decide (lG sp s=x)))) ⟨rfl,bq _,.nil⟩ (λi zs HC hi ⟨e1,e2,_⟩=>⟨by rw[e1];exact zL h3,e2⟩) (by rw[ax,l2];exact cO ⋯) (λi y zs HC hy ⟨e1,e2,e3⟩=>?_) (λzs HC ⟨e1,e2,e3⟩ D hD=>?_)]
 ·subst e1
  have hi:i<(stF tk).length:=↥1
  have hsi:=gE hi;let⟨y',hy',dy⟩:=d3.at (i:=i) (d:=.tup ((Stp.row (stF tk)[i]).map Dt.int)) ↥1;rw[hy] at hy';cases hy';let⟨q,qs,rfl,hq,rq⟩:=dy.tup_of;have eq:=rq.ints_of;subst eq;have hin:=hlt _ (rX (aY hi)).1;rwa[ς,ς,v,q,b,m,sp,(stF tk)[i],sAt sp (stF tk)[i].i,rfl,hv3,hq,jr hin,ς,rfl,ς,?_];rw[(oO hin).2];have nx:((stF tk).take (i+1)).filter (λs=>decide (lG sp s=x))=((stF tk).take i).filter (λs=>decide (lG sp s=x))++(if lG sp (stF tk)[i]=x then [(stF tk)[i]] else []):=by
   rw[aE,hsi]
   grind
  rw[nx]
  by_cases e:lG sp (stF tk)[i]=x
  ·rw[tQ e,e,tS rfl]
   rwa[iteT ⟨ς,rfl,↥1,?_⟩];unfold gu at e3 ⊢;rw[au];rwa[e3.append (.cons dy .nil)]
  ·rw[tP e,fk]
   lia
 ·subst e1
  have S4:=bt.put (bt.refl HC) hD (o:=.lst zs);rw[ls,aG] at e3;rwa[k D _ zs (S03.trans S4) (bt.free S03 hD) aJ (e3.same S4)]
def scWayB:bH ["net","spans","begin","end","ways","ahead","here","step","there"] pzJ (defScope sWayB):=⇑0
theorem ok_wayBt (F:Fun K "way_between" "way_between" sWayB f fd)(G1:Fn K mg "steps_from" sSteps pzr f1 fd1)(F1:‹0› 2 f1 fd1 pzr spSteps)(G2:Fn K mg "leads_to" sTo pzd f2 fd2):‹0› 3 f fd pzJ spWayBt:=by
 have F2:‹0› 1 f2 fd2 pzd spTo:=ok_to G2.F;specialize F.ok scWayB;let⟨v,u,b,m,sp,tk,be,en,rfl,hv,N,hu,hlt,few,be0,be1,held,k⟩:=h;have u1:=bV (lL (by decide:1<=64) _) hr.units;have E:=N.ends;have m16:m.toNat<=16:=by have:=N.m2;cbv
 have b1:be<m.toNat:=by lia
 exists 3,scWayB,3,pe_disp (pps_cons (pv 2) (jS b9) pps_nil) rfl rfl ↥0 ↥0,8,tj (mj u1 (pv 3) (pv 4)) rfl,7,gU ?_,G1,11,G2,7,tj (mj u1 (pv 8) (pv 4)) rfl,2,ps_dput u1 ?_ ?_ ?_ rfl,3,lT,pe_dget u1 ?_ ?_ (λ_ _=>rfl),16,pe_dget u1 ?_ ?_ (λ_ _=>rfl)
 intro Da hDa;rwa[ς,bq _,λq1 H1 S1 h1=>⟨S1 _ _ aJ,[(.inl be,.ref q1)],rfl,↥2,?_⟩];have S0:bt H (upd H Da (.dK [])):=bt.put (bt.refl H) hDa;have hDa1 :=S1 _ _ aJ;have hDa2:(upd H1 Da (.dK (mq [] [(.inl be,.ref q1)]))) Da=some (.dK [(.inl be,.ref q1)]):=aJ;have S2:bt H (upd H1 Da (.dK (mq [] [(.inl be,.ref q1)]))):=λb o e=>by
  rw[bw (λz=>by cbv)];rwa[S1 _ _ (S0 _ _ e)]
 have hq1:(upd H1 Da (.dK (mq [] [(.inl be,.ref q1)]))) q1=some (.tup []):=by
  rw[bw ⋯];rwa[h1]
 generalize upd H1 Da (.dK (mq [] [(.inl be,.ref q1)]))=H2 at hDa2 S2 hq1 ⊢;rwa[ς,szZ1,λLa hLa=>?_];have nDL:Da≠La:=λz=>by cbv
 have S3:bt H2 (upd H2 La (.lst [.int be])):=bt.put (bt.refl H2) hLa;have hLaH:H La=none:=by
  cases z:H La with
  | none=>rfl
  | some o=>rw[S2 _ _ z] at hLa;cases hLa
 have J3:JW H (upd H2 La (.lst [.int be])) Da La (itW sp tk be 0):=⟨S2.trans S3,⟨_,S3 _ _ hDa2,.cons ⟨rfl,.tup (S3 _ _ hq1) .nil⟩ .nil⟩,aJ⟩;generalize upd H2 La (.lst [.int be])=H3 at J3 ⊢;have c0:(itW sp tk be 0).1.length+lW (itW sp tk be 0).1<=17:=by
  have:lW [(be,([]))]<=16:=by
   grind [lW,List.countP_le_length,lkW,bL]
  show 1+lW [(be,([]))]<=17;lia
 have c1:2 * lW (itW sp tk be 0).1+(itW sp tk be 0).2.length<=40:=by
  grind [itW]
 apply ⟨fun n σ HA=>∃ (i:Nat) (v6 v7 v8:zU),n=2 * lW (itW sp tk be i).1+(itW sp tk be i).2.length/\n<=40/\σ=[some v,some (.ref u),some (.int be),some (.int en),some (.ref Da),some (.ref La),v6,v7,v8]/\JW H HA Da La (itW sp tk be i)/\WI m.toNat sp tk be (itW sp tk be i)/\Clo sp tk (fun _=>False) (itW sp tk be i)/\(itW sp tk be i).1.length+lW (itW sp tk be i).1<=17/\∀ j,j<i->lkW (itW sp tk be j).1 en=none,
  ⟨_,0,none,none,none,rfl,c1,rfl,J3,(qw be0 b1).1,(qw be0 b1).2,c0,↥2⟩,?_⟩
 rintro n σ HA ⟨i,v6,v7,v8,rfl,n40,rfl,JA,WA,CA,lA,bA⟩;let⟨kvs,hDaA,dwA⟩:=JA.da;rwa[ς,ς,Da,ς,DGet.k (k:=.inl en) hDaA,ς,?_];cases hen:lkW (itW sp tk be i).1 en with
 | some p =>
  let⟨vp,hvp,dp⟩:=dwA.some hen;rw[hvp];rwa[iteF ⟨ς,ς,Da,vp,rfl,?_,k vp HA p JA.same dp ⟨i,hen,bA⟩⟩];have:=DGet.k (k:=.inl en) hDaA;rw[hvp] at this;rwa[this]
 | none =>
  rw[dwA.none hen];rwa[iteT ⟨_,λσ' H' z=>z,?_⟩];have hne:=left_of hlt held WA CA hen;let⟨t1,t2,t3,t4⟩:=turn_ok E m16 hlt WA CA hne;have hlast:(itW sp tk be i).2.getLast? =some (oh (itW sp tk be i).2):=by
   grind [oh,List.getLast?_eq_some_getLast]
  have hget:((itW sp tk be i).2.map V.int)[((itW sp tk be i).2.map V.int).length - 1]? =some (V.int (oh (itW sp tk be i).2)):=by
   grind
  apply ⟨ς,.inl ⟨rfl,_,zL JA.la⟩,La,τ,JA.la,hget,?_⟩;have JB:=JA.upL (td:=(itW sp tk be i).2.dropLast) hLaH nDL;rw[List.map_dropLast] at JB;generalize upd HA La (.lst ((itW sp tk be i).2.map V.int).dropLast)=HB at JB ⊢;have hx :=WA.ahd _ (last_mem hlast);have W0:WI m.toNat sp tk be ((itW sp tk be i).1,(itW sp tk be i).2.dropLast):=⟨WA.pth,WA.rng,fun y hy=>WA.ahd y ((List.dropLast_sublist _).subset hy),WA.beg⟩;have C0:Clo sp tk (· =oh (itW sp tk be i).2) ((itW sp tk be i).1,(itW sp tk be i).2.dropLast):=fun y hy hn ex t ht'=>CA y hy (fun z=>by
   rw[List.getLast?_eq_some_iff] at hlast
   grind [eI,bj,bf]) (fun z=>z) t ht'
  have eT:itW sp tk be (i+1)=(dM sp tk (oh (itW sp tk be i).2)).foldl (iM sp (oh (itW sp tk be i).2)) ((itW sp tk be i).1,(itW sp tk be i).2.dropLast):=rfl;have bN:∀j,j<i+1->lkW (itW sp tk be j).1 en=none:=↥1
  rw[show sP sp tk (itW sp tk be i)=itW sp tk be (i+1) from rfl] at t1 t2 t3 t4;generalize oh (itW sp tk be i).2=x at hx C0 eT ⊢;generalize hc:((itW sp tk be i).1,(itW sp tk be i).2.dropLast)=c at JB W0 C0 eT;have hx:lkW c.1 x≠none:=by lia
  have lc:c.1.length+lW c.1<=17:=by lia
  have lc2:2 * lW c.1+c.2.length<=40:=by
   grind
  rwa[ς,ς,ς,v,u,b,m,sp,tk,x,rfl,hv.same JB.same,JB.same _ _ hu,hlt,few,λL HC zs SC fL hL dz=>⟨L,rfl,⟨_,zL hL⟩,?_⟩];have nLL:L≠La:=λz=>by rw[z,JB.la] at fL;cases fL
  have JC:=JB.on SC;have vis:∀j:Nat,WI m.toNat sp tk be (((dM sp tk x).take j).foldl (iM sp x) c)/\lkW (((dM sp tk x).take j).foldl (iM sp x) c).1 x≠none/\(((dM sp tk x).take j).foldl (iM sp x) c).1.length<=17/\(((dM sp tk x).take j).foldl (iM sp x) c).2.length<=40:=λj=>by
   let⟨b1,_,_,b4,b5,b6⟩:=qU E m16 hlt (L:=(dM sp tk x).take j) W0 hx ↥1 C0
   grind
  have lz:zs.length=(dM sp tk x).length:=by rw[dz.length];cbv
  rwa[jb (λj σ HD=>JW H HD Da La (((dM sp tk x).take j).foldl (iM sp x) c)/\HD L=some (.lst zs)/\dg HD zs (gu Stp.row (dM sp tk x))/\∃w7 w8,σ=[some v,some (.ref u),some (.int be),some (.int en),some (.ref Da),some (.ref La),some (.int x),w7,w8]) ⟨JC,hL,dz,_,ς⟩ (λj σ HD _ ⟨_,h,_⟩=>zL h) ?_ ?_]
  ·rintro j y σ HD hy ⟨JD,hLD,dD,w7,w8,rfl⟩
   have hj:j<(dM sp tk x).length:=↥1
   have hsj:=gE hj;let⟨y',hy',dy⟩:=dD.at (i:=j) (d:=.tup ((Stp.row (dM sp tk x)[j]).map Dt.int)) ↥1;rw[hy] at hy';cases hy';let⟨q,qs,rfl,hq,rq⟩:=dy.tup_of;have eq:=rq.ints_of;subst eq;have hmem :=aY hj;have hin:=hlt _ (rX (cQ.mp hmem).1).1;have fold:((dM sp tk x).take (j+1)).foldl (iM sp x) c=iM sp x (((dM sp tk x).take j).foldl (iM sp x) c) (dM sp tk x)[j]:=by
    rw[aE,hsj]
    grind
   rw[fold];let⟨Wj,xj,kj,aj⟩:=vis j;generalize ((dM sp tk x).take j).foldl (iM sp x) c=d at JD Wj xj kj aj;generalize (dM sp tk x)[j]=st at hq hin dy;rwa[ς,ς,v,q,b,m,sp,st,sAt sp st.i,rfl,hv.same JD.same,hq,jr hin,?_];rw[(oO hin).1];let⟨kv2,hDaD,dwD⟩:=JD.da;rwa[ς,ς,Da,ς,DGet.k (k:=.inl (eV sp st)) hDaD,ς,?_];cases hto:lkW d.1 (eV sp st) with
   | some p0 =>
    let⟨vp,hvp,_⟩:=dwD.some hto;rw[hvp];have ev:iM sp x d st=d:=by unfold iM;lia
    rw[ev];rwa[iteF ⟨JD,hLD,dD,_,ς⟩]
   | none =>
    rw[dwD.none hto];rwa[iteT ?_];obtain⟨ws,hws⟩:∃ws,lkW d.1 x=some ws:=lJ.mp xj;have ev:iM sp x d st=(d.1++[(eV sp st,ws++[st])],d.2++[eV sp st]):=by
     unfold iM
     grind
    rw[ev];let⟨vw,hvw,dw⟩:=dwD.some hws;let⟨pw,yw,rfl,hpw,hlw,rw'⟩:=fJ dw;have hget':DGet HD Da (V.int x) (some (.ref pw)):=by
     have:=DGet.k (k:=.inl x) hDaD;rw[hvw] at this;rwa[this]
    have lw:=((Wj.pth x ws hws).1.len E be0 b1);rwa[ς,ς,Da,.ref pw,rfl,hget',ς,szZ1,λq4 H16 S16 h16=>⟨pw,q4,τ,S16 _ _ hpw,h16,?_,λq5 H17 S17 h17=>?_⟩]
    ·rw[hlw];rwa[aU (by show ws.length+1<=1000;lia) ↥0]
    have ST:=S16.trans S17;have hDa7:=ST _ _ hDaD;have dw7:=dwD.keep (bt.tupK ST);have hLa7:=ST _ _ JD.la;have hL7:=ST _ _ hLD;have dD7:=dD.same ST;have S7:=JD.same.trans ST;have lk:kv2.length<=17:=by rw[dwD.len];rwa[kj]
    rwa[ς,ς,Da,ς,DPut.k (k:=.inl (eV sp st)) hDa7 (bV (by lia:kv2.length<=999) ↥0),?_];have hway:IsD H17 (.ref q5) (oH (ws++[st])):=by
     rwa[.tup h17 ?_];rw[au];rwa[(rw'.same ST).append (.cons (dy.same ST) .nil)]
    rw[putK_new _ (dwD.none hto)];have K8:kh H17 (upd H17 Da (.dK (kv2++[(.inl (eV sp st),.ref q5)]))):=λq xs h=>by rw[bw (fj h hDa7 ∅)];rwa[h]
    have hDa8:(upd H17 Da (.dK (kv2++[(.inl (eV sp st),.ref q5)]))) Da=some (.dK (kv2++[(.inl (eV sp st),.ref q5)])):=aJ;have dw8:DW (upd H17 Da (.dK (kv2++[(.inl (eV sp st),.ref q5)]))) (kv2++[(.inl (eV sp st),.ref q5)]) (d.1++[(eV sp st,ws++[st])]):=DW.snoc ⟨rfl,pG K8 hway⟩ (dw7.keep K8);have hLa8:(upd H17 Da (.dK (kv2++[(.inl (eV sp st),.ref q5)]))) La=some (.lst (d.2.map V.int)):=by grind [bw]
    have nLD:L≠Da:=fj hLD hDaD ∅;have hL8:(upd H17 Da (.dK (kv2++[(.inl (eV sp st),.ref q5)]))) L=some (.lst zs):=by rw[bw nLD];rwa[hL7]
    have S8:bt H (upd H17 Da (.dK (kv2++[(.inl (eV sp st),.ref q5)]))):=λa o e=>by rw[bw (bJ e hDa)];rwa[S7 a o e]
    have dD8:dg (upd H17 Da (.dK (kv2++[(.inl (eV sp st),.ref q5)]))) zs (gu Stp.row (dM sp tk x)):=eM K8 dD7;generalize upd H17 Da (.dK (kv2++[(.inl (eV sp st),.ref q5)]))=H8 at hDa8 dw8 hLa8 hL8 S8 dD8 ⊢;rwa[ς,.inl ⟨rfl,_,zL hLa8⟩,ς,La,τ,hLa8,oR ↥1,?_];have J8:JW H H8 Da La (d.1++[(eV sp st,ws++[st])],d.2):=⟨S8,⟨_,hDa8,dw8⟩,hLa8⟩;have J9:=J8.upL (td:=d.2++[eV sp st]) hLaH nDL;rw[au] at J9;rwa[J9,?_,eM (eJ hLa8) dD8,_,ς];rw[bw nLL];rwa[hL8]
  ·rintro σ HD ⟨JD,hLD,dD,w7,w8,rfl⟩
   rw[lz,aG,<-eT] at JD;rwa[_,t3,i+1,_,_,ς,⋯,rfl,JD,t1,t2,⋯,bN]
theorem pZ.natsF (a:pZ m sp ns):∃(l π:zC),ns=l.map (λ(i:Nat)=>(i:Int))/\Ordd sp π/\l.Perm (kT sp m π).2:=by
 let⟨π,o,p,_⟩:=a;have nn:∀x∈ns,0<=x:=λx hx=>by
  let⟨i,_,rfl⟩:=bc.mp (p.mem_iff.mp hx);(constructor <;> lia)
 rwa[ns.map Int.toNat,π,?_,o,?_]
 ·rw[bZ]
  conv=>lhs;rw[<-List.map_id ns]
  rwa[c9 λx hx=>(Int.toNat_of_nonneg (nn x hx)).symm]
 ·have q:=p.map Int.toNat
  rw[bZ] at q;have e:((kT sp m π).2.map (Int.toNat ∘ λ(i:Nat)=>(i:Int)))=(kT sp m π).2:=by
   conv=>rhs;rw[<-List.map_id (kT sp m π).2]
   rwa[c9 λx _=>rfl]
  rw[e] at q;rwa[q]
def gone_ltF (O:Ordd sp π)(pm:l.Perm (kT sp m π).2):∀i∈l,i<sp.length:=λi hi=>by
 rcases(kL sp π (lV m,[])).1 i (pm.mem_iff.mp hi) with z | z
 ·cases z
 ·rwa[O.lt z]
def scRingBy:bH ["net","span","start","goal"] pzk (defScope sRingBy):=⇑0
theorem ok_ringBy (F:Fun K "ring_by" "ring_by" sRingBy f fd)(G1:Fn K mg "way_between" sWayB pzJ f1 fd1)(F1:‹0› 3 f1 fd1 pzJ spWayBt)
  (G2:Fn K mg "forest_of" ny pza f2 fd2) (F2:‹0› 6 f2 fd2 pza (mL Tb0 lp lq)):‹0› 7 f fd pzk (spRingBy Tb0 lp lq):=by
 specialize F.ok scRingBy;let⟨v,b,m,sp,k,rfl,hv,N,hT,hk,fin⟩:=h;let⟨t,p,ys,rfl,ht,hp,hl,hy⟩:=c5 hv;let⟨q,hq,hq2⟩:=hy k _ (jr hk);have E:=N.ends;have few:=N.few;let⟨a0,a1,b0,b1⟩:=E _ (dB hk)
 exists 2,scRingBy,28,lT,9,G1,3,G2
 rwa[ς,ϲ ht,ς,ϲ hp _ hq,ϲ hq2,?_];rwa[ς,ϲ ht,ς,ϲ hp _ hq,ϲ hq2,?_];rwa[ς,lh,λq1 H1 S1 h1=>⟨szZ1,λq2 H2 S2 h2=>⟨ς,ς,.ref t,b,m,sp,rfl,hv.same (S1.trans S2),N,LamT.same (S1.trans S2) hT,λu H3 ns tb3 hT3 hu F0=>?_⟩⟩];have hT2:=LamT.same (S1.trans S2) hT;have K3:=Tb.tupK (LamT.tbl hT2) tb3;let⟨l,π,rfl,O,pm⟩:=F0.natsF;have hlt:=gone_ltF O pm;have lfew:l.length<=40:=by have:=F0.len;grind
 rw[bZ] at hu;rwa[ς,ς,.ref t,u,b,m,sp,l,(sAt sp k).g,(sAt sp k).s,rfl,cf K3 (hv.same (S1.trans S2)),N,hu,hlt,lfew,b0,⋯,held_span E O pm hk,λw4 H4 pth S4 d4 wr=>?_];let⟨pw,yw,rfl,hpw,hlw,rw'⟩:=fJ d4;have hP:=WayR.pth E (by have:=N.m2;cbv) hlt b0 b1 (held_span E O pm hk) wr;have ln:=hP.len E b0 b1;have h24:=S4 _ _ (K3 _ _ h2);have h14:=S4 _ _ (K3 _ _ (S2 _ _ h1));rwa[q2,pw,τ,h24,hpw,?_,λq5 H5 S5 h5=>?_]
 ·rw[hlw];have:=N.m2;rwa[aU (by show 1+pth.length<=1000;lia) ↥0]
 rwa[fin _ H5 l π pth ((bt.tb (S1.trans S2)).trans (tb3.trans (bt.tb (S4.trans S5)))) (LamT.same (S4.trans S5) hT3) ?_ F0 O pm wr];rwa[.tup h5 (.cons (.tup (S5 _ _ h14) (dg.ints (Stp.row ⟨k,1⟩))) (rw'.same S5))]
abbrev rj:bY:=top 40
theorem inV_intsF (x:Int):∀p:zI,inV (.int x) (p.map V.int)=decide (x∈p)
 | []=>by simp[inV]
 | y::p=>by
  have ih:=inV_intsF x p;unfold inV at ih ⊢
  by_cases e:y=x
  ·subst e;simp[eqV]
  ·have:eqV (.int y) (.int x)=false:=by simp[eqV,e]
   grind
theorem inV_nat (x:Nat)(l:zC):inV (.int (x:Int)) (l.map λ(i:Nat)=>V.int i)=decide (x∈l):=by
 have e:(l.map λ(i:Nat)=>V.int i)=(l.map λ(i:Nat)=>(i:Int)).map V.int:=by rw[bZ];rfl
 rw[e,inV_intsF]
 grind
def scRingsO:bH ["net","taken"] pza (defScope rj):=⇑0
theorem ok_ringsO (F:Fun K "rings_of" "rings_of" rj f fd)(T:Nm mg)(T2:Nt mg)(G1:Fn K mg "forest_of" ny pza f1 fd1)(F1:‹0› 6 f1 fd1 pza (mL Tb0 lp lq))(G2:Fn K mg "ring_by" sRingBy pzk f2 fd2)(F2:‹0› 7 f2 fd2 pzk (spRingBy Tb0 lp lq)):‹0› 8 f fd pza (qA Tb0 lp lq):=by
 specialize F.ok scRingsO;let⟨v,b,m,sp,rfl,hv,N,hT,k⟩:=h;have E:=N.ends;have few:=N.few
 exists 1,scRingsO,3,G1,5,eN (fr:=["net","taken"]) (js:=[0,1]) rfl (kQ rfl T2.range (aV (cP iG rfl T.len eY (aV (ixZ (pv 0)) b9)) b9)) ⇑0 rfl ⇑0 rfl (by exists rj) ⇑0 rfl ⇑0 (λ_ _ _ _ _=>⟨(pc1 G2 F2 hr (aV (pv 1) (aV (pv 0) b9))),(oq (lP (r:=rIn K true) op_notIn_seq (pv 0) (pv 2) rfl))⟩)
 rwa[ς,v,b,m,sp,rfl,hv,N,hT,λu H1 ns tb1 hT1 hu F0=>?_];let⟨l,π,rfl,O,pm⟩:=F0.natsF;have fr:jM m.toNat sp l:=⟨F0,π,O,pm⟩;rw[bZ] at hu;have hu:H1 u=some (.tup (l.map λ(i:Nat)=>V.int i)):=hu;have hv1:=cf (Tb.lamT hT tb1) hv;let⟨t,p,ys,rfl,ht,hp,hl,hy⟩:=c5 hv1;rwa[ς,ϲ ht,p,ς,.inr (zT hp),ς,(by (constructor <;> lia)),⋯,?_];rwa[kG (λi zs HC=>Tb Tb0 H1 HC/\LamT Tb0 lp lq HC/\∃rg:zK,zs.length<=i/\dg HC zs (rg.map wayQ)/\(∀q∈rg,RK sp l q)/\rg.map (·.1)=(aQ i).filter λk=>!(decide (k∈l))) ⟨Tb.refl H1,hT1,[],ay _,.nil,↥2,rfl⟩ ↥2 (cO ⋯) (λi zs HC hi ⟨tb,hTC,rg,lz,dz,hrk,hks⟩=>?_) (λzs HC ⟨tb,hTC,rg,lz,dz,hrk,hks⟩ D hD=>?_)]
 ·rw[gj]
  have hin:i<sp.length:=by cbv
  have KC:=Tb.lamT hT1 tb;have ef:(aQ (i+1)).filter (λk=>!(decide (k∈l)))=(aQ i).filter (λk=>!(decide (k∈l)))++(if i∈l then [] else [i]):=by
   rw[kZ]
   grind
  rwa[ς,ς,u,ς,.inr (zT (KC _ _ hu)),rfl,(by rw[List.all_map];rwa[gm.mpr λ_ _=>rfl]),ς,?_];rw[inV_nat];rwa[oJ (λhc=>?_) (λhc=>?_)]
  rotate_left
  ·grind
  have c:i ∉ l:=by cbv
  rwa[ς,ς,.ref t,b,m,sp,i,rfl,cf KC hv1,N,hTC,hin,λq HD l' π' pw tbD hTD dq F0' O' pm' wr=>?_];have el :=jM.one ⟨F0',π',O',pm'⟩ fr;subst el;let⟨s0,s1,g0,g1⟩:=E _ (dB hin);have hlt:=(fr.pots E).nodup.2;have Pw:=WayR.pth E (by have:=N.m2;cbv) hlt g0 g1 (fr.held E hin).symm wr;have KD:=Tb.lamT hTC tbD;rwa[tb.trans tbD,hTD,rg++[(i,⟨i,1⟩::pw)],↥2,?_,λq' hq'=>?_,↥2]
  ·rw[au]
   rwa[(dg.keepP KD dz (lQ rg λq _=>lR _ _)).append (.cons dq .nil)]
  ·rcases bj.mp hq' with z | z
   ·rwa[hrk q' z]
   ·rw[bf.mp z];rwa[hin,c,pw,rfl,Pw]
 ·have SD:bt HC (upd HC D (.lst zs)):=bt.put (bt.refl HC) hD
  have hDH:H D=none:=by
   cases z:H D with
   | none=>rfl
   | some o =>
    by_cases e:D=Tb0
    ·let⟨ps,hps⟩:=LamT.tbl hTC
     cbv
    ·have:=tb D o e (tb1 D o e z)
     cbv
  rwa[k D zs l rg _ (tb1.trans (tb.trans (bt.tb SD))) (LamT.same SD hTC) hDH aJ (dz.same SD) ⟨fr,hrk,?_⟩]
  grind [rL,cw]
abbrev sOverR:bY:=top 65
abbrev sMid:bY:=top 67
abbrev sDeadL:bY:=top 68
theorem noFree {n:List (Str×fY)}{p:Str×fY->Prop}(h:(n.all λy=>y.2 != .free)=true):∀y∈n,y.2= .free->p y:=↥1
def pi_tupK {l:Expr}(e:X.K=K)(hl:PE X l tl):PI X tg l (iTup K tl):=e ▸ jO hl
def scOverR:bH pzB pzB (defScope sOverR):=⇑0
theorem ok_overR (F:Fun K "rings_over" "rings_over" sOverR f fd):‹0› 1 f fd pzB spOverR:=by
 specialize F.ok scOverR;let⟨u,kk,rl,rg,rfl,hu,hrs,few,hlen,k⟩:=h;have lrl:rl.length=rg.length:=by rw[hrs.length,aa]
 exists 98,_,2,eN (fr:=["span"]) (js:=[1]) rfl (gU (pv 0)) ⇑0 rfl ⇑0 rfl (by exists sOverR) ⇑0 rfl ⇑0 (λ_ _ _ _ _=>⟨(pv 0),(oq (lP (r:=rIn K false) op_in_seq (pv 1) (by rwa[(eN (fr:=[]) (js:=[]) rfl (pi_tupK (K:=K) rfl (pv 0)) ⇑0 rfl ⇑0 rfl (noFree ⇑0) ⇑0 rfl ⇑0 (λ_ _ _ _ _=>⟨(jH (r:=qd K) g9 (pv 0) dQ),dU⟩))]) rfl))⟩)
 rwa[ς,u,rfl,⟨_,zL hu⟩,?_];rwa[j7 (K:=K) (a:=u) (xs:=rl) (λi zs HC=>bt H HC/\zs.length<=i/\dg HC zs (((rg.take i).filter (jh kk)).map wayQ)) ⟨bt.refl H,ay _,.nil⟩ (λi zs HC hi ⟨S,e2,_⟩=>⟨zL (S _ _ hu),e2⟩) (by rw[lrl];exact cO ⋯) (λi x zs HC hx ⟨S,e2,e3⟩=>?_) (λzs HC ⟨S,e2,e3⟩ D hD=>?_)]
 ·have hi:i<rg.length:=by have:=(aw.mp hx).1;cbv
  let⟨d,ed,dx⟩:=hrs.get hx;rw[av,gE hi] at ed;cases ed;have dx:IsD H x (oH rg[i].2):=dx;let⟨px,yx,rfl,hpx,hlx,rx⟩:=fJ dx;have et:(rg.take (i+1)).filter (jh kk)=(rg.take i).filter (jh kk)++(if jh kk rg[i]=true then [rg[i]] else []):=by
   rw[aE,gE hi,lX];congr 1;show List.filter _ [rg[i]]=_;rw[kr];rfl
  have ln:=hlen _ (aY hi);rwa[ς,ς,px,rfl,⟨_,zT (S _ _ hpx)⟩,?_];rwa[gO (K:=K) (a:=px) (xs:=yx) (λj ws HD=>HD=HC/\ws=((rg[i].2.take j).map λs=>V.int (s.i:Int))) ⟨rfl,rfl⟩ (λj ws HD hj ⟨e1,e2'⟩=>⟨by rw[e1];exact zT (S _ _ hpx),by rw[e2',aa,bD];cbv⟩) (by rw[hlx];exact cO ln) (λj y ws HD hy' ⟨e1,e2'⟩=>?_) (λws HD ⟨e1,e2'⟩ D hD=>?_)]
  ·subst e1
   have hj:j<rg[i].2.length:=by have:=(aw.mp hy').1;cbv
   let⟨q,hq,hq2⟩:=gn rx (gE hj);rw[hy'] at hq;cases hq;rwa[eZ ?_];rwa[ς,ϲ (S _ _ hq2) 0,rfl,?_];rw[e2',aE,gE hj,au];rfl
  ·subst e1
   have S1:bt HD (upd HD D (.lst ws)):=bt.put (bt.refl HD) hD;have hD1:(upd HD D (.lst ws)) D=some (.lst ws):=aJ;generalize upd HD D (.lst ws)=HE at S1 hD1 ⊢;rw[hlx,aG] at e2';subst e2';rwa[D,ς,.inl (zL hD1),rfl,(by rw[List.all_map];rwa[gm.mpr λ_ _=>rfl]),ς,?_];rw[show(rg[i].2.map λs=>V.int (s.i:Int))=(rg[i].2.map Stp.i).map (λ(i:Nat)=>V.int i) by rw[bZ];rfl,inV_nat,et];show if (decide (kk∈rg[i].2.map Stp.i))=true then _ else _;have eo:jh kk rg[i]=decide (kk∈rg[i].2.map Stp.i):=rfl;rw[eo];rwa[oJ (λc=>?_) (λc=>?_)]
   ·rwa[ς,S.trans S1,by rw[ax];show zs.length+1<=i+1;cbv,?_]
    rw[tQ c,au];rwa[(e3.same S1).append (.cons (dx.same (S.trans S1)) .nil)]
   ·rwa[S.trans S1,(by (constructor <;> lia)),?_]
    rw[tP c,fk];rwa[e3.same S1]
 ·rw[lrl,aG] at e3
  have S1:bt HC (upd HC D (.lst zs)):=bt.put (bt.refl HC) hD;rwa[k D zs _ (S.trans S1) (bt.free S hD) aJ (e3.same S1)]
def scMid:bH ["case","span","bound"] pzw (defScope sMid):=⇑0
theorem ok_mid (F:Fun K "middle_of" "middle_of" sMid f fd):‹0› 1 f fd pzw spMid:=by
 specialize F.ok scMid;let⟨c,kk,bs,rs,rfl,hc,hk,k⟩:=h;let⟨vb,u,rl,h1,h2,h3,h4⟩:=hc.ex;let⟨pb,yb,rfl,hpb,hlb,rb⟩:=fJ h2;let⟨q,hq,hq2⟩:=gn rb (gE hk);have e0:bs.getD kk (0,0)=bs[kk]:=by rw[af,gE hk];rfl
 exists 1,scMid
 rwa[ς,ϲ h1 0,ς,ϲ hpb kk hq,?_];rwa[ς,ϲ hq2 0,ς,ϲ hq2 1,τ,τ,⟨↥0,↥0⟩,?_];rw[e0] at k;rwa[k]
def scDeadL:bH ["net","case","ring"] pzn (defScope sDeadL):=⇑0
theorem ok_deadL (F:Fun K "dead_leaf" "dead_leaf" sDeadL f fd)(G1:Fn K mg "is_dead" sDead pzh f1 fd1)(F1:‹0› 3 f1 fd1 pzh spDead):‹0› 4 f fd pzn rh:=by
 specialize F.ok scDeadL;let⟨v,c,b,m,sp,bs,rs,rfl,hv,b0,b61,hc,few,hin,k⟩:=h;let⟨vb,u,rl,h1,h2,h3,h4⟩:=hc.ex;have hr3 :=hr;have lrl:rl.length=rs.length:=by rw[h4.length,aa]
 exists 1,scDeadL,3,gU ?_,8,pc1 G1 F1 hr3 ?_
 rwa[ς,ϲ h1,u,rfl,⟨_,zL h3⟩,?_]
 let pZ1:zV:=λi σ H1=>bt H H1/\(∀q∈rs.take i,jV b bs q.2=false)/\∃v2,σ=[some v,some (.ref c),v2]
 rwa[jb pZ1 ⟨bt.refl H,↥2,none,rfl⟩ (λi σ H1 _ ⟨S,_⟩=>zL (S _ _ h3)) ?_ ?_]
 ·rintro i x σ H1 hx ⟨S1,hal,v2,rfl⟩
  sleep 0
  have hi:i<rs.length:=↥1
  let⟨d,ed,dx⟩:=h4.get hx;rw[av,gE hi] at ed;cases ed;rwa[ς,ς,ϲ (S1 _ _ h1),ς,v,vb,x,b,m,sp,bs,rs[i].2,rfl,hv.same S1,b0,b61,h2.same S1,dx.same S1,↥1,λH2 S2=>⟨ς,oJ (λhc=>?_) (λhc=>?_)⟩]
  ·rwa[ς,lh,λq3 H3 S3 h3'=>?_]
   rwa[k (.ref q3) H3 (S1.trans (S2.trans S3)) (.inr ⟨rs[i],aY hi,.tup h3' (.cons (.str _) (.cons (dx.same (S1.trans (S2.trans S3))) .nil)),hc⟩)]
  ·rwa[S1.trans S2,λq hq=>?_,ς]
   rw[aE] at hq
   grind
 ·rintro σ H1 ⟨S1,hal,v2,rfl⟩
  sleep 0
  rw[lrl,aG] at hal;rwa[k .non H1 S1 (.inl ⟨rfl,hal⟩)]
theorem sJ {sp:zS}:∀{ws:zP} {x y:Int},p8 sp x ws y->(∀(h:0<ws.length),lG sp ws[0]=x)/\(∀(h:0<ws.length),eV sp (ws[ws.length - 1]'(Nat.sub_lt h Nat.one_pos))=y)/\∀i (h:i+1<ws.length),eV sp ws[i]=lG sp ws[i+1]
 | [],_,_,_=>⟨λh=>tR h ∅,λh=>tR h ∅,λi h=>tR h ∅⟩
 | [s],x,y,⟨a,b⟩=>⟨λ_=>a,λ_=>b,λi h=>tR h ∅⟩
 | s::s'::ws,x,y,⟨a,b⟩=>by
  let⟨f,l,n⟩:=sJ (ws:=s'::ws) b;rwa[λ_=>a,λ_=>?_,λi h=>?_]
  ·have:=l ∅
   simpa using this
  ·cases i with
   | zero=>rwa[(f ∅).symm]
   | succ i=>rwa[n i (by simpa using h)]
def RDead (b:Int)(sp:zS)(bs:zB)(d:Dt):Prop:=∃p:zP,d=my (.ring p)/\Rg sp p/\jV b bs p=true
def pU (p:zP):LeafW (my (.ring p)):=⟨by show(true && (pl (oH p) && true))=true;rw[lR _ _];rfl,"ring",oH p,rfl,↥0⟩
def sL (T0 T1:ai)(H H':Hp):Prop:=∀a o,a≠T0->a≠T1->H a=some o->H' a=some o
theorem sL.trans (a:sL T0 T1 H H1)(b:sL T0 T1 H1 H2):sL T0 T1 H H2:=λx o n0 n1 e=>b x o n0 n1 (a x o n0 n1 e)
def bt.stayT (a:bt H H'):sL T0 T1 H H':=λx o _ _ e=>a x o e
inductive qG (v:V)(b m:Int)(sp:zS)(R:zB->Dt->Prop)(vs:zA)(H:Hp)(Q:VK)(_:XK):Prop
 | mk (l:zC)(rg:zK)(q:ai)(c:Cse)(_:vs=[.ref q])(_:FR m sp l rg)(_:CsD H q c.1 c.2)(_:jQ b sp l rg c)(_:‹4›)(_:∀r H',bt H H'->((∃d,IsD H' r d/\LeafW d/\R c.1 d)\/(r= .non/\(∀z∈c.2,jV b c.1 z.2=false)/\∃k∈l,(c.1.getD k (0,0)).1<(c.1.getD k (0,0)).2))->Q r H')
inductive qy (P:aL)(w:bp)(K:ag)(mg:Str->zJ)(base:bI)(T0:ai)(p0:Pos)(q0:Str)(T1:ai)(p1:Pos)(q1:Str)(vs:zA)(H:Hp)(Q:VK)(_:XK):Prop
 | mk (v:V)(g:ai)(b m:Int)(sp:zS)(R:zB->Dt->Prop)(_:vs=[v,.ref g])(_:‹4›)(_:iC b m sp)(_:(∀l,jM m.toNat sp l->jg sp l<=4096))(_:LamT T0 p0 q0 H)(_:LamT T1 p1 q1 H)(_:LmOk P w K mg base 6 g (sL T0 T1 H) (qG v b m sp R))(_:∀(u:V) (t:Tq) (H':Hp),sL T0 T1 H H'->Kp H H'->LamT T0 p0 q0 H'->LamT T1 p1 q1 H'->IsD H' u (jG t)->pl (jG t)=true->mW R t (sp.map λz=>(z.l,z.o)) 21->siz t<=8191->Q u H')
section
variable {m:Int}{rg:zK}{cs:List Cse}{c:Cse}
theorem sz_cut (f:FF m sp l rg)(lrg:rg.length<=40)(C:jQ b sp l rg c)(al:∀q∈c.2,jV b c.1 q.2=false){k:Nat}{a:Int}(hk:k∈l)(h1:(c.1.getD k (0,0)).1<=a)(h2:a<(c.1.getD k (0,0)).2)(hc:∀d∈cs,jQ b sp l rg d) :
  (∀d∈cs++[(de c.1 k a,rg.filter (jh k)),(kF c.1 k a,rg.filter (jh k))],jQ b sp l rg d)/\szC l (cs++[(de c.1 k a,rg.filter (jh k)),(kF c.1 k a,rg.filter (jh k))])<szC l (cs++[c])/\2<=gf c.1 l:=by
 have ht2:=f.acy.nodup.2;let⟨o1,o2⟩:=C.cut lrg ht2 al hk h1 h2;have p1:0<gf (de c.1 k a) l:=jA o1.ob ht2;have p2:0<gf (kF c.1 k a) l:=jA o2.ob ht2;have e:=ox C.ob f.acy.nodup.1 ht2 hk h1 h2;rwa[λd hd=>?_,?_,⋯]
 ·grind
 ·rw[oo,oo]
  show _+((2 * gf (de c.1 k a) l - 1)+((2 * gf (kF c.1 k a) l - 1)+0))<_+((2 * gf c.1 l - 1)+0);lia
theorem sz_less (f:FF m sp l rg)(C:jQ b sp l rg c):szC l cs<szC l (cs++[c]):=by
 have:=jA C.ob f.acy.nodup.2;rw[oo];show _<_+((2 * gf c.1 l - 1)+0);lia
end
theorem siz_pre:∀t:Tq,siz t=(pre t).length
 | .leaf _=>rfl
 | .cut k a x y=>by
  show siz x+siz y+1=(pre x++pre y).length+1;rw[ax,siz_pre x,siz_pre y]
theorem pls_appT:∀(xs ys:zM),pls (xs++ys)=(pls xs && pls ys)
 | [],ys=>by show pls ys=(true && pls ys);(constructor <;> lia)
 | x::xs,ys=>by
  show(pl x && pls (xs++ys))=((pl x && pls xs) && pls ys);rw[pls_appT xs ys,Bool.and_assoc]
theorem LmOk.mono {k:Nat}{sp:Sp}(L:LmOk P w K mg base j f Hf sp)(h:j<=k):LmOk P w K mg base k f Hf sp:=⟨L.isFn,λA outer s H u v Q hr=>L.run A outer s H u v Q (hr.mono h)⟩
theorem pl_pre:∀(t:Tq),(∀d,Mrk.leaf d∈pre t->LeafW d)->pl (jG t)=true
 | .leaf d,h=>(h d (by simp[pre])).1
 | .cut k a x y,h=>pl_cut (pl_pre x λd hd=>h d (by simp[pre,hd])) (pl_pre y λd hd=>h d (by simp[pre,hd]))
end HN
section
variable {σ:List zU}
def tLambG (env:Env)(T:ai)(params:gi)(body:Expr)(scope:ft):TE:=λ_ H Q=>LamG T (env.qual ++ "<lambda>") H∧∀g cl H',Tb T H H'→LamG T (env.qual ++ "<lambda>") H'→LamF (env.qual ++ "<lambda>") params body scope cl g H'→LamE env scope cl→Q (.ref g) H'
theorem pe_lamG {c T:ai}(hd:defaultsOf params X.env=([],[]))(sR:X.env.code= .ref c)(C:codeHdIn X.K c T=true)(B:BM X.mg X.base)
  (hfr:∀y∈scope.names,y.2= .free->X.env.scope.names.lookup y.1=some .cell):PE X (.Lambda params body scope pos) (tLambG X.env T params body scope):=λ_ _ _ _ _ I ⟨L,h⟩ =>
 o6 I hd sR C B hfr L λf cl H' _ I' t1 T1 F c1 c2=>⟨.ref f,H',I',rfl,h f cl H' t1 T1 F ⟨c1,c2⟩⟩
def Inv.repinE {o o':Obj}(I:Inv X ((kS,o)::aN) σ H s)(hs0:X.s₀.heap.objs.size<=kS)(hC:∀x c,X.env.cells.lookup x=some c->c≠kS)(hP:∀p∈X.pn++aN,p.1≠kS)(k:∀b o,b≠kS->s.heap.get? b=some o->h'.get? b=some o)(ho':h'.get? kS=some o')(hd:∀v,o'.data≠ .cell v):Inv X ((kS,o')::aN) σ H { s with heap:=h',toks:=t' }:=by
 let⟨p1,p2,p3,p4,_⟩:=I.pin (kS,o) (bo _ (bQ ..));have I2:=I.unpin.turned (t':=t') (it:=kS) (h':=h') k p2 p3 (.inr hs0) hC hP;rwa[I2.pins_of λp hp=>?_]
 rcases bh.mp hp with rfl | hp
 ·rwa[ho',p2,p3,p4,hd]
 ·rwa[I2.pin p (bo _ hp)]
theorem Inv.swap {p q:ai×Obj}(I:Inv X (p::q::aN) σ H s):Inv X (q::p::aN) σ H s:=I.pins_of λz hz=>by
 rwa[I.pin z (bo _ ?_)]
 grind
end
def kW (key:Nat->Int):Nat->Nat:=argBest λi j=>decide (key i<key j)
theorem best_ok (key:Nat->Int):∀n,kW key n<=n/\∀j,j<=n->key (kW key n)<=key j
 | 0=>⟨ay 0,λj hj=>by rw[Nat.le_zero.mp hj];rwa[gW _]⟩
 | n+1=>by
  let⟨h1,h2⟩:=best_ok key n;have e:kW key (n+1)=if decide (key (n+1)<key (kW key n))=true then n+1 else kW key n:=rfl
  grind
section
variable {σ:List zU}
def KeyI (X:Cx)(σ:List zU)(H:Hp)(f:ae)(vs:zA)(key:Nat->Int):Prop:=
 ∀(t:aq) (H':Hp) (pins':List (ai×Obj)) (i:Nat) (v:V) (u:ae),vs[i]? =some v->gN v u->Inv X pins' σ H' t->bt H H'->bz (bC X.prog X.w) X.A.in1 (call f [u]) (λk t'=>∃H'' tk,Inv X pins' σ H'' t'/\bt H' H''/\k= .int (key i) tk) (λ_ _=>False) t
structure Two (X:Cx)(aN:List (ai×Obj))(It S:ai):Prop where
 i0:X.s₀.heap.objs.size<=It
 s0:X.s₀.heap.objs.size<=S
 ic:∀x c,X.env.cells.lookup x=some c->c≠It
 sc:∀x c,X.env.cells.lookup x=some c->c≠S
 ip:∀p∈X.pn++aN,p.1≠It
 sp:∀p∈X.pn++aN,p.1≠S
 ne:It≠S
theorem Two.ipS {It S:ai}(T:Two X aN It S)(o:Obj):∀p∈X.pn++((S,o)::aN),p.1≠It:=λp hp=>by
 rcases bj.mp hp with hp | hp
 ·rwa[T.ip p ↥2]
 ·rcases bh.mp hp with rfl | hp
  ·rwa[cM T.ne]
  ·rwa[T.ip p ↥2]
theorem Two.spI {It S:ai}(T:Two X aN It S)(o:Obj):∀p∈X.pn++((It,o)::aN),p.1≠S:=λp hp=>by
 rcases bj.mp hp with hp | hp
 ·rwa[T.sp p ↥2]
 ·rcases bh.mp hp with rfl | hp
  ·rwa[T.ne]
  ·rwa[T.sp p ↥2]
theorem min_next {It S L:ai}{oS:Obj}{vs:zA}{Q:zJ->aq->Prop}(hh:A.handled=none)(T:Two X aN It S)(I:Inv X ((It,oI)::(S,oS)::aN) σ H s)(hL:H L=some (.lst vs))(hI:oI.cls= .type "list_iterator" /\oI.data= .fields #[.ref L,.int j 0])
  (hit:∀v u oI' s',vs[j]? =some v->gN v u->Inv X ((It,oI')::(S,oS)::aN) σ H s'->oI'.cls= .type "list_iterator" /\oI'.data= .fields #[.ref L,.int ((j+1:Nat):Int) 0]->Q (some u) s')
  (hend:∀s',j=vs.length->Inv X ((S,oS)::aN) σ H s'->Q none s') (hj:j<=vs.length):bz (bC X.prog X.w) A (pyNext (.ref It)) Q E s:=by
 let⟨its,rv,⟨o,n,ho,hcl,_,hd⟩,_⟩:=I.list (zL hL);have gI:=(I.pin (It,oI) (bo _ (bQ ..))).1;have hLI:L≠It:=λz=>by have:=(I.pin (It,oI) (bo _ (bQ ..))).2.1;rw[<-z,hL] at this;cases this
 have st:s.heap.IsListIter It L j/\s.heap.IsList L its.toArray:=⟨⟨oI,gI,hI.1,hI.2⟩,⟨o,ho,hcl,n,hd⟩⟩;have W:=Walks.list (prog:=X.prog) (w:=X.w) (A:=A) hh It L hLI its.toArray;have lz:its.length=vs.length:=rv.length.symm
 by_cases e:j=vs.length
 ·apply W.done s _ _ (by rw[br,lz,<-e];rwa[st]) λh' tk hk=>hend _ e ?_
  have:=I.unpin.turned (t':=tk) (it:=It) (h':=h') (λb o hb e=>hk b o (by simp[hb]) e) (I.pin (It,oI) (bo _ (bQ ..))).2.1 (I.pin (It,oI) (bo _ (bQ ..))).2.2.1 (.inr T.i0) T.ic (T.ipS oS);rwa[this]
 ·apply W.item j s _ _ (by rw[br];lia) st λu h' tk hu st' hk=>?_
  let⟨oI',gI',c1,c2⟩:=st'.1;have hu:its[j]? =some u:=by simpa using hu
  have hv:vs[j]? =some (vs[j]'⋯):=gE _;rwa[hit vs[j] u oI' _ hv ?_ (I.repinE T.i0 T.ic (T.ipS oS) (λb o hb e=>hk b o (by simp[hb]) e) gI' (λv z=>by rw[c2] at z;cases z)) ⟨c1,c2⟩];let⟨u',hu',ru⟩:=fZ.get rv hv;rw[hu] at hu';cases hu';rwa[ru]
end
theorem oG {id:String}{b:dm}{args:zD}(hk:builtinKind id=none)(hp:plainId id=true)
  (hb:entryFor table id=some b) (ha:argsOk id ⟨args,kw⟩)
  (hfin:bz (bC prog w) A.in1 (b ⟨args,kw⟩) (fun fin s'=>match fin with
   | .done f=>(match (Except.ok f:Result) with | .ok (.ret v)=>Q v s' | .ok _=>False | .error e=>E e s')
   | .again c'=>c'.quiet=true/\kD (bC prog w) A c' (fun r s'=>match r with | .ok (.ret v)=>Q v s' | .ok _=>False | .error e=>E e s') s') E s):‹5› (call (.builtin id) args kw) Q E s:=by
 rwa[wpAny_call (codeAny_call_builtin hp hb ?_)];simp only[checkBuiltinCall,hk];cases hsig:Manifest.signature? id with
 | none=>rwa[aP hfin]
 | some sig =>
  have ha':Bind.checkArgs id sig ⟨args,kw⟩=gv ():=by lia
  simp only[ha'];rwa[aP hfin]
section
variable {σ:List zU}
def Inv.pin1 {p:ai×Obj}(I:Inv X (p::aN) σ H s):s.heap.get? p.1=some p.2:=(I.pin p (bo _ (bQ ..))).1
def Inv.pin2 {p q:ai×Obj}(I:Inv X (p::q::aN) σ H s):s.heap.get? q.1=some q.2:=I.unpin.pin1
theorem min_put {It S:ai}{xs:Array ae}{c:Nat}(T:Two X aN It S)(I:Inv X ((It,oI)::(S,bR "list" xs c)::aN) σ H s)(ys:Array ae):∃c',Inv X ((It,oI)::(S,bR "list" ys c')::aN) σ H { s with heap:=s.heap.update S (cE λ_=>ys) }:=by
 have hS:=I.pin2;obtain⟨c',hc'⟩:∃c',(s.heap.update S (cE λ_=>ys)).get? S=some (bR "list" ys c'):=⟨_,fM hS λ_=>ys⟩;rwa[c',(I.swap.repinE T.s0 T.sc (T.spI oI) (λb o hb e=>(jZ _ _ (cM hb)).trans e) hc' (λv z=>by cases z)).swap]
theorem min_loop {It S L g:ai}{vs:zA}(T:Two X aN It S)(hh:X.A.handled=none)(hkey:KeyI X σ H (.ref g) vs key)(hL:H L=some (.lst vs))
  (fin:∀v u H' s',vs[kW key (vs.length - 1)]? =some v->gN v u->bt H H'->Inv X aN σ H' s'->R (.ok (.ret u)) s') :
  ∀(k j:Nat) (s:aq) (H':Hp) (v:V) (vb:ae) (tb:Tok) (c:Nat) (oI:Obj),vs.length - (j+1)=k->j+1<=vs.length->bt H H'->Inv X ((It,oI)::(S,bR "list" #[vb,.int (key (kW key j)) tb] c)::aN) σ H' s ->
   oI.cls= .type "list_iterator" ∧oI.data= .fields #[.ref L,.int ((j+1:Nat):Int) 0]→vs[kW key j]? =some v→gN v vb→kD (bC X.prog X.w) X.A (.builtin "min.loop" ⟨[.ref It,.ref g,.ref S],[]⟩) R s:=by
 have hname:(kx "min" ++ kx ".loop") = "min.loop":=by decide
 intro k
 induction k with
 | zero =>
  intro j s H' v vb tb c oI hk hj S' I hI hv rv;have hS:=I.pin2;rwa[mB F.entry_min_loop ?_];rwa[ak (ir hS rfl ?_)];rwa[ak (kt (min_next hh T I (S' _ _ hL) hI (λv2 u2 _ _ z=>tR (aw.mp z).1 ⋯) (λs' _ I'=>?_) (by omega)))];have hS':=I'.pin1;rwa[ak ?_];rwa[wpAny_updateSeq hS' rfl (ak (wpAny_letGo (aP ?_)))];have I2:=(I'.repinE (t':=s'.toks) T.s0 T.sc T.sp (λb o hb e=>(jZ _ _ (cM hb)).trans e) (fM hS' λ_=>#[]) (λv z=>by cases z)).unpin
  grind
 | succ k ih =>
  intro j s H' v vb tb c oI hk hj S' I hI hv rv;have hlt:j+1<vs.length:=by lia
  have hS:=I.pin2;rwa[mB F.entry_min_loop ?_];rwa[ak (ir hS rfl ?_)];rwa[ak (kt (min_next hh T I (S' _ _ hL) hI (λv2 u2 oI2 s2 hv2 ru2 I2 hI2=>?_) (by omega) (by omega)))];rwa[ak (kt (cX (cj (hkey _ H' _ (j+1) v2 u2 hv2 ru2 I2 S') (λkv s3 hk3=>?_) λ_ _ z=>z.elim)))];let⟨H3,tk,I3,S3,rfl⟩:=hk3;have hS3:=I3.pin2;rwa[ak (kt (cX (ak (CmpOf.ints_lt key (λ_ _ z=>z) (j+1) (kW key j) _ _ _ _ _ ⟨tk,rfl⟩ ⟨tb,rfl⟩ ?_))))];rwa[ak (cX (gg ?_))];rwa[ak (wpAny_letGo (aP ?_))];have eb:kW key (j+1)=if decide (LT.lt (key (j+1)) (key (kW key j)))=true then j+1 else kW key j:=by first | rfl | (rfl)
  cases hb:decide (LT.lt (key (j+1)) (key (kW key j))) with
  | true =>
   rw[tQ hb];rwa[ak ?_];rwa[wpAny_updateSeq hS3 rfl (ak (wpAny_letGo ?_))];let⟨c',I4⟩:=min_put T I3 #[u2,.int (key (j+1)) tk];rwa[aP ⟨plainId_quiet kY _,ih (j+1) _ H3 v2 u2 tk c' oI2 ⋯ hlt (S'.trans S3) ⋯ hI2 ⋯ ru2⟩]
  | false =>
   rw[tP (λz=>bK (hb.symm.trans z))];rwa[ak (wpAny_letGo ?_)];rwa[aP ⟨plainId_quiet kY _,ih (j+1) _ H3 v vb tb c oI2 ⋯ hlt (S'.trans S3) ⋯ hI2 ⋯ rv⟩]
theorem min_first {It S L g:ai}{vs:zA}(T:Two X aN It S)(hh:X.A.handled=none)(hkey:KeyI X σ H (.ref g) vs key)(hL:H L=some (.lst vs))(hne:vs≠[])
  (fin:∀v u H' s',vs[kW key (vs.length - 1)]? =some v->gN v u->bt H H'->Inv X aN σ H' s'->R (.ok (.ret u)) s')
  {c:Nat} (I:Inv X ((It,oI)::(S,bR "list" #[] c)::aN) σ H s) (hI:oI.cls= .type "list_iterator" ∧oI.data= .fields #[.ref L,.int ((0:Nat):Int) 0]):kD (bC X.prog X.w) X.A (.builtin "min.loop" ⟨[.ref It,.ref g,.ref S],[]⟩) R s:=by
 have hname:(kx "min" ++ kx ".loop") = "min.loop":=by decide
 have hlt :=List.length_pos_iff.mpr hne;have hS:=I.pin2;rwa[mB F.entry_min_loop ?_];rw[bT.under_plainId kY _];rwa[ak (ir hS rfl ?_)];rwa[ak (kt (min_next hh T I hL hI (λv2 u2 oI2 s2 hv2 ru2 I2 hI2=>?_) (by omega) ⋯))];rwa[ak (kt (cX (cj (hkey _ H _ 0 v2 u2 hv2 ru2 I2 (bt.refl H)) (λkv s3 hk3=>?_) λ_ _ z=>z.elim)))];let⟨H3,tk,I3,S3,rfl⟩:=hk3;have hS3:=I3.pin2;rwa[ak ?_];rwa[wpAny_updateSeq hS3 rfl ?_];rw[hname];let⟨c',I4⟩:=min_put T I3 #[u2,.int (key 0) tk];rwa[aP ⟨plainId_quiet kY _,min_loop T hh hkey hL fin _ 0 _ H3 v2 u2 tk c' oI2 rfl hlt S3 I4 hI2 hv2 ru2⟩]
def args_minK (a g:ae):argsOk "min" ⟨[a],[(Str.ofString "key",g)]⟩:=by kernel_rfl
theorem call_minK {L g:ai}{vs:zA}(I:‹1›)(hh:X.A.handled=none)(hkey:KeyI X σ H (.ref g) vs key)(hL:H L=some (.lst vs))(hne:vs≠[])
  (fin:∀v u H' s',vs[kW key (vs.length - 1)]? =some v->gN v u->bt H H'->Inv X aN σ H' s'->Q u s'):‹2› (call (.builtin "min") [.ref L] [(Str.ofString "key",.ref g)]) Q E s:=by
 have hname:(kx "min" ++ kx ".loop") = "min.loop":=by decide
 rwa[oG F.kind_min F.plain_min F.entry_min (args_minK _ _) ?_];rwa[ak (wpAny_of_eq (rfl) ?_)];rwa[ak (aP ?_)];let⟨its,rv,⟨o,n,ho,hcl,_,hd⟩,_⟩:=I.list (zL hL);rwa[ak (wpAny_pyIter_list ⟨o,ho,hcl,n,hd⟩ ?_)];rwa[ak (fm ?_)];obtain⟨h1,eh1⟩:∃h1,h1=s.heap.push { cls:=.type "list_iterator",data:=.fields #[.ref L,.int 0 0] }:=⟨ς⟩;have z1:h1.objs.size=s.heap.objs.size+1:=by rw[eh1];rwa[fc ..]
 rw[<-eh1];obtain⟨h2,eh2⟩:∃h2,h2=h1.push { cls:=.type "list",data:=.seq #[] }:=⟨ς⟩;have keep:∀b o,s.heap.get? b=some o->h2.get? b=some o:=λb o e=>by grind [ao]
 have gI:h2.get? s.heap.objs.size=some { cls:=.type "list_iterator",data:=.fields #[.ref L,.int 0 0] }:=by rw[eh2];rwa[ao _ ?_];rw[eh1];rwa[aR _ rfl]
 have gS:h2.get? h1.objs.size=some (bR "list" #[] 0):=by rw[eh2];rwa[aR _ rfl]
 have I2:=I.kept (t':=s.toks) keep;have lS:s.heap.objs.size<=h1.objs.size:=by cbv
 have I3:Inv X ((s.heap.objs.size,{ cls:=.type "list_iterator",data:=.fields #[.ref L,.int 0 0] })::(h1.objs.size,bR "list" #[] 0)::aN) σ H { s with heap:=h2 }:=I2.pins_of λz hz=>by
  rcases bh.mp hz with rfl | hz
  ·rwa[gI,I.hok.fresh (ay _),fO I.lt,I.nofs (ay _),λv z=>by cases z]
  ·rcases bh.mp hz with rfl | hz
   ·rwa[gS,I.hok.fresh lS,fO (aW I.lt lS),I.nofs lS,λv z=>by cases z]
   ·rwa[I2.pin z ↥2]
 have old:∀b o,s.heap.get? b=some o->b≠s.heap.objs.size/\b≠h1.objs.size:=λb o e=>⟨bP (aS e),bP (aW (aS e) lS)⟩
 have T:Two X aN s.heap.objs.size h1.objs.size:=⟨I.sz,aU I.sz lS,λy d e=>by let⟨v,o,ho,_⟩:=I.cell y d e;rwa[(old d o ho).1],λy d e=>by let⟨v,o,ho,_⟩:=I.cell y d e;rwa[(old d o ho).2],λz hz=>(old _ _ (I.pin z hz).1).1,λz hz=>(old _ _ (I.pin z hz).1).2,bP ↥2⟩;rwa[aP ⟨plainId_quiet kY _,?_⟩];rw[<-eh2];rwa[min_first T hh hkey hL hne (by omega) I3 ⟨rfl,rfl⟩]
end
def MinQ (P:ai)(lq:Str)(js:zC)(te:TE)(σ:St)(Q:VK)(v:V)(H1:Hp):Prop:=∃(L:ai) (vs:zA) (key:Nat->Int),v= .ref L/\H1 L=some (.lst vs)/\vs≠[]/\LamG P lq H1 /\
 (∀i x,vs[i]? =some x->∀H2,Tb P H1 H2->te (some x::cL σ js) H2 λu H3=>bt H2 H3/\u= .int (key i)) /\
 ∀H4 i x,Tb P H1 H4->LamG P lq H4->vs[i]? =some x->(∀j,j<vs.length->key i<=key j)->Q x H4
def tMinL (P:ai)(lq:Str)(tr:TE)(js:zC)(te:TE):TE:=λσ H Q=>tr σ H λv H1=>MinQ P lq js te σ Q v H1
def MinQ1 (P:ai)(lq:Str)(js:zC)(te:TE)(σ:St)(Q:VK):zA->Hp->Prop
 | [v],H1=>MinQ P lq js te σ Q v H1
 | _,_=>False
theorem pe_minL {re:Expr}{tr:TE}{p kp:Pos}{c P:ai}(hc:X.calm=true)(hrm:X.A.depth<recursionLimit)(hg:Gl X "min")(hm:X.mg "min" =none)(hi:PE X re tr)
  (hd:defaultsOf params X.env=([],[])) (sR:X.env.code= .ref c) (C:codeHdIn X.K c P=true) (B:BM X.mg X.base)
  (hbind:∀q cl pm cdv ct (u:ae),bindArgs (kla_fn "<lambda>" q params body scope cl pm cdv ct) ⟨[u],[]⟩=gv [(x,u)])
  (hk:scope.kind= .function) (hco:scope.isCoroutine=false) (hgen:scope.isGenerator=false) (jK:∀y∈scope.names,y.2≠ .cell) (hx:scope.names.lookup x=some .local) (hfx:x ∉ fr)
  (hfr:∀y∈scope.names,y.2= .free->X.env.scope.names.lookup y.1=some .cell) (hjs:js.map (λj=>X.N[j]?)=fr.map some) (hfv:∀y∈fr,scope.names.lookup y=some .free)
  (hb:∀cl L f cd s' H',PE (cxLam X (X.env.qual ++ "<lambda>") scope cl L f cd (x::fr) s' H') body te)
  (he:autoParam (gw pos (bF [re] X.env)=(false,eO re X.env)::gw pos (bF [] X.env)) Ωa)
  (hs:autoParam (bF [re] X.env=(false,eO re X.env)::bF [] X.env) Ωa) (hpl:autoParam ((gw pos (bF [re] X.env)).any (·.1)=false) Ωa) :
  PE X (.Call (.Name "min" p) [re] [⟨some "key",.Lambda params body scope lp,kp⟩] pos) (tMinL P (X.env.qual ++ "<lambda>") tr js te):=by
 injections;rwa[eP (oj I hg hm (u:=.builtin "min") ⇑0 ?_)];rwa[callWith_kw (thn ((aV hi b9 hs) pos aN s σ H (MinQ1 P (X.env.qual ++ "<lambda>") js te σ Q) I h) λus s1 hz0=>?_) he hpl];let⟨vs,H1,I1,r1,q0⟩:=hz0;rwa[kws_cons ?_];obtain⟨v,rfl⟩:∃v,vs=[v]:=by
  cases vs with
  | nil=>rwa[q0.elim]
  | cons v r=>cases r with
   | nil=>lia
   | cons _ _=>rwa[q0.elim]
 have q1 :=q0;let⟨L,vs,key,rfl,hL,hne,T,hkey,hQ⟩:=q1;obtain rfl:us=[.ref L]:=by
  cases r1 with
  | cons ru rs =>
   cases rs;rwa[tW (λz=>[z]) ru]
 rwa[o6 I1 hd sR C B hfr T λf cl H2 s2 I2 tb T2 F2 c1 c2=>?_]
 rwa[kws_nil ?_];have LP:L≠P:=λz=>by
  let⟨ps,e⟩:=T.tbl
  cbv
 have KI:KeyI X σ H2 (.ref f) vs key:=λt H' pins' i v u hv ru I' S'=>by
  rwa[wpAny_of_in1 (cj (lam_call I' hc hrm (F2.same S') ru ↥2 hk hco hgen jK hx hfx c1 c2 hfr hjs hfv ↥2 (hkey i v hv H' (tb.trans S'.tb))) (λk t' hz0=>?_) λ_ _ z=>z)];let⟨v',H'',I'',rv,S'',ev⟩:=hz0;subst ev;obtain⟨tk,rfl⟩:∃tk,k= .int (key i) tk:=rv
  grind
 rwa[call_minK I2 (I2.ok.hd hc) KI (tb _ _ LP hL) hne λv u H' s' hv ru S' I'=>?_]
 let⟨b1,b2⟩:=best_ok key (vs.length - 1);rwa[v,H',I',ru,hQ H' _ v (tb.trans S'.tb) (T2.same S') hv λj hj=>↥1]
namespace HN
def posR (r:Int×zP):Bool:=decide (r.1 > 0)
def k4 (b:Int)(sp:zS)(bs:zB)(rg:zK):zQ:=og sp (rg.filter λq=>sureB b bs q.2)
def qe (b:Int)(sp:zS)(bs:zB)(rg:zK):zQ:=(k4 b sp bs rg).filter posR
theorem rowsW_pos {b:Int}{bs:zB}:∀(rows:zQ),(∀r∈rows,0<=r.1)->oT b bs (rows.filter posR)=oT b bs rows
 | [],_=>rfl
 | r::rows,h=>by
  have ih:=rowsW_pos (b:=b) (bs:=bs) rows λt ht=>h t (az _ ht)
  have e:oT b bs (r::rows)=r.1 * upB b (fh bs r.2) * b+oT b bs rows:=rfl;rw[kr,e]
  by_cases c:r.1 > 0
  ·rw[tQ (show posR r=true from tS c)]
   show r.1 * upB b (fh bs r.2) * b+oT b bs (rows.filter posR)=_;rw[ih]
  ·rw[tP (show ¬(posR r=true) by unfold posR;rw[tU c];rwa[bK]),ih]
   have:=h r ∅;rw[show r.1=0 by lia,jo,jo,gj]
theorem own_pos {k:Nat}:∀(rows:zQ) (a:Int),(∀r∈rows,0<=r.1)->(rows.filter posR).foldl (ownS k) a=rows.foldl (ownS k) a
 | [],_,_=>rfl
 | r::rows,a,h=>by
  have ih:=λa=>own_pos (k:=k) rows a λt ht=>h t (az _ ht)
  rw[kr,bS]
  by_cases c:r.1 > 0
  ·rw[tQ (show posR r=true from tS c),bS];rwa[ih _]
  ·rw[tP (show ¬(posR r=true) by unfold posR;rw[tU c];rwa[bK]),ih]
   have:=h r ∅;have e:ownS k a r=a:=by
    show ownV k a r.1 r.2=a;unfold ownV;split <;> split <;> lia
   rw[e]
theorem worth_pos {bs:zB}(rows:zQ)(h:∀r∈rows,0<=r.1):jN b sp bs (rows.filter posR)=jN b sp bs rows:=by
 unfold jN;rw[rowsW_pos rows h];congr 2;rwa[c9 λk _=>?_]
 have e:owK sp (rows.filter posR) k=owK sp rows k:=own_pos rows _ h;unfold pL;rw[e]
def RBest (b:Int)(sp:zS)(w:Int)(bs:zB)(d:Dt):Prop:=RDead b sp bs d\/∃rows:zQ,d=my (.price rows)/\(∀r∈rows,RowOk b sp bs r)/\rows.length<=40/\w<=jN b sp bs rows
section
variable {m:Int}{rg:zK}{bs:zB}
theorem rg_few (N:iC b m sp)(f:FF m sp l rg):rg.length<=40:=by
 have hn:((rg.map (·.1)).map λn:Nat=>(n:Int)).Nodup:=by
  rw[bM,cU];rwa[(bM.mp f.one).imp ⋯]
 have:=nc hn λz hz=>by
  let⟨i,hi,rfl⟩:=bc.mp hz;let⟨q,hq,rfl⟩:=bc.mp hi;rwa[bc.mpr ⟨_,cg.mpr (f.rk q hq).lt,rfl⟩]
 rw[aa,aa,aa,bL] at this;have:=N.few;lia
theorem sureR_w (N:iC b m sp)(f:FF m sp l rg):∀r∈k4 b sp bs rg,0<=r.1:=λr hr=>by
 let⟨q,hq,rfl⟩:=bc.mp hr;rwa[(N.all _ (dB (f.rk q ↥2).lt)).w0]
theorem price_ok (N:iC b m sp)(f:FF m sp l rg):(∀r∈qe b sp bs rg,RowOk b sp bs r)/\(qe b sp bs rg).length<=40:=by
 have m2:=N.m2;have fw:=f.few;rwa[λr hr=>?_,?_]
 ·let⟨q,hq,rfl⟩:=bc.mp (cQ.mp hr).1
  let⟨h1,h2⟩:=cQ.mp hq;have K:=f.rk q h1;have sn:=N.all _ (dB K.lt);rwa[K.rg N ⋯,h2,by have:=sn.w0;lia,sn.w1]
 ·apply aU (iK _ _) ?_
  grind [k4,og,aa,aU,iK,rg_few]
def price_tight (N:iC b m sp)(f:FF m sp l rg)(O:OB sp l bs)(x:Fx b l rg bs):∃ts,gM b ts sp=true/\cp b ts sp=jN b sp bs (qe b sp bs rg):=by
 let⟨ts,_,_,h1,h2⟩:=tight N f O x;have fs:=fx_sure N f O x;have e:rg.filter (λq=>sureB b bs q.2)=rg:=List.filter_eq_self.mpr λq hq=>(fs.2 _ (bc.mpr ⟨q,hq,rfl⟩)).2.1
 rwa[ts,h1,h2.trans ?_];unfold qe;rw[worth_pos _ (sureR_w N f)];unfold k4;rw[e]
theorem tight_in (N:iC b m sp)(f:FF m sp l rg)(O:OB sp l bs)(x:Fx b l rg bs):∃ts,gM b ts sp=true/\InB (iW b ts sp) bs:=by
 let⟨π,hπ⟩:=f.acy.pot λk=>(‹3›).1
 have m1:=N.m1;have key:=key_pot N f O x (ts:=potT b π m.toNat) (π:=π) hπ λk hk=>by
  have s:=N.all _ (dB hk);rwa[wait_pot s.s0 (by have:=s.s1;lia) s.g0 (by have:=s.g1;lia)]
 rwa[potT b π m.toNat,fits_lay (m:=m) λk hk=>?_,λk hk=>key k (by rw[<-O.len];rwa[hk])];have:=key k hk;have:=(O.lo k hk).2.2;lia
theorem fx_other (N:iC b m sp)(f:FF m sp l rg)(f':FF m sp l rg')(O:OB sp l bs)(x:Fx b l rg' bs):Fx b l rg bs:=by
 let⟨ts,_,hin⟩:=tight_in N f' O x;have m2:=N.m2;have fw:=f.few;rwa[x.fix,λq hq=>dead_none (by have:=N.b1;lia) O.len hin ((f.rk q hq).rg N ⋯)]
theorem leafW_price (rows:zQ):LeafW (my (.price rows)):=by
 rwa[?_,"price",.tup (rows.map rowD),rfl,↥0];show(true && (pl (.tup (rows.map rowD)) && true))=true;rw[show pl (.tup (rows.map rowD))=true from lQ rows λr _=>by show(true && (pl (oH r.2) && true))=true;rw[lR _ _];rfl];rfl
end
abbrev sFirst:bY:=top 28
def scFirst:bH pza pza (defScope sFirst):=⇑0
theorem ok_first (F:Fun K "first_bounds" "first_bounds" sFirst f fd)(T:Nm mg):‹0› 1 f fd pza rf:=by
 specialize F.ok scFirst;let⟨v,b,m,sp,rfl,hv,few,k⟩:=h;let⟨t,p,ys,rfl,ht,hp,hl,hy⟩:=c5 hv
 exists 98,_,4,eN (fr:=[]) (js:=[]) rfl (jO (ixZ (pv 0))) ⇑0 rfl ⇑0 rfl (by exists sFirst) ⇑0 rfl ⇑0 (λ_ _ _ _ _=>⟨(jS (aV (jH (r:=qd K) g9 (pv 0) dQ) (aV (jH (r:=qd K) g9 (pv 0) dQ) b9))),dU⟩)
 rwa[ς,ϲ ht 2,p,rfl,⟨_,zT hp⟩,?_]
 let pZ1:zW:=λi zs H2=>bt H H2/\dg H2 zs (((sp.take i).map λx=>(x.l,x.o)).map λx=>.tup ((bndR x).map Dt.int))
 rwa[gO (K:=K) (a:=p) (xs:=ys) pZ1 ⟨bt.refl H,.nil⟩ (λi zs H2 hi ⟨e1,e2⟩=>?_) (by rw[hl];exact cO few) (λi x zs H2 hx ⟨e1,e2⟩=>?_) (λzs H2 ⟨e1,e2⟩ D hD=>?_)]
 ·rwa[zT (e1 _ _ hp),?_]
  rw[e2.length,aa,aa,bD];cbv
 ·have hi:i<sp.length:=by rw[<-hl];exact(aw.mp hx).1
  let⟨q,hq,hq2⟩:=hy i sp[i] (gE hi);rw[hx] at hq;cases hq;have hq3:=e1 _ _ hq2;rwa[eZ ?_];rwa[ς,ϲ hq3 2,ς,ϲ hq3 3,lh,λq4 H4 S4 h4=>⟨e1.trans S4,?_⟩];rw[aE,gE hi,au,au];rwa[(e2.same S4).append (.cons (.tup h4 (dg.ints [sp[i].l,sp[i].o])) .nil)]
 ·rwa[D,ς,zL aJ,λp3 H3 S3 h3=>?_]
  have S23:=(bt.put (o:=.lst zs) (bt.refl H2) hD).trans S3;rwa[k (.ref p3) H3 (e1.trans S23) (.tup h3 ?_)];rw[hl,aG] at e2;rwa[e2.same S23]
abbrev sWithB:bY:=top 57
theorem cutU {i:Int}{n:Nat}(hi:i=(n:Int)):cutV xs none (some i)=xs.take n:=by
 unfold cutV;subst hi;have e:=HT.sIx_nat xs.length xs.length n;show(xs.drop 0).take (min n xs.length - 0)=xs.take n
 cbv
theorem cutF {i:Int}{n:Nat}(hi:i=(n:Int)):cutV xs (some i) none=xs.drop n:=by
 unfold cutV;subst hi;have e:=HT.sIx_nat xs.length 0 n;show(xs.drop (min n xs.length)).take (xs.length - min n xs.length)=xs.drop n
 grind [Nat.min_eq_left,List.take_of_length_le,gk,Nat.min_eq_right,List.drop_length,List.drop_of_length_le,List.take_nil]
def scWithB:bH pzs pzs (defScope sWithB):=⇑0
theorem ok_withB (F:Fun K "with_bound" "with_bound" sWithB f fd):‹0› 1 f fd pzs spWithB:=by
 specialize F.ok scWithB;let⟨vb,n,lo,hi,bs,rfl,hb,hn,few,k⟩:=h;let⟨pb,yb,rfl,hpb,hlb,rb⟩:=fJ hb
 exists 98,_,3,lT,1,lT
 rwa[ς,ς,ς,pb,ς,hpb,λqB HB SB hB=>⟨ς,ς,lh,λq1 H1 S1 h1=>⟨szZ1,λqC HC SC hC=>?_⟩⟩];rw[cutU rfl] at hB;rwa[qB,qC,τ,SC _ _ (S1 _ _ hB),hC,?_,λqD HD SD hD=>?_]
 ·rw[bD];rwa[aU (by show min n yb.length+1<=1000;lia) ↥0]
 rwa[ς,ς,τ,ς,pb,ς,SD _ _ (SC _ _ (S1 _ _ (SB _ _ hpb))),λqE HE SE hE=>?_];rw[cutF (n:=n+1) (by (constructor <;> lia))] at hE;rwa[qD,qE,τ,SE _ _ hD,hE,?_,λqF HF SF hF=>?_]
 ·rw[ax,bD,gk];rwa[aU (by show min n yb.length+1+(yb.length - (n+1))<=1000;lia) ↥0]
 have S1F :=SC.trans (SD.trans (SE.trans SF));have SF' :=SB.trans (S1.trans S1F);rwa[k (.ref qF) HF SF' (.tup hF ?_)];have e:bs.set n (lo,hi)=bs.take n++[(lo,hi)]++bs.drop (n+1):=by
  rw[qq,tQ hn,List.append_assoc];rfl
 rw[e,au,au,List.map_take,List.map_drop];rwa[((dg.takeN n (rb.same SF')).append (.cons (.tup (S1F _ _ h1) (dg.ints [lo,hi])) .nil)).append (dg.dropN (n+1) (rb.same SF'))]
abbrev cCuts:bY:=top 66
abbrev s9:bY:=clsOf cCuts 0
abbrev sSpanC:bY:=clsOf cCuts 1
abbrev sSidesC:bY:=clsOf cCuts 2
noncomputable def lamPosC:List bY->Pos
 | [_,_,_,_,.Assign _ (.Call _ _ [⟨_,.Lambda _ _ _ lp,_⟩] _) _]=>lp
 | _=>⟨0,0,0,0⟩
abbrev lpC:Pos:=lamPosC (gp s9)
abbrev lqC:Str:=(("Cuts.__init__" :Str) ++ ".<locals>.") ++ "<lambda>"
def lenNC (K:ag)(hK:autoParam (X.K=K) Ωa):jy X (.builtin "len") (λxs H Q=>∃p ys,xs=[.ref p]/\(SqL K H p ys\/SqT K H p ys)/\Q (.int ys.length) H):=by subst hK;rwa[iG]
structure CutC (K:ag)(C:ai):Prop where
 cl:Cls K C
 n1:pA K C "first_case"
 n2:pA K C "touched"
 n3:pA K C "order"
def scInitC:bH ["self","net","rings","touched"] ["self","net"] (defScope s9):=⇑0
theorem ok_initC {c:ai}(F:Fun K "__init__" "Cuts.__init__" s9 f fd)(hcd:fd.code= .ref c)(CH:d5 K c T1=true)(B:BM mg base)(ne:T0≠T1)(T:Nm mg)(T2:Nt mg)(ms:mg "sorted" =none)(CC:CutC K C)
  (G1:Fn K mg "rings_of" rj pza f1 fd1) (F1:‹0› 8 f1 fd1 pza (qA T0 p0 q0))
  (G2:Fn K mg "rings_over" sOverR pzB f2 fd2) (G3:Fn K mg "first_bounds" sFirst pza f3 fd3)
  (G4:Fn K mg "forest_of" ny pza f4 fd4) (F4:‹0› 6 f4 fd4 pza (mL T0 p0 q0)):‹0› 9 f fd ["self","net"] (spInitC T0 p0 q0 T1 lpC lqC C):=by
 have F2:‹0› 1 f2 fd2 pzB spOverR:=ok_overR G2.F;have F3:‹0› 1 f3 fd3 pza rf:=ok_first G3.F T;rwa[okC F hcd scInitC (by contradiction) (λA outer s H vs Q E hr h=>?_)];let⟨x,dx,v,b,m,sp,rfl,hx,hv,N,hT0,hT1,k⟩:=h;have E:=N.ends;have few:=N.few;have m1:=N.m1;have m2:=N.m2
 exists 4,scInitC,3,G1,5,eN (fr:=["rings"]) (js:=[2]) rfl (kQ rfl T2.range (aV (cP iG rfl T.len eY (aV (ixZ (pv 1)) b9)) b9)) ⇑0 rfl ⇑0 rfl (by exists s9) ⇑0 rfl ⇑0 (λ_ _ _ _ _=>⟨(pc1 G2 F2 hr (aV (pv 1) (aV (pv 0) b9))),dU⟩),1,ps_fld ?_ ?_ rfl,3,G3,7,ps_fld ?_ ?_ rfl,3,ps_fld ?_ ?_ rfl,1,pe_sortK (js:=[3]) (fr:=["touched"]) (x:="span") (c:=c) (P:=T1) rfl hr.depth rfl ms (pc1 G4 F4 hr (aV (pv 1) b9)) rfl rfl CH B (λ_ _ _ _ _ _=>rfl) rfl rfl rfl ⇑0 rfl ↥0 (by exists s9) rfl ⇑0 (λcl L f' cd s' H'=>pe_tup (aV (pe_un qV (cP (lenNC K) rfl T.len eY (aV (jH (r:=rIxL K) fR (pv 1) (pv 0)) b9))) (aV (pv 0) b9)))
 rwa[ς,v,b,m,sp,rfl,hv,N,hT0,λL rl l rg H1 tb1 hT01 fL hL dL R=>?_];have fr:=R.fr;have xT0:x≠T0:=by let⟨ps,h⟩:=LamT.tbl hT0;rwa[fj hx h nofun]
 have xT1:x≠T1:=by let⟨ps,h⟩:=LamT.tbl hT1;rwa[fj hx h nofun]
 have K1:Kp H H1:=Tb.kp hT0 tb1;have hT11:=LamT.ntb hT1 hT0 (cM ne) tb1;have hx1:=tb1 x _ xT0 hx;have hv1:=cf K1.tup hv;have tl:l.length<=15:=by have:=fr.few E ⋯;lia
 have lrg:rg.length<=40:=by
  have:rg.length=(rL sp l).length:=by rw[<-R.ks,aa]
  have h2:(rL sp l).length<=sp.length:=by unfold rL;rwa[aU (iK _ _) (by rw[bL];exact ay _)]
  lia
 have lng:∀q∈rg,q.2.length<=1000:=λq hq=>by
  have:=((R.rk q hq).rg N tl).few;lia
 have st1:∀a o,a≠T0->a≠T1->a≠x->H a=some o->H1 a=some o:=λa o n0 _ _ e=>tb1 a o n0 e
 let⟨t,p,ys,ev,ht,hp,hl,hy⟩:=c5 hv1;subst ev;rwa[ς,ϲ ht 2,p,ς,.inr (zT hp),ς,(by (constructor <;> lia)),⋯,?_]
 let pZ1:zW:=λi zs HC=>bt H1 HC/\zs.length=i/\∀j,j<i->∃u ql,zs[j]? =some (.ref u)/\HC u=some (.lst ql)/\dg HC ql ((rg.filter (jh j)).map wayQ)
 rwa[kG (n:=((ys.length:Int)).toNat) pZ1 ⟨bt.refl H1,rfl,λj hj=>tR hj (Nat.not_lt_zero _)⟩ (λi zs HC hi ⟨_,e2,_⟩=>kb e2) (cO ⋯) (λi zs HC hi ⟨S,lz,dz⟩=>?_) (λzs HC ⟨S,lz,dz⟩ D hD=>?_)]
 ·rw[gj]
  rwa[eZ ⟨ς,ς,L,i,rl,rg,rfl,S _ _ hL,dL.same S,lrg,lng,λL' rl' H2 S2 f2 h2 d2=>⟨S.trans S2,by rw[ax,lz];rfl,λj hj=>?_⟩⟩]
  rcases mZ.mp hj with z | z
  ·let⟨u,ql,a1,a2,a3⟩:=dz j z
   rwa[u,ql,by rw[fu ⋯];rwa[a1],S2 _ _ a2,a3.same S2]
  ·subst z
   rwa[L',rl',by rw[bU ⋯,lz,Nat.sub_self];rfl,h2,d2]
 have S1:bt H1 (upd HC D (.lst zs)):=S.trans (bt.put (bt.refl HC) hD);have tch:TchD (upd HC D (.lst zs)) D sp.length rg:=by
  rwa[zs,aJ,by rw[lz];lia,λj hj=>?_];let⟨u,ql,a1,a2,a3⟩:=dz j ⋯;have S2:bt HC (upd HC D (.lst zs)):=bt.put (bt.refl HC) hD;rwa[u,ql,a1,S2 _ _ a2,a3.same S2]
 generalize upd HC D (.lst zs)=H2 at S1 tch ⊢;rwa[ς,.ref t,b,m,sp,rfl,hv1.same S1,⋯,λub H3 S3 hub=>⟨ς,lh,λq4 H4 S4 h4=>⟨ς,x,C,dx,ς,S4 _ _ (S3 _ _ (S1 _ _ hx1)),CC.cl,CC.n1,↥0,?_⟩⟩];have S14:bt H1 H4:=S1.trans (S3.trans S4);have cs4:CsD H4 q4 (sp.map λz=>(z.l,z.o)) rg:=⟨ub,L,rl,h4,hub.same S4,S14 _ _ hL,dL.same S14⟩;have tch4:=tch.kp (bt.kp (S3.trans S4));have hx4:=S14 _ _ hx1;have K4:Kp H4 (upd H4 x (.ins C dx (oU "first_case" (.ref q4) []))):=Kp.upd hx4;have st5:∀a o,a≠T0→a≠T1→a≠x→H a=some o→(upd H4 x (.ins C dx (oU "first_case" (.ref q4) []))) a=some o:=λa o n0 n1 n2 e=>by rw[bw n2];rwa[S14 _ _ (st1 a o n0 n1 n2 e)]
 have kp5:Kp H (upd H4 x (.ins C dx (oU "first_case" (.ref q4) []))):=K1.trans ((bt.kp S14).trans K4);have hx5:(upd H4 x (.ins C dx (oU "first_case" (.ref q4) []))) x=some (.ins C dx [("first_case",.ref q4)]):=aJ;have hT05:=n5 (o:=.ins C dx (oU "first_case" (.ref q4) [])) (LamT.same S14 hT01) hx4;have hT15:=n5 (o:=.ins C dx (oU "first_case" (.ref q4) [])) (LamT.same S14 hT11) hx4;have hv5:=cf K4.tup (hv1.same S14);have cs5:=cs4.kp K4;have tch5:=tch4.kp K4;generalize upd H4 x (.ins C dx (oU "first_case" (.ref q4) []))=H5 at st5 kp5 hx5 hT05 hT15 hv5 cs5 tch5 ⊢;rwa[ς,ς,x,C,dx,ς,hx5,CC.cl,CC.n2,(by show 1<1000;decide),?_];have K5:Kp H5 (upd H5 x (.ins C dx (oU "touched" (.ref D) [("first_case",.ref q4)]))):=Kp.upd hx5;have st6:∀a o,a≠T0→a≠T1→a≠x→H a=some o→(upd H5 x (.ins C dx (oU "touched" (.ref D) [("first_case",.ref q4)]))) a=some o:=λa o n0 n1 n2 e=>by rw[bw n2];rwa[st5 a o n0 n1 n2 e]
 have kp6:=kp5.trans K5;have hx6:(upd H5 x (.ins C dx (oU "touched" (.ref D) [("first_case",.ref q4)]))) x=some (.ins C dx [("first_case",.ref q4),("touched",.ref D)]):=aJ;have hT06:=n5 (o:=.ins C dx (oU "touched" (.ref D) [("first_case",.ref q4)])) hT05 hx5;have hT16:=n5 (o:=.ins C dx (oU "touched" (.ref D) [("first_case",.ref q4)])) hT15 hx5;have hv6:=cf K5.tup hv5;have cs6:=cs5.kp K5;have tch6:=tch5.kp K5;generalize upd H5 x (.ins C dx (oU "touched" (.ref D) [("first_case",.ref q4)]))=H6 at st6 kp6 hx6 hT06 hT16 hv6 cs6 tch6 ⊢;rwa[ς,.ref t,b,m,sp,rfl,hv6,N,hT06,λu H7 ns tb7 hT07 hu F0=>?_];let⟨l',π0,rfl,O0,pm0⟩:=F0.natsF;have el:l'=l:=jM.one (m:=m.toNat) (sp:=sp) ⟨F0,π0,O0,pm0⟩ fr;subst el;have K6:Kp H6 H7:=Tb.kp hT06 tb7;have hT17:=LamT.ntb hT16 hT06 (cM ne) tb7;have hx7:=tb7 x _ xT0 hx6;have st7:∀a o,a≠T0->a≠T1->a≠x->H a=some o->H7 a=some o:=λa o n0 n1 n2 e=>tb7 a o n0 (st6 a o n0 n1 n2 e)
 have kp7:=kp6.trans K6;have cs7:=cs6.kp K6;have tch7:=tch6.kp K6;have hlt:=(fr.pots E).nodup.2;have hnd:=(fr.pots E).nodup.1;have lns:(l'.map λ(i:Nat)=>(i:Int)).length=l'.length:=aa ..;have gns:∀i,i<l'.length->(l'.map λ(i:Nat)=>(i:Int)).getD i 0=((l'.getD i 0:Nat):Int):=λi hi=>by
  rw[af,av,af,gE hi];rfl
 rwa[u,_,_,λi=>(-(((rg.filter (jh (l'.getD i 0))).length:Nat):Int),((l'.getD i 0:Nat):Int)),rfl,.tup (ns:=l'.map λ(i:Nat)=>(i:Int)) hu,by rw[lns];lia,hT17,?_,λi hi H8 tb8=>?_,λD2 H8 π tb8 hT18 f8 pm8 _=>?_]
 ·apply List.Pairwise.of_map (S:=λa c:Int=>a≠c) Prod.snd (λa c h e=>h (by rw[e])) ?_
  rw[bZ,lns];have e:(aQ l'.length).map (Prod.snd ∘ λi=>(-(((rg.filter (jh (l'.getD i 0))).length:Nat):Int),((l'.getD i 0:Nat):Int)))=l'.map λ(i:Nat)=>(i:Int):=by
   rwa[List.ext_getElem (by rw[aa,aa,bL]) λi h1 h2=>?_]
   rw[aa,bL] at h1;rw[ia,iq,ia];show((l'.getD i 0:Nat):Int)=_;rw[af,gE h1];rfl
  rw[e,cU];rwa[(bM.mp hnd).imp λhh e=>hh ⋯]
 ·rw[lns] at hi
  rw[gns i hi];let⟨tv,a1,a2,a3⟩:=tch7.ex;have hk:l'.getD i 0<sp.length:=by
   rw[af,gE hi];rwa[hlt _ (aY hi)]
  let⟨uu,ql,b1,b2,b3⟩:=a3 _ hk;have K8:Kp H7 H8:=Tb.kp hT17 tb8;have lq:ql.length=(rg.filter (jh (l'.getD i 0))).length:=by rw[b3.length,aa]
  rwa[ς,ς,ϐ (K8.lst _ _ a1) _ b1,uu,ς,.inl (zL (K8.lst _ _ b2)),ς,ς,lh,λa9 h9=>⟨bt.put (bt.refl H8) h9,a9,rfl,?_⟩];rw[aJ,lq]
 ·have K8:Kp H7 H8:=Tb.kp hT17 tb8
  have S9:bt H8 (upd H8 D2 (.lst (π.map λ(i:Nat)=>V.int ((l'.map λ(i:Nat)=>(i:Int)).getD i 0)))):=bt.put (bt.refl H8) f8;have h9:(upd H8 D2 (.lst (π.map λ(i:Nat)=>V.int ((l'.map λ(i:Nat)=>(i:Int)).getD i 0)))) D2=some (.lst ((π.map λi=>l'.getD i 0).map λ(i:Nat)=>V.int i)):=by
   rw[aJ,bZ];congr 2;rwa[c9 λi hi=>?_]
   have:=cg.mp (pm8.mem_iff.mp hi);rw[lns] at this;rw[gns i this];rfl
  generalize upd H8 D2 (.lst (π.map λ(i:Nat)=>V.int ((l'.map λ(i:Nat)=>(i:Int)).getD i 0)))=H9 at S9 h9 ⊢;have hx9:=S9 _ _ (tb8 x _ xT1 hx7);rwa[ς,x,C,dx,ς,hx9,CC.cl,CC.n3,(by show 2<1000;decide),?_];have K9:Kp H7 H9:=K8.trans (bt.kp S9);have hT08:=LamT.same S9 (LamT.ntb hT07 hT17 ne tb8);have hT19:=LamT.same S9 hT18;have KX:Kp H9 (upd H9 x (.ins C dx (oU "order" (.ref D2) [("first_case",.ref q4),("touched",.ref D)]))):=Kp.upd hx9;rwa[k l' rg _ (λa o n0 n1 n2 e=>?_) (kp7.trans (K9.trans KX)) (n5 hT08 hx9) (n5 hT19 hx9) R ⟨dx,q4,D,D2,_,aJ,(cs7.kp K9).kp KX,(tch7.kp K9).kp KX,KX.lst _ _ h9,ord_perm (by rw[lns] at pm8;exact pm8)⟩];rw[bw n2];rwa[S9 _ _ (tb8 a o n1 (st7 a o n0 n1 n2 e))]
def scSpanC:bH ["self","case","span","bound"] ["self","case"] (defScope sSpanC):=⇑0
theorem ok_spanC (F:Fun K "span_to_cut" "Cuts.span_to_cut" sSpanC f fd)(CC:CutC K C):‹0› 1 f fd ["self","case"] (spSpanC C):=by
 specialize F.ok scSpanC;let⟨x,c,sp,l,rg,rs,bs,rfl,hx,hc,hl,few,k1,k2⟩:=h;let⟨dx,c0,tl,ol,ord,h1,h2,h3,h4,h5⟩:=hx.ex;let⟨vb,u,rl,c1,c2,c3,c4⟩:=hc.ex;let⟨pb,yb,rfl,hpb,hlb,rb⟩:=fJ c2
 exists 1,scSpanC,3,gU ?_,pe_fld ?_ rfl
 rwa[ς,x,C,dx,_,ς,h1,CC.cl,CC.n3,rfl,ol,rfl,⟨_,zL h4⟩,?_]
 let pZ1:zV:=λi σ H1=>H1=H/\(∀j∈ord.take i,¬((bs.getD j (0,0)).1<(bs.getD j (0,0)).2))/\∃v2 v3,σ=[some (.ref x),some (.ref c),v2,v3]
 rwa[jb (K:=K) (a:=ol) (xs:=ord.map λ(i:Nat)=>V.int i) pZ1 ⟨rfl,λ_ h=>tR h ∅,none,none,rfl⟩ (λi σ H1 _ ⟨e,_⟩=>by rw[e];exact zL h4) ?_ ?_]
 ·rintro i y σ H1 hy ⟨rfl,hal,v2,v3,rfl⟩
  sleep 0
  let⟨j,hj,rfl⟩:=mapI_at hy;have hm:j∈ord:=aZ hj;have hjl:=h5.mem_iff.mp hm;have hjb:=hl j hjl;let⟨q,hq,hq2⟩:=gn rb (gE hjb);have e0:bs.getD j (0,0)=bs[j]:=by rw[af,gE hjb];rfl
  rwa[ς,ϲ c1 0,ς,ϲ hpb j hq,?_];rwa[ς,ϲ hq2 0,ς,ϲ hq2 1,τ,ς,?_];show if decide (bs[j].1<bs[j].2)=true then _ else _;rwa[oJ (λhc=>?_) (λhc=>?_)]
  ·rwa[ς,k2 j hjl (by rw[e0];rwa[tV hc])]
  ·rwa[rfl,λz hz=>?_,_,ς]
   rw[aE,hj] at hz
   rcases bj.mp hz with y | y
   ·rwa[hal z y]
   ·rw[bf.mp (show z∈[j] from y),e0]
    rwa[λw=>hc (tS w)]
 ·rintro σ H1 ⟨rfl,hal,v2,v3,rfl⟩
  sleep 0
  rw[aa,aG] at hal;rwa[k1 λj hj=>hal j (h5.mem_iff.mpr hj)]
def scSidesC:bH ["self","case","span","at","bounds","one","other"] pzK (defScope sSidesC):=⇑0
theorem ok_sidesC (F:Fun K "sides" "Cuts.sides" sSidesC f fd)(CC:CutC K C)(G1:Fn K mg "with_bound" sWithB pzs f1 fd1):‹0› 2 f fd pzK (spSidesC C):=by
 have F1:‹0› 1 f1 fd1 pzs spWithB:=ok_withB G1.F;specialize F.ok scSidesC;let⟨Hb,x,c,n,a,sp,l,rg,rs,bs,rfl,Sb,hx,hc,hn,lb,few,k⟩:=h;let⟨dx,c0,tl,ol,ord,h1,h2,h3,h4,h5⟩:=hx.ex;let⟨tv,t1,t2,t3⟩:=h3.ex;let⟨u,ql,b1,b2,b3⟩:=t3 n ↥2;let⟨vb,u0,rl,c1,c2,c3,c4⟩:=hc.ex;let⟨pb,yb,rfl,hpb,hlb,rb⟩:=fJ c2;let⟨qn,hqn,hqn2⟩:=gn rb (gE hn);have e0:bs.getD n (0,0)=bs[n]:=by rw[af,gE hn];rfl
 have e1:kF bs n a=bs.set n (bs[n].1,a):=by unfold kF;rw[e0]
 have e2:de bs n a=bs.set n (a+1,bs[n].2):=by unfold de;rw[e0]
 exists 3,scSidesC,9,G1,17,G1,27,fR,pe_fld ?_ rfl,9,fR,pe_fld ?_ rfl
 rwa[ς,ϲ c1 0,?_];rwa[ς,ς,ς,ς,ϲ hpb n hqn,ϲ hqn2 0,ς,.ref pb,n,bs[n].1,a,bs,rfl,c2,hn,few,λu1 H1 S1 hu1=>?_];rwa[ς,ς,ς,τ,ς,ς,ϲ (S1 _ _ hpb) n hqn,ϲ (S1 _ _ hqn2) 1,.ref pb,n,a+1,bs[n].2,bs,rfl,c2.same S1,hn,few,λu2 H2 S2 hu2=>?_];have S02:=S1.trans S2;have Sb2:=Sb.trans S02;rwa[ς,ς,x,C,dx,_,ς,Sb2 _ _ h1,CC.cl,CC.n2,rfl,ς,ϐ (Sb2 _ _ t1) _ b1,lh,λq3 H3 S3 h3'=>?_];rwa[ς,ς,x,C,dx,_,ς,S3 _ _ (Sb2 _ _ h1),CC.cl,CC.n2,rfl,ς,ϐ (S3 _ _ (Sb2 _ _ t1)) _ b1,lh,λq4 H4 S4 h4'=>?_];rwa[lh,λL hL=>?_];have S5:bt H4 (upd H4 L (.lst [.ref q3,.ref q4])):=bt.put (bt.refl H4) hL;have S25:=S3.trans (S4.trans S5);rwa[k L q3 q4 _ (S02.trans S25) (bt.free (S02.trans (S3.trans S4)) hL) aJ ⟨u2,u,ql,S5 _ _ (S4 _ _ h3'),?_,b2,b3⟩ ⟨u1,u,ql,S5 _ _ h4',?_,b2,b3⟩]
 ·rw[e2];rwa[hu2.same S25]
 ·rw[e1];rwa[(hu1.same S2).same S25]
end HN
theorem PE.cutV {t:TE}(h:PE X e t):PE X e (λσ H Q=>∃N:VK,(∀v H',N v H'->Q v H')/\t σ H N):=λaN s σ H Q I ⟨N,i,q⟩ =>
 thn (h aN s σ H N I q) λu s' ⟨v,H',I',rv,q'⟩=>⟨v,H',I',rv,i _ _ q'⟩
theorem tK {Q:VK}(Pv:Nat->zA->Hp->Prop)(h0:Pv 0 [] H)(hl:∀i zs H,i<=xs.length->Pv i zs H->HSq H c1 xs/\HSq H c2 ys/\zs.length<=i)(hxy:xs.length=ys.length)(hz:xs.length<=aO)
  (hs:∀i x y zs p H,xs[i]? =some x->ys[i]? =some y->Pv i zs H->H p=none->tt (some x::some y::cL σ js) (upd H p (.tup [x,y])) λb H4=>if b=true then te (some x::some y::cL σ js) H4 λy H5=>Pv (i+1) (zs++[y]) H5 else Pv (i+1) zs H4)
  (hd:∀zs H,Pv xs.length zs H->∀D,H D=none->Q (.ref D) (upd H D (.lst zs))):qi 2 (gPair K) js tt te σ Q (Itq [c1,c2]) H:=by
 rwa[λi m zs H=>i<=xs.length/\m=xs.length - i/\Pv i zs H,⟨_,bq _,rfl,h0⟩,λi m zs H2 hz0=>?_];let⟨hi,hm,hp⟩:=hz0;let⟨qa,qb,hy⟩:=hl i zs H2 hi hp
 by_cases e:i=xs.length
 ·subst e
  rwa[.inl ⟨⟨0,c1,xs,rfl,qa,ay _,λn c _ hn=>tR hn ↥2⟩,hd zs H2 hp⟩]
 ·have hlt:i<xs.length:=dt hi e
  have hlt2:i<ys.length:=by cbv
  rwa[.inr ⟨⟨[xs[i],ys[i]],rfl,λn c hc=>?_⟩,⋯,Pv (i+1),λys' H' hp'=>⟨xs.length - (i+1),⋯,⋯,rfl,hp'⟩,λv H3 hy3 v0 hv0=>?_⟩]
  ·match n,hc with
   | 0,hc=>cases hc;rwa[xs,xs[i],qa,gE hlt,rfl]
   | 1,hc=>cases hc;rwa[ys,ys[i],qb,gE hlt2,rfl]
   | n+2,hc=>simp at hc
  ·let⟨p,vs,hn,rfl,rfl,lv,hx⟩:=hy3
   obtain _ | ⟨x,_ | ⟨y,_ | ⟨_,_⟩⟩⟩:=vs <;> try (cases lv;done)
   obtain _ | ⟨v1,_ | ⟨v2,_ | ⟨_,_⟩⟩⟩:=v0 <;> first | (cases hv0;done) | rwa[p,ς,zT aJ,rfl,_,ς,τ,⟨[some x,some y],rfl,rfl⟩,hs i x y zs p H2 (hx 0 c1 x xs rfl qa rfl) (hx 1 c2 y ys rfl qb rfl) hp hn]
namespace HN
abbrev sSpread:bY:=top 41
inductive spSpread (T:ai)(lp:Pos)(lq:Str)(vs:zA)(H:Hp)(Q:VK)(_:XK):Prop
 | mk (v:V)(b m:Int)(sp:zS)(_:vs=[v])(_:‹4›)(_:iC b m sp)(_:LamT T lp lq H)(_:∀(L:ai) (zs:zA) (l:zC) (S:zP) (H':Hp),Tb T H H'->LamT T lp lq H'->H L=none->H' L=some (.lst zs)->dg H' zs (gu Stp.row S)->jM m.toNat sp l->SprOk m.toNat sp l S->Q (.ref L) H')
structure JS (H Hc:Hp)(Da Ls:ai)(R:zI)(S:zP)(n:Nat):Prop where
 same:bt H Hc
 da:∃kvs,Hc Da=some (.dK kvs)/\(∀x,pH kvs (.inl x)=none↔x ∉ R)/\kvs.length<=R.length+n
 ls:∃zs,Hc Ls=some (.lst zs)/\dg Hc zs (gu Stp.row S)
def JS.on {Hc':Hp}{R:zI}{n:Nat}(j:JS H Hc Da Ls R S n)(e:bt Hc Hc'):JS H Hc' Da Ls R S n:=by
 let⟨kvs,h1,h2⟩:=j.da;let⟨zs,h3,h4⟩:=j.ls;rwa[j.same.trans e,⟨kvs,e _ _ h1,h2⟩,⟨zs,e _ _ h3,h4.same e⟩]
theorem JS.upL {R:zI}{n:Nat}(j:JS H Hc Da Ls R S n)(hL:H La=none)(hc:Hc La=some (.lst xs))(ne:Ls≠La):JS H (upd Hc La (.lst ys)) Da Ls R S n:=by
 let⟨kvs,h1,h2⟩:=j.da;let⟨zs,h3,h4⟩:=j.ls;rwa[λa o e=>by rw[bw (bJ e hL)];rwa[j.same a o e],⟨kvs,by rw[bw (fj h1 hc ↥2)];rwa[h1],h2⟩,⟨zs,by rw[bw ne];rwa[h3],eM (eJ hc) h4⟩]
theorem JS.upS {q:ai}{R:zI}{n:Nat}{s:Stp}(j:JS H Hc Da Ls R S n)(hL:H Ls=none)(hc:Hc Ls=some (.lst zs))(hz:dg Hc zs (gu Stp.row S))(hq:IsD Hc (.ref q) (.tup ((Stp.row s).map Dt.int))):JS H (upd Hc Ls (.lst (zs++[.ref q]))) Da Ls R (S++[s]) n:=by
 let⟨kvs,h1,h2⟩:=j.da;have hd:dg Hc (zs++[.ref q]) (gu Stp.row (S++[s])):=by
  unfold gu at hz ⊢;rw[au];rwa[hz.append (.cons hq .nil)]
 rwa[λa o e=>by rw[bw (bJ e hL)];rwa[j.same a o e],⟨kvs,by rw[bw (fj h1 hc ↥2)];rwa[h1],h2⟩,⟨_,aJ,eM (eJ hc) hd⟩]
theorem JS.upD {R:zI}{n:Nat}{kvs:za}{x:Int}{R':zI}{n':Nat}(j:JS H Hc Da Ls R S n)(hD:H Da=none)(hc:Hc Da=some (.dK kvs))(hk:∀x,pH kvs (.inl x)=none↔x ∉ R)(hR:∀z,z∈R'↔z∈R\/z=x)(hl:kvs.length+1<=R'.length+n'):JS H (upd Hc Da (.dK (oi kvs (.inl x) y))) Da Ls R' S n':=by
 let⟨zs,h3,h4⟩:=j.ls;have K:kh Hc (upd Hc Da (.dK (oi kvs (.inl x) y))):=λq xs h=>by rw[bw (fj h hc ↥2)];rwa[h]
 rwa[λa o e=>by rw[bw (bJ e hD)];rwa[j.same a o e],⟨_,aJ,λz=>?_,?_⟩,⟨zs,by rw[bw (fj h3 hc ↥2)];rwa[h3],eM K h4⟩]
 ·rw[valV_put,hR]
  grind
 ·rwa[aU (mQ _ _ _) hl]
def scSpread:bH ["net","taken","reached","steps","first","ahead","here","step","there"] pza (defScope sSpread):=⇑0
theorem ok_spread (F:Fun K "spread_of" "spread_of" sSpread f fd)(T:Nm mg)(T2:Nt mg)(G1:Fn K mg "forest_of" ny pza f1 fd1)(F1:‹0› 6 f1 fd1 pza (mL Tb0 lp lq))(G2:Fn K mg "steps_from" sSteps pzr f2 fd2)(F2:‹0› 2 f2 fd2 pzr spSteps)(G3:Fn K mg "leads_to" sTo pzd f3 fd3):‹0› 7 f fd pza (spSpread Tb0 lp lq):=by
 have F3:‹0› 1 f3 fd3 pzd spTo:=ok_to G3.F;rwa[F.ok scSpread (by contradiction) (λcdv A outer s H0 vs Q E hr h=>?_)];let⟨v,b,m,sp,rfl,hv,N,hT,k⟩:=h;have u1:=bV (lL (by decide:1<=64) _) hr.units;have E:=N.ends;have m1:=N.m1;have m2:=N.m2
 exists 4,scSpread,3,G1,5,pe_dnewK,17,PE.cutV ?_,1,tj (mj u1 (pv 4) (pv 2)) rfl,7,ps_dput u1 ?_ ?_ ?_ rfl,19,gU ?_,G2,11,G3,7,tj (mj u1 (pv 8) (pv 2)) rfl,2,ps_dput u1 ?_ ?_ ?_ rfl
 rwa[ς,v,b,m,sp,rfl,hv,N,hT,λu H ns tb1 hT1 hu F0=>?_];let⟨l,π,rfl,O,pm⟩:=F0.natsF;have fr:jM m.toNat sp l:=⟨F0,π,O,pm⟩;rw[bZ] at hu;have hu:H u=some (.tup (l.map λ(i:Nat)=>V.int i)):=hu;have hv1:=cf (Tb.lamT hT tb1) hv;let⟨t,p,ys,rfl,ht,hp,hl,hy⟩:=c5 hv1;have PT:=fr.pots E;have hlt:=PT.nodup.2;have few:l.length<=40:=by have:=fr.few E ⋯;lia
 have ne:∀i∈l,(sAt sp i).s≠(sAt sp i).g:=λi hi=>(N.all _ (dB (hlt i hi))).ne
 intro Da hDa;have hDa1:(upd H Da (.dK [])) Da=some (.dK []):=aJ;have S1:bt H (upd H Da (.dK [])):=bt.put (bt.refl H) hDa;generalize upd H Da (.dK [])=H1 at hDa1 S1 ⊢;rwa[bq _,λLs hLs=>?_];have hLsH:H Ls=none:=bt.free S1 hLs;have S2:bt H1 (upd H1 Ls (.lst [])):=bt.put (bt.refl H1) hLs;have J2:JS H (upd H1 Ls (.lst [])) Da Ls [] [] 0:=⟨S1.trans S2,⟨[],S2 _ _ hDa1,λx=>⟨λ_ h=>(by cases h),λ_=>rfl⟩,ay _⟩,⟨[],aJ,.nil⟩⟩;generalize upd H1 Ls (.lst [])=H2 at J2 ⊢;rwa[ς,ϲ (J2.same _ _ ht) 1,m,rfl,⋯,⋯,?_]
 let pZ1:zV:=λi σ HC=>∃(R:zI) (S:zP) (w4 w5 w6 w7 w8:zU),σ=[some (.ref t),some (.ref u),some (.ref Da),some (.ref Ls),w4,w5,w6,w7,w8]/\JS H HC Da Ls R S i/\SI m.toNat sp l exN R [] S/\∀x:Nat,x<i->(x:Int)∈R
 rwa[su (n:=m.toNat) pZ1 ⟨[],[],none,none,none,none,none,rfl,J2,SI.start,λx hx=>tR hx (Nat.not_lt_zero _)⟩ ?_ ?_]
 ·rintro i σ HC hi ⟨R,S,w4,w5,w6,w7,w8,rfl,JC,I0,hall⟩
  rw[gj];have hRm:=I0.few;let⟨kvs,hDaC,hkv,hkl⟩:=JC.da;rwa[λv H'=>∃La A,v= .ref La/\H La=none/\La≠Ls/\JS H H' Da Ls R S i/\H' La=some (.lst (A.map V.int))/\((i:Int) ∉ R/\A=[(i:Int)]\/(i:Int)∈R/\A=[]),?_,?_]
  rotate_left
  ·rwa[ς,ς,Da,ς,DGet.k (k:=.inl (i:Int)) hDaC,ς,?_]
   have mk:∀ (La:ai) (xs:zA),HC La=none->JS H (upd HC La (.lst xs)) Da Ls R S i/\H La=none/\La≠Ls:=fun La xs hLa=>⟨JC.on (bt.put (bt.refl HC) hLa),bt.free JC.same hLa,fun z=>by
    obtain ⟨zs,hz,_⟩:=JC.ls;rw[z,hz] at hLa;cases hLa⟩
   cases c:pH kvs (.inl (i:Int)) with
   | none =>
    rwa[iteT ⟨ς,szZ1,λLa hLa=>?_⟩];let⟨a1,a2,a3⟩:=mk La [.int (i:Int)] hLa;rwa[La,[(i:Int)],rfl,a2,a3,a1,aJ,.inl ⟨(hkv _).mp c,rfl⟩]
   | some o =>
    rwa[iteF ⟨bq _,λLa hLa=>?_⟩];let⟨a1,a2,a3⟩:=mk La [] hLa;rwa[La,[],rfl,a2,a3,a1,aJ,.inr ⟨dv λz=>(by rw[(hkv _).mpr z] at c;cases c),rfl⟩]
  rintro _ HD ⟨La,A,rfl,hLaH,nLL,JD,hLa,hA⟩;let⟨kvD,hDaD,hkD,hlD⟩:=JD.da;rwa[ς,ς,Da,ς,DPut.k (k:=.inl (i:Int)) hDaD (bV (by lia:kvD.length<=999) ↥0),?_];obtain⟨R',hR',IR,inR,hall'⟩:∃R',(∀z,z∈R'↔z∈R\/z=(i:Int))/\SI m.toNat sp l exN R' A S/\R.length<=R'.length/\(∀x:Nat,x<i+1->(x:Int)∈R'):=by
   rcases hA with ⟨a1,rfl⟩ | ⟨a1,rfl⟩
   ·rwa[R++[(i:Int)],λz=>by rw[bj,bf],I0.root a1 (by (constructor <;> lia)) ⋯,by rw[ax];cbv,λx hx=>?_]
    rcases mZ.mp hx with z | z
    ·rwa[cn _ (hall x z)]
    ·rw[z];simp
   ·rwa[R,λz=>⟨.inl,λh=>h.elim id λe=>e ▸ a1⟩,I0,ay _,λx hx=>?_]
    rcases mZ.mp hx with z | z
    ·rwa[hall x z]
    ·rw[z];rwa[a1]
  have JE:=JD.upD (y:=.bl true) (R':=R') (n':=i+1) (x:=(i:Int)) hDa hDaD hkD hR' ⋯;have hLaE:(upd HD Da (.dK (oi kvD (.inl (i:Int)) (.bl true)))) La=some (.lst (A.map V.int)):=by rw[bw (fj hLa hDaD nofun)];rwa[hLa]
  generalize upd HD Da (.dK (oi kvD (.inl (i:Int)) (.bl true)))=HE at JE hLaE ⊢;have lA:A.length<=1:=by rcases hA with ⟨_,rfl⟩ | ⟨_,rfl⟩ <;> simp
  clear hA hLa JD hDaD hkD hlD inR I0 hall hkv hDaC JC
  let pW2:zV:=λn σ HA=>∃(R A:zI) (S:zP) (w6 w7 w8:zU),n=2 * (16 - R.length)+A.length/\n<=40/\σ=[some (.ref t),some (.ref u),some (.ref Da),some (.ref Ls),some (.int (i:Int)),some (.ref La),w6,w7,w8]/\JS H HA Da Ls R S (i+1)/\HA La=some (.lst (A.map V.int))/\SI m.toNat sp l exN R A S/\∀x:Nat,x<i+1->(x:Int)∈R
  rwa[pW2,⟨_,R',A,S,_,_,ς,⋯,rfl,JE,hLaE,IR,hall'⟩,?_];rintro n σ HA ⟨R,A,S,w6,w7,w8,rfl,n40,rfl,JA,hLa,IA,hall⟩;rwa[ς,La,ς,.inl (zL hLa),τ,ς,?_]
  rcases List.eq_nil_or_concat A with rfl | ⟨A',x,rfl⟩
  ·apply hX (by rfl) ?_
   rwa[R,S,_,_,_,_,ς,JA,IA,hall]
  rw[List.concat_eq_append] at hLa n40 IA ⊢;rwa[mR (tS (by rw[aa,ax];show((A'.length+1:Nat):Int) > 0;cbv)) ?_];rwa[_,λσ' H' z=>z,?_];rw[au] at hLa;rwa[ς,.inl ⟨rfl,_,zL hLa⟩,La,_,.int x,rfl,rfl,hLa,by rw[ax,bU ∅];simp,?_];rw[show(A'.map V.int++[x].map V.int).dropLast=A'.map V.int from eI];have JB:=JA.upL (ys:=A'.map V.int) hLaH hLa nLL.symm;have hLaB:(upd HA La (.lst (A'.map V.int))) La=some (.lst (A'.map V.int)):=aJ;generalize upd HA La (.lst (A'.map V.int))=HB at JB hLaB ⊢;let⟨IB,xR⟩:=IA.pop;have lB:2 * (16 - R.length)+A'.length+1<=40:=by rw[ax] at n40;rwa[n40]
  have eB:2 * (16 - R.length)+(A'++[x]).length=2 * (16 - R.length)+A'.length+1:=by rw[ax];rfl
  rw[eB];rwa[ς,ς,ς,.ref t,u,b,m,sp,l,x,rfl,hv1.same JB.same,JB.same _ _ hu,hlt,few,λL HC zs SC fL hL dz=>⟨L,rfl,⟨_,zL hL⟩,?_⟩];have nL1:L≠La:=λz=>by rw[z,hLaB] at fL;cases fL
  have nL2:L≠Ls:=λz=>by
   let⟨z1,hz1,_⟩:=JB.ls;rw[z,hz1] at fL;cases fL
  have JC:=JB.on SC;have hLaC:=SC _ _ hLaB;have lz:zs.length=(dM sp l x).length:=by rw[dz.length];unfold gu;rw[aa]
  let pZ2:zV:=λj σ HD=>∃(R2 A2:zI) (S2:zP) (w7 w8:zU),JS H HD Da Ls R2 S2 (i+1)/\HD La=some (.lst (A2.map V.int))/\SI m.toNat sp l (· =x) R2 A2 S2/\x∈R2/\(∀x:Nat,x<i+1->(x:Int)∈R2)/\2 * (16 - R2.length)+A2.length<=2 * (16 - R.length)+A'.length/\(∀s∈(dM sp l x).take j,s.i∈S2.map Stp.i)/\HD L=some (.lst zs)/\dg HD zs (gu Stp.row (dM sp l x))/\σ=[some (.ref t),some (.ref u),some (.ref Da),some (.ref Ls),some (.int (i:Int)),some (.ref La),some (.int x),w7,w8]
  rwa[jb (K:=K) (a:=L) (xs:=zs) pZ2 ⟨R,A',S,_,_,JC,hLaC,IB,xR,hall,ay _,λs hs=>tR hs ∅,hL,dz,rfl⟩ (λj σ HD _ q=>by let⟨_,_,_,_,_,_,_,_,_,_,_,_,h,_⟩:=q;exact zL h) ?_ ?_]
  ·clear JC hLaC IB xR hall hL dz SC
   rintro j y σ HD hy ⟨R2,A2,S2,w7,w8,JD,hLaD,ID,xD,hallD,mD,hsD,hLD,dD,rfl⟩;have hj:j<(dM sp l x).length:=by have:=(aw.mp hy).1;lia
   have hsj:=gE hj;let⟨y',hy',dy⟩:=dD.at (i:=j) (d:=.tup ((Stp.row (dM sp l x)[j]).map Dt.int)) (by unfold gu;rw[av,hsj];rfl);rw[hy] at hy';cases hy';let⟨q,qs,rfl,hq,rq⟩:=dy.tup_of;have eq:=rq.ints_of;subst eq;have hmem:(dM sp l x)[j]∈dM sp l x:=aY hj;have hin:=hlt _ (pM hmem).1.1;have more:∀S3:zP,(∀s∈S2,s∈S3)->(dM sp l x)[j].i∈S3.map Stp.i->∀s∈(dM sp l x).take (j+1),s.i∈S3.map Stp.i:=λS3 sub hj3 s hs=>by
    rw[aE,hsj] at hs
    rcases bj.mp hs with z | z
    ·let⟨t',ht',e⟩:=bc.mp (hsD s z)
     rwa[bc.mpr ⟨t',sub _ ht',e⟩]
    ·rw[bf.mp (show s∈[(dM sp l x)[j]] from z)];rwa[hj3]
   generalize (dM sp l x)[j]=st at hq hin dy hmem more;rwa[ς,ς,.ref t,q,b,m,sp,st,sAt sp st.i,rfl,hv1.same JD.same,hq,jr hin,?_];rw[(oO hin).1];let⟨kv2,hDaD,hk2,hl2⟩:=JD.da;have hR2:=ID.fewX;rwa[ς,ς,Da,ς,DGet.k (k:=.inl (eV sp st)) hDaD,ς,?_];cases hto:pH kv2 (.inl (eV sp st)) with
   | some o =>
    have inR:eV sp st∈R2:=dv λz=>by rw[(hk2 _).mpr z] at hto;cases hto
    rwa[iteF ⟨R2,A2,S2,_,_,JD,hLaD,ID,xD,hallD,mD,more S2 (λ_ h=>h) (ID.has PT ne hmem inR),hLD,dD,rfl⟩]
   | none =>
    have out:eV sp st ∉ R2:=(hk2 _).mp hto;have I3:=ID.add E hlt xD hmem out;have hR3:=I3.fewX;rw[ax] at hR3;have hR3:R2.length+1<=m.toNat:=hR3;rwa[iteT ⟨ς,ς,Da,ς,DPut.k (k:=.inl (eV sp st)) hDaD (bV (by lia:kv2.length<=999) ↥0),?_⟩];have J3:=JD.upD (y:=.bl true) (R':=R2++[eV sp st]) (n':=i+1) (x:=eV sp st) hDa hDaD hk2 (λz=>by rw[bj,bf]) (by rw[ax];show _<=R2.length+1+(i+1);lia);have K3:kh HD (upd HD Da (.dK (oi kv2 (.inl (eV sp st)) (.bl true)))):=λq xs h=>by rw[bw (fj h hDaD nofun)];rwa[h]
    have hLa3:(upd HD Da (.dK (oi kv2 (.inl (eV sp st)) (.bl true)))) La=some (.lst (A2.map V.int)):=by rw[bw (fj hLaD hDaD nofun)];rwa[hLaD]
    have hL3:(upd HD Da (.dK (oi kv2 (.inl (eV sp st)) (.bl true)))) L=some (.lst zs):=by rw[bw (fj hLD hDaD nofun)];rwa[hLD]
    generalize upd HD Da (.dK (oi kv2 (.inl (eV sp st)) (.bl true)))=H3 at J3 K3 hLa3 hL3 ⊢;have d3:=eM K3 dD;have q3:=K3 _ _ hq;rwa[ς,.inl ⟨rfl,_,zL hLa3⟩,ς,La,τ,hLa3,oR (by rw[aa];lia),?_];have J4:=J3.upL (ys:=A2.map V.int++[V.int (eV sp st)]) hLaH hLa3 nLL.symm;have K4:kh H3 (upd H3 La (.lst (A2.map V.int++[V.int (eV sp st)]))):=eJ hLa3;have hLa4:(upd H3 La (.lst (A2.map V.int++[V.int (eV sp st)]))) La=some (.lst (A2.map V.int++[V.int (eV sp st)])):=aJ;have hL4:(upd H3 La (.lst (A2.map V.int++[V.int (eV sp st)]))) L=some (.lst zs):=by rw[bw nL1];rwa[hL3]
    generalize upd H3 La (.lst (A2.map V.int++[V.int (eV sp st)]))=H4 at J4 K4 hLa4 hL4 ⊢;have d4:=eM K4 d3;have q4:=K4 _ _ q3;let⟨z4,hz4,dz4⟩:=J4.ls;have lz4:z4.length=S2.length:=by rw[dz4.length];unfold gu;rw[aa]
    have lS:=ID.len;rwa[ς,.inl ⟨rfl,_,zL hz4⟩,ς,Ls,τ,hz4,oR ⋯,?_];have J5:=J4.upS (s:=st) hLsH hz4 dz4 (.tup q4 (dg.ints (Stp.row st)));rwa[R2++[eV sp st],A2++[eV sp st],S2++[st],_,_,J5,?_,I3,cn _ xD,λx hx=>cn _ (hallD x hx),?_,more _ (λ_ h=>cn _ h) (by rw[au];rwa[bo _ ∅]),?_,eM (eJ hz4) d4,rfl]
    ·rw[bw nLL,hLa4,au];rfl
    ·rw[ax,ax]
     show 2 * (16 - (R2.length+1))+(A2.length+1)<=_;lia
    ·rw[bw nL2];rwa[hL4]
  ·rintro σ HD ⟨R2,A2,S2,w7,w8,JD,hLaD,ID,xD,hallD,mD,hsD,hLD,dD,rfl⟩
   rw[lz,aG] at hsD;rwa[_,↥1,R2,A2,S2,_,_,ς,⋯,rfl,JD,hLaD,ID.done hsD,hallD]
 ·rintro σ HC ⟨R,S,w4,w5,w6,w7,w8,rfl,JC,I0,hall⟩
  let⟨zs,hz,dz⟩:=JC.ls;have hLs0:H0 Ls=none:=by
   cases z:H0 Ls with
   | none=>rfl
   | some o =>
    by_cases e:Ls=Tb0
    ·subst e
     let⟨ps,hps⟩:=LamT.tbl hT1;rw[hps] at hLsH;cases hLsH
    ·rw[tb1 Ls o e z] at hLsH;cases hLsH
  rwa[ς,k Ls zs l S HC (tb1.trans (bt.tb JC.same)) (LamT.same JC.same hT1) hLs0 hz dz fr (I0.ok E hlt hall)]
abbrev sRest:bY:=top 43
abbrev sTabBy:bY:=top 69
inductive spTabBy (vs:zA)(H:Hp)(Q:VK)(_:XK):Prop
 | mk (v vb:V)(L:ai)(b m:Int)(sp:zS)(bs:zB)(zs:zA)(S:zP)(_:vs=[v,.ref L,vb])(_:‹4›)(_:0<b)(_:0<m)(_:m<=16)(_:ke m.toNat sp)(_:H L=some (.lst zs))(_:dg H zs (gu Stp.row S))(_:S.length<=16)(_:(∀s∈S,s.i<sp.length/\(s.d=1\/s.d= -1)))(_:IsD H vb (pY bs))(_:bs.length=sp.length)(_:∀q H',bt H H'->H' q=some (.tup ((tabOf b sp bs m.toNat S).map V.int))->Q (.ref q) H')
theorem frmS_rng (E:ke m sp){t:Stp}(h:t.i<sp.length):0<=lG sp t/\lG sp t<m:=by
 let⟨a,b,c,d⟩:=E _ (dB h)
 grind [tooS_sAt0,frm]
theorem ixN_int {n:Nat}(h0:0<=z)(h1:z<n):ixN n z=some z.toNat:=by unfold ixN;rw[tQ h0,tQ h1]
theorem atI_int {xs:List α}{x:α}(h0:0<=z)(h:xs[z.toNat]? =some x):atI xs z=some x:=by
 have:=(aw.mp h).1;unfold atI;rw[ixN_int h0 ↥2];rwa[h]
theorem map_set {l:zI}{n:Nat}{x:Int}:(l.map V.int).set n (V.int x)=(l.set n x).map V.int:=by rw[List.map_set]
def scRest:bH pzl pzl (defScope sRest):=⇑0
theorem ok_rest (F:Fun K "rest_by" "rest_by" sRest f fd):‹0› 1 f fd pzl spRest:=by
 specialize F.ok scRest;let⟨b,n,rfl,hb,k⟩:=h
 exists 98,_
 rwa[ς,ς,τ,hb,k]
def scTabBy:bH ["net","steps","bounds","times","step"] pzL (defScope sTabBy):=⇑0
theorem ok_tabBy (F:Fun K "table_by" "table_by" sTabBy f fd)(T:Nm mg)(G1:Fn K mg "leads_to" sTo pzd f1 fd1)(G2:Fn K mg "leads_from" sFrom pzd f2 fd2)(G3:Fn K mg "rest_by" sRest pzl f3 fd3):‹0› 2 f fd pzL spTabBy:=by
 have F1:‹0› 1 f1 fd1 pzd spTo:=ok_to G1.F;have F2:‹0› 1 f2 fd2 pzd spFrom:=ok_from G2.F;have F3:‹0› 1 f3 fd3 pzl spRest:=ok_rest G3.F;specialize F.ok scTabBy;let⟨v,vb,L,b,m,sp,bs,zs,S,rfl,hv,hb,m0,m16,E,hL,dz,lS,hS,hvb,lb,k⟩:=h;have hr1:=hr;let⟨t,p,ys,rfl,ht,hp,hl,hy⟩:=c5 hv;let⟨pb,yb,rfl,hpb,hlb,rb⟩:=fJ hvb
 exists 2,scTabBy,4,op_rep,nG ?_,9,gU ?_,7,fR,1,pc1 G2 F2 hr1 ?_,21,pg_sub ?_ ?_ set_list,1,pc1 G1 F1 hr1 ?_,9,eN (fr:=pza) (js:=[0]) rfl (gU (pv 3)) ⇑0 rfl ⇑0 rfl (by exists sTabBy) ⇑0 rfl ⇑0 (λ_ _ _ _ _=>⟨(pc1 G3 F3 hr1 (aV (jH (r:=qd K) g9 (pv 1) dQ) (aV (pv 0) b9))),dU⟩)
 rwa[szZ1,λq1 H1 S1 h1=>⟨ς,ϲ (S1 _ _ ht) 1,q1,m,ς,rfl,h1,⋯,⋯,?_,λLt hLt=>?_⟩]
 ·show 1 * m.toNat<=aO
  rwa[cO ⋯]
 have hLtH:H Lt=none:=bt.free S1 hLt;have S2:bt H (upd H1 Lt (.lst (bB m.toNat [V.int 0]).flatten)):=S1.trans (bt.put (bt.refl H1) hLt);have h2:(upd H1 Lt (.lst (bB m.toNat [V.int 0]).flatten)) Lt=some (.lst ((bB m.toNat (0:Int)).map V.int)):=by
  rw[aJ,List.map_replicate,List.flatten_replicate_singleton]
 generalize upd H1 Lt (.lst (bB m.toNat [V.int 0]).flatten)=H2 at S2 h2 ⊢;have lz:zs.length=S.length:=by rw[dz.length];unfold gu;rw[aa]
 have len:∀j,((S.take j).foldl (setT sp (lowB bs)) (bB m.toNat 0)).length=m.toNat:=λj=>by rw[nU (m:=0),gz]
 rwa[ς,L,rfl,⟨_,zL (S2 _ _ hL)⟩,?_];rwa[jb (K:=K) (a:=L) (xs:=zs) (λj σ HD=>bt H HD/\HD Lt=some (.lst (((S.take j).foldl (setT sp (lowB bs)) (bB m.toNat 0)).map V.int))/\∃w4,σ=[some (.ref t),some (.ref L),some (.ref pb),some (.ref Lt),w4]) ⟨S2,h2,none,rfl⟩ (λj σ HD _ ⟨h,_⟩=>zL (h _ _ hL)) ?_ ?_]
 ·rintro j y σ HD hy' ⟨SD,hD,w4,rfl⟩
  have hj:j<S.length:=by have:=(aw.mp hy').1;cbv
  have hsj:=gE hj;let⟨y',hy2,dy⟩:=dz.at (i:=j) (d:=.tup ((Stp.row S[j]).map Dt.int)) (by unfold gu;rw[av,hsj];rfl);rw[hy'] at hy2;cases hy2;let⟨q,qs,rfl,hq,rq⟩:=dy.tup_of;have eq:=rq.ints_of;subst eq;let⟨hin,hd⟩:=hS _ (aY hj);have fold:(S.take (j+1)).foldl (setT sp (lowB bs)) (bB m.toNat 0)=setT sp (lowB bs) ((S.take j).foldl (setT sp (lowB bs)) (bB m.toNat 0)) S[j]:=by
   rw[aE,hsj,fU];rfl
  rw[fold];have lj:=len j;generalize (S.take j).foldl (setT sp (lowB bs)) (bB m.toNat 0)=ts at hD lj ⊢;generalize S[j]=st at hq hin hd;let⟨f0,f1'⟩:=frmS_rng E hin;let⟨t0,t1⟩:=mI E hin;have hbi:st.i<bs.length:=by cbv
  let⟨qb,hqb,hqb2⟩:=gn rb (gE hbi);have el:lowB bs st.i=bs[st.i].1:=by unfold lowB;rw[af,gE hbi];rfl
  have hat:∀z:Int,0<=z->z<m.toNat->(ts.map V.int)[z.toNat]? =some (V.int (tm ts z)):=λz z0 z1=>by
   rw[av,gE (by lia:z.toNat<ts.length)];unfold tm;rw[af,gE (by lia:z.toNat<ts.length)];rfl
  rwa[ς,ς,ς,.ref t,q,b,m,sp,st,sAt sp st.i,rfl,hv.same SD,SD _ _ hq,jr hin,?_];rw[(oO hin).2];rwa[Lt,ϱ,zL hD,atI_int f0 (hat _ f0 f1'),?_];rwa[ς,ϲ (SD _ _ hq) 1,ς,ς,ϲ (SD _ _ hq) 0,ϲ (SD _ _ hpb) st.i hqb,ϲ (SD _ _ hqb2) 0,τ,?_,τ,?_]
  ·rwa[.inl (by rcases hd with e | e <;> rw[e] <;> decide)]
  rwa[ς,ς,ς,.ref t,q,b,m,sp,st,sAt sp st.i,rfl,hv.same SD,SD _ _ hq,jr hin,?_];rw[(oO hin).1];rwa[Lt,ϱ,hD,ixN_int t0 (by rw[aa];cbv),?_];rw[map_set,<-el];rwa[λa o e=>by rw[bw (bJ e hLtH)];rwa[SD _ _ e],aJ,ς]
 ·rintro σ HD ⟨SD,hD,w4,rfl⟩
  rw[lz,aG] at hD;rwa[ς,Lt,rfl,⟨_,zL hD⟩,?_];have lt:(lg sp (lowB bs) m.toNat S).length=m.toNat:=by have:=len S.length;rw[aG] at this;rwa[this]
  rwa[j7 (K:=K) (a:=Lt) (xs:=(lg sp (lowB bs) m.toNat S).map V.int) (λi zs HC=>HC=HD/\zs=(((lg sp (lowB bs) m.toNat S).take i).map (· % b)).map V.int) ⟨rfl,rfl⟩ (λi zs HC hi ⟨e1,e2⟩=>⟨by rw[e1];exact zL hD,by rw[e2,aa,aa,bD];cbv⟩) (by rw[aa,lt];exact cO ⋯) (λi x zs HC hx ⟨e1,e2⟩=>?_) (λzs HC ⟨e1,e2⟩ D hD2=>?_)]
  ·subst e1
   rw[av] at hx;let⟨z,hz,rfl⟩:=aX.mp hx;rwa[eZ ⟨ς,ϲ (SD _ _ ht) 0,ς,b,z,rfl,hb,?_⟩];rw[e2,aE,hz,au,au];rwa[rfl,rfl]
  ·subst e1
   rw[aa,aG] at e2;have S3:bt HC (upd HC D (.lst zs)):=bt.put (bt.refl HC) hD2;rwa[D,ς,.inl (.inl aJ),λq H4 S4 h4=>?_];rwa[k q H4 (SD.trans (S3.trans S4)) (by rw[h4,e2];rfl)]
abbrev sTabF:bY:=top 70
def CutD.move {x:ai}{rg:zK}(a:CutD H C x sp l rg)(e:Kp H H')(hx:∀o,H x=some o->H' x=some o):CutD H' C x sp l rg:=by
 let⟨dx,c0,tl,ol,ord,h1,h2,h3,h4,h5⟩:=a.ex;rwa[dx,c0,tl,ol,ord,hx _ h1,h2.kp e,h3.kp e,e.lst _ _ h4,h5]
structure CutK (P:aL)(w:bp)(K:ag)(mg:Str->zJ)(base:bI)(T0:ai)(p0:Pos)(q0:Str)(T1:ai)(p1:Pos)(q1:Str)(C fi g1 g2:ai)(di d1 d2:aM):Prop where
 cc:CutC K C
 mke:Mk K C fi
 gl:mg "Cuts" =some (.ref C)
 ini:‹0› 9 fi di ["self","net"] (spInitC T0 p0 q0 T1 p1 q1 C)
 bi:pE K di ["self","net"] []
 m1:Meth K C "span_to_cut" g1
 f1:‹0› 1 g1 d1 ["self","case"] (spSpanC C)
 b1:pE K d1 ["self","case"] []
 m2:Meth K C "sides" g2
 f2:‹0› 2 g2 d2 pzK (spSidesC C)
 b2:pE K d2 pzK []
def scTabF:bH ["net","most","cuts","steps","tables","ahead","case","span"] pzt (defScope sTabF):=⇑0
theorem ok_tabF {fi g1 g2:ai}{di d1 d2:aM}(F:Fun K "tables_that_fit" "tables_that_fit" sTabF f fd)(T:Nm mg)(ne:T0≠T1)(CK:CutK P w K mg base T0 p0 q0 T1 p1 q1 C fi g1 g2 di d1 d2)
  (G2:Fn K mg "spread_of" sSpread pza f2 fd2) (F2:‹0› 7 f2 fd2 pza (spSpread T0 p0 q0))
  (G3:Fn K mg "dead_leaf" sDeadL pzn f3 fd3) (F3:‹0› 4 f3 fd3 pzn rh)
  (G4:Fn K mg "table_by" sTabBy pzL f4 fd4) (F4:‹0› 2 f4 fd4 pzL spTabBy)
  (G5:Fn K mg "middle_of" sMid pzw f5 fd5):‹0› 11 f fd pzt (spTabF T0 p0 q0 T1 p1 q1):=by
 have F5:‹0› 1 f5 fd5 pzw spMid:=ok_mid G5.F;specialize F.ok scTabF;let⟨v,b,m,sp,most,rfl,hv,N,hmost,hcases,hT0,hT1,k⟩:=h;have hr1:kX 1 _:=hr.mono ↥0;have hr2:kX 2 _:=hr.mono ↥0;have E:=N.ends;have nfew:=N.few;have m1:=N.m1;have m2:=N.m2;have nb1:=N.b1
 exists 5,scTabF,3,pe_make CK.mke CK.ini hr rfl CK.gl CK.bi .nil pass0 ?_,5,G2,11,pe_fld ?_ rfl,29,op_isN,G3,9,pe_meth ?_ CK.cc.cl CK.m1 CK.f1 hr1 CK.b1 .nil pass0 ?_,7,op_isN,7,pc1 G4 F4 hr2 ?_,13,qj gZ PySem.F.slot_list_extend PySem.F.type_list_extend mt_extend ?_ ?_,2,pe_meth ?_ CK.cc.cl CK.m2 CK.f2 hr2 CK.b2 .nil pass0 ?_,6,pc1 G5 F5 hr1 ?_
 rwa[ς,λx dx hx hdx nxd=>?_];have S0:bt H (upd (upd H dx (.own x)) x (.ins C dx [])):=by
  have Sa:bt H (upd H dx (.own x)):=bt.put (bt.refl H) hdx;rwa[bt.put Sa (by rw[bw (cM nxd)];exact hx)]
 have hx0:(upd (upd H dx (.own x)) x (.ins C dx [])) x=some (.ins C dx []):=aJ;generalize upd (upd H dx (.own x)) x (.ins C dx [])=H0 at S0 hx0 ⊢;rwa[x,dx,v,b,m,sp,rfl,hx0,hv.same S0,N,LamT.same S0 hT0,LamT.same S0 hT1,λl rg H1 st1 kp1 hT01 hT11 R cd1=>⟨rfl,?_⟩];have f:=R.ff N;have fr:=R.fr;have lrg:rg.length<=40:=by
  have:rg.length=(rL sp l).length:=by rw[<-R.ks,aa]
  have h2:(rL sp l).length<=sp.length:=by unfold rL;grind
  lia
 have tl:l.length<=15:=by have:=fr.few E ⋯;lia
 have hlt:=f.acy.nodup.2;have st1':∀a o,a≠T0->a≠T1->H a=some o->H1 a=some o:=λa o n0 n1 e=>st1 a o n0 n1 (bJ e hx) (S0 _ _ e)
 have kp1' :=(bt.kp S0).trans kp1;have hv1:=cf kp1'.tup hv;apply ⟨ς,v,b,m,sp,rfl,hv1,N,hT01,fun Ls zsS l' S H2 tb2 hT02 fLs hLs dS fr' SO=>?_⟩;have el :=jM.one fr' fr;subst el;have kp2 :=Tb.kp hT01 tb2;have hT12:=LamT.ntb hT11 hT01 (cM ne) tb2;have cd2 :=cd1.move kp2 fun o e=>tb2 x o (by
  let⟨_,_,_,_,_,h1,_⟩:=cd1.ex;let⟨ps,h⟩:=LamT.tbl hT01
  lia) e
 have st2:∀a o,a≠T0->a≠T1->H a=some o->H2 a=some o:=λa o n0 n1 e=>tb2 a o n0 (st1' a o n0 n1 e)
 have kp2':=kp1'.trans kp2;have hv2:=cf kp2.tup hv1;let⟨dx',c0,tl',ol,ord,h1,h2,h3,h4,h5⟩:=cd2.ex;rwa[bq _,λLt hLt=>?_];have S3:bt H2 (upd H2 Lt (.lst [])):=bt.put (bt.refl H2) hLt;have hLt3:(upd H2 Lt (.lst [])) Lt=some (.lst []):=aJ;generalize upd H2 Lt (.lst [])=H3 at S3 hLt3 ⊢;rwa[ς,x,C,dx',_,ς,S3 _ _ h1,CK.cc.cl,CK.cc.n1,rfl,szZ1,λAh hAh=>?_];have hAh2 :=bt.free S3 hAh;have nLA:Lt≠Ah:=λz=>by lia
 have S4:bt H3 (upd H3 Ah (.lst [.ref c0])):=bt.put (bt.refl H3) hAh;have hAh4:(upd H3 Ah (.lst [.ref c0])) Ah=some (.lst [.ref c0]):=aJ;generalize upd H3 Ah (.lst [.ref c0])=H4 at S4 hAh4 ⊢;have S24:=S3.trans S4;have cl4:CsL H2 H4 [.ref c0] [(sp.map λz=>(z.l,z.o),rg)]:=by
  let⟨vb,u,rl,a1,a2,a3,a4⟩:=h2.ex;rwa[.cons ⟨c0,rfl,vb,u,rl,S24 _ _ a1,a2.same S24,a3,a4⟩ .nil]
 have sz0:szC l' [(sp.map λz=>(z.l,z.o),rg)]<=8191:=by
  have e:=mN l' hlt λy hy=>(N.all y hy).lo
  have:=hcases l' fr;show(2 * gf (sp.map λz=>(z.l,z.o)) l' - 1)+0<=8191;lia
 let pW1:zV:=λn σ Hc=>∃(cs:List Cse) (Ts:zY) (zs tv:zA) (w6 w7:zU),n=szC l' cs/\n<=8191/\σ=[some v,some (.int most),some (.ref x),some (.ref Ls),some (.ref Lt),some (.ref Ah),w6,w7]/\bt H2 Hc/\Hc Ah=some (.lst zs)/\CsL H2 Hc zs cs/\Hc Lt=some (.lst tv)/\dg Hc tv (gu id Ts)/\SrcI b m sp l' rg cs Ts/\Ts.length<=most
 rwa[pW1,⟨_,_,[],_,[],_,ς,sz0,rfl,S24,hAh4,cl4,S4 _ _ hLt3,.nil,SrcI.start N lrg,bq _⟩,?_];rintro n σ Hc ⟨cs,Ts,zs,tv,w6,w7,rfl,n8,rfl,Sc,hAc,clc,hLc,dtv,I,hTs⟩
 sleep 0
 have lzs :=Paired.len clc;have ltv:tv.length=Ts.length:=by rw[dtv.length];grind
 have lcs:=szC_len hlt cs I.ok;have pF:gf (sp.map λz=>(z.l,z.o)) l'<=4096:=by
  have e:=mN l' hlt λy hy=>(N.all y hy).lo
  grind
 have fin:(Ts.length<most\/most=4096->cs=[])->Q (.ref Lt) Hc:=λhe=>k Lt tv l' rg Ts Hc (λa o n0 n1 e=>Sc _ _ (st2 a o n0 n1 e)) (kp2'.trans (bt.kp Sc)) (LamT.same Sc hT02) (LamT.same Sc hT12) hLc dtv R I.tabs hTs λlt T hT=>by
  rcases I.hold T hT with h | ⟨c,hc,_⟩
  ·rwa[h]
  grind
 rwa[ς,Ah,ς,.inl (zL hAc),τ,ς,?_]
 rcases List.eq_nil_or_concat cs with rfl | ⟨cs',c,rfl⟩
 ·have :=fT.mp lzs
  subst this;rwa[hX (by rfl) (iteF ⟨ς,fin λ_=>rfl⟩)]
 rw[List.concat_eq_append] at *;let⟨zs',y,rfl,clc',q,rfl,ce⟩:=Paired.snoc_of clc;rwa[mR (tS (by rw[ax];show((zs'.length+1):Int) > 0;simp)) ?_];rwa[ς,Lt,ς,.inl (zL hLc),ς,τ,ς,?_]
 by_cases hlm:Ts.length<most
 rotate_left
 ·exact hX ⋯ ⟨ς,fin fun z=>tR z fun z=>by
   rcases z with z | z
   ·rwa[hlm z]
   ·have h0:=I.cnt
    rw[rN] at h0;have h1:=jA (I.ok c ∅).ob hlt;have e1:psC l' [c]=gf c.1 l'+0:=rfl;lia⟩
 rwa[mR ⋯ ⟨_,λσ' H' z=>z,?_⟩];rwa[ς,.inl ⟨rfl,_,zL hAc⟩,Ah,_,.ref q,rfl,rfl,hAc,by rw[ax,bU ∅];simp,?_];rw[eI];have K5:kh Hc (upd Hc Ah (.lst zs')):=eJ hAc;have S5:bt H2 (upd Hc Ah (.lst zs')):=λa o e=>by rw[bw (bJ e hAh2)];rwa[Sc _ _ e]
 have hA5:(upd Hc Ah (.lst zs')) Ah=some (.lst zs'):=aJ;have hL5:(upd Hc Ah (.lst zs')) Lt=some (.lst tv):=by rw[bw nLA];rwa[hLc]
 have cl5:=CsL.keep K5 (clc');have ce5:=ce.keep K5;have dtv5:=eM K5 dtv;generalize upd Hc Ah (.lst zs')=H5 at K5 S5 hA5 hL5 cl5 ce5 dtv5 ⊢;have C:=I.ok c ∅;have less:=I.less f;have lcs':cs'.length+1<=8191:=by rw[ax] at lcs;grind
 have lz' :=Paired.len cl5;rwa[ς,ς,v,q,b,m,sp,c.1,c.2,rfl,hv2.same S5,⋯,by have:=N.b2;lia,ce5.dn S5,C.few,λz hz=>by rw[C.ob.len];rwa[((f.rk z (C.sub z hz)).rg N tl).inn],λr H6 S6 hd=>⟨rfl,ς,?_⟩];have S26:=S5.trans S6;have hA6:=S6 _ _ hA5;have hL6:=S6 _ _ hL5;have ce6:=ce5.keep (bt.tupK S6);have cl6:=CsL.keep (bt.tupK S6) cl5;have dtv6:=dtv5.same S6;clear ce5 cl5 dtv5 hA5 hL5
 rcases hd with ⟨rfl,al⟩ | ⟨z,hz,dz,hdz⟩
 rotate_left
 ·have:r≠ .non:=λe=>by rw[e] at dz;cases dz
  rwa[hX (tU this) ?_];rwa[_,less,cs',Ts,zs',tv,_,ς,⋯,rfl,S26,hA6,cl6,hL6,dtv6,I.dead N f hz hdz,hTs]
 rwa[mR (tS rfl) ?_];rwa[ς,x,dx',ς,S26 _ _ h1,rfl,ς,x,q,sp,l',rg,c.2,c.1,rfl,cd2.same S26,ce6.dn S26,λj hj=>by rw[C.ob.len];rwa[hlt j hj],⋯,λfx=>?_,λj hj hlj=>?_]
 ·rwa[ς,rfl,ς,mR (tS rfl) ?_]
  let⟨vb,u,rl,a1,a2,a3,a4⟩:=ce6.ex;rwa[ς,.inl ⟨rfl,_,zL hL6⟩,ς,ς,ς,ϲ a1,v,vb,Ls,b,m,sp,c.1,zsS,S,rfl,hv2.same S26,⋯,⋯,m2,E,S26 _ _ hLs,dS.same S26,by have:=SO.len;lia,λs' hs'=>⟨hlt _ (SO.inn s' hs').1,(SO.inn s' hs').2⟩,a2,C.ob.len,λqt H7 S7 h7=>?_];rwa[Lt,τ,S7 _ _ hL6,bV (m:=4096) ⋯ ↥0,?_];have K8:kh H7 (upd H7 Lt (.lst (tv++[.ref qt]))):=eJ (S7 _ _ hL6);rwa[_,less,cs',Ts++[tabOf b sp c.1 m.toNat S],zs',tv++[.ref qt],_,ς,⋯,rfl,λa o e=>?_,?_,CsL.keep K8 (CsL.keep (bt.tupK S7) cl6),aJ,?_,I.leaf N f SO al fx,by rw[ax];rwa[hlm]]
  ·rw[bw (bJ e hLt)];rwa[S7 _ _ (S26 _ _ e)]
  ·rw[bw (cM nLA)];rwa[S7 _ _ hA6]
  ·apply eM K8 ?_
   unfold gu;rw[au];rwa[(dtv6.same S7).append (.cons (.tup h7 (dg.ints _)) .nil)]
 ·rwa[ς,rfl,ς,hX (by (constructor <;> lia)) ?_]
  have hjb:j<c.1.length:=by rw[C.ob.len];rwa[hlt j hj]
  rwa[ς,.inl ⟨rfl,_,zL hA6⟩,ς,x,dx',ς,S26 _ _ h1,rfl,ς,ς,ς,ς,q,j,c.1,c.2,rfl,ce6.dn S26,hjb,?_];obtain⟨a,ha⟩:∃a,a=((c.1.getD j (0,0)).1+(c.1.getD j (0,0)).2) / 2:=⟨ς⟩;rw[<-ha];rwa[H2,x,q,j,a,sp,l',rg,c.2,c.1,rfl,S26,cd2,ce6.dn S26,hjb,C.ob.len,by rw[C.ob.len];rwa[nfew],λL q1 q2 H7 S7 fL hL e1 e2=>?_];have nLA2:L≠Ah:=λz=>by lia
  rwa[Ah,L,τ,S7 _ _ hA6,hL,aU (by show zs'.length+2<=10000;lia) ↥0,?_];have K8:kh H7 (upd H7 Ah (.lst (zs'++[.ref q1,.ref q2]))):=eJ (S7 _ _ hA6);let⟨I',less'⟩:=I.cut N f lrg al hj (a:=a) ⋯ ⋯;rwa[_,less',_,Ts,_,tv,_,ς,⋯,rfl,λa o e=>?_,aJ,?_,?_,eM K8 (dtv6.same S7),I',hTs]
  ·rw[bw (bJ e hAh2)];rwa[S7 _ _ (S26 _ _ e)]
  ·rwa[Paired.app (CsL.keep K8 (CsL.keep (bt.tupK S7) cl6)) (.cons ⟨q1,rfl,e1.keep K8⟩ (.cons ⟨q2,rfl,e2.keep K8⟩ .nil))]
  ·rw[bw nLA];rwa[S7 _ _ hL6]
abbrev sTreeF:bY:=top 71
def scTreeF:bH ["marks","trees","mark","one","other"] ["marks"] (defScope sTreeF):=⇑0
theorem ok_treeF (F:Fun K "tree_from" "tree_from" sTreeF f fd)(RV:mg "reversed" =none):‹0› 1 f fd ["marks"] spTreeF:=by
 specialize F.ok scTreeF;let⟨L,ys,ms,t,rfl,hL,dys,ems,hlw,few,k⟩:=h
 exists 2,scTreeF,7,pi_revL rfl RV ?_,28,lT,18,fR
 rwa[bq _,λLt hLt=>?_];have nLL:L≠Lt:=bJ hL hLt;have S1:bt H (upd H Lt (.lst [])):=bt.put (bt.refl H) hLt;have h1:(upd H Lt (.lst [])) Lt=some (.lst []):=aJ;generalize upd H Lt (.lst [])=H1 at S1 h1 ⊢;have lys:ys.length=ms.length:=by rw[dys.length,aa]
 have tot:ms.reverse.foldl stpT (some [])=some [t]:=by rw[ems];rwa[stp_pre t []]
 rwa[ς,L,ys,rfl,zL (S1 _ _ hL),?_]
 let pZ1:zV:=λi σ H2=>bt H H2/\∃(zs:zA) (st:List Tq) (v2 v3 v4:zU),σ=[some (.ref L),some (.ref Lt),v2,v3,v4]/\H2 Lt=some (.lst zs)/\(ms.reverse.take i).foldl stpT (some [])=some st/\dg H2 zs (st.reverse.map jG)/\st.length<=i/\∀t∈st,pl (jG t)=true
 rwa[for_revL (K:=K) (a:=L) (xs:=ys) pZ1 ⟨S1,[],[],none,none,none,rfl,h1,rfl,.nil,ay _,λ_ h=>tR h ∅⟩ (λi σ H2 _ ⟨S2,_⟩=>zL (S2 _ _ hL)) ?_ ?_]
 ·rintro i x σ H2 hx ⟨S2,zs,st,v2,v3,v4,rfl,hz,hst,dz,lst,pls'⟩
  sleep 0
  have hi:i<ys.length:=by have:=(aw.mp hx).1;rw[fg] at this;rwa[this]
  have hm:ms.reverse[i]? =some (ms.reverse[i]'(by rw[fg];cbv)):=gE _;obtain⟨mk,hmk⟩:∃mk,ms.reverse[i]? =some mk:=⟨_,hm⟩;have dx:IsD H2 x (mrkD mk):=by
   have hj:ys.length - 1 - i<ys.length:=by lia
   rw[List.getElem?_reverse (by omega)] at hx;rw[List.getElem?_reverse ⋯] at hmk;let⟨y,hy,dy⟩:=(dys.same S2).at (i:=ys.length - 1 - i) (d:=mrkD mk) (by rw[av,lys,hmk];rfl);rw[hx] at hy;cases hy;rwa[dy]
  let⟨st',est,est2⟩:=stp_at tot hmk hst;have lzs:zs.length<=10000:=by
   have:=dz.length;rw[aa,fg] at this;lia
  cases mk with
  | leaf d =>
   have e:st'= .leaf d::st:=by
    have:some (Tq.leaf d::st)=some st':=est;cases this;rfl
   subst e;let⟨pd,w1,x1,ed,nw⟩:=hlw d (List.mem_reverse.mp (aZ hmk));have dx:IsD H2 x d:=dx;rw[ed] at dx;let⟨q,xs,rfl,hq,rq⟩:=IsD.tup_of dx;cases rq with
   | cons d0 rq =>
    cases d0;rwa[ς,ϲ hq 0,rfl,ς,hX (tU (λz=>nw (by injection z))) ?_];rwa[ς,.inl ⟨rfl,_,zL hz⟩,ς,Lt,zs,ς,rfl,hz,(bV lzs ↥0),?_];have KC:kh H2 (upd H2 Lt (.lst (zs++[.ref q]))):=eJ hz;rwa[λa o e=>by rw[bw (bJ e hLt)];rwa[S2 _ _ e],zs++[.ref q],_,_,_,ς,aJ,est2,?_,by rw[bE];cbv,λt ht=>?_]
    ·rw[e8,au]
     rwa[(dg.keepP KC dz (lQ _ λt ht=>pls' t (List.mem_reverse.mp ht))).append (.cons ?_ .nil)];rw[<-ed] at dx;rwa[IsD.keepP KC dx pd]
    ·rcases bh.mp ht with rfl | ht
     ·rwa[pd]
     ·rwa[pls' t ht]
  | cut kc ac =>
   obtain⟨x1,y1,s1,rfl,e⟩:∃x1 y1 s1,st=x1::y1::s1/\st'= .cut kc ac x1 y1::s1:=by
    rcases st with _ | ⟨x1,_ | ⟨y1,s1⟩⟩
    ·cases est
    ·cases est
    ·rwa[x1,y1,s1,rfl,?_]
     have:some (Tq.cut kc ac x1 y1::s1)=some st':=est;cases this;rfl
   subst e;have dx:IsD H2 x (.tup [.str "cut",.int (kc:Nat),.int ac]):=dx;let⟨q,xs,rfl,hq,rq⟩:=IsD.tup_of dx;obtain rfl:xs=[.str "cut",.int (kc:Nat),.int ac]:=by
    cases rq with
    | cons d0 rq =>
     cases d0;cases rq with
     | cons d1 rq =>
      cases d1;cases rq with
      | cons d2 rq=>cases d2;cases rq;rfl
   rw[e8,e8,au,au] at dz;let⟨zs1,vx,rfl,dz1,dvx⟩:=dg.snocD dz;let⟨zs2,vy,rfl,dz2,dvy⟩:=dg.snocD dz1;have px:=pls' x1 ∅;have py:=pls' y1 ∅;rwa[ς,ϲ hq 0,rfl,ς,mR (tS rfl) ?_];rwa[ς,.inl ⟨rfl,_,zL hz⟩,Lt,_,vx,rfl,rfl,hz,by rw[ax,bU ∅];simp,?_];rw[eI];have K3:kh H2 (upd H2 Lt (.lst (zs2++[vy]))):=eJ hz;have S3:bt H (upd H2 Lt (.lst (zs2++[vy]))):=λa o e=>by rw[bw (bJ e hLt)];rwa[S2 _ _ e]
   have h3:(upd H2 Lt (.lst (zs2++[vy]))) Lt=some (.lst (zs2++[vy])):=aJ;generalize upd H2 Lt (.lst (zs2++[vy]))=H3 at K3 S3 h3 ⊢;rwa[ς,.inl ⟨rfl,_,zL h3⟩,Lt,_,vy,rfl,rfl,h3,by rw[ax,bU ∅];simp,?_];rw[eI];have K4:kh H2 (upd H3 Lt (.lst zs2)):=K3.trans (eJ h3);have S4:bt H (upd H3 Lt (.lst zs2)):=λa o e=>by rw[bw (bJ e hLt)];rwa[S3 _ _ e]
   have h4:(upd H3 Lt (.lst zs2)) Lt=some (.lst zs2):=aJ;generalize upd H3 Lt (.lst zs2)=H4 at K4 S4 h4 ⊢;rwa[ς,.inl ⟨rfl,_,zL h4⟩,ς,ς,ς,lh,λq5 H5 S5 h5=>?_];rwa[q,q5,τ,S5 _ _ (K4 _ _ hq),h5,szZ5,λq6 H6 S6 h6=>?_];have S46:=S5.trans S6;rwa[Lt,zs2,ς,rfl,S46 _ _ h4,(bV (by rw[ax,ax] at lzs;lia:zs2.length<=10000) ↥0),?_];have K26:kh H2 H6:=λa xs e=>S46 _ _ (K4 _ _ e)
   have KC:kh H6 (upd H6 Lt (.lst (zs2++[.ref q6]))):=eJ (S46 _ _ h4);have K2C:=K26.trans KC;rwa[λa o e=>by rw[bw (bJ e hLt)];rwa[S46 _ _ (S4 _ _ e)],zs2++[.ref q6],_,_,_,ς,aJ,est2,?_,by simp only[bE] at lst ⊢;lia,λt ht=>?_]
   ·rw[e8,au]
    rwa[(dg.keepP K2C dz2 (lQ _ λt ht=>pls' t (by simp[List.mem_reverse.mp ht]))).append (.cons ?_ .nil)];rwa[.tup (KC _ _ h6) (.cons (.str _) (.cons (.int _) (.cons (.int _) (.cons (IsD.keepP K2C dvx px) (.cons (IsD.keepP K2C dvy py) .nil)))))]
   ·rcases bh.mp ht with rfl | ht
    ·rwa[pl_cut px py]
    ·rwa[pls' t (by simp[ht])]
 ·rintro σ H2 ⟨S2,zs,st,v2,v3,v4,rfl,hz,hst,dz,lst,pls'⟩
  sleep 0
  rw[lys,<-fg,aG,tot] at hst;cases hst;cases dz with
  | cons d0 dn =>
   cases dn;rwa[ς,ϐ hz 0,k _ H2 S2 d0]
abbrev sTreeB:bY:=top 72
def scTreeB:bH ["net","leaf_in","cuts","marks","ahead","case","mark","span","at"] pzu (defScope sTreeB):=⇑0
theorem ok_treeBy {f6 fi g1 g2:ai}{fd6 di d1 d2:aM}(F:Fun K "tree_by" "tree_by" sTreeB f fd)(T:Nm mg)(CK:CutK P w K mg base T0 p0 q0 T1 p1 q1 C fi g1 g2 di d1 d2)
  (G5:Fn K mg "middle_of" sMid pzw f5 fd5) (G6:Fn K mg "tree_from" sTreeF ["marks"] f6 fd6) (F6:‹0› 1 f6 fd6 ["marks"] spTreeF):‹0› 11 f fd pzu (qy P w K mg base T0 p0 q0 T1 p1 q1):=by
 have F5:‹0› 1 f5 fd5 pzw spMid:=ok_mid G5.F;specialize F.ok scTreeB;let⟨v,g,b,m,sp,R,rfl,hv,N,hcases,hT0,hT1,LM,k⟩:=h;have hr1:kX 1 _:=hr.mono ↥0;have hr2:kX 2 _:=hr.mono ↥0;have hr6:kX 6 _:=hr.mono ↥0;have E:=N.ends;have nfew:=N.few;have m1:=N.m1;have m2:=N.m2;have nb1:=N.b1
 exists 4,scTreeB,3,pe_make CK.mke CK.ini hr rfl CK.gl CK.bi .nil pass0 ?_,11,pe_fld ?_ rfl,18,pe_callV (i:=1) LM hr6 ?_,2,kN ?_,2,op_isN,5,pe_meth ?_ CK.cc.cl CK.m1 CK.f1 hr1 CK.b1 .nil pass0 ?_,6,pc1 G5 F5 hr1 ?_,17,qj gZ PySem.F.slot_list_extend PySem.F.type_list_extend mt_extend ?_ ?_,2,pe_meth ?_ CK.cc.cl CK.m2 CK.f2 hr2 CK.b2 .nil pass0 ?_,19,pc1 G6 F6 hr1 ?_
 rwa[ς,λx dx hx hdx nxd=>?_];have S0:bt H (upd (upd H dx (.own x)) x (.ins C dx [])):=by
  have Sa:bt H (upd H dx (.own x)):=bt.put (bt.refl H) hdx;rwa[bt.put Sa (by rw[bw (cM nxd)];exact hx)]
 have hx0:(upd (upd H dx (.own x)) x (.ins C dx [])) x=some (.ins C dx []):=aJ;generalize upd (upd H dx (.own x)) x (.ins C dx [])=H0 at S0 hx0 ⊢;rwa[x,dx,v,b,m,sp,rfl,hx0,hv.same S0,N,LamT.same S0 hT0,LamT.same S0 hT1,λl rg H2 st1 kp1 hT02 hT12 RR cd2=>⟨rfl,?_⟩];have f:=RR.ff N;have fr:=RR.fr;have lrg:rg.length<=40:=by
  have:rg.length=(rL sp l).length:=by rw[<-RR.ks,aa]
  have h2:(rL sp l).length<=sp.length:=by unfold rL;rwa[aU (iK _ _) (by rw[bL];exact ay _)]
  lia
 have tl:l.length<=15:=by have:=fr.few E ⋯;lia
 have hlt:=f.acy.nodup.2;have st2:sL T0 T1 H H2:=λa o n0 n1 e=>st1 a o n0 n1 (bJ e hx) (S0 _ _ e)
 have kp2':Kp H H2:=(bt.kp S0).trans kp1;have hv2:=cf kp2'.tup hv;let⟨dx',c0,tl',ol,ord,h1,h2,h3,h4,h5⟩:=cd2.ex;rwa[bq _,λLt hLt=>?_];have S3:bt H2 (upd H2 Lt (.lst [])):=bt.put (bt.refl H2) hLt;have hLt3:(upd H2 Lt (.lst [])) Lt=some (.lst []):=aJ;generalize upd H2 Lt (.lst [])=H3 at S3 hLt3 ⊢;rwa[ς,x,C,dx',_,ς,S3 _ _ h1,CK.cc.cl,CK.cc.n1,rfl,szZ1,λAh hAh=>?_];have hAh2:H2 Ah=none:=bt.free S3 hAh;have nLA:Lt≠Ah:=λz=>by rw[<-z,hLt3] at hAh;cases hAh
 have S4:bt H3 (upd H3 Ah (.lst [.ref c0])):=bt.put (bt.refl H3) hAh;have hAh4:(upd H3 Ah (.lst [.ref c0])) Ah=some (.lst [.ref c0]):=aJ;generalize upd H3 Ah (.lst [.ref c0])=H4 at S4 hAh4 ⊢;have S24:=S3.trans S4;have cl4:CsL H2 H4 [.ref c0] [(sp.map λz=>(z.l,z.o),rg)]:=by
  let⟨vb,u,rl,a1,a2,a3,a4⟩:=h2.ex;rwa[.cons ⟨c0,rfl,vb,u,rl,S24 _ _ a1,a2.same S24,a3,a4⟩ .nil]
 have pr0:gf (sp.map λz=>(z.l,z.o)) l<=4096:=by
  have e:=mN l hlt λy hy=>(N.all y hy).lo
  have:=hcases l fr;lia
 have sz0:szC l [(sp.map λz=>(z.l,z.o),rg)]+0<=8191:=by
  show(2 * gf (sp.map λz=>(z.l,z.o)) l - 1)+0+0<=8191;lia
 have ok0:∀c∈[(sp.map (λz=>(z.l,z.o)),rg)],jQ b sp l rg c:=(SrcI.start (b:=b) (l:=l) N lrg).ok
 let pW1:zV:=λn σ Hc=>∃(cs:List Cse) (ms:List Mrk) (zs mv:zA) (w5 w6 w7 w8:zU),n=szC l cs/\n+ms.length<=8191/\σ=[some v,some (.ref g),some (.ref x),some (.ref Lt),some (.ref Ah),w5,w6,w7,w8]/\bt H2 Hc/\Hc Ah=some (.lst zs)/\CsL H2 Hc zs cs/\Hc Lt=some (.lst mv)/\dg Hc mv (ms.map mrkD)/\(∀c∈cs,jQ b sp l rg c)/\Wn R l (sp.map (λz=>(z.l,z.o)),rg) ms cs.reverse/\(∀d,Mrk.leaf d∈ms->LeafW d)/\pls (ms.map mrkD)=true
 rwa[pW1,⟨_,_,[],_,[],_,_,_,ς,sz0,rfl,S24,hAh4,cl4,S4 _ _ hLt3,.nil,ok0,Wn.start,λ_ h=>tR h ∅,rfl⟩,?_];rintro n σ Hc ⟨cs,ms,zs,mv,w5,w6,w7,w8,rfl,n8,rfl,Sc,hAc,clc,hLc,dmv,ok,W,lw,pm⟩
 sleep 0
 have lzs:zs.length=cs.length:=Paired.len clc;have lmv:mv.length=ms.length:=by rw[dmv.length,aa]
 have lcs:=szC_len hlt cs ok;rwa[ς,Ah,ς,.inl (zL hAc),τ,ς,?_]
 rcases List.eq_nil_or_concat cs with rfl | ⟨cs',c,rfl⟩
 ·have:zs=[]:=fT.mp lzs
  subst this;let⟨t,et,gt⟩:=Wn.fin W;rwa[hX (by rfl) ⟨ς,Lt,mv,ms,t,rfl,hLc,dmv,et,lw,⋯,λu H9 S9 h9=>?_⟩];have S29:=Sc.trans S9;rwa[k u t H9 (st2.trans (bt.stayT S29)) (kp2'.trans (bt.kp S29)) (LamT.same S29 hT02) (LamT.same S29 hT12) h9 (pl_pre t (by rw[<-et];exact lw)) (gt 21 ?_) (by rw[siz_pre,<-et];lia)];have:2 ^ 21 * gf (sp.map λz=>(z.l,z.o)) l<=2 ^ 21 * 4096:=Nat.mul_le_mul_left _ pr0;rwa[aU this ↥0]
 rw[List.concat_eq_append] at *;let⟨zs',y,rfl,clc',q,rfl,ce⟩:=Paired.snoc_of clc;rwa[mR (tS (by rw[ax];show((zs'.length+1:Nat):Int) > 0;simp)) ⟨_,λσ' H' z=>z,?_⟩];rwa[ς,.inl ⟨rfl,_,zL hAc⟩,Ah,_,.ref q,rfl,rfl,hAc,by rw[ax,bU ∅];simp,?_];rw[eI];have K5:kh Hc (upd Hc Ah (.lst zs')):=eJ hAc;have S5:bt H2 (upd Hc Ah (.lst zs')):=λa o e=>by rw[bw (bJ e hAh2)];rwa[Sc _ _ e]
 have hA5:(upd Hc Ah (.lst zs')) Ah=some (.lst zs'):=aJ;have hL5:(upd Hc Ah (.lst zs')) Lt=some (.lst mv):=by rw[bw nLA];rwa[hLc]
 have cl5:=CsL.keep K5 (show CsL H2 Hc zs' cs' from clc');have ce5:=ce.keep K5;have dmv5:=dg.keepP K5 dmv pm;generalize upd Hc Ah (.lst zs')=H5 at K5 S5 hA5 hL5 cl5 ce5 dmv5 ⊢;have C':=ok c ∅;have less:=sz_less (cs:=cs') f C';rw[List.reverse_append] at W;have W:Wn R l (sp.map (λz=>(z.l,z.o)),rg) ms (c::cs'.reverse):=W;have ok':∀d∈cs',jQ b sp l rg d:=λd hd=>ok d (cn _ hd)
 have lcs':cs'.length+1<=8191:=by rw[ax] at lcs;show cs'.length+[c].length<=8191;lia
 have lz':zs'.length=cs'.length:=Paired.len cl5;have stH5:sL T0 T1 H H5:=st2.trans (bt.stayT S5);rwa[rfl,stH5,ς,stH5,l,rg,q,c,rfl,RR,ce5.dn S5,C',hv2.same S5,λr H6 S6 hd=>?_];have S26:=S5.trans S6;have hA6:=S6 _ _ hA5;have hL6:=S6 _ _ hL5;have ce6:=ce5.keep (bt.tupK S6);have cl6:=CsL.keep (bt.tupK S6) cl5;have dmv6:=dmv5.same S6;rwa[λσ' H'=>∃(cs2:List Cse) (mk:Mrk) (zs2:zA) (v6:V) (w7 w8:zU),szC l cs2<szC l (cs'++[c])/\σ'=[some v,some (.ref g),some (.ref x),some (.ref Lt),some (.ref Ah),some (.ref q),some v6,w7,w8]/\bt H2 H'/\H' Ah=some (.lst zs2)/\CsL H2 H' zs2 cs2/\H' Lt=some (.lst mv)/\dg H' mv (ms.map mrkD)/\IsD H' v6 (mrkD mk)/\(∀c∈cs2,jQ b sp l rg c)/\Wn R l (sp.map (λz=>(z.l,z.o)),rg) (ms++[mk]) cs2.reverse/\(∀d,mk= .leaf d->LeafW d)/\pl (mrkD mk)=true,?_,?_]
 ·rintro σ' H7 ⟨cs2,mk,zs2,v6,w7,w8,less2,rfl,S7,hA7,cl7,hL7,dm7,d6,ok2,W2,lw2,pm2⟩
  sleep 0
  rwa[ς,.inl ⟨rfl,_,zL hL7⟩,ς,Lt,mv,ς,rfl,hL7,(bV (by lia:mv.length<=10000) ↥0),?_];have K8:kh H7 (upd H7 Lt (.lst (mv++[v6]))):=eJ hL7;rwa[_,less2,cs2,ms++[mk],zs2,mv++[v6],_,_,_,ς,by rw[ax];show _+(ms.length+1)<=8191;lia,rfl,λa o e=>by rw[bw (bJ e hLt)];rwa[S7 _ _ e],by rw[bw (cM nLA)];rwa[hA7],CsL.keep K8 cl7,aJ,?_,ok2,W2,λd hd=>?_,?_]
  ·rw[au]
   rwa[(dg.keepP K8 dm7 pm).append (.cons (IsD.keepP K8 d6 pm2) .nil)]
  ·rcases bj.mp hd with z | z
   ·rwa[lw d z]
   ·rwa[lw2 d (bf.mp z).symm]
  ·rw[au,pls_appT,pm,Bool.true_and]
   show(pl (mrkD mk) && true)=true;rw[pm2];rfl
 rwa[ς,rfl,ς,?_]
 rcases hd with ⟨d,dr,dw,dR⟩ | ⟨rfl,al,k0,hk0,hlk0⟩
 ·have nr:r≠ .non:=λe=>by
   let⟨_,w',x',ed,_⟩:=dw;rw[e,ed] at dr;cases dr
  rwa[hX (tU nr) ?_];rwa[cs',.leaf d,zs',r,_,_,less,rfl,S26,hA6,cl6,hL6,dmv6,dr,ok',W.leaf dR,(λd' e=>by cases e;rwa[dw]),dw.1]
 rwa[mR (tS rfl) ?_];rwa[ς,x,dx',ς,S26 _ _ h1,rfl,ς,x,q,sp,l,rg,c.2,c.1,rfl,cd2.same S26,ce6.dn S26,λj hj=>by rw[C'.ob.len];rwa[hlt j hj],⋯,λfx=>tR hlk0 (fx k0 hk0),λj hj hlj=>?_];have hjb:j<c.1.length:=by rw[C'.ob.len];rwa[hlt j hj]
 rwa[ς,ς,q,j,c.1,c.2,rfl,ce6.dn S26,hjb,?_];obtain⟨a,ha⟩:∃a,a=((c.1.getD j (0,0)).1+(c.1.getD j (0,0)).2) / 2:=⟨ς⟩;rw[<-ha];rwa[ς,ς,(by show 3<=aO;decide),λqm H7 S7 hm7=>?_];have S27:=S26.trans S7;rwa[ς,.inl ⟨rfl,_,zL (S7 _ _ hA6)⟩,ς,x,dx',ς,S27 _ _ h1,rfl,ς,ς,ς,H2,x,q,j,a,sp,l,rg,c.2,c.1,rfl,S27,cd2,(ce6.keep (bt.tupK S7)).dn S27,hjb,C'.ob.len,by rw[C'.ob.len];rwa[nfew],λL q1 q2 H8 S8 fL hL e1 e2=>?_];have nLA2:L≠Ah:=λz=>by rw[z,S7 _ _ hA6] at fL;cases fL
 have hA8:=S8 _ _ (S7 _ _ hA6);rwa[Ah,L,τ,hA8,hL,aU (m:=10000) (by show zs'.length+2<=10000;lia) ↥0,?_];have K9:kh H8 (upd H8 Ah (.lst (zs'++[.ref q1,.ref q2]))):=eJ hA8;have K68:kh H6 H8:=λa xs e=>S8 _ _ (S7 _ _ e)
 let⟨okn,lessn,p2⟩:=sz_cut f lrg C' al hj (a:=a) ⋯ ⋯ ok';let⟨mid1,mid2⟩:=prodC_mid C'.ob f.acy.nodup.1 hlt hj hlj ha;rwa[_,.cut j a,_,.ref qm,_,_,lessn,rfl,λa o e=>?_,aJ,?_,?_,?_,?_,okn,?_,(λd e=>by cases e),rfl]
 ·rw[bw (bJ e hAh2)];rwa[S8 _ _ (S27 _ _ e)]
 ·rwa[Paired.app (CsL.keep K9 (CsL.keep K68 cl6)) (.cons ⟨q1,rfl,e1.keep K9⟩ (.cons ⟨q2,rfl,e2.keep K9⟩ .nil))]
 ·rw[bw nLA];rwa[S8 _ _ (S7 _ _ hL6)]
 ·rwa[dg.keepP K9 (dg.keepP K68 dmv6 pm) pm]
 ·rwa[.tup (K9 _ _ (S8 _ _ hm7)) (.cons (.str _) (.cons (.int _) (.cons (.int _) .nil)))]
 ·rw[List.reverse_append]
  rwa[W.cut hjb ⋯ ⋯ p2 mid1 mid2]
abbrev sCases:bY:=top 39
theorem gone_few (E:ke m sp)(h:∀i∈π,i<sp.length):(kT sp m π).2.length<=m:=by
 let⟨D,_,_,l⟩:=gone_cnt E π (lV m) [] (lF m) h (Cnt.start m)
 grind [kT]
theorem gone_lt (h:∀i∈π,i<sp.length):∀i∈(kT sp m π).2,i<sp.length:=λi hi=>by
 rcases(kL sp π (lV m,[])).1 i hi with z | z
 ·cases z
 ·rwa[h i z]
def WOk (sp:zS):Prop:=∀x∈sp,0<=x.o - x.l/\x.o - x.l+1<=10 ^ 61
theorem iC.wok {m:Int}(N:iC b m sp)(h:b<=10 ^ 61):WOk sp:=λx hx=>by
 have s:=N.all x hx;have:=s.lo;have:=s.ob;lia
theorem rO {sp:zS}(w:WOk sp):∀{l:zC},(∀i∈l,i<sp.length)->(jg sp l).natAbs<=(10 ^ 61) ^ l.length
 | [],_=>by show 1<=(10 ^ 61) ^ 0;decide
 | i::l,h=>by
  rw[gT,Int.natAbs_mul,bE,Nat.pow_succ,ka ((10 ^ 61) ^ l.length)];rwa[Nat.mul_le_mul ?_ (rO w λj hj=>h j (az _ hj))];have:=w _ (dB (h i bQ));show((sAt sp i).o - (sAt sp i).l+1).natAbs<=_;lia
theorem pow_33 {n k:Nat}(h:n<=(10 ^ 61) ^ k)(hk:k<=16):n<10 ^ 1000:=by
 rwa[bV h ?_];rw[<-Nat.pow_mul];rwa[Nat.pow_lt_pow_right ↥0 ⋯]
inductive spCases (T:ai)(lp:Pos)(lq:Str)(vs:zA)(H:Hp)(Q:VK)(_:XK):Prop
 | mk (v b m sp:_)(_:vs=[v])(_:‹4›)(_:iC b m sp)(_:b<=10 ^ 61)(_:LamT T lp lq H)(_:∀H' (l:zC),Tb T H H'->LamT T lp lq H'->jM m.toNat sp l->Q (.int (jg sp l)) H')
def scCases:bH ["net","cases","span"] pza (defScope sCases):=⇑0
theorem ok_cases (F:Fun K "cases_of" "cases_of" sCases f fd)(G1:Fn K mg "forest_of" ny pza f1 fd1)(F1:‹0› 6 f1 fd1 pza (mL Tb0 lp lq))(G2:Fn K mg "width_of" sWidth pzk f2 fd2) :
  ‹0› 7 f fd pza (spCases Tb0 lp lq):=by
 have F2:‹0› 1 f2 fd2 pzk spWidth:=ok_width G2.F;specialize F.ok scCases;let⟨v,b,m,sp,rfl,hv,N,b33,hT,k⟩:=h;have E:=N.ends;have m2:=N.m2;have m1:=N.m1;have wk:=N.wok b33
 exists 2,scCases,7,G1,8,G2,6,ip_mulG
 rwa[ς,v,b,m,sp,rfl,hv,N,hT,λu H1 ns tb hT1 hu F0=>?_];let⟨l,π,rfl,O,pm⟩:=F0.natsF;have hp:∀i∈π,i<sp.length:=λi hi=>O.lt hi
 have hlt:∀i∈l,i<sp.length:=λi hi=>gone_lt hp i (pm.mem_iff.mp hi)
 have few:l.length<=16:=by have:=gone_few E hp;rw[pm.length_eq];lia
 have hv1:=cf (Tb.tupK (LamT.tbl hT) tb) hv;rw[bZ] at hu;rwa[u,rfl,⟨_,zT hu⟩,?_]
 let pZ1:zV:=λi σ HA=>HA=H1/\∃v2,σ=[some v,some (.int (jg sp (l.take i))),v2]
 rwa[jU (K:=K) (a:=u) (xs:=l.map (V.int ∘ λ(i:Nat)=>(i:Int))) pZ1 ⟨rfl,none,rfl⟩ (λi σ HA _ ⟨e,_⟩=>by rw[e];exact zT hu) ?_ ?_]
 ·rintro i x σ HA hx ⟨rfl,v2,rfl⟩
  rw[av] at hx;let⟨j,hj,rfl⟩:=aX.mp hx;have hjl:=aZ hj;have hjn:=hlt j hjl;have w0:=wk _ (dB hjn);rwa[ς,ς,ς,v,b,m,sp,j,sAt sp j,rfl,hv1,jr hjn,τ,?_];rwa[τ,⟨?_,?_⟩,rfl,some (.int j),?_]
  ·rwa[pow_33 (rO wk (l:=l.take i) λk hk=>hlt k (List.mem_of_mem_take hk)) (by rw[bD];lia)]
  ·rwa[pow_33 (k:=1) (by rw[Nat.pow_one];lia) ↥0]
  ·rw[aE,hj]
   show _=[some v,some (.int (jg sp (l.take i++[j]))),_];rw[tu];rfl
 ·rintro σ HA ⟨rfl,v2,rfl⟩
  rw[aa,aG];rwa[ς,k HA l tb hT1 ⟨F0,π,O,pm⟩]
abbrev kl:bY:=top 73
noncomputable def lamE5:List bY->Expr
 | [_,_,_,_,.Return (some (.Tuple [_,.Call _ [_,e] _ _] _ _)) _]=>e
 | _=>.Constant .none 0 ⟨0,0,0,0⟩
def lamP5:Expr->Pos
 | .Lambda _ _ _ p=>p
 | _=>⟨0,0,0,0⟩
def lamS5:Expr->ft
 | .Lambda _ _ s _=>s
 | _=>{ kind:=.function,names:=[],isGenerator:=false,isCoroutine:=false }
def lamA5:Expr->gi
 | .Lambda a _ _ _=>a
 | _=>{ posonlyargs:=[],args:=[],vararg:=none,kwonlyargs:=[],kw_defaults:=[],kwarg:=none,defaults:=[] }
def lamB5:Expr->Expr
 | .Lambda _ e _ _=>e
 | e=>e
abbrev laT:gi:=lamA5 (lamE5 (gp kl))
abbrev lbT:Expr:=lamB5 (lamE5 (gp kl))
abbrev lpT:Pos:=lamP5 (lamE5 (gp kl))
abbrev lsT:ft:=lamS5 (lamE5 (gp kl))
abbrev lqT:Str:=(("table_for" :Str) ++ ".<locals>.") ++ "<lambda>"
theorem qO (N:∀b o,fz b=some o->H b=none):bt H (ptF H fz):=λa o e=>by
 cases q:fz a with
 | none=>rw[iE q];rwa[e]
 | some o'=>cbv
def ctF_kp (F:Fz fz H):Kp H (ctF H fz):=⟨λq xs e=>F.cut e (λ_ z=>by cases z),λq xs e=>F.cut e (λ_ z=>by cases z),λq _ xs e=>F.cut e (λ_ z=>by cases z)⟩
theorem ptF_back (F:Fz fz H)(S:bt (ctF H fz) H'):bt H (ptF H' fz):=λa o e=>by
 cases q:fz a with
 | some o'=>rw[F a o' q] at e;cases e;rwa[rM q]
 | none=>rw[iE q];rwa[S a o (by rw[iF q];exact e)]
theorem LamT.cutF {T:ai}(F:Fz fz H)(cl:∀c o,fz c=some o->∃v,o.data= .cell v)(h:LamT T lp lq H):LamT T lp lq (ctF H fz):=by
 let⟨l,e,r⟩:=h;rwa[l,F.cut e (λ_ z=>by cases z),λx hx=>?_];let⟨oc,vs,t,e2,hd,z⟩:=r x hx;rwa[oc,vs,t,?_,hd,z];cases q:fz x.2 with
 | none=>rw[iF q];rwa[e2]
 | some o' =>
  let⟨v,hv⟩:=cl _ o' q;rw[F _ o' q] at e2;cbv
def LmOk.imp {k:Nat}{Hg:Hp->Prop}{sp:Sp}(L:LmOk P w K mg base k f Hf sp)(h:∀H,Hg H->Hf H):LmOk P w K mg base k f Hg sp:=⟨λH hh g=>L.isFn H hh (h H g),λA outer s H u v Q hr e0 g=>L.run A outer s H u v Q hr e0 (h H g)⟩
inductive oQ (T0:ai)(p0:Pos)(q0:Str)(T1:ai)(p1:Pos)(q1:Str)(T2:ai)(vs:zA)(H:Hp)(Q:VK)(_:XK):Prop
 | mk (v:V)(b m:Int)(sp:zS)(_:vs=[v])(_:‹4›)(_:iC b m sp)(_:(∀l,jM m.toNat sp l→jg sp l≤4096))(_:LamT T0 p0 q0 H)(_:LamT T1 p1 q1 H)(_:LamT T2 lpT lqT H)(_:∀(q:ai) (H':Hp),(∀a o,a≠T0→a≠T1→a≠T2→H a=some o→H' a=some o)→Kp H H'→LamT T0 p0 q0 H'→LamT T1 p1 q1 H'→LamT T2 lpT lqT H'→((∃(qt:ai) (t:zI),H' q=some (.tup [.str "table",.ref qt])∧H' qt=some (.tup (t.map V.int))∧nQ b m sp t)∨∃(u:V) (t:Tq),H' q=some (.tup [.str "none",u])∧IsD H' u (jG t)∧pl (jG t)=true∧(∀T,¬gM b T sp=true)∧mW (RDead b sp) t (sp.map λz=>(z.l,z.o)) 21∧siz t≤8191)→Q (.ref q) H')
def ps_out:PS X st (λ_ _ _=>False):=λ_ _ _ _ _ _ h=>h.elim
def scTabFor:bH ["net","many","tables"] pza (defScope kl):=⇑0
theorem ok_tabForN {c T2:ai}(F:Fun K "table_for" "table_for" kl f fd)(hcd:fd.code= .ref c)(CH:d5 K c T2=true)(B:BM mg base)(T:Nm mg)(MC:∃t,mg "MOST_CASES" =some (.int 4096 t))(ne:T0≠T1)(n2:T2≠T0)(n3:T2≠T1)
  (G1:Fn K mg "cases_of" sCases pza f1 fd1) (F1:‹0› 7 f1 fd1 pza (spCases T0 p0 q0))
  (G2:Fn K mg "tables_that_fit" sTabF pzt f2 fd2) (F2:‹0› 11 f2 fd2 pzt (spTabF T0 p0 q0 T1 p1 q1))
  (G3:Fn K mg "tree_by" sTreeB pzu f3 fd3) (F3:‹0› 11 f3 fd3 pzu (qy P w K mg base T0 p0 q0 T1 p1 q1))
  (G4:Fn K mg "dead_leaf" sDeadL pzn f4 fd4) (F4:‹0› 4 f4 fd4 pzn rh):‹0› 12 f fd pza (oQ T0 p0 q0 T1 p1 q1 T2):=by
 rwa[okC F hcd scTabFor (by contradiction) (λA outer s H vs Q E hr h=>?_)];let⟨v,b,m,sp,rfl,hv,N,hc,hT0,hT1,hT2,k⟩:=h
 exists 4,scTabFor,3,G1,8,nH MC,1,ps_out,3,G2,21,fR,10,pe_callZ (scope:=lsT) (fr:=pza) (js:=[0]) F3 hr (λ_=>rfl) rfl G3.mg G3.F.kp G3.b rfl ⇑0 (by exists kl) (aV (pv 0) (aV (pe_lam rfl rfl CH B (by exists kl)) b9))
 rwa[ς,v,b,m,sp,rfl,hv,N,by have:=N.b2;lia,hT0,λH1 l tb1 hT01 fr=>?_];have kp1:=Tb.kp hT0 tb1;have hT11:=LamT.ntb hT1 hT0 (cM ne) tb1;have hT21:=LamT.ntb hT2 hT0 n2 tb1;have cl:=hc l fr;rwa[ς,τ,ς,hX ⋯ ?_];rwa[ς,v,b,m,sp,1,rfl,cf kp1.tup hv,N,↥0,hc,hT01,hT11,λL tv l' rg Ts H2 st2 kp2 hT02 hT12 hL dL R tabs few hold=>?_];have hT22:LamT T2 lpT lqT H2:=by
  let⟨ps0,e0⟩:=LamT.tbl hT01;let⟨ps1,e1⟩:=LamT.tbl hT11;rwa[LamG.stay hT21 ↥1 ↥1]
 have ltv:tv.length=Ts.length:=by rw[dL.length];simp
 rwa[ς,L,ς,.inl (zL hL),τ,ς,?_];cases Ts with
 | cons t Ts =>
  rwa[mR ↥1 ?_];cases dL with
  | cons d0 ds =>
   rename_i y ys;let⟨qt,qs,rfl,hq,rq⟩:=IsD.tup_of d0;have eq:=rq.ints_of;subst eq;rwa[ς,ϐ hL,lh,λq H3 S3 h3=>?_];rwa[k q H3 (λa o n0 n1 _ e=>S3 _ _ (st2 a o n0 n1 (tb1 a o n0 e))) (kp1.trans (kp2.trans (bt.kp S3))) (LamT.same S3 hT02) (LamT.same S3 hT12) (LamT.same S3 hT22) (.inl ⟨qt,t,h3,S3 _ _ hq,tabs t ∅⟩)]
 | nil =>
  rwa[hX ↥1 ?_];have nof:∀T',¬gM b T' sp=true:=↥1
  have hv2:=cf kp2.tup (cf kp1.tup hv);rwa[ς,hT22,λg cl' H3 tb3 hT23 LF LE=>⟨cl',[v],LE,rfl,λfz C0 N0=>?_⟩];have kp3:=Tb.kp hT22 tb3;have hT03:=LamT.ntb hT02 hT22 (cM n2) tb3;have hT13:=LamT.ntb hT12 hT22 (cM n3) tb3;have SP:=qO N0;have hT04:=LamT.same SP hT03;have hT14:=LamT.same SP hT13;have LF4:=LF.same SP;have hv4:=(cf kp3.tup hv2).same SP;have m2:=N.m2;have m1:=N.m1;have LM:LmOk P w K mg base 6 g (sL T0 T1 (ptF H3 fz)) (qG v b m sp (RDead b sp)):=by
   rwa[LmOk.mono (LmOk.imp (lam_run (q:=lqT) (params:=laT) (body:=lbT) (scope:=lsT) (λ_ _ _ _=>rfl) rfl rfl rfl ⇑0 rfl ↥0 C0 (λy hy hf=>?_) ⇑0 (λL' cd A' outer' s' H' hr'=>pc1 (jk:=ay _) G4 F4 hr' (aV (pv 1) (aV (pv 0) b9))) (λv' Hx Qx _ Zx hsp=>?_)) λHx st=>?_) ↥0]
   ·have e :=(by trivial:∀y:Str×fY,y∈lsT.names->y.2=fY.free->y.1 = "net") y hy hf
    let⟨cc,_,_,ec,_⟩:=C0.val 0 "net" v rfl rfl
    grind
   ·let⟨l2,rg2,q2,c2,e2,R2,cd2,ok2,hvx,kk⟩:=hsp
    cases e2;have KX:=ctF_kp Zx;have f2:=R2.ff N;have tl:l2.length<=15:=by have:=R2.fr.few N.ends ⋯;lia
    rwa[ς,ς,v,q2,b,m,sp,c2.1,c2.2,rfl,cf KX.tup hvx,by have:=N.b1;lia,by have:=N.b2;lia,cd2.kp KX,ok2.few,λz hz=>by rw[ok2.ob.len];rwa[((f2.rk z (ok2.sub z hz)).rg N tl).inn],λr H' S' hd fr'=>?_];rwa[kk r _ (ptF_back Zx S') ?_]
    rcases hd with ⟨rfl,al⟩ | ⟨z,hz,dz,hdz⟩
    ·apply .inr ⟨rfl,al,dv λnz=>?_⟩
     have ht2:=f2.acy.nodup.2;have fix:∀j∈l2,(c2.1.getD j (0,0)).1=(c2.1.getD j (0,0)).2:=λj hj=>by
      have h1:=(ok2.ob.lo j (ht2 j hj)).2.1
      grind
     let⟨ts,_,_,hf,_⟩:=tight N f2 ok2.ob ⟨fix,ok2.all al⟩;rwa[nof ts hf]
    ·rwa[.inl ⟨_,IsD.keepP (bt.tupK (qO fr')) dz (pU z.2).1,pU z.2,z.2,rfl,(f2.rk z (ok2.sub z hz)).rg N tl,hdz⟩]
   ·let⟨ps0,e0⟩:=LamT.tbl hT04
    let⟨ps1,e1⟩:=LamT.tbl hT14;have fz':∀a o u,ptF H3 fz a=some (.frz o u)->Hx a=some (.frz o u):=λa o u e=>st a _ (fj e e0 ∅) (fj e e1 ∅) e
    let⟨pm,cd,ct,e,oc,vs,t,ec,r⟩:=LF4;rwa[⟨pm,cd,ct,fz' _ _ _ e,oc,vs,t,fz' _ _ _ ec,r⟩,λa o z=>fz' _ _ _ (rM z)]
  rwa[v,g,b,m,sp,RDead b sp,rfl,hv4,N,hc,hT04,hT14,LM,λu t H5 st5 kp5 hT05 hT15 du plu gd sz Z5=>?_];have KC:=ctF_kp Z5;have hT25:LamT T2 lpT lqT H5:=by
   let⟨ps0,e0⟩:=LamT.tbl hT04;let⟨ps1,e1⟩:=LamT.tbl hT14;rwa[LamG.stay (LamT.same SP hT23) (λps e=>st5 _ _ n2 n3 e) λa o u e=>st5 _ _ (fj e e0 ∅) (fj e e1 ∅) e]
  rwa[lh,λq H6 S6 h6=>?_];have kpa :=kp1.trans (kp2.trans (kp3.trans ((bt.kp SP).trans (kp5.trans (KC.trans (bt.kp S6))))));have sta:∀a o,a≠T0->a≠T1->a≠T2->H a=some o->H6 a=some o:=λa o n0 n1 n2' e=>by
   have e3:=tb3 a o n2' (st2 a o n0 n1 (tb1 a o n0 e));have e5:=st5 a o n0 n1 (SP _ _ e3);rwa[S6 _ _ ?_];have fo:fz a=none:=by
    cases z:fz a with
    | none=>rfl
    | some o'=>grind
   rw[iF fo];rwa[e5]
  rwa[k q H6 sta kpa (LamT.same S6 (LamT.cutF Z5 C0.cell hT05)) (LamT.same S6 (LamT.cutF Z5 C0.cell hT15)) (LamT.same S6 (LamT.cutF Z5 C0.cell hT25)) (.inr ⟨u,t,h6,(IsD.keepP KC.tup du plu).same S6,plu,nof,gd,sz⟩)]
abbrev rm:bY:=top 75
abbrev sLeafBy:bY:=top 76
inductive spPriceL (vs:zA)(H:Hp)(Q:VK)(_:XK):Prop
 | mk (v vb:V)(u:ai)(b m:Int)(sp:zS)(l:zC)(rg:zK)(bs:zB)(rl:zA)(_:vs=[v,.ref u,vb])(_:‹4›)(_:iC b m sp)(_:FF m sp l rg)(_:H u=some (.lst rl))(_:dg H rl (rg.map wayQ))(_:IsD H vb (pY bs))(_:bs.length=sp.length)(_:∀r H',bt H H'->IsD H' r (my (.price (qe b sp bs rg)))->Q r H')
inductive spLeafBy (vs:zA)(H:Hp)(Q:VK)(_:XK):Prop
 | mk (v:V)(u q:ai)(w:Int)(b m:Int)(sp:zS)(l:zC)(rg rg':zK)(c:Cse)(rl:zA)(_:vs=[v,.ref u,.int w,.ref q])(_:‹4›)(_:iC b m sp)(_:FR m sp l rg)(_:FR m sp l rg')(_:H u=some (.lst rl))(_:dg H rl (rg.map wayQ))(_:CsD H q c.1 c.2)(_:jQ b sp l rg' c)(_:∀r H',bt H H'->((∃d,IsD H' r d/\LeafW d/\RBest b sp w c.1 d)\/(r= .non/\(∀z∈c.2,jV b c.1 z.2=false)/\jN b sp c.1 (qe b sp c.1 rg)<w))->Q r H')
theorem sureR_next {bs:zB}{rg:zK}(hi:i<rg.length):k4 b sp bs (rg.take (i+1))=k4 b sp bs (rg.take i)++(if sureB b bs rg[i].2=true then [((sAt sp rg[i].1).w,rg[i].2)] else []):=by
 unfold k4 og;rw[aE,lX]
 grind
theorem ob_bu {m:Int}{bs:zB}(N:iC b m sp)(O:OB sp l bs):BsU bs:=λq hq=>by
 let⟨k,hk,rfl⟩:=List.mem_iff_getElem.mp hq;have hk':k<sp.length:=by rw[<-O.len];rwa[hk]
 have h:=O.lo k hk';have e:‹3›=bs[k]:=by rw[af,gE hk];rfl
 rw[e] at h;have s:=N.all _ (dB hk');have:=s.l0;have:=s.o60;rwa[⋯,h.2.1,⋯]
def scPriceL:bH ["net","rings","bounds","rows"] pzM (defScope rm):=⇑0
theorem ok_priceL (F:Fun K "price_leaf" "price_leaf" rm f fd)(T:Nm mg)(G1:Fn K mg "is_sure" sSure pzh f1 fd1)(F1:‹0› 3 f1 fd1 pzh spSure):‹0› 4 f fd pzM spPriceL:=by
 specialize F.ok scPriceL;let⟨v,vb,u,b,m,sp,l,rg,bs,rl,rfl,hv,N,ff,hu,dl,hb,lb,k⟩:=h;let⟨t,p,ys,rfl,ht,hp,hl,hy⟩:=c5 hv;have b1:=N.b1;have m2:=N.m2;have fw:=ff.few;have lrl:rl.length=rg.length:=by rw[dl.length,aa]
 have few:=rg_few N ff
 exists 1,scPriceL,2,ps_setC (iy:=3) (fr:=["net","bounds"]) (js:=[0,2]) scPriceL.nd rfl (.inl rfl) rfl (gU (pv 1)) ⇑0 rfl ⇑0 rfl (by exists rm) ⇑0 rfl ⇑0 (λ_ _ _ _ _=>⟨(jS (aV (jH (r:=qd K) g9 (jH (r:=qd K) g9 (jH (r:=qd K) g9 (pv 1) dQ) (jH (r:=qd K) g9 (jH (r:=qd K) g9 (pv 0) dQ) dQ)) dQ) (aV (pv 0) b9))),(oq (pt_val (pc1 G1 F1 hr (aV (pv 1) (aV (pv 2) (aV (pv 0) b9))))))⟩),8,eN (fr:=[]) (js:=[]) rfl (gU (pv 3)) ⇑0 rfl ⇑0 rfl (by exists rm) ⇑0 rfl ⇑0 (λ_ _ _ _ _=>⟨(pv 0),(oq (lP op_gt (jH (r:=qd K) g9 (pv 0) dQ) dQ (qf _)))⟩)
 rwa[ς,u,rfl,⟨_,zL hu⟩,?_];rwa[j7 (K:=K) (a:=u) (xs:=rl) (λi zs HC=>bt H HC/\zs.length<=i/\dg HC zs ((k4 b sp bs (rg.take i)).map rowD)) ⟨bt.refl H,bq _,.nil⟩ (λi zs HC hi ⟨e1,e2,_⟩=>⟨zL (e1 _ _ hu),e2⟩) (by rw[lrl];exact cO ⋯) (λi x zs HC hx ⟨SC,lz,dz⟩=>?_) (λzs HC ⟨SC,lz,dz⟩ D hD=>?_)]
 ·have hi:i<rg.length:=by rw[<-lrl];exact(aw.mp hx).1
  let⟨d,ed,dx⟩:=dl.get hx;rw[av,gE hi] at ed;cases ed;have dx:IsD H x (oH rg[i].2):=dx;have K1:=ff.rk _ (aY hi);have rgi:=K1.rg N ⋯;let⟨pp,ep,_⟩:=K1.way;have dx0:=dx;let⟨pw,yw,rfl,hpw,hlw,rw'⟩:=fJ dx;let⟨q0,hq0,hq0'⟩:=gn rw' (show rg[i].2[0]? =some ⟨rg[i].1,1⟩ by rw[ep];rfl);let⟨qs,hqs,hqs'⟩:=hy rg[i].1 (sAt sp rg[i].1) (jr K1.lt);rwa[ς,ς,ς,.ref t,vb,.ref pw,b,m,sp,bs,rg[i].2,rfl,hv.same SC,⋯,by have:=N.b2;lia,hb.same SC,dx0.same SC,by rw[lb];rwa[rgi.inn],λH4 S4=>⟨ς,?_⟩];have S04:=SC.trans S4;rw[sureR_next hi];cases hs:sureB b bs rg[i].2 with
  | true =>
   rw[tQ rfl];rwa[iteT ⟨ς,ϲ (S04 _ _ ht) 2,ς,ϲ (S04 _ _ hpw) 0 hq0,ϲ (S04 _ _ hq0') 0,ϲ (S04 _ _ hp) rg[i].1 hqs,ϲ (S04 _ _ hqs') 4,ς,lh,λq5 H5 S5 h5=>⟨S04.trans S5,by rw[ax];exact Nat.succ_le_succ lz,?_⟩⟩];rw[au];rwa[((dz.same S4).same S5).append (.cons (.tup h5 (.cons (.int _) (.cons (dx0.same (S04.trans S5)) .nil))) .nil)]
  | false =>
   rw[tP bK,fk];rwa[iteF ⟨S04,⋯,dz.same S4⟩]
 ·have S3:bt H (upd HC D (.lst zs)):=SC.put hD
  have hD3:(upd HC D (.lst zs)) D=some (.lst zs):=aJ;have dz3:=dz.same (bt.put (o:=.lst zs) (bt.refl HC) hD);generalize upd HC D (.lst zs)=H3 at S3 hD3 dz3 ⊢;rw[lrl,aG] at dz3;have lzs:zs.length=(k4 b sp bs rg).length:=by rw[dz3.length,aa]
  have ls:(k4 b sp bs rg).length<=40:=by
   unfold k4 og;rw[aa];rwa[aU (iK _ _) few]
  rwa[ς,D,rfl,⟨_,zL hD3⟩,?_];rwa[j7 (K:=K) (a:=D) (xs:=zs) (λi ws HC=>HC=H3/\ws.length<=i/\dg H3 ws ((((k4 b sp bs rg).take i).filter posR).map rowD)) ⟨rfl,bq _,.nil⟩ (λi ws HC hi ⟨e1,e2,_⟩=>⟨by rw[e1];exact zL hD3,e2⟩) (by rw[lzs];exact cO ⋯) (λi x ws HC hx ⟨e1,lw,dw⟩=>?_) (λws HC ⟨e1,lw,dw⟩ D2 hD2=>?_)]
  ·subst e1
   have hi:i<(k4 b sp bs rg).length:=by rw[<-lzs];rwa[(aw.mp hx).1]
   let⟨d,ed,dx⟩:=dz3.get hx;rw[av,gE hi] at ed;cases ed;have dx0:=dx;let⟨q,xs,rfl,hq,rx⟩:=IsD.tup_of (show IsD HC x (.tup [.int (k4 b sp bs rg)[i].1,oH (k4 b sp bs rg)[i].2]) from dx);obtain⟨y2,rfl⟩:∃y2,xs=[.int (k4 b sp bs rg)[i].1,y2]:=by
    cases rx with
    | cons a rx=>cases a;cases rx with
     | cons _ rx=>cases rx;exact⟨ς⟩
   rwa[ς,ϲ hq 0,τ,ς,?_];have nx:((k4 b sp bs rg).take (i+1)).filter posR=((k4 b sp bs rg).take i).filter posR++(if decide ((k4 b sp bs rg)[i].1 > 0)=true then [(k4 b sp bs rg)[i]] else []):=by
    rw[aE,gE hi,lX];show _++[(k4 b sp bs rg)[i]].filter _=_;rw[kr,List.filter_nil];rfl
   rw[nx];cases hc:decide ((k4 b sp bs rg)[i].1 > 0) with
   | true =>
    rw[tQ rfl];rwa[iteT ⟨ς,rfl,by rw[ax];exact Nat.succ_le_succ lw,?_⟩];rw[au];rwa[dw.append (.cons dx0 .nil)]
   | false =>
    rw[tP bK,fk];rwa[iteF ⟨rfl,(by (constructor <;> lia)),dw⟩]
  ·subst e1
   rwa[D2,ς,zL aJ,λp3 H4 S4 h4=>⟨lh,λq5 H5 S5 h5=>?_⟩];have S35:=(bt.put (o:=.lst ws) (bt.refl HC) hD2).trans (S4.trans S5);rw[lzs,aG] at dw;rwa[k (.ref q5) H5 (S3.trans S35) (.tup h5 (.cons (.str _) (.cons (.tup (S5 _ _ h4) (dw.same S35)) .nil)))]
def scLeafBy:bH ["net","rings","wait","case","dead","leaf"] pzC (defScope sLeafBy):=⇑0
theorem ok_leafBy (F:Fun K "leaf_by" "leaf_by" sLeafBy f fd)(G1:Fn K mg "dead_leaf" sDeadL pzn f1 fd1)(F1:‹0› 4 f1 fd1 pzn rh)
  (G2:Fn K mg "price_leaf" rm pzM f2 fd2) (F2:‹0› 4 f2 fd2 pzM spPriceL)
  (G3:Fn K mg "worth_of" sWorth pzI f3 fd3) (F3:‹0› 3 f3 fd3 pzI spWorth):‹0› 5 f fd pzC spLeafBy:=by
 specialize F.ok scLeafBy;let⟨v,u,q,w0,b,m,sp,l,rg,rg',c,rl,rfl,hv,N,R,R',hu,dl,cd,ok,k⟩:=h;have ff:=R.ff N;have ff':=R'.ff N;have b1:=N.b1;have m2:=N.m2;have fw:=ff.few
 exists 3,scLeafBy,3,G1,8,op_notN,8,G2,14,op_ge,G3
 rwa[ς,ς,v,q,b,m,sp,c.1,c.2,rfl,hv,⋯,by have:=N.b2;lia,cd,ok.few,λz hz=>by rw[ok.ob.len];rwa[((ff'.rk z (ok.sub z hz)).rg N ⋯).inn],λr H1 S1 hd=>?_]
 rcases hd with ⟨rfl,al⟩ | ⟨z,hz,dz,hdz⟩
 rotate_left
 ·have nn:r≠ .non:=λe=>by rw[e] at dz;cases dz
  rwa[ς,rfl,ς,mR ⋯ ?_];rwa[ς,k r H1 S1 (.inl ⟨_,dz,pU z.2,.inl ⟨z.2,rfl,(ff'.rk z (ok.sub z hz)).rg N ⋯,hdz⟩⟩)]
 rwa[ς,rfl,ς,hX (by (constructor <;> lia)) ?_];let⟨vb,u',rl',a1,a2,a3,a4⟩:=(cd.same S1).ex;rwa[ς,ς,ς,ϲ a1,v,vb,u,b,m,sp,l,rg,c.1,rl,rfl,hv.same S1,N,ff,S1 _ _ hu,dl.same S1,a2,ok.ob.len,λr2 H2 S2 d2=>?_];let⟨pok,pfew⟩:=price_ok N ff;rwa[ς,ς,ϲ (S2 _ _ a1),ς,v,vb,r2,b,m,sp,c.1,qe b sp c.1 rg,rfl,⟨(hv.same S1).same S2,a2.same S2,d2,⋯,by have:=N.b2;lia,ok.ob.len,N.few,ob_bu N ok.ob,N.ws,λr hr=>⟨(pok r hr).1.inn,(pok r hr).1.one,(pok r hr).1.few,(pok r hr).2.2.1,(pok r hr).2.2.2⟩,⋯⟩,λH3 S3=>?_];rwa[ς,τ,ς,?_];have S03:=S1.trans (S2.trans S3)
 by_cases e:jN b sp c.1 (qe b sp c.1 rg) ≥ w0
 ·rwa[mR (tS e) ⟨ς,k r2 H3 S03 (.inl ⟨_,d2.same S3,leafW_price _,.inr ⟨ς,pok,pfew,e⟩⟩)⟩]
 ·rwa[hX (tU e) (k .non H3 S03 (.inr ⟨rfl,al,↥2⟩))]
abbrev sWaitOf:bY:=top 48
abbrev sWaitIn:bY:=top 44
abbrev sWaits:bY:=top 45
def scWaitIn:bH ["net","table","span","start","goal","least"] pzN (defScope sWaitIn):=⇑0
theorem ok_waitIn (F:Fun K "wait_in" "wait_in" sWaitIn f fd)(G1:Fn K mg "rest_by" sRest pzl f1 fd1):‹0› 2 f fd pzN spWaitIn:=by
 have F1:‹0› 1 f1 fd1 pzl spRest:=ok_rest G1.F;specialize F.ok scWaitIn;let⟨v,u,b,m,sp,ts,i,x,rfl,hv,hu,R,hx,k⟩:=h;let⟨t,p,ys,rfl,ht,hp,hl,hy⟩:=c5 hv;let⟨q,hq,hq2⟩:=hy i x hx;let⟨s0,s1,g0,g1⟩:=R.ends x (aZ hx)
 exists 3,scWaitIn,39,G1
 rwa[ς,ϲ ht 2,ς,ϲ hp i hq,ϲ hq2 0,?_];rwa[ς,ϲ ht 2,ς,ϲ hp i hq,ϲ hq2 1,?_];rwa[ς,ϲ ht 2,ς,ϲ hp i hq,ϲ hq2 2,?_];rwa[ς,ϲ ht 0,?_];rwa[ς,ς,u,ϱ,zT hu,tm_at g0 g1,ς,ς,u,ϱ,zT hu,tm_at s0 s1,τ,ς,τ,?_];rwa[b,ς,R.b1,k]
def scWaits:bH pzc pzc (defScope sWaits):=⇑0
theorem ok_waits (F:Fun K "waits_of" "waits_of" sWaits f fd)(T:Nm mg)(T2:Nt mg)(G1:Fn K mg "rest_by" sRest pzl f1 fd1)(G2:Fn K mg "wait_in" sWaitIn pzN f2 fd2):‹0› 3 f fd pzc spWaits:=by
 have F2:‹0› 2 f2 fd2 pzN spWaitIn:=ok_waitIn G2.F G1;specialize F.ok scWaits;let⟨v,u,b,m,sp,ts,rfl,hv,hu,R,k⟩:=h;let⟨t,p,ys,rfl,ht,hp,hl,hy⟩:=c5 hv
 exists 98,_,4,eN (fr:=pzc) (js:=[0,1]) rfl (kQ rfl T2.range (aV (cP iG rfl T.len eY (aV (ixZ (pv 0)) b9)) b9)) ⇑0 rfl ⇑0 rfl (by exists sWaits) ⇑0 rfl ⇑0 (λ_ _ _ _ _=>⟨(pc1 G2 F2 hr (aV (pv 1) (aV (pv 2) (aV (pv 0) b9)))),dU⟩)
 have few:=R.few;rwa[ς,ϲ ht 2,p,ς,.inr (zT hp),ς,(by (constructor <;> lia)),⋯,?_]
 let pZ1:zW:=λi zs H2=>H2=H/\zs=(iQ b ts (sp.take i)).map V.int
 rwa[kG (n:=((ys.length:Int)).toNat) pZ1 ⟨rfl,rfl⟩ (λi zs H2 hi ⟨e1,e2⟩=>?_) (by rw[cw,hl];exact cO few) (λi zs H2 hi ⟨e1,e2⟩=>?_) (λzs H2 ⟨e1,e2⟩ D hD=>?_)]
 ·rw[e2,aa];unfold iQ;rw[aa,bD];cbv
 ·subst e1
  rw[cw,hl] at hi;rwa[eZ ?_];rwa[ς,ς,ς,.ref t,u,b,m,sp,ts,i,sp[i],?_,hv,hu,R,gE hi,rfl,?_]
  ·rw[gj];rfl
  ·rw[e2];unfold iQ
   rw[aE,gE hi,au,au];rfl
 ·subst e1
  rwa[D,ς,zL aJ,λp3 H3 S3 h3=>?_];rwa[k p3 H3 ((bt.put (bt.refl H2) hD).trans S3) ?_];rw[h3,e2,cw,hl,aG]
def scWaitOf:bH pzc pzc (defScope sWaitOf):=⇑0
theorem ok_waitOf (F:Fun K "wait_of" "wait_of" sWaitOf f fd)(T:Nm mg)(T2:Nt mg)(G1:Fn K mg "waits_of" sWaits pzc f1 fd1)(F1:‹0› 3 f1 fd1 pzc spWaits):‹0› 4 f fd pzc nW:=by
 specialize F.ok scWaitOf;let⟨v,u,b,m,sp,ts,rfl,hv,hu,R,hw,k⟩:=h;let⟨t,p,ys,e0,ht,hp,hl,hy⟩:=c5 hv;subst e0
 exists 98,_,2,cP (call_sum rfl) rfl T2.sum boot_sum ?_,1,qP (fr:=[]) (js:=[]) rfl (pi_zip2 rfl T2.zip (aV (ixZ (pv 0)) (aV (pc1 G1 F1 hr (aV (pv 0) (aV (pv 1) b9))) b9))) ⇑0 rfl ⇑0 ∅ rfl ⇑0 (λ_ _ _ _ _=>pg_two rfl ⇑0 rfl rfl) (λ_ _ _ _ _=>⟨(sQ op_mul (jH (r:=qd K) g9 (pv 0) dQ) (pv 1)),dU⟩)
 have few:=R.few;rwa[ς,ϲ ht,ς,ς,_,u,b,m,sp,ts,rfl,hv,hu,R,λp1 H1 S1 h1=>?_];rwa[⟨false,p⟩,⟨false,p1⟩,_,ς,S1 _ _ hp,h1,?_];rwa[tK (λi zs H2=>bt H1 H2/\zs=((sp.take i).map λx=>x.w * fq b ts x).map V.int) ⟨bt.refl H1,rfl⟩ (λi zs H2 hi ⟨S2,e2⟩=>⟨S2 _ _ (S1 _ _ hp),S2 _ _ h1,?_⟩) (by grind [iQ,aa]) (by rw[hl];exact cO few) (λi x y zs pz H2 hx hx' ⟨S2,e2⟩ hpz=>?_) (λzs H2 ⟨S2,e2⟩ D hD=>?_)]
 ·cbv
 ·have hi:i<sp.length:=↥1
  let⟨q,hq,hq2⟩:=hy i sp[i] (gE hi);rw[hx] at hq;cases hq;unfold iQ at hx';rw[av,av,gE hi] at hx';cases hx';have S3:bt H1 (upd H2 pz (.tup [.ref q,.int (fq b ts sp[i])])):=S2.put hpz;have hq3:=S3 _ _ (S1 _ _ hq2);let⟨w0,w1⟩:=hw sp[i] (aY hi);rwa[ς,ϲ hq3,ς,τ,.inl ⟨⋯,⋯⟩,S3,?_]
  grind [aE,gE,au]
 ·rwa[D,ς,zL (by rw[e2];rwa[aJ]),?_]
  have e3:((sp.take ys.length).map λx=>x.w * fq b ts x).sum=cp b ts sp:=by
   unfold cp;rw[hl,aG]
  rw[e3];rwa[k _ (S1.trans (S2.put hD))]
abbrev nA:bY:=top 77
noncomputable def lamE6:List bY->Expr
 | [_,_,_,_,_,.Return (some (.Tuple [_,_,_,.Call _ [_,e] _ _] _ _)) _]=>e
 | _=>.Constant .none 0 ⟨0,0,0,0⟩
abbrev laB:gi:=lamA5 (lamE6 (gp nA))
abbrev lbB:Expr:=lamB5 (lamE6 (gp nA))
abbrev lsB:ft:=lamS5 (lamE6 (gp nA))
abbrev lqB:Str:=(("best_for" :Str) ++ ".<locals>.") ++ "<lambda>"
def LmOk.imp2 {k:Nat}{Hg:Hp->Prop}{sp sp':Sp}(L:LmOk P w K mg base k f Hf sp')(h:∀H,Hg H->Hf H)(h2:∀v H Q,Hg H->sp [v] H Q E0->sp' [v] H Q E0):LmOk P w K mg base k f Hg sp:=⟨λH hh g=>L.isFn H hh (h H g),λA outer s H u v Q hr e0 g ru hsp=>L.run A outer s H u v Q hr e0 (h H g) ru (h2 v H Q g hsp)⟩
def LamT.stayF {T:ai}(k:LamT T lp lq H)(hT:∀ps,H T=some (.tbl ps)->H' T=some (.tbl ps))(hf:∀a o u,H a=some (.frz o u)->H' a=some (.frz o u)):LamT T lp lq H':=LamG.stay k hT hf
theorem LamG.cutF {T:ai}(F:Fz fz H)(cl:∀c o,fz c=some o->∃v,o.data= .cell v)(h:LamG T lq H):LamG T lq (ctF H fz):=by
 let⟨l,e,r⟩:=h;rwa[l,F.cut e (λ_ z=>by cases z),λx hx=>?_];let⟨oc,vs,t,e2,hd,z⟩:=r x hx;rwa[oc,vs,t,?_,hd,z];cases q:fz x.2 with
 | none=>rw[iF q];rwa[e2]
 | some o' =>
  let⟨v,hv⟩:=cl _ o' q;rw[F _ o' q] at e2;cbv
theorem lay_all {m:Int}{rg:zK}{t T:zI}(N:iC b m sp)(f:FF m sp l rg)(h1:gM b t sp=true)(h2:gM b T sp=true)(e:∀k∈l,iW b t sp k=iW b T sp k):∀k,k<sp.length->iW b t sp k=iW b T sp k:=λk hk=>by
 by_cases c:k∈l
 ·rwa[e k c]
 have hb:0<b:=by have:=N.b1;lia
 have m2:=N.m2;have fw:=f.few;let⟨r,hr⟩:=f.all k hk c;have R:=f.rk _ hr;have rgk:=R.rg N ⋯;let⟨p,ep,P⟩:=R.way;have ep:r=⟨k,1⟩::p:=ep;let⟨x0,al⟩:=rgk.rnd;let⟨Z1,a1⟩:=alg_way (b:=b) (ts:=t) (sp:=sp) r x0 x0 rgk.inn al;let⟨Z2,a2⟩:=alg_way (b:=b) (ts:=T) (sp:=sp) r x0 x0 rgk.inn al;have same:∀(q:zP),(∀s∈q,s.i∈l)->alg (iW b t sp) q=alg (iW b T sp) q:=λq=>by
  induction q with
  | nil=>intro _;rfl
  | cons s q ih =>
   grind [iW,alg,az]
 have sp':=same p λs hs=>(P.inn s hs).1
 rw[ep] at a1 a2;have a1:1 * iW b t sp k+alg (iW b t sp) p=tm t x0 - tm t x0+b * Z1:=a1;have a2:1 * iW b T sp k+alg (iW b T sp) p=tm T x0 - tm T x0+b * Z2:=a2;have i1:=lay_in hb h1 k ↥2;have i2:=lay_in hb h2 k ↥2;have s:=N.all _ (dB hk);have eb:(sp.map λx=>(x.l,x.o)).getD k (0,0)=((sAt sp k).l,(sAt sp k).o):=by
  rw[af,av,jr hk];rfl
 rw[eb] at i1 i2;have i1:(sAt sp k).l<=iW b t sp k/\iW b t sp k<=(sAt sp k).o:=i1;have i2:(sAt sp k).l<=iW b T sp k/\iW b T sp k<=(sAt sp k).o:=i2;have ob:=s.ob;have d:iW b t sp k - iW b T sp k=b * (Z1 - Z2):=by lia
 rcases Int.lt_or_le 0 (Z1 - Z2) with z | z
 ·have:b * 1<=b * (Z1 - Z2):=cW ⋯ ⋯
  lia
 ·rcases Int.lt_or_le (Z1 - Z2) 0 with z' | z'
  ·have:b * (Z1 - Z2)<=b * (-1):=cW ⋯ ⋯
   lia
  grind
theorem wait_same {t T:zI}(e:∀k,k<sp.length->iW b t sp k=iW b T sp k):cp b t sp=cp b T sp:=by
 rw[qr,qr,<-l7,<-l7];congr 1;rwa[c9 λk hk=>?_]
 rw[e k (cg.mp hk)]
structure BestA (H:Hp)(q:ai)(b m:Int)(sp:zS)(qt:ai)(ts:zI)(u:V)(t:Tq):Prop where
 q:H q=some (.tup [.str "best",.ref qt,.int (cp b ts sp),u])
 qt:H qt=some (.tup (ts.map V.int))
 tab:nQ b m sp ts
 least:∀T,gM b T sp=true->cp b ts sp<=cp b T sp
 tree:IsD H u (jG t)
 pl:pl (jG t)=true
 good:mW (RBest b sp (cp b ts sp)) t (sp.map λz=>(z.l,z.o)) 21
 sz:siz t<=8191
structure NoneA (H:Hp)(q:ai)(b:Int)(sp:zS)(u:V)(t:Tq):Prop where
 q:H q=some (.tup [.str "none",u])
 tree:IsD H u (jG t)
 pl:pl (jG t)=true
 no:∀T,¬gM b T sp=true
 good:mW (RDead b sp) t (sp.map λz=>(z.l,z.o)) 21
 sz:siz t<=8191
inductive spBest (T0:ai)(p0:Pos)(q0:Str)(T1:ai)(p1:Pos)(q1:Str)(T2 T3:ai)(vs:zA)(H:Hp)(Q:VK)(_:XK):Prop
 | mk (v:V)(b m:Int)(sp:zS)(_:vs=[v])(_:‹4›)(_:iC b m sp)(_:(∀l,jM m.toNat sp l->jg sp l<=4096))(_:LamT T0 p0 q0 H)(_:LamT T1 p1 q1 H)(_:LamT T2 lpT lqT H)(_:LamG T3 lqB H)(_:∀(q:ai) (H':Hp),Kp H H'->LamT T0 p0 q0 H'->LamT T1 p1 q1 H'->LamT T2 lpT lqT H'->LamG T3 lqB H'->((∃u t,NoneA H' q b sp u t)\/∃qt ts u t,BestA H' q b m sp qt ts u t)->Q (.ref q) H')
def scBestF:bH ["net","found","table","wait","rings"] pza (defScope nA):=⇑0
theorem ok_best {f6 c T2:ai}{fd6:aM}(F:Fun K "best_for" "best_for" nA f fd)(hcd:fd.code= .ref c)(CH:d5 K c T3=true)(B:BM mg base)(T:Nm mg)(MC:∃t,mg "MOST_CASES" =some (.int 4096 t))(ne:T0≠T1)(n2:T2≠T0)(n3:T2≠T1)(m0:T3≠T0)(m1:T3≠T1)(m2:T3≠T2)
  (G1:Fn K mg "table_for" kl pza f1 fd1) (F1:‹0› 12 f1 fd1 pza (oQ T0 p0 q0 T1 p1 q1 T2))
  (G2:Fn K mg "tables_that_fit" sTabF pzt f2 fd2) (F2:‹0› 11 f2 fd2 pzt (spTabF T0 p0 q0 T1 p1 q1))
  (G3:Fn K mg "tree_by" sTreeB pzu f3 fd3) (F3:‹0› 11 f3 fd3 pzu (qy P w K mg base T0 p0 q0 T1 p1 q1))
  (G4:Fn K mg "leaf_by" sLeafBy pzC f4 fd4) (F4:‹0› 5 f4 fd4 pzC spLeafBy)
  (G5:Fn K mg "wait_of" sWaitOf pzc f5 fd5) (F5:‹0› 4 f5 fd5 pzc nW)
  (G6:Fn K mg "rings_of" rj pza f6 fd6) (F6:‹0› 8 f6 fd6 pza (qA T0 p0 q0)):‹0› 13 f fd pza (spBest T0 p0 q0 T1 p1 q1 T2 T3):=by
 rwa[okC F hcd scBestF (by contradiction) (λA outer s H vs Q E hr h=>?_)];let⟨v,b,m,sp,rfl,hv,N,hc,hT0,hT1,hT2,hT3,k⟩:=h;have hr11:kX 11 _:=hr.mono ↥0
 exists 5,scBestF,3,G1,18,pe_minL (js:=[0]) (fr:=pza) rfl hr.depth rfl T.min (pc1 G2 F2 hr11 (aV (pv 0) (aV (nH MC) b9))) rfl rfl CH B (λ_ _ _ _ _ _=>rfl) rfl rfl rfl ⇑0 rfl ↥0 (by exists nA) rfl ⇑0 (λcl L f' cd s' H'=>pc1 G5 F5 (((hr.in1).in1).deeper _) (aV (pv 1) (aV (pv 0) b9))),2,G5,7,G6,13,pe_callZ (scope:=lsB) (fr:=["net","rings","wait"]) (js:=[0,4,3]) F3 hr11 (λ_=>rfl) rfl G3.mg G3.F.kp G3.b rfl ⇑0 (by exists nA) (aV (pv 0) (aV (pe_lamG rfl rfl CH B (by exists nA)) b9))
 let⟨ps0,et0⟩:=LamT.tbl hT0;let⟨ps1,et1⟩:=LamT.tbl hT1;let⟨ps2,et2⟩:=LamT.tbl hT2;rwa[ς,v,b,m,sp,rfl,hv,N,hc,hT0,hT1,hT2,λq H1 st1 kp1 hT01 hT11 hT21 ans=>?_];have hT31:LamG T3 lqB H1:=hT3.stay ↥1 ↥1;have hv1:=cf kp1.tup hv
 rcases ans with ⟨qt0,t0,hq,hqt,tok0⟩ | ⟨u,t,hq,du,plu,nof,gd,sz⟩
 rotate_left
 ·rwa[ς,ϲ hq,rfl,ς,mR (tS rfl) ?_]
  rwa[ς,k q H1 kp1 hT01 hT11 hT21 hT31 (.inl ⟨u,t,hq,du,plu,nof,gd,sz⟩)]
 rwa[ς,ϲ hq,rfl,ς,hX (tU nofun) ?_];let⟨qs0,eu0⟩:=LamT.tbl hT01;let⟨qs1,eu1⟩:=LamT.tbl hT11;rwa[ς,v,b,m,sp,4096,rfl,hv1,N,↥0,hc,hT01,hT11,λL tv l rg Ts H2 st2 kp2 hT02 hT12 hL dL R tabs few hold=>?_];have fz2:∀a o u,H1 a=some (.frz o u)->H2 a=some (.frz o u):=λa o u e=>st2 _ _ (fj e eu0 ∅) (fj e eu1 ∅) e
 have hT22 :=LamT.stayF hT21 ↥1 fz2;have hT32 :=hT31.stay ↥1 fz2;have hv2:=cf kp2.tup hv1;have ff:=R.ff N;have holdA:=hold (.inr rfl);have ltv:tv.length=Ts.length:=by rw[dL.length];simp
 have hne:tv≠[]:=λz=>by
  let⟨t,ht,_⟩:=holdA t0 tok0.2.2
  grind
 have nm1:=N.m1;have rdyT:∀t∈Ts,Rdy b t sp:=λt ht=>N.rdy (by have:=(tabs t ht).1;grind)
 have getT:∀(i:Nat) x,tv[i]? =some x->∃qx,x= .ref qx/\H2 qx=some (.tup ((Ts.getD i []).map V.int))/\Ts.getD i []∈Ts:=λi x hx=>by
  have hi:i<Ts.length:=↥1
  let⟨d,ed,dx⟩:=dL.get hx;unfold gu at ed;rw[av,gE hi] at ed;cases ed;let⟨qx,xs,rfl,hqx,rx⟩:=dx.tup_of;have:=rx.ints_of;subst this;have e:Ts.getD i []=Ts[i]:=by rw[af,gE hi];rfl
  rw[e];rwa[qx,rfl,hqx,aY hi]
 let⟨qs3,eu3⟩:=hT32.tbl;rwa[L,tv,λi=>cp b (Ts.getD i []) sp,rfl,hL,hne,hT32,λi x hx H3 tb=>?_,λH4 i x tb4 hT34 hx mini=>?_]
 ·let⟨qx,rfl,hqx,memx⟩:=getT i x hx
  have nqx :=fj hqx eu3 ⋯;rwa[ς,ς,v,qx,b,m,sp,ς,cf (λa xs e=>tb _ _ (fj e eu3 ∅) e) hv2,tb _ _ nqx hqx,rdyT _ memx,N.ws,⋯]
 let⟨qx,rfl,hqx,memx⟩:=getT i x hx;obtain⟨ts,ets⟩:∃ts,ts=Ts.getD i []:=⟨ς⟩;have mini:∀j,j<tv.length->cp b (Ts.getD i []) sp<=cp b (Ts.getD j []) sp:=mini;rw[<-ets] at hqx memx mini;have tok:=tabs ts memx;have kp4:Kp H2 H4:=⟨λa xs e=>tb4 _ _ (fj e eu3 ∅) e,λa xs e=>tb4 _ _ (fj e eu3 ∅) e,λa _ xs e=>tb4 _ _ (fj e eu3 ∅) e⟩;have least:∀T',gM b T' sp=true->cp b ts sp<=cp b T' sp:=λT' hT'=>by
  let⟨t',ht',el⟩:=holdA T' hT';rw[<-wait_same (lay_all N ff (tabs t' ht').2.2 hT' el)];let⟨j,hj,rfl⟩:=List.mem_iff_getElem.mp ht';have:=mini j ⋯;have e:Ts.getD j []=Ts[j]:=by rw[af,gE hj];rfl
  lia
 have fz4:∀a o u,H2 a=some (.frz o u)->H4 a=some (.frz o u):=λa o u e=>tb4 _ _ (fj e eu3 ∅) e
 have hT04 :=LamT.stayF hT02 (λps e=>tb4 _ _ (cM m0) e) fz4;have hT14 :=LamT.stayF hT12 (λps e=>tb4 _ _ (cM m1) e) fz4;have hT24 :=LamT.stayF hT22 (λps e=>tb4 _ _ (cM m2) e) fz4;have hv4:=cf kp4.tup hv2;have hqx4:=kp4.tup _ _ hqx;rwa[ς,ς,v,qx,b,m,sp,ts,rfl,hv4,hqx4,rdyT ts memx,N.ws,λH5 S5=>?_];obtain⟨w0,ew0⟩:∃w0,w0=cp b ts sp:=⟨ς⟩;rw[<-ew0];rwa[ς,v,b,m,sp,rfl,hv4.same S5,N,LamT.same S5 hT04,λu6 rl l6 rg6 H6 tb6 hT06 fr6 hu6 dl6 R6=>?_];have hT05:=LamT.same S5 hT04;let⟨qs5,eu5⟩:=LamT.tbl hT05;have kp6 :=Tb.kp hT05 tb6;have fz6:∀a o u,H5 a=some (.frz o u)->H6 a=some (.frz o u):=λa o u e=>tb6 _ _ (fj e eu5 ∅) e
 have hT16 :=LamT.stayF (LamT.same S5 hT14) (λps e=>tb6 _ _ (cM ne) e) fz6;have hT26 :=LamT.stayF (LamT.same S5 hT24) (λps e=>tb6 _ _ n2 e) fz6;have hT36 :=(hT34.same S5).stay (λps e=>tb6 _ _ m0 e) fz6;have hv6:=cf kp6.tup (hv4.same S5);have hqx6:=kp6.tup _ _ (S5 _ _ hqx4);rwa[ς,ς,ς,hT36,λg cl' H7 tb7 hT37 LF LE=>⟨cl',[v,.ref u6,.int w0],LE,rfl,λfz C0 N0=>?_⟩];let⟨qs6,eu6⟩:=hT36.tbl;have fz7:∀a o u,H6 a=some (.frz o u)->H7 a=some (.frz o u):=λa o u e=>tb7 _ _ (fj e eu6 ∅) e
 have kp7:Kp H6 H7:=⟨λa xs e=>tb7 _ _ (fj e eu6 ∅) e,λa xs e=>tb7 _ _ (fj e eu6 ∅) e,λa _ xs e=>tb7 _ _ (fj e eu6 ∅) e⟩;have SP:=qO N0;have hT08 :=LamT.same SP (LamT.stayF hT06 (λps e=>tb7 _ _ (cM m0) e) fz7);have hT18 :=LamT.same SP (LamT.stayF hT16 (λps e=>tb7 _ _ (cM m1) e) fz7);have hT28 :=LamT.same SP (LamT.stayF hT26 (λps e=>tb7 _ _ (cM m2) e) fz7);have hT38 :=hT37.same SP;have LF :=LF;have LF8:=LF.same SP;have hv8:=(cf kp7.tup hv6).same SP;have hu8 :=SP _ _ (kp7.lst _ _ hu6);have dl8 :=(wayQ_kp kp7 dl6).same SP;let⟨qs8,eu8⟩:=LamT.tbl hT08;let⟨qt8,ev8⟩:=LamT.tbl hT18;have nm2:=N.m2;have LM:LmOk P w K mg base 6 g (sL T0 T1 (ptF H7 fz)) (qG v b m sp (RBest b sp w0)):=by
  rwa[LmOk.imp2 (sp':=λvs Hx Qx E=>(Hx u6=some (.lst rl)/\dg Hx rl (rg6.map wayQ))/\qG v b m sp (RBest b sp w0) vs Hx Qx E) (lam_run (q:=lqB) (params:=laB) (body:=lbB) (scope:=lsB) (λ_ _ _ _=>rfl) rfl rfl rfl ⇑0 rfl ↥0 C0 (λy hy hf=>?_) ⇑0 (λL' cd A' outer' s' H' hr'=>pc1 (jk:=ay _) G4 F4 hr' (aV (pv 1) (aV (pv 2) (aV (pv 3) (aV (pv 0) b9))))) (λv' Hx Qx _ Zx hsp=>?_)) (λHx st=>?_) λv' Hx Qx st hsp=>⟨⟨?_,?_⟩,hsp⟩]
  ·have e :=(by trivial:∀y:Str×fY,y∈lsB.names→y.2=fY.free→y.1 = "net" ∨y.1 = "rings" ∨y.1 = "wait") y hy hf
   rcases e with e | e | e
   ·let⟨cc,_,_,ec,_⟩:=C0.val 0 "net" v rfl rfl
    rwa[cc,⋯]
   ·let⟨cc,_,_,ec,_⟩:=C0.val 1 "rings" (.ref u6) rfl rfl
    rwa[cc,⋯]
   ·let⟨cc,_,_,ec,_⟩:=C0.val 2 "wait" (.int w0) rfl rfl
    rwa[cc,⋯]
  ·let⟨⟨hux,dlx⟩,l2,rg2,q2,c2,e2,R2,cd2,ok2,hvx,kk⟩:=hsp
   cases e2;have KX:=ctF_kp Zx;have el :=jM.one R2.fr R6.fr;subst el;have f6:=R6.ff N;have f2:=R2.ff N;rwa[ς,ς,ς,ς,v,u6,q2,w0,b,m,sp,l2,rg6,rg2,c2,rl,rfl,cf KX.tup hvx,N,R6,R2,KX.lst _ _ hux,wayQ_kp KX dlx,cd2.kp KX,ok2,λr H' S' ans fr'=>?_];rwa[kk r _ (ptF_back Zx S') ?_]
   rcases ans with ⟨d,dd,dw,rb⟩ | ⟨rfl,al,lt⟩
   ·rwa[.inl ⟨d,IsD.keepP (bt.tupK (qO fr')) dd dw.1,dw,rb⟩]
   ·apply .inr ⟨rfl,al,dv λnz=>?_⟩
    have ht2:=f2.acy.nodup.2;have fix:∀j∈l2,(c2.1.getD j (0,0)).1=(c2.1.getD j (0,0)).2:=λj hj=>by
     have h1:=(ok2.ob.lo j (ht2 j hj)).2.1;have h2:¬((c2.1.getD j (0,0)).1<(c2.1.getD j (0,0)).2):=λz=>nz ⟨j,hj,z⟩
     lia
    let⟨ts',hf',hw'⟩:=price_tight N f6 ok2.ob (fx_other N f6 f2 ok2.ob ⟨fix,ok2.all al⟩);have:=least ts' hf';lia
  ·have fz':∀a o u,ptF H7 fz a=some (.frz o u)->Hx a=some (.frz o u):=λa o u e=>st a _ (fj e eu8 ∅) (fj e ev8 ∅) e
   let⟨pm,cd,ct,e,oc,vs,t,ec,r⟩:=LF8;rwa[⟨pm,cd,ct,fz' _ _ _ e,oc,vs,t,fz' _ _ _ ec,r⟩,λa o z=>fz' _ _ _ (rM z)]
  ·rwa[st _ _ ⋯ ⋯ hu8]
  ·rwa[dg.keepP (λa xs e=>st _ _ (fj e eu8 ∅) (fj e ev8 ∅) e) dl8 (lQ rg6 λq _=>lR _ _)]
 rwa[v,g,b,m,sp,RBest b sp w0,rfl,hv8,N,hc,hT08,hT18,LM,λu t H9 st9 kp9 hT09 hT19 du plu gd sz Z9=>?_];have KC:=ctF_kp Z9;have fz9:∀a o u,ptF H7 fz a=some (.frz o u)->H9 a=some (.frz o u):=λa o u e=>st9 _ _ (fj e eu8 ∅) (fj e ev8 ∅) e
 have hT29 :=LamT.stayF hT28 (λps e=>st9 _ _ n2 n3 e) fz9;have hT39 :=hT38.stay (λps e=>st9 _ _ m0 m1 e) fz9;rwa[szZ4,λqa HA SA hA=>?_];have kpA :=kp1.trans (kp2.trans (kp4.trans ((bt.kp S5).trans (kp6.trans (kp7.trans ((bt.kp SP).trans (kp9.trans (KC.trans (bt.kp SA)))))))));have hqxA :=SA _ _ (KC.tup _ _ (kp9.tup _ _ (SP _ _ (kp7.tup _ _ hqx6))));rwa[k qa HA kpA (LamT.same SA (LamT.cutF Z9 C0.cell hT09)) (LamT.same SA (LamT.cutF Z9 C0.cell hT19)) (LamT.same SA (LamT.cutF Z9 C0.cell hT29)) ((LamG.cutF Z9 C0.cell hT39).same SA) (.inr ⟨qx,ts,u,t,?_,hqxA,tok,least,(IsD.keepP KC.tup du plu).same SA,plu,?_,sz⟩)]
 ·lia
 lia
abbrev sSides:bY:=top 58
abbrev rp:bY:=top 59
def PlAt (H Hc:Hp)(y:V)(p:zB×Tq):Prop:=∃(q:ai) (vb vd:V),y= .ref q/\Hc q=some (.tup [vb,vd])/\IsD Hc vb (pY p.1)/\IsD H vd (jG p.2)
theorem PlAt.keep {Hd:Hp}{p:zB×Tq}(h:PlAt H Hc y p)(e:kh Hc Hd):PlAt H Hd y p:=by
 let⟨q,vb,vd,a,b,c,d⟩:=h;let⟨pb,yb,rfl,hpb,_,rb⟩:=fJ c;rwa[q,_,vd,a,e _ _ b,.tup (e _ _ hpb) (eM e rb),d]
inductive sU (H Hc:Hp):zA->List (zB×Tq)->Prop where
 | nil:sU H Hc [] []
 | cons {y:V} {p:zB×Tq} {ys:zA} {ps:List (zB×Tq)} (h:PlAt H Hc y p) (r:sU H Hc ys ps):sU H Hc (y::ys) (p::ps)
theorem sU.keep {H Hc Hd:Hp}(e:kh Hc Hd):∀{ys:zA} {ps:List (zB×Tq)},sU H Hc ys ps->sU H Hd ys ps
 | _,_,.nil=>.nil
 | _,_,.cons h r=>.cons (h.keep e) (sU.keep e r)
theorem sU.length:∀{ys:zA} {ps:List (zB×Tq)},sU H Hc ys ps->ys.length=ps.length
 | _,_,.nil=>rfl
 | _,_,.cons _ r=>by rw[bE,bE,r.length]
def nu (ps:List (zB×Tq)):Nat:=(ps.map λp=>siz p.2).sum
def scSides:bH ["bounds","cut","span","at","low","high","one","other"] pzO (defScope sSides):=⇑0
theorem ok_sides (F:Fun K "sides_of" "sides_of" sSides f fd)(G1:Fn K mg "with_bound" sWithB pzs f1 fd1):‹0› 2 f fd pzO spSides:=by
 have F1:‹0› 1 f1 fd1 pzs spWithB:=ok_withB G1.F;specialize F.ok scSides;let⟨vb,p,bs,n,a,x3,x4,rfl,hb,hp,hn,few,k⟩:=h;let⟨pb,yb,rfl,hpb,hlb,rb⟩:=fJ hb;let⟨qn,hqn,hqn2⟩:=gn rb (gE hn);have e0:bs.getD n (0,0)=bs[n]:=by rw[af,gE hn];rfl
 have e1:kF bs n a=bs.set n (bs[n].1,a):=by unfold kF;rw[e0]
 have e2:de bs n a=bs.set n (a+1,bs[n].2):=by unfold de;rw[e0]
 exists 6,scSides,35,G1,19,G1
 rwa[ς,ϲ hp 1,?_];rwa[ς,ϲ hp 2,?_];rwa[ς,ς,ϲ hpb n hqn,ϲ hqn2 0,?_];rwa[ς,ς,ϲ hpb n hqn,ϲ hqn2 1,?_];rwa[ς,ς,ς,ς,.ref pb,n,bs[n].1,a,bs,rfl,hb,hn,few,λu1 H1 S1 hu1=>?_];rwa[ς,ϲ (S1 _ _ hp) 3,lh,λq2 H2 S2 h2=>?_];have S02:=S1.trans S2;rwa[ς,ς,ς,τ,ς,.ref pb,n,a+1,bs[n].2,bs,rfl,hb.same S02,hn,few,λu3 H3 S3 hu3=>?_];rwa[ς,ϲ (S3 _ _ (S02 _ _ hp)) 4,lh,λq4 H4 S4 h4=>?_];rwa[ς,ς,lh,λq5 H5 S5 h5=>?_];have S15:bt H2 H5:=S3.trans (S4.trans S5);rwa[k q5 q2 q4 u1 u3 H5 (S02.trans S15) h5 (S15 _ _ h2) ?_ (S5 _ _ h4) ?_]
 ·rw[e1];rwa[(hu1.same S2).same S15]
 ·rw[e2];rwa[(hu3.same S4).same S5]
abbrev qI:bY:=top 101
def HdOk (d:Dt):Prop:=∃w ds,d= .tup (.str w::ds)/\w ≠ "cut"
def HdsOk:Tq->Prop
 | .leaf d=>HdOk d
 | .cut _ _ x y=>HdsOk x/\HdsOk y
theorem leaf_hd (l:Lf):HdOk (my l):=by
 cases l with
 | ring ws=>rwa["ring",ς,↥0]
 | price rows=>rwa["price",ς,↥0]
theorem drT_hd {b:Int}{sp:zS}:∀(t:Tq) (bs:zB),DrT b sp t bs->HdsOk t
 | .leaf d,_,h=>by let⟨lf,rfl,_⟩:=h;rwa[leaf_hd lf]
 | .cut k a x y,bs,h=>⟨drT_hd x _ h.2.2.2.1,drT_hd y _ h.2.2.2.2⟩
def InsT:Tq->zB->Prop
 | .leaf _,_=>True
 | .cut k a x y,bs=>k<bs.length/\InsT x (kF bs k a)/\InsT y (de bs k a)
theorem sA {b:Int}{sp:zS}:∀(t:Tq) (bs:zB),DrT b sp t bs->InsT t bs
 | .leaf d,_,h=>trivial
 | .cut k a x y,bs,h=>⟨h.1,sA x _ h.2.2.2.1,sA y _ h.2.2.2.2⟩
inductive nk (dd:Nat)(vs:zA)(H:Hp)(Q:VK)(_:XK):Prop
 | mk (u vb:V)(t:Tq)(bs:zB)(_:vs=[u,vb])(_:dpT t<dd)(_:siz t<=9000)(_:IsD H u (jG t))(_:HdsOk t)(_:InsT t bs)(_:IsD H vb (pY bs))(_:bs.length<=40)(_:∀R ys H',bt H H'->H' R=some (.lst ys)->dg H' ys ((lvs t bs).map plcD)->Q (.ref R) H')
def scLeavesL:bH ["_law_tree","_law_bounds_here","_law_k","_law_one","_law_other"] pzo (defScope qI):=⇑0
theorem ok_leavesL0:‹0› 0 f fd pzo (nk 0):=
 ⟨fun vs H Q E h=>by obtain ⟨u,vb,t,bs,rfl,_⟩:=h;rfl,fun A outer s H args us vs Q E _ _ _ _ h=>by
  let⟨u,vb,t,bs,_,h0,_⟩:=h
  cbv⟩
theorem ok_leavesL1 {dd:Nat}(G1:Fn K mg "_law_leaves" qI pzo f fd)(F1:‹0› dd f fd pzo (nk dd)):‹0› (dd+1) f fd pzo (nk (dd+1)):=by
 specialize G1.F.ok scLeavesL;let⟨u,vb,t,bs,rfl,hdd,hdd7,hu,hhd,hin,hvb,few,k⟩:=h
 exists 4,scLeavesL,12,nG ?_,18,lT,1,lT,36,lT,1,lT,39,op_catL,G1,8,G1
 cases t with
 | leaf d =>
  let⟨z,ds,rfl,hz⟩:=hhd;let⟨p,xs,rfl,hp,rx⟩:=IsD.tup_of (hu);cases rx with
  | cons r0 rr =>
   cases r0;rwa[ς,ϲ hp,rfl,ς,?_];rwa[mR ⋯ ?_];rwa[ς,ς,lh,λq1 H1 S1 h1=>⟨szZ1,λq2 H2 S2 h2=>?_⟩];have S02:=S1.trans S2;rwa[k q2 _ H2 S02 h2 (.cons (.tup (S2 _ _ h1) (.cons (hvb.same S02) (.cons (hu.same S02) .nil))) .nil)]
 | cut kk a x y =>
  let⟨i1,i2,i3⟩:=hin;let⟨p,xs,rfl,hp,rx⟩:=IsD.tup_of (hu);cases rx with
  | cons g0 gr=>cases gr with
   | cons g1 gr=>cases gr with
    | cons g2 gr=>cases gr with
     | cons g3 gr=>cases gr with
      | cons g4 gr =>
       cases gr;cases g0;cases g1;cases g2;rename_i x3 x4;let⟨pb,yb,rfl,hpb,lyb,rb⟩:=fJ hvb;let⟨qn,hqn,hqn2⟩:=gn rb (gE i1);have e0:bs.getD kk (0,0)=bs[kk]:=↥2
       rwa[ς,ϲ hp,rfl,ς,hX ↥0 ?_];rwa[ς,ϲ hp,?_];rwa[ς,ς,ς,pb,ς,hpb,λqB HB SB hB=>⟨ς,ς,ϲ (SB _ _ hpb) _ hqn,ϲ (SB _ _ hqn2),ς,ϲ (SB _ _ hp),lh,λq1 H1 S1 h1=>⟨szZ1,λqC HC SC hC=>?_⟩⟩];rw[cutU (n:=kk) ⋯] at hB;rwa[qB,qC,τ,SC _ _ (S1 _ _ hB),hC,?_,λqD HD SD hD=>?_]
       ·rw[bD];rwa[aU (by show min kk yb.length+1<=20000;lia) ↥0]
       rwa[ς,ς,τ,ς,pb,ς,SD _ _ (SC _ _ (S1 _ _ (SB _ _ (hpb)))),λqE HE SE hE=>?_];rw[cutF (n:=kk+1) (by (constructor <;> lia))] at hE;rwa[qD,qE,τ,SE _ _ hD,hE,?_,λqa H2 SF hF=>?_]
       ·rw[ax,bD,gk];rwa[aU (by show min kk yb.length+1+(yb.length - (kk+1))<=20000;lia) ↥0]
       have S1F :=SC.trans (SD.trans (SE.trans SF));have S2 :=SB.trans (S1.trans S1F);have hb2:IsD H2 (.ref qa) (pY (bs.set kk (bs[kk].1,a))):=by
        rwa[.tup hF ?_];rw[set_cat i1,au,au,List.map_take,List.map_drop];rwa[((dg.takeN kk (rb.same S2)).append (.cons (.tup (S1F _ _ h1) (dg.ints [bs[kk].1,a])) .nil)).append (dg.dropN (kk+1) (rb.same S2))]
       rwa[ς,ς,ς,pb,ς,S2 _ _ hpb,λqB HB SB hB=>⟨ς,ϲ (SB _ _ (S2 _ _ hp)),τ,ς,ς,ϲ (SB _ _ (S2 _ _ hpb)) _ hqn,ϲ (SB _ _ (S2 _ _ hqn2)),lh,λq1 H1 S1 h1=>⟨szZ1,λqC HC SC hC=>?_⟩⟩];rw[cutU (n:=kk) ⋯] at hB;rwa[qB,qC,τ,SC _ _ (S1 _ _ hB),hC,?_,λqD HD SD hD=>?_]
       ·rw[bD];rwa[aU (by show min kk yb.length+1<=20000;lia) ↥0]
       rwa[ς,ς,τ,ς,pb,ς,SD _ _ (SC _ _ (S1 _ _ (SB _ _ (S2 _ _ hpb)))),λqE HE SE hE=>?_];rw[cutF (n:=kk+1) (by (constructor <;> lia))] at hE;rwa[qD,qE,τ,SE _ _ hD,hE,?_,λqF HF SF hF=>?_]
       ·rw[ax,bD,gk];rwa[aU (by show min kk yb.length+1+(yb.length - (kk+1))<=20000;lia) ↥0]
       have S1F :=SC.trans (SD.trans (SE.trans SF));have SF' :=SB.trans (S1.trans S1F);have hbF:IsD HF (.ref qF) (pY (bs.set kk (a+1,bs[kk].2))):=by
        rwa[.tup hF ?_];rw[set_cat i1,au,au,List.map_take,List.map_drop];rwa[((dg.takeN kk ((rb.same S2).same SF')).append (.cons (.tup (S1F _ _ h1) (dg.ints [a+1,bs[kk].2])) .nil)).append (dg.dropN (kk+1) ((rb.same S2).same SF'))]
       have S6:=S2.trans SF';have hd2:max (dpT x) (dpT y)+1<dd+1:=hdd;have hz2:siz x+siz y+1<=9000:=hdd7;have bl1:IsD HF (.ref qa) (pY (kF bs kk a)):=by unfold kF;rw[e0];rwa[hb2.same SF']
       have bl2:IsD HF (.ref qF) (pY (de bs kk a)):=by grind [de]
       rwa[ς,ϲ (S6 _ _ hp),ς,x3,.ref qa,x,kF bs kk a,rfl,⋯,⋯,g3.same S6,hhd.1,i2,bl1,by rw[rV];rwa[few],λR1 y1 H7 S7 h7 d7=>?_];rwa[ς,ϲ (S7 _ _ (S6 _ _ hp)),ς,x4,.ref qF,y,de bs kk a,rfl,⋯,⋯,(g4.same S6).same S7,hhd.2,i3,bl2.same S7,by rw[nI];rwa[few],λR2 y2 H8 S8 h8 d8=>?_];have n1:=rY x (kF bs kk a);have n2:=rY y (de bs kk a);have v1:=d7.length;have v2:=d8.length;rw[aa] at v1 v2;rwa[R1,R2,τ,S8 _ _ h7,h8,aU (by lia:y1.length+y2.length<=20000) ↥0,λq9 H9 S9 h9=>k q9 _ H9 (S6.trans (S7.trans (S8.trans S9))) h9 ?_];show dg H9 (y1++y2) ((lvs x (kF bs kk a)++lvs y (de bs kk a)).map plcD);rw[au];rwa[(d7.same (S8.trans S9)).append (d8.same S9)]
theorem tF {f:ai}{fd:aM}(G1:Fn K mg "_law_leaves" qI pzo f fd):∀dd,‹0› dd f fd pzo (nk dd)
 | 0=>ok_leavesL0
 | dd+1=>ok_leavesL1 G1 (tF G1 dd)
abbrev sNums:bY:=top 92
inductive spNums (K:ag)(vs:zA)(H:Hp)(Q:VK)(_:XK):Prop
 | mk (a:ai)(ns:zI)(m:Int)(_:vs=[.ref a,.int m])(_:SqL K H a (ns.map V.int))(_:64<=m)(_:m<=900)(_:∀p H1 H',bt H H1->H1 p=none->Md p H1 H'->Q (.ref p) H')
def scNums:bH ["_law_script","_law_most","_law_deck","_law_kind","_law_last"] pzP (defScope sNums):=⇑0
theorem ok_nums (F:Fun K "_law_numbers" "_law_numbers" sNums f fd)(T:Nm mg)(T2:Nt mg):‹0› 1 f fd pzP (spNums K):=by
 specialize F.ok scNums;let⟨a,ns,m,rfl,ha,hm1,hm2,k⟩:=h
 exists 5,scNums,3,fP call_list_of rfl T2.tlist boot_list ?_,2,qH,9,kN ?_,2,op_neL0 hr.units0,1,nG ?_,7,fR,8,fR,3,pg_sub ?_ ?_ set_list,10,cP (call_sum rfl) rfl T2.sum boot_sum ?_,63,op_cat,nG ?_,3,pe_backL ?_
 rwa[ς,ς,a,ς,ha,λq1 H1 S1 h1=>?_];have h1:H1 q1=some (.lst ((ns.take 63).map V.int)):=by
  rw[h1,cutU (i:=63) (n:=63) rfl,List.map_take]
 rwa[q1,ς,.inl (zL h1),λp hp=>?_];have S2:bt H (upd H1 p (.lst ((ns.take 63).map V.int))):=S1.trans (bt.put (bt.refl H1) hp);have h2:(upd H1 p (.lst ((ns.take 63).map V.int))) p=some (.lst ((ns.take 63).map V.int)):=aJ;have E2:∀b o,b≠p->H1 b=some o->(upd H1 p (.lst ((ns.take 63).map V.int))) b=some o:=λb o hb e=>by rw[bw hb];rwa[e]
 have l2:(ns.take 63).length<=63:=by rw[bD];lia
 generalize upd H1 p (.lst ((ns.take 63).map V.int))=H2 at S2 h2 E2 ⊢;generalize ns.take 63=d2 at h2 l2;rwa[λσ' H'=>∃(kd:Int) (ds:zI),σ'=[some (.ref a),some (.int m),some (.ref p),some (.int kd),none]/\H' p=some (.lst (ds.map V.int))/\ds.length<=63/\∀b o,b≠p->H1 b=some o->H' b=some o,?_,?_]
 rotate_left
 ·rwa[ς,bq _,λq3 H3 S3 h3=>⟨p,q3,ς,rfl,zL (S3 _ _ h2),zL h3,ς,?_⟩]
  have E3:∀b o,b≠p->H1 b=some o->H3 b=some o:=λb o hb e=>S3 _ _ (E2 b o hb e)
  rwa[oJ (λhc=>?_) (λ_=>⟨0,d2,rfl,S3 _ _ h2,l2,E3⟩)];cases d2 with
  | nil=>rwa[tR hc ↥0]
  | cons d ds =>
   rwa[ς,ϐ (S3 _ _ h2) 0,τ,(by show(0:Int)<2;decide),?_];rwa[ς,ϐ (S3 _ _ h2) 0,τ,⟨↥0,↥0⟩,ς,p,_,_,0,rfl,rfl,S3 _ _ h2,(by simp[ixN]),?_];rwa[_,d / 2::ds,rfl,by rw[aJ];rfl,l2,λb o hb e=>by rw[bw hb];rwa[E3 b o hb e]]
 rintro σ' H3 ⟨kd,ds,rfl,h3,l3,E3⟩
 sleep 0
 clear h2 E2 S2 H2 l2 d2;rwa[ς,p,ds,rfl,zL h3,τ,(by show(0:Int)<2147483647;decide),τ,?_];have s0:=cS ds.sum (by decide:(2147483647:Int)≠0);have s1:=cY ds.sum (by decide:(0:Int)<2147483647)
 let pW1:zV:=λn σ H'=>∃(la:Int) (ds:zI),n=1000 - ds.length/\σ=[some (.ref a),some (.int m),some (.ref p),some (.int kd),some (.int la)]/\H' p=some (.lst (ds.map V.int))/\ds.length<=900/\0<=la/\la<4294967296/\∀b o,b≠p->H1 b=some o->H' b=some o
 rwa[pW1,⟨_,_,ds,rfl,rfl,h3,⋯,⋯,⋯,E3⟩,?_];rintro n σ H4 ⟨la,ds,rfl,rfl,h4,l4,a0,a1,E4⟩
 sleep 0
 rwa[ς,p,ς,.inl (zL h4),ς,τ,ς,?_];rwa[oJ (λhc=>?_) (λhc=>?_)]
 ·have hc:((ds.map V.int).length:Int)<m:=tV hc
  rw[aa] at hc;rwa[_,λσ' H' z=>z,?_]
  sleep 0
  rwa[ς,ς,τ,.inl ⟨⋯,⋯⟩,ς,τ,.inl ⟨↥0,↥0⟩,τ,ς,p,ς,.inl (zL h4),τ,τ,(by show(0:Int)<2147483647;decide),?_];have t0:=cS (la * la+48271 * la+((ds.map V.int).length:Int)) (by decide:(2147483647:Int)≠0);have t1:=cY (la * la+48271 * la+((ds.map V.int).length:Int)) (by decide:(0:Int)<2147483647);rwa[ς,ς,τ,.inl ⟨⋯,⋯⟩,ς,τ,.inl ⟨↥0,↥0⟩,τ,τ,τ,(by show(0:Int)<2147483629;decide),?_];rwa[ς,.inl ⟨rfl,_,zL h4⟩,ς,p,τ,h4,(aW (by rw[aa];lia:(ds.map V.int).length<1000) (by decide:1000<=aO)),?_];rwa[1000 - (ds.length+1),⋯,_,ds++[_],by rw[ax];rfl,rfl,by rw[aJ,au];rfl,by rw[ax];show ds.length+1<=900;lia,cS _ ↥0,Int.lt_trans (cY _ ↥0) ↥0,λb o hb e=>by rw[bw hb];rwa[E4 b o hb e]]
 ·rwa[ς,szZ1,λq5 H5 S5 h5=>⟨ς,p,ς,S5 _ _ h4,λq6 H6 S6 h6=>⟨q5,q6,τ,S6 _ _ h5,h6,?_,λpd hpd=>?_⟩⟩]
  ·rw[fg,aa]
   rwa[aU (by show 1+ds.length<=1000;lia) ↥0]
  ·have hpH:H p=none:=by
    cases z:H p with
    | none=>rfl
    | some o=>rw[S1 p o z] at hp;cases hp
   rwa[k pd H6 _ (λb o e=>S6 _ _ (S5 _ _ (E4 b o (λz=>by rw[z,hpH] at e;cases e) (S1 b o e)))) hpd ⟨λb o hb e=>by rw[bw hb];exact e,kd,ds.reverse,?_,by rw[fg];lia⟩];rw[aJ,cz,List.map_reverse];rfl
abbrev sBeatsL:bY:=top 97
def scBeatsL:bH ["_law_net_here","_law_bounds_here","_law_ring","_law_low","_law_high","_law_span_here","_law_way"] pzx (defScope sBeatsL):=⇑0
theorem ok_beatsL (F:Fun K "_law_beats" "_law_beats" sBeatsL f fd):‹0› 1 f fd pzx nq:=by
 specialize F.ok scBeatsL;let⟨vn,vb,vw,b,m,sp,bs,ws,rfl,hv,hb0,hb1,hb,hw,hin,k⟩:=h;let⟨t,pn,ys,rfl,ht,_⟩:=c5 hv;let⟨pb,yb,rfl,hpb,hlb,rb⟩:=fJ hb;let⟨pw,yw,rfl,hpw,hlw,rw'⟩:=fJ hw
 exists 3,scBeatsL,81,nZ,10,nZ
 rwa[ς,pw,rfl,⟨_,zT hpw⟩,?_]
 let pZ1:zV:=λi σ H2=>H2=H/\∃v4 v5,σ=[some (.ref t),some (.ref pb),some (.ref pw),some (.int (fh bs (ws.take i))),some (.int (iA bs (ws.take i))),v4,v5]
 rwa[jU (K:=K) (xs:=yw) pZ1 ⟨rfl,none,none,rfl⟩ (λi σ H2 _ ⟨e1,_⟩=>by rw[e1];exact zT hpw) ?_ ?_]
 ·rintro i y σ H2 hy ⟨rfl,v4,v5,rfl⟩
  have hi:i<ws.length:=by rw[<-hlw];rwa[(aw.mp hy).1]
  let⟨q,hq,hq2⟩:=gn rw' (gE hi);rw[hy] at hq;cases hq;let⟨i1,d1⟩:=hin ws[i] (aY hi);have hm1:fh bs (ws.take (i+1))=fh bs (ws.take i)+qo bs ws[i]:=by
   unfold fh;rw[aE,gE hi,au,jC];simp
  have hm2:iA bs (ws.take (i+1))=iA bs (ws.take i)+k6 bs ws[i]:=by
   unfold iA;rw[aE,gE hi,au,jC];simp
  let⟨qb,hqb,hqb2⟩:=gn rb (gE i1);rwa[q,ς,zT hq2,rfl,_,ς,τ,?_];rwa[ς,rfl,ς,?_];rwa[oJ (λh1=>?_) (λh1=>?_)]
  ·have h1:ws[i].d=1:=by have:=tV h1;injection this
   rwa[ς,ς,ς,ϲ hpb ws[i].i hqb,ϲ hqb2 0,τ,?_];rwa[ς,ς,ς,ϲ hpb ws[i].i hqb,ϲ hqb2 1,τ,rfl,some (.int (ws[i].i:Nat)),some (.int ws[i].d),?_];have l1:qo bs ws[i]=bs[ws[i].i].1:=by unfold qo;rw[gE i1];rwa[tQ h1]
   have l2:k6 bs ws[i]=bs[ws[i].i].2:=by unfold k6;rw[gE i1];rwa[tQ h1]
   rw[hm1,hm2,l1,l2];rfl
  ·have h1:ws[i].d≠1:=λz=>h1 (tS (by rw[z]))
   rwa[ς,ς,ς,ϲ hpb ws[i].i hqb,ϲ hqb2 1,τ,?_];rwa[ς,ς,ς,ϲ hpb ws[i].i hqb,ϲ hqb2 0,τ,rfl,some (.int (ws[i].i:Nat)),some (.int ws[i].d),?_];have l1:qo bs ws[i]= -bs[ws[i].i].2:=by unfold qo;rw[gE i1];rwa[tP h1]
   have l2:k6 bs ws[i]= -bs[ws[i].i].1:=by unfold k6;rw[gE i1];rwa[tP h1]
   rw[hm1,hm2,l1,l2,<-mH,<-mH];rfl
 ·rintro σ H2 ⟨rfl,v4,v5,rfl⟩
  rw[hlw,aG];rwa[ς,τ,ς,ϲ ht 0,τ,tH hb0 hb1,τ,?_];rwa[ς,ς,ϲ ht 0,τ,tH hb0 hb1,lh,λp3 H3 S3 h3=>k p3 H3 S3 ?_];have e:(0:Int) - (0 - fh bs ws) / b=upB b (fh bs ws):=by unfold upB;rw[Int.zero_sub,Int.zero_sub]
  rw[<-e];rwa[h3]
abbrev qM:bY:=top 98
def scBoundsF:bH pze pze (defScope qM):=⇑0
theorem ok_boundsF (F:Fun K "_law_bounds" "_law_bounds" qM f fd)(T:Nm mg):‹0› 1 f fd pze rf:=by
 specialize F.ok scBoundsF;let⟨v,b,m,sp,rfl,hv,few,k⟩:=h;let⟨t,p,ys,rfl,ht,hp,hl,hy⟩:=c5 hv
 exists 98,_,4,eN (fr:=[]) (js:=[]) rfl (jO (ixZ (pv 0))) ⇑0 rfl ⇑0 rfl (by exists qM) ⇑0 rfl ⇑0 (λ_ _ _ _ _=>⟨(jS (aV (jH (r:=qd K) g9 (pv 0) dQ) (aV (jH (r:=qd K) g9 (pv 0) dQ) b9))),dU⟩)
 rwa[ς,ϲ ht 2,p,rfl,⟨_,zT hp⟩,?_]
 let pZ1:zW:=λi zs H2=>bt H H2/\dg H2 zs (((sp.take i).map λx=>(x.l,x.o)).map λx=>.tup ((bndR x).map Dt.int))
 rwa[gO (K:=K) (a:=p) (xs:=ys) pZ1 ⟨bt.refl H,.nil⟩ (λi zs H2 hi ⟨e1,e2⟩=>?_) (by rw[hl];exact cO few) (λi x zs H2 hx ⟨e1,e2⟩=>?_) (λzs H2 ⟨e1,e2⟩ D hD=>?_)]
 ·rwa[zT (e1 _ _ hp),?_]
  rw[e2.length,aa,aa,bD];cbv
 ·have hi:i<sp.length:=by rw[<-hl];exact(aw.mp hx).1
  let⟨q,hq,hq2⟩:=hy i sp[i] (gE hi);rw[hx] at hq;cases hq;have hq3:=e1 _ _ hq2;rwa[eZ ?_];rwa[ς,ϲ hq3 2,ς,ϲ hq3 3,lh,λq4 H4 S4 h4=>⟨e1.trans S4,?_⟩];rw[aE,gE hi,au,au];rwa[(e2.same S4).append (.cons (.tup h4 (dg.ints [sp[i].l,sp[i].o])) .nil)]
 ·rwa[D,ς,zL aJ,λp3 H3 S3 h3=>?_]
  have S23:=(bt.put (o:=.lst zs) (bt.refl H2) hD).trans S3;rwa[k (.ref p3) H3 (e1.trans S23) (.tup h3 ?_)];rw[hl,aG] at e2;rwa[e2.same S23]
abbrev sIsRL:bY:=top 102
def all_take (f:α->Bool){xs:List α}(h:i<xs.length)(a:(xs.take i).all f=true)(b:f xs[i]=true):(xs.take (i+1)).all f=true:=by
 rw[aE,gE h,List.all_append,a];show(true && (f xs[i] && true))=true;rw[b];rfl
theorem all_not (f:α->Bool){xs:List α}(h:i<xs.length)(b:f xs[i]=false):xs.all f=false:=by
 grind
def scIsRL:bH ["_law_net_here","_law_bounds_here","_law_leaf","_law_first","_law_last","_law_price","_law_ring"] pzp (defScope sIsRL):=⇑0
theorem ok_isRL (F:Fun K "_law_is_right" "_law_is_right" sIsRL f fd)(G1:Fn K mg "_law_beats" sBeatsL pzx f1 fd1):‹0› 2 f fd pzp spIsRight:=by
 have F1:‹0› 1 f1 fd1 pzx nq:=ok_beatsL G1.F;specialize F.ok scIsRL;let⟨vn,vb,vl,b,m,sp,bs,lf,rfl,hv,b0,b61,hvb,hl,hin,k⟩:=h
 exists 2,scIsRL,13,G1,39,G1
 cases lf with
 | ring ws =>
  let⟨p,xs,rfl,hp,rx⟩:=IsD.tup_of (hl);cases rx with
  | cons g0 gr=>cases gr with
   | cons g1 gr =>
    cases gr;cases g0;rename_i vw;rwa[ς,ϲ hp,rfl,ς,mR ↥0 ?_];rwa[ς,ς,ς,ϲ hp,vn,vb,vw,b,m,sp,bs,ws,rfl,hv,b0,b61,hvb,g1,hin,λq2 H2 S2 h2=>?_];rwa[q2,ς,zT h2,rfl,_,ς,τ,?_];rwa[ς,ς,τ,k H2 S2]
 | price rows =>
  let⟨p,pr,yr,rfl,hp,hpr,ry⟩:=price_of hl;have lr:yr.length=rows.length:=by rw[ry.length,aa]
  rwa[ς,ϲ hp,rfl,ς,hX ↥0 ?_];rwa[ς,ϲ hp,pr,rfl,⟨_,zT hpr⟩,?_]
  let pZ2:zV:=λi σ H3=>bt H H3/\(rows.take i).all (λr=>sureB b bs r.2)=true/\∃v3 v4 v5 v6,σ=[some vn,some vb,some (.ref p),v3,v4,v5,v6]
  rwa[jU pZ2 ⟨bt.refl H,rfl,none,none,none,none,rfl⟩ (λi σ H3 _ ⟨S3,_⟩=>zT (S3 _ _ hpr)) ?_ ?_]
  ·rintro i y σ H3 hy3 ⟨S3,all3,v3,v4,v5,v6,rfl⟩
   sleep 0
   have hi:i<rows.length:=↥1
   let⟨d,hd,dy⟩:=ry.get hy3;rw[av,gE hi] at hd;cases hd;let⟨q,vw,rfl,hq,hw⟩:=row_of dy;rwa[q,ς,zT (S3 _ _ hq),rfl,_,ς,τ,?_];rwa[ς,ς,ς,vn,vb,vw,b,m,sp,bs,rows[i].2,rfl,hv.same S3,b0,b61,hvb.same S3,hw.same S3,hin.2 _ (aY hi),λq2 H4 S4 h4=>?_];rwa[q2,ς,zT h4,rfl,_,ς,τ,?_];rwa[ς,ς,rfl,ς,?_];rwa[oJ (λhd=>?_) (λhd=>⟨S3.trans S4,?_,_,_,_,ς⟩)]
   ·have k1:=k H4 (S3.trans S4)
    have e:rightB b bs (.price rows)=false:=by
     rwa[all_not _ hi (tU λz=>?_)]
     cbv
    rw[e] at k1;rwa[k1]
   ·apply all_take _ hi all3 (tS ?_)
    cbv
  ·rintro σ H3 ⟨S3,all3,v3,v4,v5,v6,rfl⟩
   sleep 0
   rw[lr,aG] at all3;have k1:=k H3 S3;have e:rightB b bs (.price rows)=true:=all3;rw[e] at k1;rwa[k1]
abbrev sWorthL:bY:=top 103
def rowS (ws:zP):List zM:=ws.map λs=>(Stp.row s).map Dt.int
def way_in {p:ai}{ws:zP}(h:IsD H (.ref p) (oH ws)):IsD H (.ref p) (.tup ((rowS ws).map Dt.tup)):=by
 unfold rowS;rw[bZ];rwa[h]
def way_pl (ws:zP):∀es∈rowS ws,pls es=true/\sS es<59:=λes he=>by
 let⟨s,_,rfl⟩:=bc.mp he;rwa[oX _,by rw[sE];decide]
theorem has_eq {i:Nat}{d:Int}:∀(ws:zP),((rowS ws).any λes=>sx es ([((i:Nat):Int),d].map Dt.int))=hasS i d ws
 | []=>rfl
 | s::ws=>by
  show(sx ((Stp.row s).map Dt.int) ([(i:Int),d].map Dt.int) || ((rowS ws).any λes=>sx es ([(i:Int),d].map Dt.int)))=(decide (s.i=i) && decide (s.d=d) || hasS i d ws);rw[has_eq ws,eqDs_ints]
  lia
inductive spWorthL (vs:zA)(H:Hp)(Q:VK)(_:XK):Prop
 | mk (v vb vl:V)(b m:Int)(sp:zS)(bs:zB)(rows:zQ)(_:vs=[v,vb,vl])(_:WoArgs H v vb vl b m sp bs rows)(_:∀H',bt H H'->Q (.int (jN b sp bs rows)) H')
def scWorthL:bH ["_law_net_here","_law_bounds_here","_law_leaf","_law_worth_here","_law_k","_law_start","_law_goal","_law_least","_law_most","_law_weight","_law_own","_law_price","_law_ring"] pzp (defScope sWorthL):=⇑0
theorem ok_worthL (F:Fun K "_law_worth" "_law_worth" sWorthL f fd)(T:Nm mg)(T2:Nt mg)(G1:Fn K mg "_law_beats" sBeatsL pzx f1 fd1):‹0› 2 f fd pzp spWorthL:=by
 have F1:‹0› 1 f1 fd1 pzx nq:=ok_beatsL G1.F;specialize F.ok scWorthL;let⟨v,vb,vl,b,m,sp,bs,rows,rfl,W,k⟩:=h;let⟨hv,hb,hl0,b0,b61,lb,few,bu,hws,hok,lr41⟩:=W;let⟨t,pn,ys,rfl,ht,hpn,hl,hy⟩:=c5 hv;let⟨p,pr,yr,rfl,hp,hpr,ry⟩:=price_of hl0;let⟨pb,yb,rfl,hpb,hlb,rb⟩:=fJ hb;have lr:yr.length=rows.length:=by rw[ry.length,aa]
 exists 3,scWorthL,57,kN ?_,1,lP (op_inD hr.units) ?_ ?_ rfl,15,kN ?_,1,lP (op_inD hr.units) ?_ ?_ rfl,26,cP (sH rfl) rfl T.min boot_min ?_,42,op_mulB,9,G1
 rwa[ς,ϲ ht 2,pn,ς,.inr (zT hpn),(ys.length:Int),rfl,(by (constructor <;> lia)),⋯,?_];rwa[su (n:=((ys.length:Int)).toNat) (λi σ H3=>bt H H3/\∃v4 v5 v6 v7 v8 v9 v10 v11 v12,σ=[some (.ref t),some (.ref pb),some (.ref p),some (.int ((aQ i).map (pL sp bs rows)).sum),v4,v5,v6,v7,v8,v9,v10,v11,v12]) ⟨bt.refl H,none,none,none,none,none,none,none,none,none,rfl⟩ ?_ ?_]
 ·rintro i σ H3 hi0 ⟨S3,v4,v5,v6,v7,v8,v9,v10,v11,v12,rfl⟩
  have hi:i<sp.length:=by cbv
  have hib:i<bs.length:=by cbv
  have zi:(0:Int)+(i:Nat)=(i:Nat):=gj _;rw[zi];let⟨qz,e2,h2⟩:=hy i sp[i] (gE hi);let⟨qb,e1,h1⟩:=gn rb (gE hib);have ew:wOf sp i=sp[i].w:=by unfold wOf;rw[gE hi]
  have el:lOf sp i=sp[i].l:=by unfold lOf;rw[gE hi]
  have eb:bs.getD i (0,0)=bs[i]:=by rw[af,gE hib];rfl
  have wx:=hws sp[i] (aY hi);have bx:=bu bs[i] (aY hib);have ob:=owK_abs (k:=i) hws hok lr41;rwa[ς,ϲ (S3 _ _ ht) 2,ς,ϲ (S3 _ _ hpn) i e2,qz,ς,zT (S3 _ _ h2),rfl,_,ς,_,ς,_,ς,_,ς,τ,?_];rwa[ς,ς,ϲ (S3 _ _ hp) 1,pr,rfl,⟨_,zT (S3 _ _ hpr)⟩,?_];rwa[jU (K:=K) (xs:=yr) (λj σ H4=>bt H H4/\∃v11 v12,σ=[some (.ref t),some (.ref pb),some (.ref p),some (.int ((aQ i).map (pL sp bs rows)).sum),some (.int (i:Nat)),some (.int sp[i].s),some (.int sp[i].g),some (.int sp[i].l),some (.int sp[i].o),some (.int sp[i].w),some (.int ((rows.take j).foldl (ownS i) sp[i].w)),v11,v12]) ⟨S3,_,ς⟩ (λj σ H4 _ ⟨S4,_⟩=>zT (S4 _ _ hpr)) ?_ ?_]
  ·rintro j y σ H4 hy4 ⟨S4,v11,v12,rfl⟩
   have hj:j<rows.length:=by rw[<-lr];rwa[(aw.mp hy4).1]
   let⟨d,hd,dy⟩:=ry.get hy4;rw[av,gE hj] at hd;cases hd;let⟨q,vw,rfl,hq,hw⟩:=row_of dy;let⟨pw,yw,rfl,hpw,hlw,rw'⟩:=fJ hw;obtain⟨acc,hacc⟩:∃acc,acc=(rows.take j).foldl (ownS i) sp[i].w:=⟨ς⟩;have step:(rows.take (j+1)).foldl (ownS i) sp[i].w=ownV i acc rows[j].1 rows[j].2:=by rw[sv _ _ hj,<-hacc];rfl
   rw[step,<-hacc];rwa[q,ς,zT (S4 _ _ hq),rfl,_,ς,τ,?_];rwa[λσ' H'=>bt H H'/\σ'=[some (.ref t),some (.ref pb),some (.ref p),some (.int ((aQ i).map (pL sp bs rows)).sum),some (.int (i:Nat)),some (.int sp[i].s),some (.int sp[i].g),some (.int sp[i].l),some (.int sp[i].o),some (.int sp[i].w),some (.int (if hasS i 1 rows[j].2=true then acc - rows[j].1 else acc)),some (.int rows[j].1),some (.ref pw)],?_,?_]
   rotate_left
   ·rwa[ς,lh,λq1 H5 S5 h5=>⟨ς,_,pw,_,.tup h5 (dg.ints [((i:Nat):Int),1]),rfl,way_in (hw.same (S4.trans S5)),oX [((i:Nat):Int),1],way_pl rows[j].2,ς,?_⟩]
    rw[has_eq];rwa[oJ (λhd=>?_) (λhd=>⟨S4.trans S5,?_⟩)]
    ·rwa[ς,ς,τ,S4.trans S5,?_]
     rw[tQ hd];rfl
    ·rw[tP hd];rfl
   rintro σ' H5 ⟨S5,rfl⟩;rwa[λσ' H'=>bt H H'/\∃v11 v12,σ'=[some (.ref t),some (.ref pb),some (.ref p),some (.int ((aQ i).map (pL sp bs rows)).sum),some (.int (i:Nat)),some (.int sp[i].s),some (.int sp[i].g),some (.int sp[i].l),some (.int sp[i].o),some (.int sp[i].w),some (.int (ownV i acc rows[j].1 rows[j].2)),v11,v12],λσ' H' z=>z,?_];rwa[ς,ς,lh,λq1 H6 S6 h6=>⟨ς,_,pw,_,.tup h6 (dg.ints [((i:Nat):Int),-1]),rfl,way_in (hw.same (S5.trans S6)),oX [((i:Nat):Int),-1],way_pl rows[j].2,ς,?_⟩];rw[has_eq];rwa[oJ (λhd=>?_) (λhd=>⟨S5.trans S6,some (.int rows[j].1),some (.ref pw),?_⟩)]
   ·rwa[ς,ς,τ,S5.trans S6,some (.int rows[j].1),some (.ref pw),?_]
    unfold ownV;rw[tQ hd];rfl
   ·unfold ownV
    rw[tP hd]
  rintro σ H4 ⟨S4,v11,v12,rfl⟩;rw[lr,aG];have eo:rows.foldl (ownS i) sp[i].w=owK sp rows i:=by unfold owK;rw[ew]
  rw[eo];rwa[ς,ς,ς,τ,.inl ⟨by show -(2 ^ 64)<sp[i].w;lia,by show sp[i].w<2 ^ 64;lia⟩,τ,ς,ς,ς,ϲ (S4 _ _ hpb) i e1,ϲ (S4 _ _ h1) 0,τ,.inl ⟨by show -(2 ^ 64)<owK sp rows i;cbv,by show owK sp rows i<2 ^ 64;cbv⟩,ς,ς,ς,ϲ (S4 _ _ hpb) i e1,ϲ (S4 _ _ h1) 1,τ,.inl ⟨by show -(2 ^ 64)<owK sp rows i;cbv,by show owK sp rows i<2 ^ 64;cbv⟩,_,ς,τ,S4,some (.int (i:Nat)),some (.int sp[i].s),some (.int sp[i].g),some (.int sp[i].l),some (.int sp[i].o),some (.int sp[i].w),some (.int (owK sp rows i)),v11,v12,?_];have tl:=termL_eq (sp:=sp) (bs:=bs) (rows:=rows) (k:=i) (by rw[eb];rwa[bx.2.1]);rw[eb,ew,el] at tl;have ee:∀x y z:Int,x+(z - y)=x - y+z:=by intros;lia
  rw[qY,<-tl,ee];rfl
 rintro σ H3 ⟨S3,v4,v5,v6,v7,v8,v9,v10,v11,v12,rfl⟩;have en:((ys.length:Int)).toNat=sp.length:=by cbv
 rw[en];obtain⟨base',hbase⟩:∃z,z=((aQ sp.length).map (pL sp bs rows)).sum:=⟨ς⟩;rw[<-hbase];rwa[ς,ϲ (S3 _ _ hp) 1,pr,rfl,⟨_,zT (S3 _ _ hpr)⟩,?_];rwa[jU (K:=K) (xs:=yr) (λj σ H4=>bt H H4/\∃v11 v12,σ=[some (.ref t),some (.ref pb),some (.ref p),some (.int (base'+oT b bs (rows.take j))),v4,v5,v6,v7,v8,v9,v10,v11,v12]) ⟨S3,v11,v12,by show _=[_,_,_,some (V.int (base'+0)),_,_,_,_,_,_,_,_,_];rw[Int.add_zero]⟩ (λj σ H4 _ ⟨S4,_⟩=>zT (S4 _ _ hpr)) ?_ ?_]
 ·rintro j y σ H4 hy4 ⟨S4,v11,v12,rfl⟩
  have hj:j<rows.length:=by rw[<-lr];rwa[(aw.mp hy4).1]
  let⟨d,hd,dy⟩:=ry.get hy4;rw[av,gE hj] at hd;cases hd;let⟨q,vw,rfl,hq,hw⟩:=row_of dy;have ok:=hok rows[j] (aY hj);have u1:=up_abs (b:=b) (bs:=bs) (ws:=rows[j].2) b0 bu ok.few;have p1:=ok.lo;have p2:=ok.hi;rwa[q,ς,zT (S4 _ _ hq),rfl,_,ς,τ,?_];rwa[ς,ς,ς,ϲ (S4 _ _ ht) 0,τ,.inl ⟨by show -(2 ^ 64)<rows[j].1;lia,by show rows[j].1<2 ^ 64;lia⟩,ς,ς,ς,.ref t,.ref pb,vw,b,m,sp,bs,rows[j].2,rfl,hv.same S4,b0,b61,hb.same S4,hw.same S4,by rw[lb];rwa[ok.inn],λq5 H5 S5 h5=>?_];rwa[ϲ h5 0,τ,⟨?_,?_⟩,τ,S4.trans S5,some (.int rows[j].1),some vw,?_]
  ·rw[Int.natAbs_mul]
   have h1:rows[j].1.natAbs<=10 ^ 12:=by lia
   have h2:b.natAbs<=10 ^ 61:=by lia
   rwa[bV (Nat.mul_le_mul h1 h2) ⇑0]
  ·rwa[bV u1 ⇑0]
  ·unfold oT
   rw[sum_take _ hj,Int.mul_right_comm,<-Int.add_assoc];rfl
 ·rintro σ H4 ⟨S4,v11,v12,rfl⟩
  rwa[ς,?_];have k1:=k H4 S4;unfold jN at k1;rw[<-hbase,Int.add_comm] at k1;rw[lr,aG];rwa[k1]
abbrev sGW:bY:=top 8
abbrev mX:bY:=top 9
abbrev nv:bY:=top 10
abbrev sEnds:bY:=top 17
abbrev sLens:bY:=top 18
abbrev sSpan:bY:=top 19
abbrev sNet:bY:=top 20
structure sM (b m:Int)(v:zA):Prop where
 ex:∃s g l o w:Int,v=[.int s,.int g,.int l,.int o,.int w]/\0<=s/\s<m/\0<=g/\g<m/\s≠g/\0<=l/\l<=o/\o<l+b/\o<10 ^ 60/\0<=w/\w<=1000000000000
def SpanAt (H:Hp)(b m:Int)(v:V):Prop:=∃q xs,v= .ref q/\H q=some (.tup xs)/\sM b m xs
structure NetIs (H:Hp)(t:ai)(b m:Int)(p:ai)(xs:zA):Prop where
 at_:H t=some (.tup [.int b,.int m,.ref p])
 sp:H p=some (.tup xs)
 b1:1<=b
 b2:b<=10 ^ 59
 m1:1<=m
 m2:m<=16
 few:xs.length<=40
 all:∀v∈xs,SpanAt H b m v
inductive spWhT (vs:zA)(H:Hp)(Q:VK)(_:XK):Prop
 | mk (i:Int)(_:vs=[.int i])(_:Q (.bl true) H)
inductive spWiT (vs:zA)(H:Hp)(Q:VK)(_:XK):Prop
 | mk (i lo hi:Int)(_:vs=[.int i,.int lo,.int hi])(_:lo<=i)(_:i<=hi)(_:Q (.bl true) H)
inductive spEndsT (vs:zA)(H:Hp)(Q:VK)(_:XK):Prop
 | mk (m s g:Int)(_:vs=[.int m,.int s,.int g])(_:0<=s)(_:s<m)(_:0<=g)(_:g<m)(_:s≠g)(_:Q (.bl true) H)
inductive spLensT (vs:zA)(H:Hp)(Q:VK)(_:XK):Prop
 | mk (b l o:Int)(_:vs=[.int b,.int l,.int o])(_:0<=l)(_:l<=o)(_:o<l+b)(_:o<10 ^ 60)(_:Q (.bl true) H)
inductive spSpanT (vs:zA)(H:Hp)(Q:VK)(_:XK):Prop
 | mk (b m:Int)(q:ai)(xs:zA)(_:vs=[.int b,.int m,.ref q])(_:H q=some (.tup xs))(_:sM b m xs)(_:Q (.bl true) H)
inductive spNetY (vs:zA)(H:Hp)(Q:VK)(_:XK):Prop
 | mk (t:ai)(b m:Int)(p:ai)(xs:zA)(_:vs=[.ref t])(_:NetIs H t b m p xs)(_:∀H',bt H H'->Q (.bl true) H')
def scGW:bH [] [] (defScope sGW):=⇑0
theorem ok_gw (F:Fun K "greatest_whole" "greatest_whole" sGW f fd):‹0› 1 f fd [] spGW:=by
 rwa[F.ok scGW (λvs H Q E h=>by let⟨rfl,_⟩:=h;rfl) (λcdv A outer s H vs Q E hr h=>?_)];let⟨rfl,k⟩:=h
 exists 98,_
 rwa[τ,⟨↥0,↥0,↥0⟩,τ,k]
def scWhole:bH pzf pzf (defScope mX):=⇑0
theorem ok_whT (F:Fun K "is_whole" "is_whole" mX f fd)(T:Nm mg):‹0› 1 f fd pzf spWhT:=by
 specialize F.ok scWhole;let⟨i,rfl,k⟩:=h
 exists 98,_,3,pe_isInt T ?_,2,pe_not ?_,pe_isBool T ?_
 rwa[ς,_,ς,(IsD.int i).tyn,ς,mR rfl ⟨ς,_,ς,(IsD.int i).tyn,ς,k⟩]
def scWithin:bH pzi pzi (defScope nv):=⇑0
theorem tE (F:Fun K "is_within" "is_within" nv f fd)(T:Nm mg)(G1:Fn K mg "is_whole" mX pzf f1 fd1):‹0› 2 f fd pzi spWiT:=by
 have F1:‹0› 1 f1 fd1 pzf spWhT:=ok_whT G1.F T;specialize F.ok scWithin;let⟨i,lo,hi,rfl,h1,h2,k⟩:=h
 exists 98,_,3,G1,4,pe_chain op_le op_le ?_ ?_ ?_
 rwa[ς,i,rfl,ς,mR rfl ?_];rwa[ς,ς,τ,ς,mR (tS h1) ⟨ς,τ,?_⟩];rw[<-tS h2] at k;rwa[k]
def scEnds:bH pzy pzy (defScope sEnds):=⇑0
theorem ok_ends (F:Fun K "are_ends" "are_ends" sEnds f fd)(T:Nm mg)(G1:Fn K mg "is_whole" mX pzf f1 fd1)(G2:Fn K mg "is_within" nv pzi f2 fd2) :
  ‹0› 3 f fd pzy spEndsT:=by
 have F2:‹0› 2 f2 fd2 pzi spWiT:=tE G2.F T G1;specialize F.ok scEnds;let⟨m,st,g,rfl,h1,h2,h3,h4,h5,k⟩:=h
 exists 98,_,3,G2,11,G2
 rwa[ς,ς,τ,_,_,ς,h1,⋯,ς,mR rfl ?_];rwa[ς,ς,τ,_,_,ς,h3,⋯,ς,mR rfl ?_];rwa[ς,ς,rfl,?_];have e:decide (V.int st=V.int g)=false:=tU λz=>h5 (by injection z)
 cbv
def scLens:bH pzz pzz (defScope sLens):=⇑0
theorem ok_lens (F:Fun K "are_lengths" "are_lengths" sLens f fd)(T:Nm mg)(G0:Fn K mg "greatest_whole" sGW [] f0 fd0)(G1:Fn K mg "is_whole" mX pzf f1 fd1)(G2:Fn K mg "is_within" nv pzi f2 fd2) :
  ‹0› 3 f fd pzz spLensT:=by
 have F0:‹0› 1 f0 fd0 [] spGW:=ok_gw G0.F;have F2:‹0› 2 f2 fd2 pzi spWiT:=tE G2.F T G1;specialize F.ok scLens;let⟨b,l,o,rfl,h1,h2,h3,h4,k⟩:=h
 exists 1,_,5,G2,5,pc0 G0 F0 hr,7,G2,5,cP (sH rfl) rfl T.min boot_min ?_,9,pc0 G0 F0 hr
 rwa[ς,rfl,_,_,ς,h1,⋯,ς,hX rfl ?_];rwa[ς,ς,ς,ς,τ,τ,rfl,_,ς,_,_,ς,h2,?_,k]
 (split <;> lia)
def scSpan:bH pzD pzD (defScope sSpan):=⇑0
theorem ok_span (F:Fun K "is_span" "is_span" sSpan f fd)(T:Nm mg)(C:Cs mg)(G0:Fn K mg "greatest_whole" sGW [] f0 fd0)(G1:Fn K mg "is_whole" mX pzf f1 fd1)(G2:Fn K mg "is_within" nv pzi f2 fd2)
  (G3:Fn K mg "are_ends" sEnds pzy f3 fd3) (G4:Fn K mg "are_lengths" sLens pzz f4 fd4):‹0› 4 f fd pzD spSpanT:=by
 have F2:‹0› 2 f2 fd2 pzi spWiT:=tE G2.F T G1;have F3:‹0› 3 f3 fd3 pzy spEndsT:=ok_ends G3.F T G1 G2;have F4:‹0› 3 f4 fd4 pzz spLensT:=ok_lens G4.F T G0 G1 G2;specialize F.ok scSpan;let⟨b,m,a,xs,rfl,ha,⟨s,g,l,o,w,rfl,h1,h2,h3,h4,h5,h6,h7,h8,h9,h10,h11⟩,k⟩:=h
 exists 2,_,7,ky T ?_,19,G3,16,G4,19,G2,8,nH C.mw
 rwa[ς,.ref a,"tuple",rfl,(by grind [tyn]),ς,hX rfl ?_];rwa[ς,a,ς,.inr (zT ha),rfl,ς,hX (by rfl) ?_];rwa[ς,ς,ϲ ha,ς,ϲ ha,_,_,ς,h1,h2,h3,h4,h5,ς,hX rfl ?_];rwa[ς,ς,ϲ ha,ς,ϲ ha,_,_,ς,h6,h7,h8,h9,ς,hX rfl ?_];rwa[ς,ϲ ha,_,_,ς,h10,h11,k]
def scNet:bH ["thing","beat","many","spans"] pzf (defScope sNet):=⇑0
theorem ok_net (F:Fun K "is_net" "is_net" sNet f fd)(T:Nm mg)(C:Cs mg)(G0:Fn K mg "greatest_whole" sGW [] f0 fd0)(G1:Fn K mg "is_whole" mX pzf f1 fd1)(G2:Fn K mg "is_within" nv pzi f2 fd2)
  (G3:Fn K mg "are_ends" sEnds pzy f3 fd3) (G4:Fn K mg "are_lengths" sLens pzz f4 fd4) (G5:Fn K mg "is_span" sSpan pzD f5 fd5):‹0› 5 f fd pzf spNetY:=by
 have F0:‹0› 1 f0 fd0 [] spGW:=ok_gw G0.F;have F2:‹0› 2 f2 fd2 pzi spWiT:=tE G2.F T G1;have F5:‹0› 4 f5 fd5 pzD spSpanT:=ok_span G5.F T C G0 G1 G2 G3 G4;specialize F.ok scNet;let⟨a,b,m,p,ys,rfl,⟨ha,hp,b1,b2,m1,m2,few,all⟩,k⟩:=h
 exists 6,scNet,7,ky T ?_,37,G2,5,pc0 G0 F0 hr,4,G2,5,nH C.mh,11,ky T ?_,8,nH C.ms,6,cP (oa rfl) rfl T.all boot_all ?_,1,eN (fr:=["beat","many"]) (js:=[1,2]) rfl (jO (pv 3)) ⇑0 rfl ⇑0 rfl (by exists sNet) ⇑0 rfl ⇑0 (λ_ _ _ _ _=>⟨pc1 G5 F5 hr (aV (pv 1) (aV (pv 2) (aV (pv 0) b9))),dU⟩)
 rwa[ς,.ref a,"tuple",rfl,(by grind [tyn]),ς,hX rfl ?_];rwa[ς,a,ς,.inr (zT ha),rfl,ς,hX (by rfl) ?_];rwa[ς,ϲ ha,?_];rwa[ς,ϲ ha,?_];rwa[ς,ϲ ha,?_];rwa[ς,rfl,_,_,ς,b1,⋯,ς,hX rfl ?_];rwa[ς,_,_,ς,m1,m2,ς,hX rfl ?_];rwa[ς,.ref p,"tuple",rfl,(by grind [tyn]),ς,hX rfl ?_];rwa[ς,p,ys,rfl,.inr (zT hp),τ,ς,hX ⋯ ?_];rwa[ς,p,rfl,⟨_,zT hp⟩,?_]
 let pZ1:zW:=λi zs H2=>bt H H2/\zs=(bB i true).map V.bl
 rwa[gO pZ1 ⟨bt.refl H,rfl⟩ (λi zs H2 hi ⟨e1,e2⟩=>⟨zT (e1 _ _ hp),↥2⟩) (cO ⋯) (λi x zs H2 hx ⟨e1,e2⟩=>?_) (λzs H2 ⟨e1,e2⟩ D hD=>?_)]
 ·let⟨q,xs,rfl,hq,sp⟩:=all x (aZ hx)
  rwa[eZ ⟨ς,ς,ς,b,m,q,xs,rfl,e1 _ _ hq,sp,e1,?_⟩];rw[e2,iX,au];rfl
 ·rwa[D,bB ys.length true,rfl,zL (by rw[aJ,e2]),?_]
  grind [bt.trans,bt.put,bt.refl]
end HN
theorem compT_zipS {Q:VK}(Pv:Nat->zA->Hp->Prop)(h0:Pv 0 [] H)(hl:∀i zs H,i<=ys.length->Pv i zs H->HSq H c1 xs/\HSq H c2 ys/\zs.length<=i)(hxy:ys.length<=xs.length)
  (hs:∀i x y zs p H,xs[i]? =some x->ys[i]? =some y->Pv i zs H->H p=none->tt (some x::some y::cL σ js) (upd H p (.tup [x,y])) λb H4=>if b=true then te (some x::some y::cL σ js) H4 λy H5=>Pv (i+1) (zs++[y]) H5 else Pv (i+1) zs H4)
  (hz:ys.length<=aO) (hd:∀zs H,Pv ys.length zs H->∀D,H D=none->Q (.ref D) (upd H D (.lst zs))):qi 2 (gPair K) js tt te σ Q (Itq [c1,c2]) H:=by
 rwa[λi m zs H=>i<=ys.length/\m=ys.length - i/\Pv i zs H,⟨_,bq _,rfl,h0⟩,λi m zs H2 hz0=>?_];let⟨hi,hm,hp⟩:=hz0;let⟨qa,qb,hy⟩:=hl i zs H2 hi hp
 by_cases e:i=ys.length
 ·subst e
  rwa[.inl ⟨?_,hd zs H2 hp⟩]
  by_cases q:ys.length<xs.length
  ·rwa[1,c2,ys,rfl,qb,ay _,λn c hc hn=>?_]
   have:n=0:=by cbv
   subst this;cases hc;rwa[xs,_,qa,gE q]
  ·rwa[0,c1,xs,rfl,qa,↥2,λn c _ hn=>tR hn ↥2]
 ·have hlt2:i<ys.length:=dt hi e
  have hlt:i<xs.length:=by lia
  rwa[.inr ⟨⟨[xs[i],ys[i]],rfl,λn c hc=>?_⟩,⋯,Pv (i+1),λys' H' hp'=>⟨ys.length - (i+1),⋯,⋯,rfl,hp'⟩,λv H3 hy3 v0 hv0=>?_⟩]
  ·match n,hc with
   | 0,hc=>cases hc;rwa[xs,xs[i],qa,gE hlt,rfl]
   | 1,hc=>cases hc;rwa[ys,ys[i],qb,gE hlt2,rfl]
   | n+2,hc=>simp at hc
  ·let⟨p,vs,hn,rfl,rfl,lv,hx⟩:=hy3
   obtain _ | ⟨x,_ | ⟨y,_ | ⟨_,_⟩⟩⟩:=vs <;> try (cases lv;done)
   obtain _ | ⟨v1,_ | ⟨v2,_ | ⟨_,_⟩⟩⟩:=v0 <;> first | (cases hv0;done) | rwa[p,ς,zT aJ,rfl,_,ς,τ,⟨[some x,some y],rfl,rfl⟩,hs i x y zs p H2 (hx 0 c1 x xs rfl qa rfl) (hx 1 c2 y ys rfl qb rfl) hp hn]
namespace HN
abbrev sStep:bY:=top 23
abbrev sWay:bY:=top 26
abbrev sRing:bY:=top 27
abbrev sHeaded:bY:=top 53
abbrev sCut:bY:=top 54
abbrev sLeafT:bY:=top 56
abbrev sRowT:bY:=top 55
abbrev sTreeI:bY:=top 60
theorem cut_one:cutV xs (some 1) none=xs.drop 1:=by
 unfold cutV;cases xs with
 | nil=>rfl
 | cons x xs =>
  have e1:HT.sIx (x::xs).length 0 (some 1)=1:=by
   have:=HT.sIx_nat (x::xs).length 0 1
   (constructor <;> lia)
  show((x::xs).drop 1).take ((x::xs).length - 1)=_
  cbv
inductive spStT (vs:zA)(H:Hp)(Q:VK)(_:XK):Prop
 | mk (v:V)(q:ai)(b m:Int)(sp:zS)(s:Stp)(_:vs=[v,.ref q])(_:‹4›)(_:H q=some (.tup (s.row.map V.int)))(_:s.i<sp.length)(_:(s.d=1\/s.d= -1))(_:Q (.bl true) H)
inductive spRgT (vs:zA)(H:Hp)(Q:VK)(_:XK):Prop
 | mk (v u:V)(b m:Int)(sp:zS)(ws:zP)(_:vs=[v,u])(_:‹4›)(_:IsD H u (oH ws))(_:Rg sp ws)(_:∀H',bt H H'->Q (.bl true) H')
inductive spHdT (vs:zA)(H:Hp)(Q:VK)(_:XK):Prop
 | mk (u:V)(z y:Str)(n:Int)(ds:zM)(_:vs=[u,.str z,.int n])(_:IsD H u (.tup (.str y::ds)))(_:Q (.bl (decide ((ds.length:Int)+1=n) && decide (y=z))) H)
def CtT (bs:zB):Tq->Prop
 | .leaf d=>∃lf,d=my lf
 | .cut k a _ _=>k<bs.length/\(‹3›).1<=a/\a<(‹3›).2
def isCt:Tq->Bool
 | .leaf _=>false
 | .cut _ _ _ _=>true
inductive spCtT (vs:zA)(H:Hp)(Q:VK)(_:XK):Prop
 | mk (vb u:V)(bs:zB)(t:Tq)(_:vs=[vb,u])(_:IsD H vb (pY bs))(_:IsD H u (jG t))(_:CtT bs t)(_:Q (.bl (isCt t)) H)
def LfR (sp:zS):Lf->Prop
 | .ring ws=>Rg sp ws
 | .price rows=>rows.length<=40/\∀r∈rows,Rg sp r.2
inductive spRwT (vs:zA)(H:Hp)(Q:VK)(_:XK):Prop
 | mk (v u:V)(b m:Int)(sp:zS)(r:Int×zP)(_:vs=[v,u])(_:‹4›)(_:IsD H u (rowD r))(_:Rg sp r.2)(_:∀H',bt H H'->Q (.bl true) H')
inductive spLfT (vs:zA)(H:Hp)(Q:VK)(_:XK):Prop
 | mk (v u:V)(b m:Int)(sp:zS)(lf:Lf)(_:vs=[v,u])(_:‹4›)(_:IsD H u (my lf))(_:LfR sp lf)(_:∀H',bt H H'->Q (.bl true) H')
inductive spLvT (vs:zA)(H:Hp)(Q:VK)(_:XK):Prop
 | mk (v u:V)(b m:Int)(sp:zS)(t:Tq)(_:vs=[v,u])(_:‹4›)(_:IsD H u (jG t))(_:sp.length<=40)(_:DrT b sp t (sp.map λx=>(x.l,x.o)))(_:siz t<=9000)(_:∀L H',bt H H'->Q (.ref L) H')
inductive spTreeI (vs:zA)(H:Hp)(Q:VK)(_:XK):Prop
 | mk (v u:V)(b m:Int)(sp:zS)(t:Tq)(_:vs=[v,u])(_:‹4›)(_:IsD H u (jG t))(_:sp.length<=40)(_:DrT b sp t (sp.map λx=>(x.l,x.o)))(_:siz t<=9000)(_:∀H',bt H H'->Q (.bl true) H')
theorem lfR_of {bs:zB}:∀{lf:Lf},LfOk b sp bs lf->LfR sp lf
 | .ring _,h=>h.1
 | .price _,h=>⟨h.1,λr hr=>(h.2 r hr).1⟩
structure LvJ (b:Int)(sp:zS)(H Hc:Hp)(Ls Ah:ai)(st:List (zB×Tq))(n:Nat):Prop where
 same:bt H Hc
 ls:∃ys:zA,Hc Ls=some (.lst ys)/\ys.length=n
 ah:∃zs,Hc Ah=some (.lst zs.reverse)/\sU H Hc zs st
 ok:∀p∈st,DrT b sp p.2 p.1/\p.1.length=sp.length
theorem pO (e:bt H Hc)(h:H a=none):bt H (upd Hc a o):=λb u q=>by
 rw[bw (λz=>by cbv)];rwa[e b u q]
theorem siz_pos (t:Tq):1<=siz t:=by
 cases t with
 | leaf d=>rwa[ay _]
 | cut k a x y=>grind [siz]
theorem sizAll_le:∀(st:List (zB×Tq)),st.length<=nu st
 | []=>ay _
 | p::st=>by
  show st.length+1<=siz p.2+nu st;have:=siz_pos p.2;have:=sizAll_le st;lia
def rowsPk {f:α->zI}{v:V}{xs:List α}(e:kh H H')(h:IsD H v (rowsP f xs)):IsD H' v (rowsP f xs):=by
 let⟨p,ys,rfl,hp,_,r⟩:=fJ h;rwa[.tup (e _ _ hp) (eM e r)]
def scStep:bH pzb pzb (defScope sStep):=⇑0
theorem ok_stT (F:Fun K "is_step" "is_step" sStep f fd)(T:Nm mg)(G1:Fn K mg "is_within" nv pzi f1 fd1)(G2:Fn K mg "is_whole" mX pzf f2 fd2):‹0› 3 f fd pzb spStT:=by
 have F1:‹0› 2 f1 fd1 pzi spWiT:=tE G1.F T G2;rwa[F.ok scStep (by contradiction) (λcdv A outer s' H vs Q E hr h=>?_)];let⟨v,q,b,m,sp,s,rfl,hv,hq,hi,hd,k⟩:=h;let⟨t,pn,ys,rfl,ht,hpn,hl,hy⟩:=c5 hv
 exists 2,_,7,ky T ?_,17,G1,26,G1
 rwa[ς,.ref q,"tuple",rfl,(by grind [tyn]),ς,hX rfl ?_];rwa[ς,q,ς,.inr (zT hq),rfl,ς,hX (by rfl) ?_];rwa[ς,ϲ hq,ς,ϲ ht,pn,ς,.inr (zT hpn),τ,_,_,ς,(by (constructor <;> lia)),⋯,ς,hX rfl ?_];rwa[ς,ϲ hq,ς,_,_,ς,⋯,⋯,ς,mR rfl ?_];rwa[ς,ϲ hq,rfl,?_];have e:decide (V.int s.d=V.int 0)=false:=tU λz=>by cbv
 lia
def scWay:bH pzb pzb (defScope sWay):=⇑0
theorem ok_wyT (F:Fun K "is_way" "is_way" sWay f fd)(T:Nm mg)(T2:Nt mg)(G1:Fn K mg "is_step" sStep pzb f1 fd1)(F1:‹0› 3 f1 fd1 pzb spStT)(G2:Fn K mg "leads_from" sFrom pzd f2 fd2)(G3:Fn K mg "leads_to" sTo pzd f3 fd3):‹0› 4 f fd pzb spRgT:=by
 have F2:‹0› 1 f2 fd2 pzd spFrom:=ok_from G2.F;have F3:‹0› 1 f3 fd3 pzd spTo:=ok_to G3.F;specialize F.ok scWay;let⟨v,u,b,m,sp,ws,rfl,hv,hu,rg,k⟩:=h
 exists 2,_,7,ky T ?_,17,cP (oa rfl) rfl T.all boot_all ?_,1,eN (fr:=pza) (js:=[0]) rfl (jO (pv 1)) ⇑0 rfl ⇑0 rfl (by exists sWay) ⇑0 rfl ⇑0 (λ_ _ _ _ _=>⟨(pc1 G1 F1 hr (aV (pv 1) (aV (pv 0) b9))),dU⟩),7,cP (oa rfl) rfl T.all boot_all ?_,1,qP (xs:=["one","other"]) (fr:=pza) (js:=[0]) rfl (pi_zip2 rfl T2.zip (aV (pv 1) (aV (pe_slice sl_tupN (pv 1) (po_some dQ) po_none) b9))) ⇑0 rfl ⇑0 (by exists sWay) rfl ⇑0 (λ_ _ _ _ _=>pg_two rfl ⇑0 rfl rfl) (λ_ _ _ _ _=>⟨(pe_cmpR op_eq (pc1 G3 F3 hr (aV (pv 2) (aV (pv 0) b9))) (pc1 G2 F2 hr (aV (pv 2) (aV (pv 1) b9))) (qf _)),dU⟩)
 let⟨p,xs,rfl,hp,lx,rx⟩:=fJ hu;have two:=rg.two;have few:=rg.few;let⟨x0,al⟩:=rg.rnd;let⟨_,_,nxt⟩:=sJ al;rwa[ς,_,ς,hu.tyn,ς,hX rfl ?_];rwa[ς,p,ς,.inr (zT hp),rfl,ς,hX (tU λz=>by injection z;cbv) ?_];rwa[ς,p,rfl,⟨_,zT hp⟩,?_]
 let pZ1:zW:=λi zs H2=>H2=H/\zs=(bB i true).map V.bl
 rwa[gO (K:=K) (a:=p) (xs:=xs) pZ1 ⟨rfl,rfl⟩ (λi zs H2 hi ⟨e1,e2⟩=>?_) (by rw[lx];exact cO ⋯) (λi x zs H2 hx ⟨e1,e2⟩=>?_) (λzs H2 ⟨e1,e2⟩ D hD=>?_)]
 ·subst e1
  rwa[zT hp,by rw[e2,aa,gz];rwa[ay _]]
 ·subst e1
  have hi:i<ws.length:=by rw[<-lx];rwa[(aw.mp hx).1]
  let⟨q1,f1,g1⟩:=gn rx (gE hi);rw[hx] at f1;cases f1;rwa[eZ ?_];let⟨s1,s2⟩:=rg.inn ws[i] (aY hi);rwa[ς,ς,v,q1,b,m,sp,ws[i],rfl,hv,g1,s1,s2,rfl,?_];rw[e2,iX,au];rfl
 subst e1;have S3:=bt.put (o:=.lst zs) (bt.refl H2) hD;have h3:(upd H2 D (.lst zs)) D=some (.lst zs):=aJ;generalize upd H2 D (.lst zs)=H3 at S3 h3 ⊢;subst e2;rwa[D,bB xs.length true,rfl,zL h3,ς,hX ?_ ?_]
 ·rw[gm.mpr λx hx=>(by rw[(List.mem_replicate.mp hx).2];rfl)];rfl
 rwa[ς,ς,ς,p,ς,S3 _ _ hp,λp4 H4 S4 h4=>?_];rw[cut_one] at h4;have S24:=S3.trans S4;rwa[⟨false,p⟩,⟨false,p4⟩,_,ς,S24 _ _ hp,h4,?_];rwa[compT_zipS (K:=K) (c1:=⟨false,p⟩) (c2:=⟨false,p4⟩) (xs:=xs) (ys:=xs.drop 1) (λi zs H5=>bt H4 H5/\∃n,n<=i/\zs=(bB n true).map V.bl) ⟨bt.refl _,0,ay _,rfl⟩ (λi zs H5 hi ⟨e1,n,hn,e2⟩=>?_) (by rw[gk];simp) (λi x y zs p5 H5 hx hy ⟨e1,n,hn,e2⟩ hp5=>?_) (by rw[gk,lx];exact cO ⋯) (λzs H5 ⟨e1,n,hn,e2⟩ D5 hD5=>?_)]
 ·rwa[e1 _ _ (S24 _ _ hp),e1 _ _ h4,?_]
  rw[e2,aa,gz];rwa[hn]
 ·have hi:i<ws.length:=by rw[<-lx];exact(aw.mp hx).1
  rw[List.getElem?_drop,Nat.add_comm] at hy;have hi1:i+1<ws.length:=by rw[<-lx];rwa[(aw.mp hy).1]
  let⟨q1,f1,g1⟩:=gn rx (gE hi);let⟨q2,f2,g2⟩:=gn rx (gE hi1);rw[hx] at f1;rw[hy] at f2;cases f1;cases f2;have S5:=e1.put (o:=.tup [.ref q1,.ref q2]) hp5;have S25:=S24.trans S5;let⟨i1,_⟩:=rg.inn ws[i] (aY hi);let⟨i2,_⟩:=rg.inn ws[i+1] (aY hi1);rwa[eZ ?_];rwa[ς,ς,v,q1,b,m,sp,ws[i],sp[ws[i].i],rfl,hv.same S25,S25 _ _ g1,gE i1,?_];rwa[ς,ς,v,q2,b,m,sp,ws[i+1],sp[ws[i+1].i],rfl,hv.same S25,S25 _ _ g2,gE i2,rfl,S5,n+1,↥2,?_];have u1:eV sp ws[i]=too sp[ws[i].i] ws[i].d:=by unfold eV;rw[gE i1]
  have u2:lG sp ws[i+1]=frm sp[ws[i+1].i] ws[i+1].d:=by unfold lG;rw[gE i2]
  have e:=nxt i hi1;rw[u1,u2] at e;rw[e2,e,tS rfl,iX,au];rfl
 ·rwa[D5,bB n true,rfl,zL (by rw[aJ,e2]),?_]
  rw[gm.mpr λx hx=>(by rw[(List.mem_replicate.mp hx).2];rfl)];rwa[k _ (S24.trans (e1.put hD5))]
def scRing:bH pzb pzb (defScope sRing):=⇑0
theorem ok_rgT (F:Fun K "is_ring" "is_ring" sRing f fd)(T:Nm mg)(T3:N3 mg)(G1:Fn K mg "is_way" sWay pzb f1 fd1)(F1:‹0› 4 f1 fd1 pzb spRgT)(G2:Fn K mg "leads_from" sFrom pzd f2 fd2)(G3:Fn K mg "leads_to" sTo pzd f3 fd3):‹0› 5 f fd pzb spRgT:=by
 have F2:‹0› 1 f2 fd2 pzd spFrom:=ok_from G2.F;have F3:‹0› 1 f3 fd3 pzd spTo:=ok_to G3.F;specialize F.ok scRing;let⟨v,u,b,m,sp,ws,rfl,hv,hu,rg,k⟩:=h
 exists 2,_,7,G1,21,cP call_lenS rfl T.len eY ?_,1,fP (call_setL rfl) rfl T3.tset boot_set ?_,1,eN (fr:=[]) (js:=[]) rfl (jO (pv 1)) ⇑0 rfl ⇑0 rfl (by exists sRing) ⇑0 rfl ⇑0 (λ_ _ _ _ _=>⟨(jH (r:=qd K) g9 (pv 0) dQ),dU⟩),14,G2,8,G3
 let⟨p,xs,rfl,hp,lx,rx⟩:=fJ hu;have two:=rg.two;have few:=rg.few;let⟨x0,al⟩:=rg.rnd;let⟨fst,lst,_⟩:=sJ al;rwa[ς,ς,v,.ref p,b,m,sp,ws,rfl,hv,hu,rg,λH1 S1=>⟨ς,hX rfl ?_⟩];rwa[ς,p,ς,.inr (zT (S1 _ _ hp)),τ,ς,hX (tU ⋯) ?_];rwa[ς,p,rfl,⟨_,zT (S1 _ _ hp)⟩,?_];rwa[gO (K:=K) (a:=p) (xs:=xs) (λi zs H2=>H2=H1/\zs=(qk (ws.take i)).map V.int) ⟨rfl,rfl⟩ (λi zs H2 hi ⟨e1,e2⟩=>?_) (by rw[lx];exact cO ⋯) (λi x zs H2 hx ⟨e1,e2⟩=>?_) (λzs H2 ⟨e1,e2⟩ D hD=>?_)]
 ·subst e1
  rwa[zT (S1 _ _ hp),?_];rw[e2,aa];unfold qk;rw[aa,bD];cbv
 ·subst e1
  have hi:i<ws.length:=by rw[<-lx];rwa[(aw.mp hx).1]
  let⟨q1,f1,g1⟩:=gn rx (gE hi);rw[hx] at f1;cases f1;rwa[eZ ?_];rwa[ς,ϲ (S1 _ _ g1) 0,rfl,?_];rw[e2,numsS_take hi,au];rfl
 subst e1;have e3:zs=(qk ws).map V.int:=by rw[e2,lx,aG]
 subst e3;rwa[D,qk ws,rfl,zL aJ,by unfold qk;rw[aa];lia,λp4 H4 S4 h4=>?_];have SH4:=S1.trans ((bt.put (bt.refl H2) hD).trans S4);have hn:(qk ws).Nodup:=by
  unfold qk;have:ws.map (λs=>(s.i:Int))=(ws.map Stp.i).map λn:Nat=>(n:Int):=by rw[bZ];rfl
  rw[this,bM,cU];rwa[(bM.mp rg.one).imp λhh e=>hh ⋯]
 have h3:(metL (qk ws)).length=xs.length:=by rw[met_nodup hn,lx];unfold qk;rw[aa]
 rwa[p4,_,ς,h4,ς,p,ς,.inr (zT (SH4 _ _ hp)),rfl,ς,hX (by rw[h3,tS rfl];rfl) ?_];let⟨i1,_⟩:=rg.inn ws[0] (aY ⋯);let⟨i2,_⟩:=rg.inn ws[ws.length - 1] (aY ⋯);let⟨q1,f1,g1⟩:=gn rx (gE (show 0<ws.length by lia));let⟨q2,f2,g2⟩:=gn rx (gE (show ws.length - 1<ws.length by lia));rwa[ς,ς,ϲ (SH4 _ _ hp) 0 f1,v,q1,b,m,sp,ws[0],sp[ws[0].i],rfl,hv.same SH4,SH4 _ _ g1,gE i1,?_];rwa[ς,ς,ς,p,ϱ,zT (SH4 _ _ hp),atI_last (by rw[lx];rwa[f2]),v,q2,b,m,sp,ws[ws.length - 1],sp[ws[ws.length - 1].i],rfl,hv.same SH4,SH4 _ _ g2,gE i2,rfl,?_];have u1:eV sp ws[ws.length - 1]=too sp[ws[ws.length - 1].i] ws[ws.length - 1].d:=by unfold eV;rw[gE i2]
 have u2:lG sp ws[0]=frm sp[ws[0].i] ws[0].d:=by unfold lG;rw[gE i1]
 have e:frm sp[ws[0].i] ws[0].d=too sp[ws[ws.length - 1].i] ws[ws.length - 1].d:=by rw[<-u1,<-u2,fst ⋯,lst ⋯]
 rw[e,tS rfl];rwa[k H4 SH4]
def scHeaded:bH pzv pzv (defScope sHeaded):=⇑0
theorem ok_hdT (F:Fun K "is_headed" "is_headed" sHeaded f fd)(T:Nm mg)(TS:mg "str" =none):‹0› 1 f fd pzv spHdT:=by
 specialize F.ok scHeaded;let⟨u,z,y,n,ds,rfl,hd,k⟩:=h
 exists 98,_,3,ky T ?_,10,pe_isStrT T TS ?_
 rwa[ς,_,ς,hd.tyn,ς,mR rfl ?_];let⟨p,xs,rfl,hp,rx⟩:=hd.tup_of;have lx:=rx.length;cases rx with
 | cons r0 rr =>
  rename_i x0 xr;cases r0;rwa[ς,p,ς,.inr (zT hp),ς,rfl,ς,?_];have e1:decide (V.int ((V.str y::xr).length:Int)=V.int n)=decide ((ds.length:Int)+1=n):=↥2
  rw[e1]
  by_cases h1:(ds.length:Int)+1=n
  ·apply mR (tS h1) ?_
   rwa[ς,ϲ hp 0,.str y,"str",rfl,(IsD.str y).tyn,ς,mR rfl ?_];rwa[ς,ϲ hp 0,ς,rfl,?_];have e3:decide (V.str y=V.str z)=decide (y=z):=decide_eq_decide.mpr ⟨λq=>by injection q,λq=>by rw[q]⟩
   cbv
  cbv
def scCut:bH ["bounds","thing","bound"] pzQ (defScope sCut):=⇑0
theorem ok_ctT (F:Fun K "is_cut" "is_cut" sCut f fd)(T:Nm mg)(TS:mg "str" =none)(G1:Fn K mg "is_headed" sHeaded pzv f1 fd1)(G2:Fn K mg "is_within" nv pzi f2 fd2)(G3:Fn K mg "is_whole" mX pzf f3 fd3):‹0› 3 f fd pzQ spCtT:=by
 have F1:‹0› 1 f1 fd1 pzv spHdT:=ok_hdT G1.F T TS;have F2:‹0› 2 f2 fd2 pzi spWiT:=tE G2.F T G3;specialize F.ok scCut;let⟨vb,u,bs,t,rfl,hb,hd,ct,k⟩:=h;let⟨pb,yb,rfl,hpb,hlb,rb⟩:=fJ hb
 exists 2,scCut,7,G1,10,G2,31,G2
 cases t with
 | leaf d =>
  let⟨lf,rfl⟩:=ct;cases lf with
  | ring ws=>rwa[ς,u,"cut","ring",5,[oH ws],rfl,hd,ς,mR rfl k]
  | price rows=>rwa[ς,u,"cut","price",5,[.tup (rows.map rowD)],rfl,hd,ς,mR rfl k]
 | cut n a x y =>
  let⟨hn,h1,h2⟩:=ct;have hd' :=hd;rwa[ς,u,"cut","cut",5,ς,hd',ς,hX rfl ?_];let⟨p,xs,rfl,hp,rx⟩:=hd'.tup_of;cases rx with
  | cons r0 rr=>cases rr with
   | cons r1 rr=>cases rr with
    | cons r2 rr =>
     cases r1;cases r2;have e0:bs.getD n (0,0)=bs[n]:=↥2
     rw[e0] at h1 h2;let⟨qn,hqn,hqn2⟩:=gn rb (gE hn);rwa[ς,ϲ hp,ς,pb,ς,.inr (zT hpb),τ,_,_,ς,(by (constructor <;> lia)),⋯,ς,hX rfl ?_];rwa[ς,ς,ϲ hp,ϲ hpb _ hqn,?_];rwa[ς,ϲ hp,ς,ϲ hqn2,ς,ϲ hqn2,τ,_,_,ς,h1,⋯,k]
def scRowT:bH pzb pzb (defScope sRowT):=⇑0
theorem ok_rwT (F:Fun K "is_row" "is_row" sRowT f fd)(T:Nm mg)(G1:Fn K mg "is_whole" mX pzf f1 fd1)(G2:Fn K mg "is_ring" sRing pzb f2 fd2)(F2:‹0› 5 f2 fd2 pzb spRgT):‹0› 6 f fd pzb spRwT:=by
 have F1:‹0› 1 f1 fd1 pzf spWhT:=ok_whT G1.F T;specialize F.ok scRowT;let⟨v,u,b,m,sp,r,rfl,hv,hd,rg,k⟩:=h
 exists 98,_,3,ky T ?_,10,G1,7,G2
 rwa[ς,_,ς,hd.tyn,ς,mR rfl ?_];let⟨p,xs,rfl,hp,rx⟩:=hd.tup_of;cases rx with
 | cons r0 rr=>cases rr with
  | cons r1 rr =>
   cases rr;cases r0;rwa[ς,p,ς,.inr (zT hp),rfl,ς,mR (by rfl) ?_];rwa[ς,ϲ hp,ς,ς,mR rfl ?_];rwa[ς,ς,ϲ hp,v,_,b,m,sp,r.2,rfl,hv,r1,rg,k]
def scLeafT:bH ["net","thing","rows"] pzb (defScope sLeafT):=⇑0
theorem ok_lfT (F:Fun K "is_leaf" "is_leaf" sLeafT f fd)(T:Nm mg)(TS:mg "str" =none)(CR:∃t,mg "MOST_ROWS" =some (.int 40 t))(G1:Fn K mg "is_headed" sHeaded pzv f1 fd1)(G2:Fn K mg "is_ring" sRing pzb f2 fd2)(F2:‹0› 5 f2 fd2 pzb spRgT)(G3:Fn K mg "is_row" sRowT pzb f3 fd3)(G4:Fn K mg "is_whole" mX pzf f4 fd4):‹0› 7 f fd pzb spLfT:=by
 have F1:‹0› 1 f1 fd1 pzv spHdT:=ok_hdT G1.F T TS;have F3 :=ok_rwT G3.F T G4 G2 F2;specialize F.ok scLeafT;let⟨v,u,b,m,sp,lf,rfl,hv,hd,lr,k⟩:=h
 exists 4,scLeafT,4,G1,9,G2,13,G1,23,ky T ?_,8,nH CR,6,cP (oa rfl) rfl T.all boot_all ?_,1,eN (fr:=pza) (js:=[0]) rfl (jO (pv 2)) ⇑0 rfl ⇑0 rfl (by exists sLeafT) ⇑0 rfl ⇑0 (λ_ _ _ _ _=>⟨(pc1 G3 F3 hr (aV (pv 1) (aV (pv 0) b9))),dU⟩)
 cases lf with
 | ring ws =>
  have hd' :=hd;rwa[ς,u,"ring","ring",2,[oH ws],rfl,hd',ς,mR rfl ?_];let⟨p,xs,rfl,hp,rx⟩:=hd'.tup_of;cases rx with
  | cons r0 rr=>cases rr with
   | cons r1 rr =>
    rwa[ς,ς,ϲ hp,v,_,b,m,sp,ws,rfl,hv,r1,lr,k]
 | price rows =>
  have hd' :=hd;let⟨few,ok⟩:=lr;rwa[ς,u,"ring","price",2,ς,hd',ς,hX rfl ?_];rwa[ς,u,"price","price",2,ς,hd',ς,hX rfl ?_];let⟨p,xs,rfl,hp,rx⟩:=hd'.tup_of;cases rx with
  | cons r0 rr=>cases rr with
   | cons r1 rr =>
    rwa[ς,ϲ hp,?_];rwa[ς,_,ς,r1.tyn,ς,hX rfl ?_];let⟨q,ys,rfl,hq,ry⟩:=r1.tup_of;have ly:=ry.length;rw[aa] at ly;rwa[ς,q,ς,.inr (zT hq),τ,ς,hX ⋯ ?_];rwa[ς,q,rfl,⟨_,zT hq⟩,?_]
    let pZ4:zW:=λi zs H2=>bt H H2/\zs=(bB i true).map V.bl
    rwa[gO pZ4 ⟨bt.refl H,rfl⟩ (λi zs H2 hi ⟨e1,e2⟩=>⟨zT (e1 _ _ hq),↥2⟩) (by exact cO ⋯) (λi x zs H2 hx ⟨e1,e2⟩=>?_) (λzs H2 ⟨e1,e2⟩ D hD=>?_)]
    ·have hi:i<rows.length:=↥1
     let⟨d',hd2,dx⟩:=ry.get hx;rw[av,gE hi] at hd2;cases hd2;rwa[eZ ⟨ς,ς,v,x,b,m,sp,rows[i],rfl,hv.same e1,dx.same e1,↥1,λH' S'=>⟨e1.trans S',?_⟩⟩];rw[e2,iX,au];rfl
    ·rwa[D,bB ys.length true,rfl,zL (by rw[aJ,e2]),?_]
     rw[show(bB ys.length true).all id=true by simp];rwa[k _ (pO e1 (bt.free e1 hD))]
def sZ:bH ["net","thing","leaves","ahead","place","sides"] pzb (defScope rp):=⇑0
theorem ok_leavesIn (F:Fun K "leaves_in" "leaves_in" rp f fd)(T:Nm mg)(CL:∃t,mg "MOST_LEAVES_WALKED" =some (.int 20000 t))
  (G1:Fn K mg "first_bounds" sFirst pza f1 fd1) (F1:‹0› 1 f1 fd1 pza rf)
  (G2:Fn K mg "is_cut" sCut pzQ f2 fd2) (F2:‹0› 3 f2 fd2 pzQ spCtT)
  (G3:Fn K mg "sides_of" sSides pzO f3 fd3) (F3:‹0› 2 f3 fd3 pzO spSides)
  (G4:Fn K mg "is_leaf" sLeafT pzb f4 fd4) (F4:‹0› 7 f4 fd4 pzb spLfT):‹0› 8 f fd pzb spLvT:=by
 specialize F.ok sZ;let⟨v,u,b,m,sp,t,rfl,hv,hu,few,ok,hsz,k⟩:=h
 exists 3,sZ,11,G1,24,G2,14,G3,36,G4,15,nH CL
 rwa[bq _,λLs hLs=>?_];have S1:bt H (upd H Ls (.lst [])):=bt.put (bt.refl H) hLs;have h1:(upd H Ls (.lst [])) Ls=some (.lst []):=aJ;generalize upd H Ls (.lst [])=H1 at S1 h1 ⊢;rwa[ς,v,b,m,sp,rfl,hv.same S1,⋯,λub H2 S2 hub=>⟨ς,lh,λq3 H3 S3 h3=>⟨szZ1,λAh hAh=>?_⟩⟩];have S13:=S1.trans (S2.trans S3);have nLA:Ls≠Ah:=λz=>by rw[<-z,S3 _ _ (S2 _ _ h1)] at hAh;cases hAh
 have hAhH:H Ah=none:=by
  cases z:H Ah with
  | none=>rfl
  | some o=>rw[S13 _ _ z] at hAh;cases hAh
 have S4:bt H3 (upd H3 Ah (.lst [.ref q3])):=bt.put (bt.refl H3) hAh;have h4:(upd H3 Ah (.lst [.ref q3])) Ah=some (.lst [.ref q3]):=aJ;generalize upd H3 Ah (.lst [.ref q3])=H4 at S4 h4 ⊢;obtain⟨bs0,hbs0⟩:∃bs0,bs0=sp.map λx=>(x.l,x.o):=⟨ς⟩
 rw[<-hbs0] at ok hub;have J4:LvJ b sp H H4 Ls Ah [(bs0,t)] 0:=⟨S13.trans S4,⟨[],S4 _ _ (S3 _ _ (S2 _ _ h1)),rfl⟩,⟨[.ref q3],h4,.cons ⟨q3,ub,u,rfl,S4 _ _ h3,(hub.same S3).same S4,hu⟩ .nil⟩,λp hp=>↥2⟩
 let pW1:zV:=λn σ Hc=>∃(st:List (zB×Tq)) (fo:Nat) (v4 v5:zU),n=nu st/\σ=[some v,some u,some (.ref Ls),some (.ref Ah),v4,v5]/\LvJ b sp H Hc Ls Ah st fo/\fo+nu st<=9000
 rwa[pW1,⟨_,_,_,none,none,rfl,rfl,J4,by show 0+(siz t+0)<=9000;cbv⟩,?_];rintro n σ Hc ⟨st,fo,v4,v5,rfl,rfl,J,hmx⟩
 sleep 0
 let⟨zs,hz,pz⟩:=J.ah;rwa[ς,Ah,ς,.inl (zL hz),τ,ς,?_];cases pz with
 | nil=>rwa[hX (by rfl) ⟨ς,k Ls Hc J.same⟩]
 | cons h r =>
  rename_i y p zs st;rwa[mR ↥2 ?_];rwa[_,λσ' H' z=>z,?_]
  sleep 0
  rw[e8] at hz;rwa[ς,.inl ⟨rfl,_,zL hz⟩,Ah,_,y,rfl,rfl,hz,↥2,?_];rw[eI];let⟨q,vb,vd,rfl,hq,hvb,hvd⟩:=h;have K5:kh Hc (upd Hc Ah (.lst zs.reverse)):=eJ hz;have q5:=K5 _ _ hq;have vb5:=rowsPk K5 hvb;have hz5:(upd Hc Ah (.lst zs.reverse)) Ah=some (.lst zs.reverse):=aJ;have S5:bt H (upd Hc Ah (.lst zs.reverse)):=pO J.same hAhH;let⟨ys,hy,ly⟩:=J.ls;have hy5:(upd Hc Ah (.lst zs.reverse)) Ls=some (.lst ys):=by rw[bw nLA];rwa[hy]
  have r5:=r.keep K5;let⟨okp,lenp⟩:=J.ok p ∅;have ok5:∀p∈st,DrT b sp p.2 p.1/\p.1.length=sp.length:=λp hp=>J.ok p ↥2
  generalize upd Hc Ah (.lst zs.reverse)=H5 at K5 q5 vb5 hz5 S5 hy5 r5 ⊢;have vd5:=hvd.same S5;let⟨bs,tq⟩:=p;have lenp:bs.length=sp.length:=lenp;have mx:=sizAll_le st;cases tq with
  | cut kk a x y =>
   let⟨o1,o2,o3,o4,o5⟩:=okp;rwa[ς,ϲ q5,ς,ϲ q5,vb,vd,bs,.cut kk a x y,rfl,vb5,vd5,⟨o1,o2,o3⟩,ς,mR rfl ?_];let⟨c,cs,rfl,hc,rc⟩:=hvd.tup_of;cases rc with
   | cons g0 gr=>cases gr with
    | cons g1 gr=>cases gr with
     | cons g2 gr=>cases gr with
      | cons g3 gr=>cases gr with
       | cons g4 gr =>
        cases gr;cases g0;cases g1;cases g2;rename_i x3 x4;rwa[ς,ϲ q5,ς,ϲ q5,vb,c,bs,kk,a,x3,x4,rfl,vb5,S5 _ _ hc,o1,↥2,λp6 q6 r6 u1 u3 H6 S6 h6 hq6 hu1 hr6 hu3=>?_];have hz6:=S6 _ _ hz5;have pz6:=r5.keep (bt.tupK S6);have lz:=pz6.length;have hmx:fo+((siz x+siz y+1)+nu st)<=9000:=hmx;rwa[ς,.inl ⟨rfl,_,zL hz6⟩,ς,ϲ h6,Ah,τ,hz6,(aW ↥1 (by decide:9500<=aO)),?_];have K7:kh H6 (upd H6 Ah (.lst (zs.reverse++[.ref r6]))):=eJ hz6;have hz7:(upd H6 Ah (.lst (zs.reverse++[.ref r6]))) Ah=some (.lst (zs.reverse++[.ref r6])):=aJ;have hy7:(upd H6 Ah (.lst (zs.reverse++[.ref r6]))) Ls=some (.lst ys):=by rw[bw nLA];rwa[S6 _ _ hy5]
        have S7:bt H (upd H6 Ah (.lst (zs.reverse++[.ref r6]))):=pO (S5.trans S6) hAhH;generalize upd H6 Ah (.lst (zs.reverse++[.ref r6]))=H7 at K7 hz7 hy7 S7 ⊢;rwa[ς,.inl ⟨rfl,_,zL hz7⟩,ς,ϲ (K7 _ _ h6),Ah,τ,hz7,(aW ↥1 (by decide:9500<=aO)),?_];have K68:=K7.trans (eJ (o:=.lst (zs.reverse++[.ref r6]++[.ref q6])) hz7);rwa[siz x+(siz y+nu st),by grind [siz,nu],(kF bs kk a,x)::(de bs kk a,y)::st,fo,τ,⟨pO S7 hAhH,⟨ys,by rw[bw nLA];rwa[hy7],ly⟩,⟨.ref q6:: .ref r6::zs,by grind [aJ,e8],.cons ⟨q6,u1,x3,rfl,K68 _ _ hq6,rowsPk K68 hu1,g3⟩ (.cons ⟨r6,u3,x4,rfl,K68 _ _ hr6,rowsPk K68 hu3,g4⟩ (pz6.keep K68))⟩,λp hp=>?_⟩,by grind [siz,nu]]
        grind [bh,rV,nI]
  | leaf d =>
   let⟨lf,rfl,ol⟩:=okp;rwa[ς,ϲ q5 0,ς,ϲ q5 1,vb,vd,bs,.leaf (my lf),rfl,vb5,vd5,⟨lf,rfl⟩,ς,hX rfl ?_];rwa[ς,ς,ϲ q5 1,v,vd,b,m,sp,lf,rfl,hv.same S5,vd5,lfR_of ol,λH6 S6=>⟨ς,mR rfl ?_⟩];have hmx:fo+(1+nu st)<=9000:=hmx;have hy6:=S6 _ _ hy5;rwa[ς,Ls,ς,.inl (zL hy6),τ,ς,mR ⋯ ?_];rwa[ς,.inl ⟨rfl,_,zL hy6⟩,ς,Ls,τ,hy6,(aW (by lia:ys.length<9500) (by decide:9500<=aO)),?_];rwa[nu st,by show _<1+nu st;cbv,st,fo+1,τ,⟨pO (S5.trans S6) hLs,⟨_,aJ,↥2⟩,⟨zs,by rw[bw nLA.symm];rwa[S6 _ _ hz5],(r5.keep (bt.tupK S6)).keep (eJ hy6)⟩,ok5⟩,⋯]
def scTreeI:bH pzb pzb (defScope sTreeI):=⇑0
theorem ok_treeI (F:Fun K "is_tree" "is_tree" sTreeI f fd)(G1:Fn K mg "leaves_in" rp pzb f1 fd1)(F1:‹0› 8 f1 fd1 pzb spLvT):‹0› 9 f fd pzb spTreeI:=by
 specialize F.ok scTreeI;let⟨v,u,b,m,sp,t,rfl,hv,hu,few,hc,hs,k⟩:=h
 exists 98,_,3,op_notN,G1
 rwa[ς,ς,v,u,b,m,sp,t,rfl,hv,hu,few,hc,hs,λL H' S'=>⟨rfl,?_⟩]
 cbv
abbrev sShownL:bY:=top 104
theorem lvs_ne:∀(t:Tq) (bs:zB),lvs t bs≠[]
 | .leaf _,_=>by intro z;cases z
 | .cut k a x y,bs=>by
  intro z;rwa[lvs_ne x _ (List.append_eq_nil_iff.mp z).1]
structure ShArg9 (H:Hp)(v u:V)(b m:Int)(sp:zS)(t:Tq)(ps:List Plc):Prop where
 net:‹4›
 tr:IsD H u (jG t)
 b0:0<b
 b61:b<10 ^ 61
 few:sp.length<=40
 ws:∀x∈sp,0<=x.w/\x.w<=1000000000000
 siz:siz t<=9000
 lv:lvs t (sp.map λx=>(x.l,x.o))=ps.map plcL
 ok:∀p∈ps,PlOk sp.length p
inductive spShownL (dd:Nat)(vs:zA)(H:Hp)(Q:VK)(_:XK):Prop
 | mk (v u:V)(b m:Int)(sp:zS)(t:Tq)(ps:List Plc)(_:vs=[v,u])(_:ShArg9 H v u b m sp t ps)(_:dpT t<dd)(_:HdsOk t)(_:InsT t (sp.map λx=>(x.l,x.o)))(_:∀r H',bt H H'->ShAns b sp ps r H'->Q r H')
def scShownL:bH ["_law_net_here","_law_tree","_law_worths","_law_bounds_here","_law_leaf"] pzE (defScope sShownL):=⇑0
theorem ok_shownL {dd:Nat}(F:Fun K "_law_shown" "_law_shown" sShownL f fd)(T:Nm mg)
  (G1:Fn K mg "_law_leaves" qI pzo f1 fd1) (F1:‹0› dd f1 fd1 pzo (nk dd))
  (G2:Fn K mg "_law_bounds" qM pze f2 fd2) (F2:‹0› 1 f2 fd2 pze rf)
  (G3:Fn K mg "_law_is_right" sIsRL pzp f3 fd3) (F3:‹0› 2 f3 fd3 pzp spIsRight)
  (G4:Fn K mg "_law_worth" sWorthL pzp f4 fd4) (F4:‹0› 2 f4 fd4 pzp spWorthL):‹0› (dd+3) f fd pzE (spShownL dd):=by
 specialize F.ok scShownL;let⟨v,u,b,m,sp,t,ps,rfl,W,hdp,hhd,hin,k⟩:=h;let⟨hv,hu,b0,b61,few,hws,hsz,hlv,hok⟩:=W;have hrd:kX dd _:=hr.mono ↥2;have hr2:kX 2 _:=hr.mono ↥2;have hr1:kX 1 _:=hr.mono ↥2
 exists 3,scShownL,7,gU ?_,pc1 G1 F1 hrd ?_,3,pc1 G2 F2 hr1 ?_,15,pc1 G3 F3 hr2 ?_,25,pc1 G4 F4 hr2 ?_,12,op_eqL0 hr.units0,1,nG ?_,14,cP (call_min1 rfl) rfl T.min boot_min ?_
 rwa[bq _,λLw hLw=>?_];have S1:bt H (upd H Lw (.lst [])):=bt.put (bt.refl H) hLw;have h1:(upd H Lw (.lst [])) Lw=some (.lst []):=aJ;rwa[ς,ς,v,b,m,sp,rfl,hv.same S1,⋯,λvb H2 S2 hvb=>?_];have S02:=S1.trans S2;rwa[u,vb,t,sp.map λx=>(x.l,x.o),rfl,hdp,hsz,hu.same S02,hhd,hin,hvb,↥2,λR ys H3 S3 hR hys=>?_];rw[hlv,bZ] at hys;have ly:ys.length=ps.length:=by rw[hys.length,aa]
 have lps:ps.length<=9000:=by
  grind [rY,aa]
 have h3 :=S3 _ _ (S2 _ _ h1);have nR:R≠Lw:=λz=>by
  grind [fT,lvs_ne]
 have plc:∀{i:Nat} {y:V},ys[i]? =some y->∃(hi:i<ps.length) (q:ai) (vb vl:V),y= .ref q/\H3 q=some (.tup [vb,vl])/\IsD H3 vb (pY ps[i].1)/\IsD H3 vl (my ps[i].2):=λ{i y} hy=>by
  let⟨d,hd,dy⟩:=hys.get hy
  grind [av,gE,plc_of]
 rwa[R,rfl,⟨_,zL hR⟩,?_];rwa[jb (λi σ H4=>bt H H4/\kh H3 H4/\H4 R=some (.lst ys)/\H4 Lw=some (.lst ((iT b sp (ps.take i)).map V.int))/\(ps.take i).all (tf b)=true/\∃v3 v4,σ=[some v,some u,some (.ref Lw),v3,v4]) ⟨S02.trans S3,λ_ _ z=>z,hR,h3,rfl,none,none,rfl⟩ (λi σ H4 _ z=>zL z.2.2.1) ?_ ?_]
 ·rintro i y σ H4 hy ⟨S4,K4,hR4,hW4,all4,v3,v4,rfl⟩
  let⟨hi,q,vb,vl,rfl,hq,hb,hl⟩:=plc hy;have ok:=hok ps[i] (aY hi);have hb4 :=hb.keepP K4 (lR _ _);have hl4 :=hl.keepP K4 (pl_leaf _);let⟨ql,xl,rfl,hql⟩:=word_of hl4;rwa[q,ς,zT (K4 _ _ hq),rfl,_,ς,τ,?_];rwa[ς,ς,ς,v,vb,.ref ql,b,m,sp,ps[i].1,ps[i].2,rfl,hv.same S4,b0,b61,hb4,hl4,by rw[ok.len];rwa[ok.inn],λH5 S5=>⟨ς,?_⟩];cases hright:rightB b ps[i].1 ps[i].2 with
  | false =>
   rwa[k .non H5 (S4.trans S5) ?_];unfold ShAns;rw[tP]
   grind [all_not,tf]
  | true =>
  have all5:=all_take (tf b) hi all4 hright;rw[worths_take hi];rwa[ς,ϲ (S5 _ _ hql),rfl,ς,?_];cases hlf:ps[i].2 with
  | ring ws =>
   rwa[hX (tU (by show ¬V.str "ring" =V.str "price";decide)) ⟨S4.trans S5,K4.trans (bt.tupK S5),S5 _ _ hR4,?_,all5,_,ς⟩];have:qS b sp ps[i]=none:=by unfold qS;rw[hlf]
   rw[this];show _=some (HO.lst (List.map V.int (_++[])));rw[fk];rwa[S5 _ _ hW4]
  | price rows =>
   let⟨l41,rk⟩:=ok.rws rows hlf;have:qS b sp ps[i]=some (jN b sp ps[i].1 rows):=by unfold qS;rw[hlf]
   rw[this];rw[hlf] at hl4;rwa[ς,.inl ⟨rfl,_,zL (S5 _ _ hW4)⟩,ς,ς,ς,v,vb,.ref ql,b,m,sp,ps[i].1,rows,rfl,⟨(hv.same S4).same S5,hb4.same S5,hl4.same S5,b0,b61,ok.len,few,ok.bu,hws,rk,l41⟩,λH6 S6=>?_];have S56:=S5.trans S6;have hW6:=S56 _ _ hW4;have wl:=worths_len (b:=b) (sp:=sp) (ps.take i);rwa[Lw,τ,hW6,(aW ↥1 (by decide:9500<=aO)),pO (S4.trans S56) hLw,(K4.trans (bt.tupK S56)).trans (eJ hW6),by rw[bw nR];rwa[S56 _ _ hR4],?_,all5,_,ς];rw[aJ,au];rfl
 ·rintro σ H4 ⟨S4,K4,hR4,hW4,all4,v3,v4,rfl⟩
  rw[ly,aG] at hW4 all4;rwa[ς,∅,λq5 H5 S5 h5=>⟨Lw,q5,ς,rfl,zL (S5 _ _ hW4),zL h5,ς,?_⟩];cases hw:iT b sp ps with
  | nil =>
   rwa[↥0,λq6 H6 S6 h6=>k (.ref q6) H6 (S4.trans (S5.trans S6)) ?_];unfold ShAns;rw[tQ all4,hw];rwa[.tup h6 (.cons (.str _) .nil)]
  | cons a l =>
   rwa[ς,Lw,iT b sp ps,rfl,zL (S5 _ _ hW4),by rw[hw];simp,lh,λq6 H6 S6 h6=>k (.ref q6) H6 (S4.trans (S5.trans S6)) ?_];unfold ShAns;rw[tQ all4,hw];rw[hw] at h6;rwa[.tup h6 (.cons (.str _) (.cons (.int _) .nil))]
abbrev sWaitsN:bY:=top 105
def scWaitsN:bH ["_law_net_here","_law_table","_law_waits_here","_law_start","_law_goal","_law_least","_law_most","_law_weight"] pzg (defScope sWaitsN):=⇑0
theorem ok_waitsN (F:Fun K "_law_waits" "_law_waits" sWaitsN f fd):‹0› 1 f fd pzg spWaitsN:=by
 specialize F.ok scWaitsN;let⟨v,u,b,m,sp,ts,rfl,hv,hu,R,k⟩:=h;let⟨t,p,ys,rfl,ht,hp,hl,hy⟩:=c5 hv;have few:=R.few
 exists 2,scWaitsN
 rwa[bq _,λL hL=>?_];have S1:bt H (upd H L (.lst [])):=bt.put (bt.refl H) hL;have h1:(upd H L (.lst [])) L=some (.lst []):=aJ;generalize upd H L (.lst [])=H1 at S1 h1 ⊢;rwa[ς,ϲ (S1 _ _ ht),p,rfl,⟨_,zT (S1 _ _ hp)⟩,?_]
 let pZ1:zV:=λi σ H2=>bt H H2/\H2 L=some (.lst ((iQ b ts (sp.take i)).map V.int))/\∃v3 v4 v5 v6 v7,σ=[some (.ref t),some (.ref u),some (.ref L),v3,v4,v5,v6,v7]
 rwa[jU pZ1 ⟨S1,h1,none,none,none,none,none,rfl⟩ (λi σ H2 _ ⟨S2,_⟩=>zT (S2 _ _ hp)) ?_ ?_]
 ·rintro i x σ H2 hx ⟨S2,h2,v3,v4,v5,v6,v7,rfl⟩
  sleep 0
  have hi:i<sp.length:=↥1
  let⟨q,hq,hq2⟩:=hy i sp[i] (gE hi);rw[hx] at hq;cases hq;have hq3:=S2 _ _ hq2;have hu2:=S2 _ _ hu;let⟨s0,s1,g0,g1⟩:=R.ends sp[i] (aY hi);rwa[q,ς,zT hq3,rfl,_,ς,_,ς,_,ς,_,ς,τ,?_];rwa[ς,.inl ⟨rfl,_,zL h2⟩,ς,ς,u,ϱ,zT hu2,tm_at g0 g1,ς,ς,u,ϱ,zT hu2,tm_at s0 s1,τ,ς,τ,ς,ϲ (S2 _ _ ht),τ,R.b1,?_];rwa[L,τ,h2,(aW (by grind [iQ,aa,bD]) (by decide:1001<=aO)),?_];rwa[λc o e=>?_,?_,_,_,_,_,ς]
  ·rw[bw (λz=>by cbv)]
   rwa[S2 _ _ e]
  ·rw[aJ,aE,gE hi]
   unfold iQ;rw[au,au];rfl
 ·rintro σ H2 ⟨S2,h2,v3,v4,v5,v6,v7,rfl⟩
  sleep 0
  rw[hl,aG] at h2;rwa[ς,k L H2 S2 h2]
abbrev sFitsN:bY:=top 106
abbrev sWaitN:bY:=top 107
def scFitsN:bH ["_law_net_here","_law_table","_law_wait_here","_law_span_here"] pzg (defScope sFitsN):=⇑0
theorem ok_fitsN (F:Fun K "_law_fits" "_law_fits" sFitsN f fd)(T2:Nt mg)(G1:Fn K mg "_law_waits" sWaitsN pzg f1 fd1):‹0› 2 f fd pzg sY:=by
 have F1:‹0› 1 f1 fd1 pzg spWaitsN:=ok_waitsN G1.F;specialize F.ok scFitsN;let⟨v,u,b,m,sp,ts,rfl,hv,hu,R,k⟩:=h;let⟨t,p,ys,rfl,ht,hp,hl,hy⟩:=c5 hv
 exists 1,scFitsN,3,pi_zip2 rfl T2.zip ?_,1,G1
 rwa[ς,ς,.ref t,u,b,m,sp,ts,rfl,hv,hu,R,λL H1 S1 h1=>?_];rwa[ς,ϲ (S1 _ _ ht),⟨true,L⟩,⟨false,p⟩,_,ς,h1,S1 _ _ hp,?_]
 let pZ1:zV:=λi σ H2=>bt H1 H2/\(∀x∈sp.take i,brk b ts x=false)/\∃v2 v3,σ=[some (.ref t),some (.ref u),v2,v3]
 rwa[for_zip2 pZ1 ⟨bt.refl H1,↥2,none,none,rfl⟩ (λi σ H2 _ ⟨S2,_⟩=>⟨S2 _ _ h1,S2 _ _ (S1 _ _ hp)⟩) (by grind [iQ,aa]) ?_ ?_]
 ·rintro i x y pz σ H2 hx' hx ⟨S2,hno,v2,v3,rfl⟩ hpz
  sleep 0
  have hi:i<sp.length:=↥1
  let⟨q,hq,hq2⟩:=hy i sp[i] (gE hi);rw[hx] at hq;cases hq;unfold iQ at hx';rw[av,av,gE hi] at hx';cases hx';have S3:bt H1 (upd H2 pz (.tup [.int (fq b ts sp[i]),.ref q])):=S2.put hpz;have h3:(upd H2 pz (.tup [.int (fq b ts sp[i]),.ref q])) pz=some (.tup [.int (fq b ts sp[i]),.ref q]):=aJ;generalize upd H2 pz (.tup [.int (fq b ts sp[i]),.ref q])=H3 at S3 h3 ⊢;have hq3:=S3 _ _ (S1 _ _ hq2);rwa[pz,ς,zT h3,rfl,_,ς,τ,?_];rwa[ς,ς,ϲ hq3,ς,ϲ hq3,τ,τ,ς,?_];rwa[oJ (λhc=>?_) (λhc=>?_)]
  ·have e:gM b ts sp=false:=by
    unfold gM;rw[List.any_eq_true.mpr ⟨sp[i],aY hi,hc⟩];rfl
   have kk:=k H3 (S1.trans S3);rw[e] at kk;rwa[kk]
  ·rwa[S3,λx hx=>?_,_,ς]
   rw[aE,gE hi] at hx
   rcases bj.mp hx with hx | hx
   ·rwa[hno x hx]
   ·rw[bf.mp hx]
    rwa[gR.mpr hc]
 ·rintro σ H2 ⟨S2,hno,v2,v3,rfl⟩
  sleep 0
  have e:gM b ts sp=true:=by
   unfold gM;rw[j4,iP];intro x hx;have:=hno x (by grind [iQ,aa,aG])
   cbv
  have kk:=k H2 (S1.trans S2);rw[e] at kk;rwa[kk]
def scWaitN:bH pzg pzg (defScope sWaitN):=⇑0
theorem ok_waitN (F:Fun K "_law_wait" "_law_wait" sWaitN f fd)(T2:Nt mg)(G1:Fn K mg "_law_waits" sWaitsN pzg f1 fd1):‹0› 2 f fd pzg nW:=by
 have F1:‹0› 1 f1 fd1 pzg spWaitsN:=ok_waitsN G1.F;specialize F.ok scWaitN;let⟨v,u,b,m,sp,ts,rfl,hv,hu,R,hw,k⟩:=h;let⟨t,p,ys,rfl,ht,hp,hl,hy⟩:=c5 hv;have few:=R.few
 exists 98,_,2,cP (call_sum rfl) rfl T2.sum boot_sum ?_,1,qP (fr:=[]) (js:=[]) rfl (pi_zip2 rfl T2.zip (aV (pc1 G1 F1 hr (aV (pv 0) (aV (pv 1) b9))) (aV (ixZ (pv 0)) b9))) ⇑0 rfl ⇑0 ∅ rfl ⇑0 (λ_ _ _ _ _=>pg_two rfl ⇑0 rfl rfl) (λ_ _ _ _ _=>⟨(sQ op_mul (pv 0) (jH (r:=qd K) g9 (pv 1) dQ)),dU⟩)
 rwa[ς,ς,.ref t,u,b,m,sp,ts,rfl,hv,hu,R,λL H1 S1 h1=>?_];rwa[ς,ϲ (S1 _ _ ht),⟨true,L⟩,⟨false,p⟩,_,ς,h1,S1 _ _ hp,?_];rwa[tK (λi zs H2=>bt H1 H2/\zs=((sp.take i).map λx=>x.w * fq b ts x).map V.int) ⟨bt.refl H1,rfl⟩ (λi zs H2 hi ⟨S2,e2⟩=>⟨S2 _ _ h1,S2 _ _ (S1 _ _ hp),?_⟩) (by grind [iQ,aa]) (by unfold iQ;rw[aa,aa];exact cO few) (λi x y zs pz H2 hx' hx ⟨S2,e2⟩ hpz=>?_) (λzs H2 ⟨S2,e2⟩ D hD=>?_)]
 ·grind
 ·have hi:i<sp.length:=↥1
  let⟨q,hq,hq2⟩:=hy i sp[i] (gE hi);rw[hx] at hq;cases hq;unfold iQ at hx';rw[av,av,gE hi] at hx';cases hx';have S3:bt H1 (upd H2 pz (.tup [.int (fq b ts sp[i]),.ref q])):=S2.put hpz;have hq3:=S3 _ _ (S1 _ _ hq2);let⟨w0,w1⟩:=hw sp[i] (aY hi);rwa[ς,ς,ϲ hq3,τ,.inr ⟨⋯,⋯⟩,S3,?_]
  grind [fq,Int.mul_comm,aE,gE,au]
 ·rwa[D,ς,zL (by rw[e2];rwa[aJ]),?_]
  have e3:((sp.take ((iQ b ts sp).map V.int).length).map λx=>x.w * fq b ts x).sum=cp b ts sp:=by
   grind [cp,iQ,aa,aG]
  rw[e3];rwa[k _ (S1.trans (S2.put hD))]
def namS (js:zI)(x:Sn):Sn:=⟨tm js x.s,tm js x.g,x.l,x.o,x.w⟩
theorem any_same {α:Type}{p q:α->Bool}:∀(l:List α),(∀x∈l,p x=q x)->l.any p=l.any q
 | [],_=>rfl
 | x::l,h=>by
  rw[gX,gX,h x ∅,any_same l λy hy=>h y (az _ hy)]
inductive spNamed (vs:zA)(H:Hp)(Q:VK)(_:XK):Prop
 | mk (q L:ai)(x:Sn)(js:zI)(_:vs=[.ref q,.ref L])(_:H q=some (.tup (x.row.map V.int)))(_:H L=some (.lst (js.map V.int)))(_:0<=x.s)(_:x.s<js.length)(_:0<=x.g)(_:x.g<js.length)(_:∀p H',bt H H'->H' p=some (.tup ((namS js x).row.map V.int))->Q (.ref p) H')
def rgI (n:Nat):zI:=(aQ n).map λ(k:Nat)=>(k:Int)
theorem rgI_len (n:Nat):(rgI n).length=n:=by unfold rgI;cbv
theorem rgI_at {n:Nat}(h:i<n):(rgI n)[i]? =some (i:Int):=by unfold rgI;rw[av,gc h];rfl
theorem pP {n:Nat}{a:Int}:a∈rgI n↔0<=a/\a<n:=by
 unfold rgI;rw[bc]
 constructor
 ·grind
 ·rintro⟨h0,h1⟩
  rwa[a.toNat,cg.mpr ↥2,⋯]
theorem rJ (n:Nat):(rgI n).Nodup:=cU.mpr (List.pairwise_lt_range.imp λh=>by lia)
theorem rgI_le (n:Nat):(rgI n).Pairwise (· <= ·):=cU.mpr (List.pairwise_lt_range.imp λh=>by lia)
abbrev Ord (os:zI)(n:Nat):Prop:=os.Perm (rgI n)
theorem sorted_ord {n:Nat}(h:Ord os n)(p:ns.Perm os)(s:ns.Pairwise (· <= ·)):ns=rgI n:=
 List.Perm.eq_of_pairwise ⋯ s (rgI_le n) (p.trans h)
section
variable {n:Nat}
theorem Ord.len (h:Ord os n):os.length=n:=by rw[List.Perm.length_eq h,rgI_len]
theorem Ord.nodup (h:Ord os n):os.Nodup:=(List.Perm.nodup_iff h).mpr (rJ n)
def Ord.mem (h:Ord os n){a:Int}:a∈os↔0<=a/\a<n:=(List.Perm.mem_iff h).trans pP
noncomputable def posI (os:zI)(k:Int):Int:=((os.idxOf k:Nat):Int)
def l9 (os:zI)(n:Nat):zI:=(rgI n).map (posI os)
theorem posL_len (os:zI)(n:Nat):(l9 os n).length=n:=by unfold l9;rw[aa,rgI_len]
theorem pS (os:zI){i:Int}(h0:0<=i)(h1:i<n):tm (l9 os n) i=posI os i:=by
 have hi:i.toNat<n:=by cbv
 have e:((i.toNat:Nat):Int)=i:=by lia
 unfold tm l9;rw[af,av,rgI_at hi,e];rfl
theorem Ord.lt (h:Ord os n){k:Int}(h0:0<=k)(h1:k<n):os.idxOf k<os.length:=List.idxOf_lt_length_iff.mpr (h.mem.mpr ⟨h0,h1⟩)
theorem Ord.at (h:Ord os n){k:Int}(h0:0<=k)(h1:k<n):os[os.idxOf k]? =some k:=by
 rw[gE (h.lt h0 h1),List.getElem_idxOf]
theorem Ord.first (h:Ord os n){k:Int}(hj:j<os.idxOf k):os[j]? ≠some k:=λe=>by
 let⟨hl,e2⟩:=aw.mp e;have:=h.nodup.idxOf_getElem j hl
 cbv
theorem Ord.pos_in (h:Ord os n){k:Int}(h0:0<=k)(h1:k<n):0<=posI os k/\posI os k<n:=by
 have:=h.lt h0 h1;rw[h.len] at this;unfold posI;cbv
theorem Ord.tmpos (h:Ord os n){k:Int}(h0:0<=k)(h1:k<n):tm os (posI os k)=k:=by
 unfold tm posI;rw[cw,af,h.at h0 h1];rfl
theorem Ord.tm_in (h:Ord os n){i:Int}(h0:0<=i)(h1:i<n):0<=tm os i/\tm os i<n:=by
 have hi:i.toNat<os.length:=by rw[h.len];cbv
 have e:tm os i=os[i.toNat]:=by unfold tm;rw[af,gE hi];rfl
 rw[e];rwa[h.mem.mp (aY hi)]
theorem Ord.postm (h:Ord os n){i:Int}(h0:0<=i)(h1:i<n):posI os (tm os i)=i:=by
 have hi:i.toNat<os.length:=by rw[h.len];cbv
 have e:tm os i=os[i.toNat]:=by unfold tm;cbv
 rw[e];unfold posI;rw[h.nodup.idxOf_getElem i.toNat hi];lia
theorem Ord.back (h:Ord os n):Ord (l9 os n) n:=by
 rwa[(List.perm_ext_iff_of_nodup ?_ (rJ n)).mpr λa=>?_]
 ·apply cU.mpr ((rJ n).imp_of_mem λ{a b} ha hb hne e=>hne ?_)
  let⟨a0,a1⟩:=pP.mp ha;let⟨b0,b1⟩:=pP.mp hb;rw[<-h.tmpos a0 a1,e,h.tmpos b0 b1]
 ·rw[pP]
  constructor
  ·intro ha
   let⟨k,hk,rfl⟩:=bc.mp ha;let⟨k0,k1⟩:=pP.mp hk;rwa[h.pos_in k0 k1]
  ·rintro⟨h0,h1⟩
   rwa[bc.mpr ⟨tm os a,pP.mpr (h.tm_in h0 h1),h.postm h0 h1⟩]
end
def EndsIn (n:Nat)(sp:zS):Prop:=∀x∈sp,0<=x.s/\x.s<n/\0<=x.g/\x.g<n
theorem nam_back {n:Nat}(h:Ord os n)(hs:EndsIn n sp):(sp.map (namS (l9 os n))).map (namS (l9 (l9 os n) n))=sp:=by
 rw[bZ]
 conv=>rhs;rw[<-List.map_id sp]
 rwa[c9 λx hx=>?_]
 let⟨s0,s1,g0,g1⟩:=hs x hx;have e:∀k:Int,0<=k->k<n->tm (l9 (l9 os n) n) (tm (l9 os n) k)=k:=λk k0 k1=>by
  let⟨t0,t1⟩:=h.back.tm_in k0 k1;rw[pS _ t0 t1,h.back.postm k0 k1]
 show⟨tm (l9 (l9 os n) n) (tm (l9 os n) x.s),tm (l9 (l9 os n) n) (tm (l9 os n) x.g),x.l,x.o,x.w⟩=x;rw[e _ s0 s1,e _ g0 g1]
def rR (ts os:zI):zI:=os.map (tm ts)
theorem permT_len (ts os:zI):(rR ts os).length=os.length:=by unfold rR;rw[aa]
theorem tm_perm {n:Nat}(h:Ord os n)(ts:zI){k:Int}(h0:0<=k)(h1:k<n):tm (rR ts os) (posI os k)=tm ts k:=by
 show(os.map (tm ts)).getD ((os.idxOf k):Int).toNat 0=tm ts k;rw[cw,af,av,h.at h0 h1];rfl
def waitM_nam {n:Nat}(h:Ord os n)(hs:EndsIn n sp):∀x∈sp,fq b (rR ts os) (namS (l9 os n) x)=fq b ts x:=λx hx=>by
 let⟨s0,s1,g0,g1⟩:=hs x hx;show(tm (rR ts os) (tm (l9 os n) x.g) - tm (rR ts os) (tm (l9 os n) x.s) - x.l) % b=fq b ts x;rw[pS _ s0 s1,pS _ g0 g1,tm_perm h ts s0 s1,tm_perm h ts g0 g1];rfl
def OrdAt (H:Hp)(t u:ai)(n:Nat)(os:zI):Prop:=(∃(b:Int) (rest:zA),H t=some (.tup (.int b:: .int (n:Int)::rest)))/\H u=some (.tup (os.map V.int))/\Ord os n/\n<=16
inductive rd (vs:zA)(H:Hp)(Q:VK)(_:XK):Prop
 | mk (t u:ai)(n:Nat)(os:zI)(_:vs=[.ref t,.ref u])(_:OrdAt H t u n os)(_:∀H',bt H H'->Q (.bl true) H')
inductive spCheckO (vs:zA)(H:Hp)(Q:VK)(_:XK):Prop
 | mk (t u:ai)(n:Nat)(os:zI)(_:vs=[.ref t,.ref u])(_:OrdAt H t u n os)(_:∀H',bt H H'->Q .non H')
inductive spNamedA (vs:zA)(H:Hp)(Q:VK)(_:XK):Prop
 | mk (v:V)(u:ai)(b:Int)(n:Nat)(sp:zS)(os:zI)(_:vs=[v,.ref u])(_:IsD H v (jz b (n:Int) sp))(_:H u=some (.tup (os.map V.int)))(_:Ord os n)(_:n<=16)(_:EndsIn n sp)(_:sp.length<=1000)(_:∀w H',bt H H'->IsD H' w (jz b (n:Int) (sp.map (namS (l9 os n))))->Q w H')
def fitsM_as {ts':zI}{F:Sn->Sn}(h:∀x∈sp,fq b' ts' (F x)=fq b ts x)(ho:∀x,(F x).o - (F x).l=x.o - x.l):gM b' ts' (sp.map F)=gM b ts sp:=by
 unfold gM;rw[List.any_map];congr 1;rwa[any_same _ λx hx=>?_]
 show decide ((F x).o - (F x).l<fq b' ts' (F x))=decide (x.o - x.l<fq b ts x);rw[h x hx,ho]
def sW {ts':zI}{F:Sn->Sn}(h:∀x∈sp,fq b' ts' (F x)=fq b ts x)(hw:∀x,(F x).w=x.w):cp b' ts' (sp.map F)=cp b ts sp:=by
 unfold cp;rw[bZ];congr 1;rwa[c9 λx hx=>?_]
 show(F x).w * fq b' ts' (F x)=x.w * fq b ts x;rw[h x hx,hw]
def TabV (b:Int)(n:Nat)(ts:zI):Prop:=ts.length=n/\∀t∈ts,0<=t/\t<b
def iC.mir {m:Int}(N:iC b m sp):iC b m (sp.map mirS):=⟨N.b1,N.b2,N.m1,N.m2,by rw[aa];rwa[N.few],fun x hx=>by
 obtain ⟨y,hy,rfl⟩:=bc.mp hx;have k:=N.all y hy;exact ⟨k.g0,k.g1,k.s0,k.s1,fun z=>k.ne z.symm,k.l0,k.lo,k.ob,k.o60,k.w0,k.w1⟩⟩
theorem iC.nam {n:Nat}(N:iC b (n:Int) sp)(h:Ord os n):iC b (n:Int) (sp.map (namS (l9 os n))):=⟨N.b1,N.b2,N.m1,N.m2,by rw[aa];rwa[N.few],fun x hx=>by
 obtain ⟨y,hy,rfl⟩:=bc.mp hx;have k:=N.all y hy;have a:=h.back.tm_in k.s0 k.s1;have c:=h.back.tm_in k.g0 k.g1;apply ⟨a.1,a.2,c.1,c.2,fun z=>k.ne ?_,k.l0,k.lo,k.ob,k.o60,k.w0,k.w1⟩;have z:tm (l9 os n) y.s=tm (l9 os n) y.g:=z;rw[<-h.back.postm k.s0 k.s1,z,h.back.postm k.g0 k.g1]⟩
def iC.rdyV {n:Nat}(N:iC b (n:Int) sp)(h:TabV b n ts):Rdy b ts sp:=N.rdy (by rw[h.1])
theorem iC.endsIn {n:Nat}(N:iC b (n:Int) sp):EndsIn n sp:=λx hx=>by
 have k:=N.all x hx;rwa[k.s0,k.s1,k.g0,k.g1]
structure Kept (b:Int)(ts:zI)(sp:zS)(b':Int)(ts':zI)(sp':zS)(c:Int):Prop where
 f:gM b' ts' sp'=gM b ts sp
 w:cp b' ts' sp'=cp b ts sp * c
def Kept.mir {n:Nat}(N:iC b (n:Int) sp)(h:TabV b n ts):Kept b ts sp b (mirT b ts) (sp.map mirS) 1:=
 ⟨fitsM_as (waitM_mir (N.rdyV h)) λ_=>rfl,by rw[Int.mul_one];rwa[sW (waitM_mir (N.rdyV h)) λ_=>rfl]⟩
def Kept.nam {n:Nat}(N:iC b (n:Int) sp)(ho:Ord os n):Kept b ts sp b (rR ts os) (sp.map (namS (l9 os n))) 1:=
 ⟨fitsM_as (waitM_nam ho N.endsIn) λ_=>rfl,by rw[Int.mul_one];rwa[sW (waitM_nam ho N.endsIn) λ_=>rfl]⟩
theorem TabV.mir {n:Nat}(hb:0<b)(h:TabV b n ts):TabV b n (mirT b ts):=⟨by rw[mirT_len];rwa[h.1],fun t ht=>by
 obtain ⟨x,_,rfl⟩:=bc.mp ht;exact ⟨cS _ ⋯,cY _ hb⟩⟩
def TabV.nam {n:Nat}(h:TabV b n ts)(ho:Ord os n):TabV b n (rR ts os):=⟨by rw[permT_len,ho.len],fun t ht=>by
 obtain ⟨x,hx,rfl⟩:=bc.mp ht;obtain ⟨h0,h1⟩:=ho.mem.mp hx;rwa[tm_in h.2 h0 (by rw[h.1];exact h1)]⟩
theorem join_iff {a x y:Int}(x0:0<=x)(x1:x<gs.length)(y0:0<=y)(y1:y<gs.length):tm (jI gs (tm gs a) (tm gs b)) x=tm (jI gs (tm gs a) (tm gs b)) y↔(tm gs x=tm gs y\/((tm gs x=tm gs a\/tm gs x=tm gs b)/\(tm gs y=tm gs a\/tm gs y=tm gs b))):=by
 grind [lM]
def Alike (m:Nat)(p:Int->Int)(gs hs:zI):Prop:=∀x y:Int,0<=x->x<m->0<=y->y<m->(tm gs x=tm gs y↔tm hs (p x)=tm hs (p y))
structure Other (m:Nat)(sp sp':zS)(p:Int->Int):Prop where
 len:sp'.length=sp.length
 inn:∀x:Int,0<=x->x<m->0<=p x/\p x<m
 inj:∀x y:Int,0<=x->x<m->0<=y->y<m->p x=p y->x=y
 at_:∀i,i<sp.length->((sAt sp' i).s=p (sAt sp i).s/\(sAt sp' i).g=p (sAt sp i).g)\/((sAt sp' i).s=p (sAt sp i).g/\(sAt sp' i).g=p (sAt sp i).s)
 wk:∀i,i<sp.length->oK sp' i=oK sp i
section
variable {p:Int->Int}
theorem pV (E:ke m sp)(O:Other m sp sp' p):∀(π:zC) (gs hs:zI) (tk:zC),(∀i∈π,i<sp.length)->gs.length=m->hs.length=m->Alike m p gs hs->(π.foldl (fG sp) (gs,tk)).2=(π.foldl (fG sp') (hs,tk)).2
 | [],_,_,_,_,_,_,_=>rfl
 | i::π,gs,hs,tk,hi,l1,l2,A=>by
  have il:=hi i bQ;have hi':∀j∈π,j<sp.length:=λj hj=>hi j (az _ hj)
  let⟨s0,s1,g0,g1⟩:=E _ (dB il);have c:tm gs (sAt sp i).s=tm gs (sAt sp i).g↔tm hs (sAt sp' i).s=tm hs (sAt sp' i).g:=by
   rcases O.at_ i il with ⟨e1,e2⟩ | ⟨e1,e2⟩
   ·rw[e1,e2];rwa[A _ _ s0 s1 g0 g1]
   ·rw[e1,e2];rwa[(A _ _ s0 s1 g0 g1).trans eq_comm]
  show(π.foldl (fG sp) (fG sp (gs,tk) i)).2=(π.foldl (fG sp') (fG sp' (hs,tk) i)).2
  rcases iD sp gs tk i with ⟨e,q⟩ | ⟨e,q⟩
  ·rcases iD sp' hs tk i with ⟨e',q'⟩ | ⟨e',q'⟩
   ·rw[q,q'];rwa[pV E O π gs hs tk hi' l1 l2 A]
   ·rwa[tR (c.mp e) e']
  ·rcases iD sp' hs tk i with ⟨e',q'⟩ | ⟨e',q'⟩
   ·rwa[tR (c.mpr e') e]
   ·rw[q,q']
    rwa[pV E O π _ _ _ hi' (by rw[kR];exact l1) (by rw[kR];exact l2) λx y x0 x1 y0 y1=>?_]
    let⟨px0,px1⟩:=O.inn x x0 x1;let⟨py0,py1⟩:=O.inn y y0 y1;rw[join_iff x0 ↥2 y0 ↥2,join_iff px0 ↥2 py0 ↥2,A x y x0 x1 y0 y1,A x _ x0 x1 s0 s1,A x _ x0 x1 g0 g1,A y _ y0 y1 s0 s1,A y _ y0 y1 g0 g1]
    rcases O.at_ i il with ⟨e1,e2⟩ | ⟨e1,e2⟩
    ·rw[e1,e2]
    ·rw[e1,e2,or_comm (a:=tm hs (p x)=tm hs (p (sAt sp i).s)),or_comm (a:=tm hs (p y)=tm hs (p (sAt sp i).s))]
theorem GrdL.other (E:ke m sp)(O:Other m sp sp' p)(h:GrdL m sp l):GrdL m sp' l:=by
 let⟨π,D,pm⟩:=h;rwa[π,⟨by rw[O.len];rwa[D.1],D.2.imp_of_mem λ{a c} ha hc h=>by rw[O.wk _ (D.lt ha),O.wk _ (D.lt hc)];rwa[h]⟩,?_];unfold kT;rw[<-pV E O π (lV m) (lV m) [] (λi hi=>D.lt hi) (lF m) (lF m) λx y x0 x1 y0 y1=>?_]
 ·rwa[pm]
 ·let⟨px0,px1⟩:=O.inn x x0 x1
  let⟨py0,py1⟩:=O.inn y y0 y1;rw[lN x0 x1,lN y0 y1,lN px0 px1,lN py0 py1];rwa[λe=>by rw[e],O.inj x y x0 x1 y0 y1]
theorem ow (O:Other m sp sp' p):∀(l:zC),(∀i∈l,i<sp.length)->jg sp' l=jg sp l
 | [],_=>rfl
 | i::l,h=>by rw[gT,gT,O.wk i (h i bQ),ow O l λj hj=>h j (az _ hj)]
theorem GrdL.lt (h:GrdL m sp l):∀i∈l,i<sp.length:=λi hi=>by
 let⟨π,D,pm⟩:=h
 rcases(kL sp π (lV m,[])).1 i (pm.mem_iff.mp hi) with z | z
 ·cases z
 ·rwa[D.lt z]
def GrdL.few1 {M:Int}(h:GrdL m sp l)(hM:jg sp l<=M):∀k,jM m sp k->jg sp k<=M:=λk F=>by
 let⟨π,D,pm⟩:=h;let⟨ρ,D',pm'⟩:=F.2;cases D.one D';rw[prodW_perm sp (pm'.trans pm.symm)];rwa[hM]
end
theorem sAt_map {f:Sn->Sn}(h:i<sp.length):sAt (sp.map f) i=f (sAt sp i):=by
 unfold sAt;rw[af,af,av,gE h];rfl
theorem other_mir (m:Nat)(sp:zS):Other m sp (sp.map mirS) id:=
 ⟨aa _,λ_ a b=>⟨a,b⟩,λ_ _ _ _ _ _ e=>e,λi h=>by rw[sAt_map h];rwa[.inr ⟨rfl,rfl⟩],λi h=>by unfold oK;rw[sAt_map h];rfl⟩
theorem other_nam {n:Nat}(ho:Ord os n):Other n sp (sp.map (namS (l9 os n))) (tm (l9 os n)):=
 ⟨aa _,fun x a b=>by rw[pS os a b];rwa[ho.pos_in a b],fun x y a b c d e=>by
  rw[pS os a b,pS os c d] at e;have:=tW (tm os) e
  rw[ho.tmpos a b,ho.tmpos c d] at this;rwa[this],fun i h=>by rw[sAt_map h];rwa[.inl ⟨rfl,rfl⟩],fun i h=>by unfold oK;rw[sAt_map h];rfl⟩
theorem mW.up {R R':zB->Dt->Prop}(h:∀bs d,R bs d->R' bs d):∀(t:Tq) (bs:zB) (n:Nat),mW R t bs n->mW R' t bs n
 | .leaf d,bs,n,g=>by cases n <;> rwa[h _ _ g]
 | .cut _ _ _ _,_,0,g=>g.elim
 | .cut k a x y,bs,n+1,⟨h1,h2,h3,g1,g2⟩=>⟨h1,h2,h3,mW.up h x _ n g1,mW.up h y _ n g2⟩
theorem good_dr {b w:Int}{sp:zS}:∀(t:Tq) (bs:zB) (n:Nat),mW (RBest b sp w) t bs n->DrT b sp t bs/\dpT t<=n
 | .leaf d,bs,n,g=>by
  rwa[?_,bq _]
  rcases g with ⟨p,rfl,h⟩ | ⟨rows,rfl,h1,h2,_⟩
  ·rwa[.ring p,rfl,h]
  ·rwa[.price rows,rfl,h2,h1]
 | .cut _ _ _ _,_,0,g=>g.elim
 | .cut k a x y,bs,n+1,⟨h1,h2,h3,g1,g2⟩=>by
  let⟨a1,a2⟩:=good_dr x _ n g1;let⟨b1,b2⟩:=good_dr y _ n g2;rwa[⟨h1,h2,h3,a1,b1⟩,by grind [dpT]]
theorem good_ps {b w:Int}{sp:zS}:∀(t:Tq) (bs:zB) (n:Nat),mW (RBest b sp w) t bs n->bs.length=sp.length->BsU bs->∃ps:List Plc,lvs t bs=ps.map plcL/\∀p∈ps,p.1.length=sp.length/\BsU p.1/\LfOk b sp p.1 p.2/\∀x,qS b sp p=some x->w<=x
 | .leaf d,bs,n,g,hl,hu=>by
  have g:RBest b sp w bs d:=by cases n <;> rwa[g]
  rcases g with ⟨p,rfl,h⟩ | ⟨rows,rfl,h1,h2,h3⟩
  ·rwa[[(bs,.ring p)],rfl,λp hp=>by rw[bf.mp hp];exact⟨hl,hu,h,λx e=>by cases e⟩]
  ·rwa[[(bs,.price rows)],rfl,λp hp=>by rw[bf.mp hp];exact⟨hl,hu,⟨h2,h1⟩,λx e=>by cases e;rwa[h3]⟩]
 | .cut _ _ _ _,_,0,g,_,_=>g.elim
 | .cut k a x y,bs,n+1,⟨h1,h2,h3,g1,g2⟩,hl,hu=>by
  have e:‹3›∈bs:=by rw[af,gE h1];rwa[aY h1]
  let⟨u1,u2,u3⟩:=hu _ e;have o1:BsU (kF bs k a):=λq hq=>by
   rcases List.mem_or_eq_of_mem_set hq with z | rfl
   ·rwa[hu q z]
   ·rwa[u1,h2,by show a<10 ^ 60;lia]
  have o2:BsU (de bs k a):=λq hq=>by
   rcases List.mem_or_eq_of_mem_set hq with z | rfl
   ·rwa[hu q z]
   ·rwa[by show 0<=a+1;lia,by show a+1<=_;lia,u3]
  let⟨p1,e1,k1⟩:=good_ps x _ n g1 (by rw[rV];rwa[hl]) o1;let⟨p2,e2,k2⟩:=good_ps y _ n g2 (by rw[nI];rwa[hl]) o2;rwa[p1++p2,?_,λp hp=>?_]
  ·show lvs x _++lvs y _=_
   rw[e1,e2,au]
  ·rcases bj.mp hp with z | z
   ·rwa[k1 p z]
   ·rwa[k2 p z]
structure Shw (b:Int)(sp:zS)(t:Tq)(ps:List Plc):Prop where
 dr:DrT b sp t (sp.map λx=>(x.l,x.o))
 dp:dpT t<=21
 lv:lvs t (sp.map λx=>(x.l,x.o))=ps.map plcL
 ok:∀p∈ps,PlOk sp.length p
 lf:∀p∈ps,p.1.length=sp.length/\LfOk b sp p.1 p.2
 rt:ps.all (tf b)=true
def iC.bsu {m:Int}(N:iC b m sp):BsU (sp.map λx=>(x.l,x.o)):=λq hq=>by
 let⟨x,hx,rfl⟩:=bc.mp hq;have k:=N.all x hx;rwa[k.l0,k.lo,k.o60]
def good_shw {m w:Int}{t:Tq}(N:iC b m sp)(g:mW (RBest b sp w) t (sp.map λx=>(x.l,x.o)) 21):∃ps,Shw b sp t ps/\∀x∈iT b sp ps,w<=x:=by
 let⟨d1,d2⟩:=good_dr t _ 21 g;let⟨ps,e,k⟩:=good_ps t _ 21 g (aa _) N.bsu;rwa[ps,⟨d1,d2,e,λp hp=>lf_plok (k p hp).1 (k p hp).2.1 (k p hp).2.2.1,λp hp=>⟨(k p hp).1,(k p hp).2.2.1⟩,gm.mpr λp hp=>lf_right (k p hp).2.2.1⟩,λx hx=>?_];let⟨p,hp,e⟩:=List.mem_filterMap.mp hx;rwa[(k p hp).2.2.2 x e]
theorem dead_ws:∀(t:Tq) (bs:zB) (n:Nat) (ps:List Plc),mW (RDead b sp) t bs n->lvs t bs=ps.map plcL->iT b sp ps=[]
 | t,bs,n,ps,g,e=>by
  have all:∀(t:Tq) (bs:zB) (n:Nat),mW (RDead b sp) t bs n->∀q∈lvs t bs,RDead b sp q.1 q.2:=by
   intro t
   induction t with
   | leaf d=>intro bs n g q hq;rw[bf.mp hq];cases n <;> rwa[g]
   | cut k a x y ihx ihy =>
    intro bs n g q hq;cases n with
    | zero=>rwa[g.elim]
    | succ n =>
     rcases bj.mp hq with z | z
     ·rwa[ihx _ n g.2.2.2.1 q z]
     ·rwa[ihy _ n g.2.2.2.2 q z]
  rwa[List.filterMap_eq_nil_iff.mpr λp hp=>?_]
  have h:=all t bs n g (plcL p) ↥1;let⟨q,e2,_⟩:=h;let⟨bs',lf⟩:=p;cases lf with
  | ring ws=>rfl
  | price rows =>
   injection e2 with e2
   injection e2 with e2 _
   injection e2 with e2
   rwa[tR e2 ↥0]
def Tld (b m:Int)(sp:zS):Option zI->Prop
 | none=>∀T,¬gM b T sp=true
 | some ts=>nQ b m sp ts/\∀T,gM b T sp=true->cp b ts sp<=cp b T sp
def wV (b:Int)(sp:zS)(c:Int):Option zI->V
 | none=>.non
 | some ts=>.int (cp b ts sp * c)
theorem Tld.as {m m' c:Int}(F:zI->zI)(f:∀t,nQ b m sp t->nQ b' m' sp' (F t)/\cp b' (F t) sp'=cp b t sp * c)
  (g:∀t',nQ b' m' sp' t'->(∃t,gM b t sp=true)/\∀w,(∀T,gM b T sp=true->w<=cp b T sp)->w * c<=cp b' t' sp') {o:Option zI} (h:Tld b m sp o):∀{o':Option zI},Tld b' m' sp' o'->wV b' sp' 1 o'=wV b sp c o:=by
 intro o' h';cases o with
 | none =>
  cases o' with
  | none=>rfl
  | some t' =>
   let⟨t,ht⟩:=(g t' h'.1).1;rwa[tR ht (h t)]
 | some t =>
  let⟨k,e⟩:=f t h.1;cases o' with
  | none=>rwa[tR k.2.2 (h' _)]
  | some t' =>
   have a:=(g t' h'.1).2 _ h.2;have c:=h'.2 _ k.2.2;show V.int (cp b' t' sp' * 1)=V.int (cp b t sp * _);congr 1;lia
section
variable {n:Nat}{t:zI}
theorem tab_mir (N:iC b (n:Int) sp)(h:nQ b n sp t):nQ b n (sp.map mirS) (mirT b t)/\cp b (mirT b t) (sp.map mirS)=cp b t sp * 1:=by
 have K:=Kept.mir N ⟨h.1,h.2.1⟩;have U:=TabV.mir (by have:=N.b1;lia) ⟨h.1,h.2.1⟩;rwa[⟨U.1,U.2,by rw[K.f];rwa[h.2.2]⟩,K.w]
def tab_nam (N:iC b (n:Int) sp)(ho:Ord os n)(h:nQ b n sp t):nQ b n (sp.map (namS (l9 os n))) (rR t os)/\cp b (rR t os) (sp.map (namS (l9 os n)))=cp b t sp * 1:=by
 have K:=Kept.nam (ts:=t) N ho;have U:=TabV.nam ⟨h.1,h.2.1⟩ ho;rwa[⟨U.1,U.2,by rw[K.f];rwa[h.2.2]⟩,K.w]
theorem as_one {t' F:zI}(f:gM b F sp=true)(e:cp b F sp=cp b' t' sp' * 1):(∃ t,gM b t sp=true)/\∀ w,(∀ T,gM b T sp=true->w<=cp b T sp)->w * 1<=cp b' t' sp':=⟨⟨_,f⟩,fun w hw=>by
 have:=hw _ f;rw[e] at this;cbv⟩
theorem Tld.mir (N:iC b (n:Int) sp){o:Option zI}(h:Tld b n sp o)(h':Tld b n (sp.map mirS) o'):wV b (sp.map mirS) 1 o'=wV b sp 1 o:=
 Tld.as (mirT b) (fun _=>tab_mir N) (fun t' h'=>by
  have k:=tab_mir N.mir h';rw[mirS_two] at k;rwa[as_one k.1.2.2 k.2]) h h'
theorem Tld.nam (N:iC b (n:Int) sp)(ho:Ord os n){o:Option zI}(h:Tld b n sp o)(h':Tld b n (sp.map (namS (l9 os n))) o'):wV b (sp.map (namS (l9 os n))) 1 o'=wV b sp 1 o:=
 Tld.as (rR · os) (fun _=>tab_nam N ho) (fun t' h'=>by
  have k:=tab_nam (N.nam ho) ho.back h';rw[nam_back ho N.endsIn] at k;rwa[as_one k.1.2.2 k.2]) h h'
end
abbrev sBst:bY:=top 110
structure L4 (T0:ai)(p0:Pos)(q0:Str)(T1:ai)(p1:Pos)(q1:Str)(T2 T3:ai)(H:Hp):Prop where
 a:LamT T0 p0 q0 H
 b:LamT T1 p1 q1 H
 c:LamT T2 lpT lqT H
 d:LamG T3 lqB H
theorem L4.stay {T2:ai}(h:L4 T0 p0 q0 T1 p1 q1 T2 T3 H)(e1:∀(T:ai) ps,H T=some (.tbl ps)->H' T=some (.tbl ps))(e2:∀a o u,H a=some (.frz o u)->H' a=some (.frz o u)):L4 T0 p0 q0 T1 p1 q1 T2 T3 H':=
 ⟨LamT.stayF h.a (e1 _) e2,LamT.stayF h.b (e1 _) e2,LamT.stayF h.c (e1 _) e2,h.d.stay (e1 _) e2⟩
theorem L4.same {T2:ai}(h:L4 T0 p0 q0 T1 p1 q1 T2 T3 H)(S:bt H H'):L4 T0 p0 q0 T1 p1 q1 T2 T3 H':=h.stay (λ_ _ e=>S _ _ e) λ_ _ _ e=>S _ _ e
def BsA (H:Hp)(q:ai)(b:Int)(sp:zS):Option zI->Prop
 | none=>∃e,H q=some (.tup [.str "none",e])
 | some ts=>∃u,H q=some (.tup [.int (cp b ts sp),.ref u])/\H u=some (.tup (ts.map V.int))
theorem BsA.kp {q:ai}(k:kh H H'):∀{o:Option zI},BsA H q b sp o->BsA H' q b sp o
 | none,⟨e,h⟩=>⟨e,k _ _ h⟩
 | some _,⟨u,h1,h2⟩=>⟨u,k _ _ h1,k _ _ h2⟩
inductive spBst (T0:ai)(p0:Pos)(q0:Str)(T1:ai)(p1:Pos)(q1:Str)(T2 T3:ai)(vs:zA)(H:Hp)(Q:VK)(_:XK):Prop
 | mk (v:V)(b m:Int)(sp:zS)(_:vs=[v])(_:‹4›)(_:iC b m sp)(_:(∀l,jM m.toNat sp l->jg sp l<=4096))(_:L4 T0 p0 q0 T1 p1 q1 T2 T3 H)(_:∀(q:ai) (H':Hp) (o:Option zI),Kp H H'->L4 T0 p0 q0 T1 p1 q1 T2 T3 H'->Tld b m sp o->BsA H' q b sp o->Q (.ref q) H')
def scBst:bH ["_law_net_here","_law_told","_law_table"] pze (defScope sBst):=⇑0
theorem ok_bst {f6 TT:ai}{fd6:aM}(F:Fun K "_law_best" "_law_best" sBst f fd)(m0:T3≠T0)(m1:T3≠T1)(m2:T3≠TT)
  (G1:Fn K mg "best_for" nA pza f1 fd1) (F1:‹0› 13 f1 fd1 pza (spBest T0 p0 q0 T1 p1 q1 TT T3))
  (G2:Fn K mg "table_for" kl pza f2 fd2) (F2:‹0› 12 f2 fd2 pza (oQ T0 p0 q0 T1 p1 q1 TT))
  (G3:Fn K mg "is_tree" sTreeI pzb f3 fd3) (F3:‹0› 9 f3 fd3 pzb spTreeI)
  (G4:Fn K mg "_law_shown" sShownL pzE f4 fd4) (F4:‹0› 25 f4 fd4 pzE (spShownL 22))
  (G5:Fn K mg "_law_fits" sFitsN pzg f5 fd5) (F5:‹0› 2 f5 fd5 pzg sY)
  (G6:Fn K mg "_law_wait" sWaitN pzg f6 fd6) (F6:‹0› 2 f6 fd6 pzg nW):‹0› 26 f fd pze (spBst T0 p0 q0 T1 p1 q1 TT T3):=by
 specialize F.ok scBst;let⟨v,b,m,sp,rfl,hv,N,cas,L,k⟩:=h;have hrS:kX 25 _:=hr
 exists 6,scBst,3,G1,5,G2,26,rT,G3,11,rT,G3,18,op_neD hr.units,pc1 G4 F4 hrS ?_,14,op_neD hr.units,pc1 G4 F4 hrS ?_,48,G5,11,G5,22,G6,11,G6,14,rT,G3,16,op_neD hr.units,pc1 G4 F4 hrS ?_
 have b1:=N.b1;have b2:=N.b2;have m1':=N.m1;have few:=N.few;have sh9:∀{H':Hp} {u:V} {t:Tq} {ps:List Plc},IsD H' v (jz b m sp)->IsD H' u (jG t)->siz t<=8191->Shw b sp t ps->ShArg9 H' v u b m sp t ps:=λa1 a2 a3 s=>⟨a1,a2,⋯,⋯,few,N.ws,⋯,s.lv,s.ok⟩
 rwa[ς,v,b,m,sp,rfl,hv,N,cas,L.a,L.b,L.c,L.d,λq3 H3 kp3 a0 a1 a2 a3 ans=>?_];have hv3:=cf kp3.tup hv;rwa[ς,v,b,m,sp,rfl,hv3,N,cas,a0,a1,a2,λq4 H4 st4 kp4 c0 c1 c2 ans4=>?_];let⟨ps0,et0⟩:=LamT.tbl a0;let⟨ps1,et1⟩:=LamT.tbl a1;let⟨ps2,et2⟩:=LamT.tbl a2;have c3:LamG T3 lqB H4:=a3.stay (λps e=>st4 _ _ m0 m1 m2 e) λa o u e=>st4 _ _ (fj e et0 nofun) (fj e et1 nofun) (fj e et2 nofun) e
 have L4':L4 T0 p0 q0 T1 p1 q1 TT T3 H4:=⟨c0,c1,c2,c3⟩;have hv4:=cf kp4.tup hv3;have kp34:=kp3.trans kp4
 rcases ans with ⟨u,t,an⟩ | ⟨qt,ts,u,t,ba⟩
 ·have hq3:=kp4.tup _ _ an.q
  rwa[ς,ϲ hq3 0,rfl,ς,mR (tS rfl) ?_]
  rcases ans4 with ⟨qt4,t4,hq4,hqt4,tok4⟩ | ⟨u4,t4,hq4,du4,pl4,nof,gd4,sz4⟩
  ·rwa[tR tok4.2.2 (an.no t4)]
  let⟨ps4,s4,_⟩:=good_shw (w:=0) N (mW.up (λ_ _ h=>.inl h) _ _ _ gd4);let⟨ps3,s3,_⟩:=good_shw (w:=0) N (mW.up (λ_ _ h=>.inl h) _ _ _ an.good);have w4:=dead_ws _ _ _ ps4 gd4 s4.lv;have w3:=dead_ws _ _ _ ps3 an.good s3.lv;have du3:IsD H4 u (jG t):=IsD.keepP kp4.tup an.tree an.pl;rwa[ς,ϲ hq4 0,rfl,ς,hX ⇑0 ?_];rwa[ς,ς,ϲ hq4 1,v,u4,b,m,sp,t4,rfl,hv4,du4,few,s4.dr,⋯,λH5 S5=>?_];rwa[true,true,rfl,rfl,ς,hX rfl ?_];rwa[ς,ς,ϲ (S5 _ _ hq3) 1,v,u,b,m,sp,t,rfl,hv4.same S5,du3.same S5,few,s3.dr,by have:=an.sz;lia,λH6 S6=>?_];rwa[true,true,rfl,rfl,ς,hX rfl ?_];have S46:=S5.trans S6;rwa[ς,ς,ϲ (S46 _ _ hq4) 1,v,u4,b,m,sp,t4,ps4,rfl,sh9 (hv4.same S46) (du4.same S46) sz4 s4,by have:=s4.dp;lia,drT_hd t4 _ s4.dr,sA t4 _ s4.dr,λr7 H7 S7 r=>?_];unfold ShAns at r;rw[tQ s4.rt,w4] at r;rwa[szZ1,λn7 H8 S8 h8=>?_];rwa[_,_,r.same S8,.tup h8 (.cons (.str _) .nil),rfl,rfl,↥0,ς,hX ⇑0 ?_];have S48:=S46.trans (S7.trans S8);rwa[ς,ς,ϲ (S48 _ _ hq3) 1,v,u,b,m,sp,t,ps3,rfl,sh9 (hv4.same S48) (du3.same S48) an.sz s3,by have:=s3.dp;lia,drT_hd t _ s3.dr,sA t _ s3.dr,λr9 H9 S9 r=>?_];unfold ShAns at r;rw[tQ s3.rt,w3] at r;rwa[szZ1,λn9 HA SA hA=>?_];rwa[_,_,r.same SA,.tup hA (.cons (.str _) .nil),rfl,rfl,↥0,ς,hX ⇑0 ?_];have S4A:=S48.trans (S9.trans SA);rwa[(by show 0<=aO;decide),λeB HB SB hB=>⟨lh,λqC HC SC hC=>?_⟩];have S4C:=S4A.trans (SB.trans SC);rwa[k qC HC none (kp34.trans (bt.kp S4C)) (L4'.same S4C) an.no ⟨_,hC⟩]
 ·have hq3:=kp4.tup _ _ ba.q
  have hqt3:=kp4.tup _ _ ba.qt;rwa[ς,ϲ hq3 0,rfl,ς,hX ⇑0 ?_]
  rcases ans4 with ⟨qt4,t4,hq4,hqt4,tok4⟩ | ⟨u4,t4,hq4,du4,pl4,nof,gd4,sz4⟩
  rotate_left
  ·rwa[tR ba.tab.2.2 (nof ts)]
  let⟨tl,tin,tfit⟩:=ba.tab;have tl:(ts.length:Int)=m:=by lia
  have t4l:(t4.length:Int)=m:=by have:=tok4.1;cbv
  let⟨ps3,s3,ge⟩:=good_shw N ba.good;let⟨ne,le⟩:=shown_weak ⋯ tfit s3.lv s3.lf;have el:kq (iT b sp ps3)=cp b ts sp:=by
   have:=ge _ (qQ _ ne).1;lia
  have du3:IsD H4 u (jG t):=IsD.keepP kp4.tup ba.tree ba.pl;rwa[ς,ϲ hq3 0,rfl,ς,hX ⇑0 ?_];rwa[ς,ϲ hq4 0,rfl,ς,hX ⇑0 ?_];rwa[ς,ς,ϲ hq4 1,v,qt4,b,m,sp,t4,rfl,hv4,hqt4,N.rdy t4l,λH5 S5=>⟨ς,hX (by rw[tok4.2.2];rfl) ?_⟩];rwa[ς,ς,ϲ (S5 _ _ hq3) 1,v,qt,b,m,sp,ts,rfl,hv4.same S5,S5 _ _ hqt3,N.rdy tl,λH6 S6=>⟨ς,hX (by rw[tfit];rfl) ?_⟩];have S46:=S5.trans S6;rwa[ς,ϲ (S46 _ _ hq3) 2,ς,ς,ϲ (S46 _ _ hq3) 1,v,qt,b,m,sp,ts,rfl,hv4.same S46,S46 _ _ hqt3,N.rdy tl,N.ws,λH7 S7=>⟨rfl,ς,hX (by rw[tS rfl];rfl) ?_⟩];have S47:=S46.trans S7;rwa[ς,ς,ϲ (S47 _ _ hq4) 1,v,qt4,b,m,sp,t4,rfl,hv4.same S47,S47 _ _ hqt4,N.rdy t4l,N.ws,λH8 S8=>?_];have S48:=S47.trans S8;rwa[ς,ϲ (S48 _ _ hq3) 2,τ,ς,hX (tU (by have:=ba.least t4 tok4.2.2;cbv)) ?_];rwa[ς,ς,ϲ (S48 _ _ hq3) 3,v,u,b,m,sp,t,rfl,hv4.same S48,du3.same S48,few,s3.dr,by have:=ba.sz;lia,λH9 S9=>?_];rwa[true,true,rfl,rfl,ς,hX rfl ?_];have S49:=S48.trans S9;rwa[ς,ς,ϲ (S49 _ _ hq3) 3,v,u,b,m,sp,t,ps3,rfl,sh9 (hv4.same S49) (du3.same S49) ba.sz s3,by have:=s3.dp;lia,drT_hd t _ s3.dr,sA t _ s3.dr,λrA HA SA r=>?_];unfold ShAns at r;rw[tQ s3.rt] at r;have S4A:=S49.trans SA;rwa[ς,ϲ (S4A _ _ hq3) 2,lh,λnB HB SB hB=>?_];have S4B:=S4A.trans SB;have r2:IsD HB rA (.tup [.str "wait",.int (cp b ts sp)]):=by
   cases hw:iT b sp ps3 with
   | nil=>rwa[tR hw ne]
   | cons a l=>rw[hw] at r el;rw[<-el];rwa[r.same SB]
  rwa[_,_,r2,.tup hB (.cons (.str _) (.cons (.int _) .nil)),rfl,rfl,(show(0:Nat)<60 by decide),ς,hX (by simp[sx,eqD]) ?_];rwa[ς,ϲ (S4B _ _ hq3) 2,ς,ϲ (S4B _ _ hq3) 1,lh,λqC HC SC hC=>?_];have S4C:=S4B.trans SC;rwa[k qC HC (some ts) (kp34.trans (bt.kp S4C)) (L4'.same S4C) ⟨ba.tab,ba.least⟩ ⟨qt,hC,S4C _ _ hqt3⟩]
abbrev sLeadsD:bY:=top 96
def scLeadsD:bH ["_law_net_here","_law_step","_law_start","_law_goal"] pzA (defScope sLeadsD):=⇑0
theorem ok_leadsD (F:Fun K "_law_leads" "_law_leads" sLeadsD f fd)(T:Nm mg):‹0› 1 f fd pzA spLeads:=by
 specialize F.ok scLeadsD;let⟨v,q,b,m,sp,st,x,rfl,hv,hq,hx,hd,k⟩:=h;let⟨t,p,ys,rfl,ht,hp,hl,hy⟩:=c5 hv;let⟨qx,hqx,hqx2⟩:=hy st.i x hx
 exists 1,scLeadsD,26,PEs.h (k_ix fR (k_lst (ju (k_tup (ju ⟨pv 2⟩ (ju ⟨pv 3⟩ a_nil))) (ju (k_tup (ju ⟨pv 3⟩ (ju ⟨pv 2⟩ a_nil))) a_nil))) ⟨fP call_int1 rfl T.tint boot_int (aV (pe_cmpR op_eq (ixZ (pv 1)) (pe_un qV dQ) (qf _)) b9)⟩ (λ_ _=>rfl))
 rwa[ς,ϲ ht,ς,ϲ hq,ϲ hp _ hqx,ς,qx,ς,hqx2,λp1 H1 S1 h1=>?_];rwa[p1,ς,zT h1,rfl,_,ς,τ,?_];rwa[ς,ς,lh,λq2 H2 S2 h2=>⟨ς,ς,lh,λq3 H3 S3 h3=>⟨lh,λqL H4 S4 h4=>?_⟩⟩];have S14:=S2.trans (S3.trans S4);rwa[ς,ϲ (S14 _ _ (S1 _ _ hq)),ς,rfl,.inr ⟨ς,?_⟩]
 rcases hd with e | e
 ·have e2:decide (V.int st.d=V.int (-1))=false:=by cbv
  rwa[qL,ϱ,zL h4,(by rw[e2];rfl),k q2 H4 (S1.trans S14) ?_];rw[S4 _ _ (S3 _ _ h2)];unfold frm too
  cbv
 ·have e2:decide (V.int st.d=V.int (-1))=true:=by cbv
  rwa[qL,ϱ,zL h4,(by rw[e2];rfl),k q3 H4 (S1.trans S14) ?_];rw[S4 _ _ h3];unfold frm too
  cbv
theorem JW.upD {kvs:za}{y:Int}{w:V}{ws:zP}(j:JW H Hc Da La c)(hD:H Da=none)(n:Da≠La)(hk:Hc Da=some (.dK kvs))(hd:DW Hc kvs c.1)(hn:lkW c.1 y=none)(hw:IsD Hc w (oH ws)):JW H (upd Hc Da (.dK (oi kvs (.inl y) w))) Da La (c.1++[(y,ws)],c.2):=by
 have K:kh Hc (upd Hc Da (.dK (oi kvs (.inl y) w))):=λq xs h=>by rw[bw (fj h hk ↥2)];rwa[h]
 rwa[λa o e=>by rw[bw (bJ e hD)];rwa[j.same a o e],⟨_,aJ,?_⟩,by rw[bw n.symm];rwa[j.la]];have e:=putK_new w (hd.none hn);have z :=DW.snoc (p:=(.inl y,w)) (q:=(y,ws)) ⟨rfl,pG K hw⟩ (hd.keep K)
 cbv
inductive spMet (vs:zA)(H:Hp)(Q:VK)(_:XK):Prop
 | mk (v:V)(u:ai)(b m be:Int)(sp:zS)(tk:zC)(_:vs=[v,.ref u,.int be])(_:‹4›)(_:iC b m sp)(_:H u=some (.lst (tk.map λ(i:Nat)=>V.int i)))(_:(∀i∈tk,i<sp.length))(_:tk.length<=40)(_:0<=be)(_:be<m)(_:∀Da kvs c H',bt H H'->H' Da=some (.dK kvs)->DW H' kvs c->WI m.toNat sp tk be (c,[])->Clo sp tk (λ_=>False) (c,[])->Q (.ref Da) H')
abbrev sMet:bY:=top 99
def scMet:bH ["_law_net_here","_law_taken","_law_begin","_law_ways","_law_todo","_law_here","_law_k","_law_way","_law_there"] pzR (defScope sMet):=⇑0
theorem ok_met (F:Fun K "_law_met" "_law_met" sMet f fd)(T:Nm mg)(G1:Fn K mg "_law_leads" sLeadsD pzA f1 fd1):‹0› 2 f fd pzR spMet:=by
 have F1:‹0› 1 f1 fd1 pzA spLeads:=ok_leadsD G1.F T;specialize F.ok scMet;let⟨v,u,b,m,be,sp,tk,rfl,hv,N,hu,hlt,few,be0,be1,k⟩:=h;have u1:=bV (lL (by decide:1<=64) _) hr.units;have E:=N.ends;have m16:m.toNat<=16:=by have:=N.m2;cbv
 have b1:be<m.toNat:=by lia
 exists 3,scMet,3,pe_disp (pps_cons (pv 2) (jS b9) pps_nil) rfl rfl ↥0 ↥0,9,op_neL0 hr.units0,1,nG ?_,4,qj gZ PySem.F.slot_list_pop PySem.F.type_list_pop mt_popAt ?_ ?_,6,gU ?_,3,PSt.h (st_forL PassesOwn.never rfl (i_list (k_lstF (ju k_int (ju ⟨pe_un qV dQ⟩ a_nil)))) (pgZ 7 scMet.nd) (PSl.h (l_cons ⟨(psZ 8 scMet.nd (pc1 G1 F1 hr (aV (pv 0) (aV (jS (aV (pv 6) (aV (pv 7) b9))) b9))))⟩ (l_one ⟨(kN (ps_if (PW.pt (pw_and (lP op_eq (ixZ (pv 8)) (pv 5) (qf _)) (pw_and1 (tj (mj u1 (ixZ (pv 8)) (pv 3)) rfl)))) (PSl.h (l_cons ⟨(ps_dput u1 (pv 3) (ixZ (pv 8)) (sQ lT (pe_dget u1 (pv 3) (pv 5) (λ_ _=>rfl)) (jS (aV (jS (aV (pv 6) (aV (pv 7) b9))) b9))) rfl)⟩ (l_one ⟨(ps_expr (qj gZ PySem.F.slot_list_append PySem.F.type_list_append mt_append (pv 4) (aV (ixZ (pv 8)) b9)))⟩))) pss_nil))⟩))))
 let⟨t,pn,ys,rfl,ht,hpn,hl,hy⟩:=c5 hv;intro Da hDa;rwa[ς,bq _,λq1 H1 S1 h1=>⟨S1 _ _ aJ,[(.inl be,.ref q1)],rfl,↥2,?_⟩];have S0:bt H (upd H Da (.dK [])):=bt.put (bt.refl H) hDa;have hDa1 :=S1 _ _ aJ;have hDa2:(upd H1 Da (.dK (mq [] [(.inl be,.ref q1)]))) Da=some (.dK [(.inl be,.ref q1)]):=aJ;have E2:∀b o,H b=some o->(upd H1 Da (.dK (mq [] [(.inl be,.ref q1)]))) b=some o:=λb o e=>by
  rw[bw (λz=>by cbv)];rwa[S1 _ _ (S0 _ _ e)]
 have hq1:(upd H1 Da (.dK (mq [] [(.inl be,.ref q1)]))) q1=some (.tup []):=by
  rw[bw ⋯];rwa[h1]
 generalize upd H1 Da (.dK (mq [] [(.inl be,.ref q1)]))=H2 at hDa2 E2 hq1 ⊢;have S2:bt H H2:=E2;rwa[ς,szZ1,λLt hLt=>?_];have nDL:Da≠Lt:=λz=>by cbv
 have S3:bt H2 (upd H2 Lt (.lst [.int be])):=bt.put (bt.refl H2) hLt;have hLt3:(upd H2 Lt (.lst [.int be])) Lt=some (.lst [.int be]):=aJ;have hLtH:H Lt=none:=by
  cases z:H Lt with
  | none=>rfl
  | some o=>cbv
 generalize upd H2 Lt (.lst [.int be])=H3 at S3 hLt3 ⊢;let⟨I3,C3⟩:=qw (sp:=sp) (tk:=tk) be0 b1;have J3:JW H H3 Da Lt ([(be,[])],[be]):=⟨S2.trans S3,⟨_,S3 _ _ hDa2,.cons ⟨rfl,.tup (S3 _ _ hq1) .nil⟩ .nil⟩,hLt3⟩;clear hLt hDa2 hLt3 hq1 E2 S3 S2
 let pW1:zV:=λn σ H'=>∃(c:zQ×zI) (v5 v6 v7 v8:zU),n=2 * lW c.1+c.2.length/\n<=40/\c.1.length<=40/\c.1.length+lW c.1<=40/\σ=[some (.ref t),some (.ref u),some (.int be),some (.ref Da),some (.ref Lt),v5,v6,v7,v8]/\JW H H' Da Lt c/\WI m.toNat sp tk be c/\Clo sp tk (λ_=>False) c
 rwa[pW1,⟨_,_,none,none,none,none,rfl,?_,↥2,?_,rfl,J3,I3,C3⟩,?_]
 ·grind [lW,List.countP_le_length,lkW,bL]
 ·grind [lW,List.countP_le_length,lkW,bL]
 clear J3 I3 C3;rintro n σ H6 ⟨c,v5,v6,v7,v8,rfl,hn,hcl,hcc,rfl,J6,I6,C6⟩
 sleep 0
 rwa[ς,bq _,λq7 H7 S7 h7=>⟨Lt,q7,ς,rfl,zL (S7 _ _ J6.la),zL h7,ς,?_⟩];have J7:=J6.on S7;let⟨l,td⟩:=c;rwa[oJ (λhc=>?_) (λhc=>?_)]
 ·cases td with
  | nil=>grind
  | cons x td =>
   rwa[_,λσ' H' z=>z,?_]
   sleep 0
   have la7 :=J7.la;rwa[ς,.inl ⟨rfl,_,zL la7⟩,Lt,_,0,0,V.int x,rfl,rfl,la7,↥0,↥0,PySem.StrLaws.seqIndex_nonneg ↥0 ∅,rfl,?_];have J8:=J7.upL (td:=td) hLtH nDL;rw[show((x::td).map V.int).eraseIdx 0=td.map V.int from rfl];generalize upd H7 Lt (.lst (td.map V.int))=H8 at J8 ⊢;have I8:WI m.toNat sp tk be (l,td):=⟨I6.pth,I6.rng,λy hy=>I6.ahd y ↥2,I6.beg⟩;have hx8:lkW l x≠none:=I6.ahd x ∅;have C8:Clo sp tk (· =x) (l,td):=λy hy hn' ex s hs=>C6 y hy ↥2 (λz=>z) s hs
   have hcc:l.length+lW l<=40:=hcc;have n0:2 * lW l+(x::td).length=2 * lW l+td.length+1:=(by (constructor <;> lia))
   have hn:2 * lW l+(x::td).length<=40:=hn;have J8s:=J8.same;rwa[ς,u,rfl,⟨_,zL (J8.same _ _ hu)⟩,?_]
   let pZ3:zV:=λi σ H'=>∃(c:zQ×zI) (v6 v7 v8:zU),2 * lW c.1+c.2.length<=2 * lW l+td.length/\c.1.length+lW c.1<=40/\σ=[some (.ref t),some (.ref u),some (.int be),some (.ref Da),some (.ref Lt),some (.int x),v6,v7,v8]/\JW H H' Da Lt c/\WI m.toNat sp tk be c/\Clo sp tk (· =x) c/\lkW c.1 x≠none/\∀s:Stp,s.i∈tk.take i->(s.d=1\/s.d= -1)->lG sp s=x->lkW c.1 (eV sp s)≠none
   apply jb (K:=K) (a:=u) (xs:=tk.map λ(i:Nat)=>V.int i) pZ3
    ⟨(l,td),_,_,_,ay _,hcc,rfl,J8,I8,C8,hx8,∅⟩ (by rintro i σ H' _ ⟨_,_,_,_,_,_,_,J,_⟩;rwa[zL (J.same _ _ hu)]) ?_ ?_
   ·rintro i y σ H10 hy' ⟨c1,w6,w7,w8,hm1,hc1,rfl,J10,I10,C10,hx10,P10⟩
    sleep 0
    let⟨jn,hj,rfl⟩:=mapI_at hy';have hjt:jn∈tk:=aZ hj;have hjn:=hlt jn hjt;rwa[ς,lh,λLw hLw=>⟨Lw,rfl,⟨_,zL aJ⟩,?_⟩];have nLwL:Lw≠Lt:=λz=>by rw[z,J10.la] at hLw;cases hLw
    have nLwD:Lw≠Da:=λz=>by let⟨kvs,e,_⟩:=J10.da;cbv
    have S11:bt H10 (upd H10 Lw (.lst [.int 1,.int (-1)])):=bt.put (bt.refl H10) hLw;have hLw11:(upd H10 Lw (.lst [.int 1,.int (-1)])) Lw=some (.lst [.int 1,.int (-1)]):=aJ
    let pZ4:zV:=λj σ H'=>∃(c:zQ×zI) (v7 v8:zU),2 * lW c.1+c.2.length<=2 * lW l+td.length/\c.1.length+lW c.1<=40/\σ=[some (.ref t),some (.ref u),some (.int be),some (.ref Da),some (.ref Lt),some (.int x),some (.int (jn:Nat)),v7,v8]/\JW H H' Da Lt c/\H' Lw=some (.lst [.int 1,.int (-1)])/\WI m.toNat sp tk be c/\Clo sp tk (· =x) c/\lkW c.1 x≠none/\(∀s:Stp,s.i∈tk.take i->(s.d=1\/s.d= -1)->lG sp s=x->lkW c.1 (eV sp s)≠none)/\∀d:Int,d∈([1,-1]:zI).take j->lG sp ⟨jn,d⟩=x->lkW c.1 (eV sp ⟨jn,d⟩)≠none
    apply jb (K:=K) (a:=Lw) (xs:=[.int 1,.int (-1)]) pZ4
     ⟨c1,_,_,hm1,hc1,rfl,J10.on S11,hLw11,I10,C10,hx10,P10,∅⟩ (by rintro j σ H' _ ⟨_,_,_,_,_,_,_,h,_⟩;rwa[zL h]) ?_ ?_
    ·rintro j y2 σ H12 hy2 ⟨c2,w7,w8,hm2,hc2,rfl,J12,hLw12,I12,C12,hx12,P12,R12⟩
     sleep 0
     obtain⟨d,rfl,hd,hdj⟩:∃d:Int,y2=V.int d/\(d=1\/d= -1)/\([1,-1]:zI).take (j+1)=([1,-1]:zI).take j++[d]:=by
      match j,hy2 with
      | 0,h=>grind
      | 1,h=>cases h;grind
      | j+2,h=>cases h
     have hv12:=hv.same J12.same;rwa[ς,ς,ς,lh,λqs H13 S13 h13=>⟨.ref t,qs,b,m,sp,⟨jn,d⟩,sp[jn],rfl,hv12.same S13,h13,gE hjn,hd,λq2 H14 S14 h14=>?_⟩];have S1214:=S13.trans S14;have J14:=J12.on S1214;have hLw14:=S1214 _ _ hLw12;have efr:lG sp ⟨jn,d⟩=frm sp[jn] d:=oE hjn;have eto:eV sp ⟨jn,d⟩=too sp[jn] d:=mJ hjn;have tr:=mI E (s:=⟨jn,d⟩) hjn;have h14:H14 q2=some (.tup [.int (frm sp[jn] d),.int (too sp[jn] d)]):=h14;rw[<-efr,<-eto] at h14;have next:∀{c:zQ×zI},(∀y,lkW c2.1 y≠none->lkW c.1 y≠none)->(lG sp ⟨jn,d⟩=x->lkW c.1 (eV sp ⟨jn,d⟩)≠none)->(∀s:Stp,s.i∈tk.take i->(s.d=1\/s.d= -1)->lG sp s=x->lkW c.1 (eV sp s)≠none)/\∀d:Int,d∈([1,-1]:zI).take (j+1)->lG sp ⟨jn,d⟩=x->lkW c.1 (eV sp ⟨jn,d⟩)≠none:=λup own=>by
      rwa[↥1,λd' hd' h=>?_]
      grind
     rwa[λσ' H'=>∃(c:zQ×zI),2 * lW c.1+c.2.length<=2 * lW l+td.length/\c.1.length+lW c.1<=40/\σ'=[some (.ref t),some (.ref u),some (.int be),some (.ref Da),some (.ref Lt),some (.int x),some (.int (jn:Nat)),some (.int d),some (.ref q2)]/\JW H H' Da Lt c/\H' Lw=some (.lst [.int 1,.int (-1)])/\WI m.toNat sp tk be c/\Clo sp tk (· =x) c/\lkW c.1 x≠none/\(∀s:Stp,s.i∈tk.take i->(s.d=1\/s.d= -1)->lG sp s=x->lkW c.1 (eV sp s)≠none)/\∀d:Int,d∈([1,-1]:zI).take (j+1)->lG sp ⟨jn,d⟩=x->lkW c.1 (eV sp ⟨jn,d⟩)≠none,?_,?_]
     ·rintro σ' H' ⟨c,a1,a2,rfl,a3⟩
      sleep 0
      rwa[c,_,_,a1,a2,rfl,a3]
     rwa[ς,ϲ h14 0,ς,rfl,ς,?_];rwa[oJ (λhc0=>?_) (λhc0=>hX rfl ⟨c2,hm2,hc2,rfl,J14,hLw14,I12,C12,hx12,↥1⟩)];have hc0:lG sp ⟨jn,d⟩=x:=by lia
     let⟨kvs,hkv,hdw⟩:=J14.da;rwa[ς,ϲ h14 1,ς,Da,ς,DGet.k (k:=.inl (eV sp ⟨jn,d⟩)) hkv,ς,?_];rwa[oJ (λhnot=>?_) (λhnot=>⟨c2,hm2,hc2,rfl,J14,hLw14,I12,C12,hx12,next (λ_ h=>h) λ_ z=>hnot (by rw[hdw.none z];rfl)⟩)];have hnone:lkW c2.1 (eV sp ⟨jn,d⟩)=none:=by
      cases q:lkW c2.1 (eV sp ⟨jn,d⟩) with
      | none=>rfl
      | some ws =>
       let⟨w,e,_⟩:=hdw.some q
       grind
     have hmem:(⟨jn,d⟩:Stp)∈dM sp tk x:=cQ.mpr ⟨by
      rcases hd with rfl | rfl
      ·rwa[cn _ (bc.mpr ⟨jn,hjt,rfl⟩)]
      ·rwa[bo _ (bc.mpr ⟨jn,hjt,rfl⟩)],tS hc0⟩
     let⟨a1,a2,a3,a4,a5,a6⟩:=visit_ok E m16 hlt I12 hx12 hmem C12;obtain⟨ws,hws⟩:∃ws,lkW c2.1 x=some ws:=lJ.mp hx12;have ev:iM sp x c2 ⟨jn,d⟩=(c2.1++[(eV sp ⟨jn,d⟩,ws++[⟨jn,d⟩])],c2.2++[eV sp ⟨jn,d⟩]):=by
      unfold iM
      grind
     rw[ev] at a1 a2 a3 a4 a5 a6;let⟨wv,hwv,dwv⟩:=hdw.some hws;let⟨pw,yw,rfl,hpw,hlw,rw'⟩:=fJ dwv;have hget:DGet H14 Da (V.int x) (some (.ref pw)):=by
      have:=DGet.k (k:=.inl x) hkv;rw[hwv] at this;rwa[this]
     have lws:ws.length<=40:=by
      have hn':((ws.map Stp.i).map λn:Nat=>(n:Int)).Nodup:=by
       rw[bM,cU];rwa[(bM.mp (I12.pth x ws hws).1.one).imp ⋯]
      have:=nc (l:=(ws.map Stp.i).map λn:Nat=>(n:Int)) (k:=tk.map λn:Nat=>(n:Int)) hn' λz hz=>by
       let⟨i',hi',rfl⟩:=bc.mp hz;let⟨s',hs',rfl⟩:=bc.mp hi';rwa[bc.mpr ⟨_,((I12.pth x ws hws).1.inn s' hs').1,rfl⟩]
      rw[aa,aa,aa] at this;lia
     rwa[ς,ς,Da,.ref pw,rfl,hget,ς,ς,lh,λq3 H15 S15 h15=>⟨szZ1,λq4 H16 S16 h16=>⟨pw,q4,τ,S16 _ _ (S15 _ _ hpw),h16,?_,λq5 H17 S17 h17=>?_⟩⟩]
     ·rw[hlw];rwa[aU (by show ws.length+1<=1000;lia) ↥0]
     have S1417:=S15.trans (S16.trans S17);have J17:=J14.on S1417;have hkv17:=S1417 _ _ hkv;have hdw17:=hdw.keep (bt.tupK S1417);have hq2:=S1417 _ _ h14;have lk:kvs.length<=40:=by rw[hdw.len];lia
     rwa[ς,ς,ϲ hq2 1,Da,ς,DPut.k (k:=.inl (eV sp ⟨jn,d⟩)) hkv17 (aW (by lia:kvs.length<1000) ↥0),?_];have hway:IsD H17 (.ref q5) (oH (ws++[⟨jn,d⟩])):=by
      rwa[.tup h17 ?_];rw[au];rwa[(rw'.same S1417).append (.cons (.tup (S17 _ _ (S16 _ _ h15)) (dg.ints (Stp.row ⟨jn,d⟩))) .nil)]
     have J18:=J17.upD hDa nDL hkv17 hdw17 hnone hway;have K18:kh H17 (upd H17 Da (.dK (oi kvs (.inl (eV sp ⟨jn,d⟩)) (.ref q5)))):=λq xs h=>by rw[bw ⋯];rwa[h]
     have hLw18:(upd H17 Da (.dK (oi kvs (.inl (eV sp ⟨jn,d⟩)) (.ref q5)))) Lw=some (.lst [.int 1,.int (-1)]):=by rw[bw nLwD];rwa[S1417 _ _ hLw14]
     have hq18:=K18 _ _ hq2;generalize upd H17 Da (.dK (oi kvs (.inl (eV sp ⟨jn,d⟩)) (.ref q5)))=H18 at J18 hLw18 hq18 ⊢;have la18:H18 Lt=some (.lst (c2.2.map V.int)):=J18.la;have l2:c2.2.length<=40:=by lia
     rwa[ς,.inl ⟨rfl,_,zL la18⟩,ς,ϲ hq18 1,Lt,τ,la18,(aW (↥1:(c2.2.map V.int).length<1000) ↥0),?_];have J19:=J18.upL (td:=c2.2++[eV sp ⟨jn,d⟩]) hLtH nDL;rw[au] at J19;have J19:JW H (upd H18 Lt (.lst (c2.2.map V.int++[V.int (eV sp ⟨jn,d⟩)]))) Da Lt (c2.1++[(eV sp ⟨jn,d⟩,ws++[⟨jn,d⟩])],c2.2++[eV sp ⟨jn,d⟩]):=J19;have hx19:lkW (c2.1++[(eV sp ⟨jn,d⟩,ws++[⟨jn,d⟩])]) x≠none:=by
      have:=a4 x hx12
      lia
     rwa[(c2.1++[(eV sp ⟨jn,d⟩,ws++[⟨jn,d⟩])],c2.2++[eV sp ⟨jn,d⟩]),aU a5 hm2,aU a6 hc2,rfl,J19,by rw[bw nLwL];rwa[hLw18],a1,a2,hx19,next (λy hy=>?_) λ_=>a3];show lkW (c2.1++[(eV sp ⟨jn,d⟩,ws++[⟨jn,d⟩])]) y≠none;have:=a4 y hy
     lia
    ·rintro σ H12 ⟨c2,w7,w8,hm2,hc2,rfl,J12,hLw12,I12,C12,hx12,P12,R12⟩
     sleep 0
     rwa[c2,_,_,_,hm2,hc2,rfl,J12,I12,C12,hx12,λs h1 h2 h3=>?_];rw[aE,hj] at h1
     rcases bj.mp h1 with z | z
     ·rwa[P12 s z h2 h3]
     ·have e:s.i=jn:=bf.mp z
      let⟨si,sd⟩:=s
      grind
   ·rintro σ H10 ⟨c1,w6,w7,w8,hm1,hc1,rfl,J10,I10,C10,hx10,P10⟩
    sleep 0
    rwa[_,?_,c1,_,_,_,ς,?_,?_,hc1,rfl,J10,I10,λy hy hn' _ s hs=>?_]
    ·lia
    ·lia
    ·lia
    ·by_cases e:y=x
     ·subst e
      let⟨hs1,hs2⟩:=cQ.mp hs;let⟨h3,h4⟩:=rX hs1
      cbv
     ·rwa[C10 y hy hn' e s hs]
 ·have e:td=[]:=by
   cases td with
   | nil=>rfl
   | cons x td=>rwa[tR rfl hc]
  subst e;let⟨kvs,hkv,hdw⟩:=J7.da;rwa[ς,k Da kvs l H7 J7.same hkv hdw I6 C6]
abbrev sForN:bY:=top 100
inductive spForG (vs:zA)(H:Hp)(Q:VK)(_:XK):Prop
 | mk (v:V)(b m:Int)(sp:zS)(_:vs=[v])(_:‹4›)(_:iC b m sp)(_:∀L tk H',bt H H'->H' L=some (.lst (tk.map λ(i:Nat)=>V.int i))->GrdL m.toNat sp tk->Q (.ref L) H')
def refs_of6 (h:∀x∈zs,∃a,x=V.ref a):∃as:zX,zs=as.map V.ref:=by
 induction zs with
 | nil=>rwa[[],rfl]
 | cons x zs ih =>
  let⟨a,rfl⟩:=h x ∅;let⟨as,rfl⟩:=ih λy hy=>h y (az _ hy)
  rwa[a::as,rfl]
def scForN:bH ["_law_net_here","_law_taken","_law_width","_law_k","_law_begin","_law_end"] pze (defScope sForN):=⇑0
theorem ok_forN (F:Fun K "_law_forest" "_law_forest" sForN f fd)(T:Nm mg)(T2:Nt mg)(ms:mg "sorted" =none)(G1:Fn K mg "_law_leads" sLeadsD pzA f1 fd1)(G2:Fn K mg "_law_met" sMet pzR f2 fd2):‹0› 4 f fd pze spForG:=by
 have F1:‹0› 1 f1 fd1 pzA spLeads:=ok_leadsD G1.F T;have F2:‹0› 2 f2 fd2 pzR spMet:=ok_met G2.F T G1;specialize F.ok scForN;let⟨v,b,m,sp,rfl,hv,N,k⟩:=h;let⟨t,p,ys,rfl,ht,hp,hl,hy⟩:=c5 hv;have few:=N.few;have E:=N.ends;have u1:=bV (lL (by decide:1<=64) _) hr.units
 exists 2,scForN,7,gU ?_,cP call_sortedP rfl ms boot_sorted ?_,1,eN (fr:=pze) (js:=[0]) rfl (kQ rfl T2.range (aV (cP iG rfl T.len eY (aV (ixZ (pv 0)) b9)) b9)) ⇑0 rfl ⇑0 rfl (by exists sForN) ⇑0 rfl ⇑0 (λ_ _ _ _ _=>⟨(jS (aV (sQ op_sub (jH (r:=qd K) g9 (jH (r:=qd K) g9 (jH (r:=qd K) g9 (pv 1) dQ) (pv 0)) dQ) (jH (r:=qd K) g9 (jH (r:=qd K) g9 (jH (r:=qd K) g9 (pv 1) dQ) (pv 0)) dQ)) (aV (pv 0) b9))),dU⟩),10,G1,18,tj (mj u1 (pv 5) (pc1 G2 F2 hr (aV (pv 0) (aV (pv 1) (aV (pv 4) b9))))) rfl
 rwa[bq _,λLt hLt=>?_];have S2:bt H (upd H Lt (.lst [])):=bt.put (bt.refl H) hLt;have hLt2:(upd H Lt (.lst [])) Lt=some (.lst []):=aJ;generalize upd H Lt (.lst [])=H2 at S2 hLt2 ⊢;have hv2:=hv.same S2;rwa[ς,ϲ (S2 _ _ ht) 2,p,ς,.inr (zT (S2 _ _ hp)),ς,(by (constructor <;> lia)),⋯,?_]
 let pZ1:zW:=λi zs HC=>bt H2 HC/\zs.length=i/\∀(j:Nat) x,zs[j]? =some x->∃a,x= .ref a/\HC a=some (.tup [.int (oK sp j).1,.int (oK sp j).2])
 rwa[kG (n:=((ys.length:Int)).toNat) pZ1 ⟨bt.refl H2,rfl,λj x h=>by simp at h⟩ (λi zs HC hi ⟨_,e2,_⟩=>kb e2) (cO ⋯) (λi ws HC hi ⟨S,e2',e3⟩=>?_) (λws HC ⟨S,e2',e3⟩ Lo hLo=>?_)]
 ·apply eZ ?_
  rw[gj];have hin:i<sp.length:=by cbv
  let⟨t',p',ys',e0,htA,hpA,hlA,hyA⟩:=c5 (hv2.same S);cases e0;let⟨q,hq,hq2⟩:=hyA i _ (jr hin);rwa[ς,ϲ htA 2,ς,ϲ hpA i hq,ϲ hq2 3,?_];rwa[ς,ϲ htA 2,ς,ϲ hpA i hq,ϲ hq2 2,τ,ς,lh,λa HD SD hD=>⟨S.trans SD,by rw[ax,e2'];rfl,λj x hx=>?_⟩]
  by_cases hj:j<ws.length
  ·rw[fu hj] at hx
   let⟨a',rfl,h'⟩:=e3 j x hx;rwa[a',rfl,SD _ _ h']
  ·rw[bU ↥2] at hx
   have hz:j=ws.length:=by have:=(aw.mp hx).1;simp only[iJ] at this;lia
   subst hz;rw[Nat.sub_self] at hx;cases hx;rwa[a,rfl,by rw[hD,e2'];rfl]
 rw[cw,hl] at e2';let⟨as,rfl⟩:=refs_of6 (zs:=ws) λx hx=>by
  let⟨j,hj⟩:=iY hx;let⟨a,r,_⟩:=e3 j x hj;rwa[a,r]
 rw[aa] at e2';have S23:=S.trans (bt.put (bt.refl HC) hLo (o:=.lst (as.map V.ref)));have hLo3:(upd HC Lo (.lst (as.map V.ref))) Lo=some (.lst (as.map V.ref)):=aJ;have e4:∀(j:Nat) a,as[j]? =some a->(upd HC Lo (.lst (as.map V.ref))) a=some (.tup [.int (oK sp j).1,.int (oK sp j).2]):=λj a h=>by
  let⟨a',r,q⟩:=e3 j (.ref a) (by rw[av,h];rfl);cases r;rw[bw (bJ q hLo)];rwa[q]
 generalize upd HC Lo (.lst (as.map V.ref))=H3 at S23 hLo3 e4 ⊢;have ln:((aQ sp.length).map (oK sp)).length=sp.length:=by rw[aa,bL]
 rwa[Lo,as,(aQ sp.length).map (oK sp),rfl,zL hLo3,by rw[ln];rwa[e2'],λi a kk h1 h2=>?_,sV sp _,by rw[ln];lia,λLs π hLs pm pw=>?_]
 ·rw[av] at h2
  let⟨j,hj,rfl⟩:=aX.mp h2;have hi:i<sp.length:=by have:=(aw.mp hj).1;rw[bL] at this;rwa[this]
  rw[gc hi] at hj;cases hj;rwa[e4 i a h1]
 rw[ln] at pm;have hlt:∀i∈π,i<sp.length:=λi hi=>cg.mp (pm.mem_iff.mp hi)
 have lπ:π.length=sp.length:=by rw[pm.length_eq,bL]
 have SA:=bt.put (bt.refl H3) hLs (o:=.lst (π.map λi=>V.ref (as.getD i 0)));have hLs5:(upd H3 Ls (.lst (π.map λi=>V.ref (as.getD i 0)))) Ls=some (.lst (π.map λi=>V.ref (as.getD i 0))):=aJ;have hLt3:=S23 _ _ hLt2;have nLs:Ls≠Lt:=λz=>by rw[z,hLt3] at hLs;cases hLs
 have e5:∀(j:Nat) a,as[j]? =some a->(upd H3 Ls (.lst (π.map λi=>V.ref (as.getD i 0)))) a=some (.tup [.int (oK sp j).1,.int (oK sp j).2]):=λj a h=>SA _ _ (e4 j a h)
 have S5:bt H2 (upd H3 Ls (.lst (π.map λi=>V.ref (as.getD i 0)))):=S23.trans SA;have hLt5:=SA _ _ hLt3;generalize upd H3 Ls (.lst (π.map λi=>V.ref (as.getD i 0)))=H5 at hLs5 e5 S5 hLt5 ⊢;have S05:=S2.trans S5;rwa[Ls,rfl,⟨_,zL hLs5⟩,?_]
 let pZ1:zV:=λi σ H'=>∃(gs:zI) (tk:zC) (v2 v3 v4 v5:zU),σ=[some (.ref t),some (.ref Lt),v2,v3,v4,v5]/\bt H H'/\kh H5 H'/\H' Ls=some (.lst (π.map λi=>V.ref (as.getD i 0)))/\H' Lt=some (.lst (tk.map λ(i:Nat)=>V.int i))/\Gd m.toNat sp gs tk/\tk.length<=i/\((π.take i).foldl (fG sp) (lV m.toNat,[]))=(gs,tk)
 apply jb (K:=K) (a:=Ls) (xs:=π.map λi=>V.ref (as.getD i 0)) pZ1
  ⟨lV m.toNat,[],none,none,none,none,rfl,S05,kh.refl H5,hLs5,hLt5,Gd.start _ _,ay _,rfl⟩ (by rintro i σ H' _ ⟨_,_,_,_,_,_,_,_,_,h,_⟩;rwa[zL h]) ?_ ?_
 ·rintro i x σ H6 hx ⟨gs,tk,v2,v3,v4,v5,rfl,S6,K6,hLs6,hLt6,G,htk,hfold⟩
  sleep 0
  have hi:i<π.length:=by have:=(aw.mp hx).1;rw[aa] at this;rwa[this]
  rw[av,gE hi] at hx;cases hx;obtain⟨j,hj⟩:∃j,j=π[i]:=⟨ς⟩;rw[<-hj];have hjn:j<sp.length:=hlt j (by rw[hj];rwa[aY hi]);have hja:j<as.length:=by lia
  have ea:as.getD j 0=as[j]:=by rw[af,gE hja];rfl
  have h6:H6 (as.getD j 0)=some (.tup [.int (oK sp j).1,.int (oK sp j).2]):=by rw[ea];rwa[K6 _ _ (e5 j _ (gE hja))]
  have hv6:=hv.same S6;let⟨s0,s1,g0,g1⟩:=E _ (dB hjn);rwa[as.getD j 0,ς,zT h6,rfl,_,ς,τ,?_];rwa[ς,ς,lh,λqs H7 S7 h7=>⟨.ref t,qs,b,m,sp,⟨j,1⟩,sAt sp j,rfl,hv6.same S7,h7,jr hjn,.inl rfl,λq2 H8 S8 h8=>?_⟩];have h8:H8 q2=some (.tup [.int (sAt sp j).s,.int (sAt sp j).g]):=h8;rwa[q2,ς,zT h8,rfl,_,ς,τ,?_];have S78:=S7.trans S8;have mt:(m.toNat:Int)=m:=by have:=N.m1;grind
  rwa[ς,ς,ς,ς,.ref t,Lt,b,m,(sAt sp j).s,sp,tk,rfl,hv6.same S78,N,S78 _ _ hLt6,G.acy.nodup.2,⋯,s0,⋯,λDa kvs c H9 S9 hD hdw I C=>?_];have S69:=S78.trans S9;have hLt9:=S69 _ _ hLt6;have hLs9:=S69 _ _ hLs6;have K9:kh H5 H9:=K6.trans (bt.tupK S69);have S09:=S6.trans S69;have fold1:((π.take (i+1)).foldl (fG sp) (lV m.toNat,[]))=fG sp (gs,tk) j:=by
   rw[aE,gE hi,fU,hfold,hj];rfl
  have G1:=G.step E hjn;rwa[Da,ς,DGet.k (k:=.inl (sAt sp j).g) hD,ς,?_];rwa[oJ (λhnot=>?_) (λhnot=>?_)]
  ·have hnone:lkW c (sAt sp j).g=none:=by
    cases q:lkW c (sAt sp j).g with
    | none=>rfl
    | some ws =>
     let⟨w,e,_⟩:=hdw.some q;rw[e] at hnot;rwa[tR hnot ∅]
   have hne:¬tm gs (sAt sp j).s=tm gs (sAt sp j).g:=λz=>left_of G.acy.nodup.2 (G.held _ _ s0 s1 g0 g1 z) I C hnone rfl
   have es:fG sp (gs,tk) j=(jI gs (tm gs (sAt sp j).s) (tm gs (sAt sp j).g),tk++[j]):=by unfold fG;rwa[tP hne]
   rw[es] at fold1 G1;rwa[ς,.inl ⟨rfl,_,zL hLt9⟩,ς,Lt,τ,hLt9,(aW (by rw[aa];lia:_<1000) ↥0),?_];rwa[_,tk++[j],_,_,_,ς,λa o e=>?_,K9.trans (eJ hLt9),by rw[bw nLs];rwa[hLs9],?_,G1,by rw[ax];show tk.length+1<=i+1;lia,fold1]
   ·rw[bw (λz=>by rw[z,hLt] at e;cases e)]
    rwa[S09 _ _ e]
   ·rw[aJ,au];rfl
  ·have he:tm gs (sAt sp j).s=tm gs (sAt sp j).g:=by
    cases q:lkW c (sAt sp j).g with
    | none=>rwa[tR (by rw[hdw.none q];rfl) hnot]
    | some ws =>
     have P:=(I.pth _ ws q).1;rwa[along_tm (λi hi=>⟨G.acy.nodup.2 i hi,G.eq i hi⟩) ws _ _ (λs hs=>⟨(P.inn s hs).1,(P.inn s hs).2.2⟩) P.alo]
   have es:fG sp (gs,tk) j=(gs,tk):=by unfold fG;rwa[tQ he]
   rw[es] at fold1;rwa[gs,tk,_,_,_,ς,S09,K9,hLs9,hLt9,G,(by (constructor <;> lia)),fold1]
 ·rintro σ H6 ⟨gs,tk,v2,v3,v4,v5,rfl,S6,K6,hLs6,hLt6,G,htk,hfold⟩
  sleep 0
  rw[aa,aG] at hfold;have pw2:π.Pairwise λi j=>ltP (oK sp i) (oK sp j)=true:=pw.imp_of_mem λ{a c} ha hc h=>by
   have la:=hlt a ha;have lc:=hlt c hc;rw[kyP_at (by rw[ln];rwa[la]),kyP_at (by rw[ln];rwa[lc]),ia,ia,iq,iq] at h;rwa[h]
  rwa[ς,k Lt tk H6 S6 hLt6 ⟨π,⟨pm,pw2⟩,by unfold kT;rw[hfold]⟩]
abbrev sFew:bY:=top 109
def hlfS (x:Sn):Sn:=⟨x.s,x.g,x.l,x.l+(x.o - x.l) / 2,x.w⟩
def wsum:zS->Nat
 | []=>0
 | x::sp=>(x.o - x.l).toNat+wsum sp
theorem iC.hlf {m:Int}(N:iC b m sp):iC b m (sp.map hlfS):=⟨N.b1,N.b2,N.m1,N.m2,by rw[aa];rwa[N.few],fun x hx=>by
 obtain ⟨y,hy,rfl⟩:=bc.mp hx;have k:=N.all y hy;have h1:=k.lo;have h2:=k.ob;have h3:=k.o60;exact ⟨k.s0,k.s1,k.g0,k.g1,k.ne,k.l0,by show y.l<=y.l+(y.o - y.l) / 2;lia,by show y.l+(y.o - y.l) / 2<y.l+b;lia,by show y.l+(y.o - y.l) / 2<10 ^ 60;lia,k.w0,k.w1⟩⟩
theorem wsum_hlf:∀{sp:zS},(∀x∈sp,x.l<=x.o)->wsum (sp.map hlfS)<=wsum sp/\((∃x∈sp,x.l<x.o)->wsum (sp.map hlfS)<wsum sp)
 | [],_=>⟨ay _,∅⟩
 | y::sp,h=>by
  let⟨a,c⟩:=wsum_hlf λx hx=>h x (az _ hx)
  show(y.l+(y.o - y.l) / 2 - y.l).toNat+wsum (sp.map hlfS)<=(y.o - y.l).toNat+wsum sp/\(_->(y.l+(y.o - y.l) / 2 - y.l).toNat+wsum (sp.map hlfS)<(y.o - y.l).toNat+wsum sp);rwa[⋯,λhz0=>?_];let⟨x,hx,hl⟩:=hz0
  rcases bh.mp hx with rfl | hx
  ·lia
  ·have:=c ⟨x,hx,hl⟩
   lia
theorem prodW_one {sp:zS}:∀{l:zC},(∀i∈l,(oK sp i).1=0)->jg sp l=1
 | [],_=>rfl
 | i::l,h=>by rw[gT,h i bQ,prodW_one ↥1];rfl
def FewW (H:Hp)(b m:Int)(n:Nat)(σ:St)(HA:Hp):Prop:=∃(v:V) (sp:zS) (v2 v3 v4 v5 v6 v7 v8 v9:zU),n=wsum sp/\bt H HA/\IsD HA v (jz b m sp)/\iC b m sp/\σ=[some v,some (.int 256),v2,v3,v4,v5,v6,v7,v8,v9]
inductive spFewN (vs:zA)(H:Hp)(Q:VK)(_:XK):Prop
 | mk (v:V)(b m:Int)(sp:zS)(_:vs=[v,.int 256])(_:‹4›)(_:iC b m sp)(_:∀v' sp' tk H',bt H H'->IsD H' v' (jz b m sp')->iC b m sp'->GrdL m.toNat sp' tk->jg sp' tk<=256->Q v' H')
def scFew:bH ["_law_net_here","_law_most","_law_many","_law_k","_law_spans","_law_start","_law_goal","_law_least","_law_width","_law_weight"] pzS (defScope sFew):=⇑0
theorem ok_fewN (F:Fun K "_law_few" "_law_few" sFew f fd)(T:Nm mg)(G1:Fn K mg "_law_forest" sForN pze f1 fd1)(F1:‹0› 4 f1 fd1 pze spForG):‹0› 5 f fd pzS spFewN:=by
 specialize F.ok scFew;let⟨v,b,m,sp,rfl,hv,N,k⟩:=h;have hr4:kX 4 _:=hr
 exists 98,scFew,10,gU ?_,pc1 G1 F1 hr4 ?_,7,op_mulG
 rwa[FewW H b m,⟨_,v,sp,none,none,none,none,none,none,none,none,rfl,bt.refl H,hv,N,rfl⟩,?_];rintro n σ HA ⟨v,sp,v2,v3,v4,v5,v6,v7,v8,v9,rfl,SA,hv,N,rfl⟩;have b2:=N.b2;have m2:=N.m2;have m1:=N.m1;have E:=N.ends;have lo:∀x∈sp,x.l<=x.o:=λx hx=>(N.all x hx).lo
 rwa[ς,mR rfl ?_];rwa[λσ' H'=>∃n',n'<wsum sp/\FewW H b m n' σ' H',λ_ _ h=>h,?_];rwa[ς,v,b,m,sp,rfl,hv,N,λL tk H1 S1 hL gr=>?_];rwa[L,rfl,⟨_,zL hL⟩,?_];have hlt:=gr.lt;have few:tk.length<m.toNat:=gr.few E ⋯;have wk:=N.wok ⋯;let⟨t,p,ys,rfl,ht,hp,hl,hy⟩:=c5 (hv.same S1)
 let pZ1:zV:=λi σ HB=>HB=H1/\∃v3,σ=[some (.ref t),some (.int 256),some (.int (jg sp (tk.take i))),v3,v4,v5,v6,v7,v8,v9]
 rwa[jb (K:=K) (a:=L) (xs:=tk.map λ(i:Nat)=>V.int i) pZ1 ⟨rfl,v3,rfl⟩ (λi σ HB _ ⟨e,_⟩=>by rw[e];exact zL hL) ?_ ?_]
 ·rintro i x σ HB hx ⟨rfl,v3,rfl⟩
  rw[av] at hx;let⟨j,hj,rfl⟩:=aX.mp hx;have hjn:=hlt j (aZ hj);have w0:=wk _ (dB hjn);let⟨q,hq,hq2⟩:=hy j _ (jr hjn);rwa[ς,ς,ϲ ht 2,ς,ϲ hp j hq,ϲ hq2 3,τ,?_];rwa[ς,ϲ ht 2,ς,ϲ hp j hq,ϲ hq2 2,τ,?_];rwa[τ,⟨?_,?_⟩,rfl,some (.int j),?_]
  ·rwa[pow_33 (rO wk (l:=tk.take i) λk hk=>hlt k (List.mem_of_mem_take hk)) (by rw[bD];lia)]
  ·rwa[pow_33 (k:=1) (by rw[Nat.pow_one];lia) ↥0]
  ·rw[aE,hj]
   show _=[some (.ref t),some (.int 256),some (.int (jg sp (tk.take i++[j]))),_,v4,v5,v6,v7,v8,v9];rw[tu,show(oK sp j).1+1=1+(sAt sp j).o - (sAt sp j).l by show(sAt sp j).o - (sAt sp j).l+1=_;lia];rfl
 rintro σ HB ⟨rfl,v3,rfl⟩;rw[aa,aG];rwa[ς,ς,τ,ς,oJ (λc=>?_) (λc=>?_)]
 ·rwa[ς,k _ sp tk HB (SA.trans S1) (hv.same S1) N gr (tV c)]
 have c:¬jg sp tk<=256:=λh=>c (tS h)
 rwa[bq _,λLs hLs=>?_];have S2:bt HB (upd HB Ls (.lst [])):=bt.put (bt.refl HB) hLs;have h2:(upd HB Ls (.lst [])) Ls=some (.lst []):=aJ;generalize upd HB Ls (.lst [])=H2 at S2 h2 ⊢;rwa[ς,ϲ (S2 _ _ ht) 2,p,rfl,⟨_,zT (S2 _ _ hp)⟩,?_];have few40:=N.few;have big:(100000:Nat)<=aO:=by decide
 let pZ1:zV:=λi σ HC=>bt HB HC/\∃zs v5 v6 v7 v8 v9,HC Ls=some (.lst zs)/\dg HC zs (gu Sn.row ((sp.take i).map hlfS))/\σ=[some (.ref t),some (.int 256),some (.int (jg sp tk)),v3,some (.ref Ls),v5,v6,v7,v8,v9]
 rwa[jU (K:=K) (a:=p) (xs:=ys) pZ1 ⟨S2,[],v5,v6,v7,v8,v9,h2,.nil,rfl⟩ (λi σ HC _ q=>zT (q.1 _ _ hp)) ?_ ?_]
 ·rintro i x σ HC hx ⟨SC,zs,w5,w6,w7,w8,w9,hC,dz,rfl⟩
  have hi:i<sp.length:=by rw[<-hl];rwa[(aw.mp hx).1]
  let⟨q,hq,hq2⟩:=hy i sp[i] (gE hi);rw[hx] at hq;cases hq;have hq3:=SC _ _ hq2;have lz:zs.length<=40:=by rw[dz.length];unfold gu;rw[aa,aa,bD];lia
  rwa[q,ς,zT hq3,rfl,_,ς,_,ς,_,ς,_,ς,τ,?_];rwa[ς,.inl ⟨rfl,_,zL hC⟩,ς,ς,ς,ς,ς,ς,τ,τ,⟨↥0,↥0⟩,τ,ς,szZ5,λu HD SD hD=>?_];have hC2:=SD _ _ hC;rwa[Ls,τ,hC2,⋯,?_];rwa[λc o e=>by rw[bw (λz=>by rw[z,hLs] at e;cases e)];rwa[(SC.trans SD) _ _ e],_,_,_,_,_,_,aJ,?_,rfl];rw[aE,gE hi,au];show dg _ (zs++[.ref u]) (gu Sn.row (_++[hlfS sp[i]]));unfold gu;rw[au];rwa[dg.append (eM (λa xs e=>?_) dz) (.cons (.tup (xs:=(hlfS sp[i]).row.map V.int) ?_ (dg.ints _)) .nil)]
  ·rw[bw (fj (SD _ _ e) hC2 nofun)];rwa[SD _ _ e]
  ·rw[bw (fj hD hC2 nofun)];rwa[hD]
 rintro σ HC ⟨SC,zs,w5,w6,w7,w8,w9,hC,dz,rfl⟩;rw[hl,aG] at dz;have ht3:=SC _ _ ht;rwa[ς,ϲ ht3 0,ς,ϲ ht3 1,ς,Ls,ς,zL hC,λu HD SD hD=>?_];rwa[(by show 3<=aO;decide),λt2 HE SE hE=>?_];let⟨dec,_⟩:=wsum_hlf lo;rwa[wsum (sp.map hlfS),(wsum_hlf lo).2 ?_,_,sp.map hlfS,_,_,_,_,_,_,_,ς,SA.trans (S1.trans (SC.trans (SD.trans SE))),?_,N.hlf,rfl]
 ·apply dv λno=>c ?_
  rw[prodW_one λi hi=>?_]
  ·decide
  ·have:=lo _ (dB (hlt i hi))
   have n2:¬(sAt sp i).l<(sAt sp i).o:=λz=>no ⟨_,dB (hlt i hi),z⟩
   show(sAt sp i).o - (sAt sp i).l=0;lia
 ·rwa[.tup hE (.cons (.int _) (.cons (.int _) (.cons (.tup (SE _ _ hD) ((eM (λa xs e=>(SD.trans SE) _ _ e) dz))) .nil)))]
end HN
namespace HT2
theorem join_cons2 (y p q:Str)(r:List Str):jB y (p::q::r)=p++y++jB y (q::r):=rfl
theorem pj (c:Nat)(p q:Str)(r:List Str):(jB ⟨#[c]⟩ (p::q::r)).cps.toList=p.cps.toList++c::(jB ⟨#[c]⟩ (q::r)).cps.toList:=by
 rw[join_cons2];simp only[Str.cps_append,Array.toList_append];simp
theorem str_ext {a b:Str}(h:a.cps.toList=b.cps.toList):a=b:=by
 cases a with | mk x=>cases b with | mk y =>
 have:x=y:=by
  have:=tW gQ h
  simpa using this
 rw[this]
theorem cut_first {c:Nat}:∀{a b r s:zC},c ∉ a->c ∉ b->a++c::r=b++c::s->a=b/\r=s
 | [],[],_,_,_,_,e=>⟨rfl,(List.cons.inj e).2⟩
 | [],y::b,_,_,_,hb,e=>by
  cbv
 | x::a,[],_,_,ha,_,e=>by
  cbv
 | x::a,y::b,r,s,ha,hb,e=>by
  let⟨e1,e2⟩:=List.cons.inj e;let⟨h1,h2⟩:=cut_first (λm=>ha (az _ m)) (λm=>hb (az _ m)) e2
  cbv
def no_cut {c:Nat}{a b r:zC}(ha:c ∉ a)(e:a=b++c::r):False:=ha (by rw[e];simp)
theorem join_inj {c:Nat}:∀{as bs:List Str},as≠[]->bs≠[]->(∀p∈as,c ∉ p.cps.toList)->(∀p∈bs,c ∉ p.cps.toList)->jB ⟨#[c]⟩ as=jB ⟨#[c]⟩ bs->as=bs
 | [],_,h,_,_,_,_=>tR rfl h
 | _::_,[],_,h,_,_,_=>tR rfl h
 | [p],[q],_,_,_,_,e=>by
  have e:p=q:=e;rw[e]
 | [p],q::q2::r,_,_,ha,_,e=>by
  have:=tW (λs:Str=>s.cps.toList) e;simp only[pj] at this;rwa[(no_cut (ha p ∅) this).elim]
 | p::p2::r,[q],_,_,_,hb,e=>by
  have:=tW (λs:Str=>s.cps.toList) e;simp only[pj] at this;rwa[(no_cut (hb q ∅) this.symm).elim]
 | p::p2::r,q::q2::s,_,_,ha,hb,e=>by
  have:=tW (λs:Str=>s.cps.toList) e;simp only[pj] at this;let⟨h1,h2⟩:=cut_first (ha p ∅) (hb q ∅) this;have ih:=join_inj ∅ ∅ ↥1 ↥1 (str_ext h2);rw[str_ext h1,ih]
def split_ne (x:Str)(c:Nat):ij x ⟨#[c]⟩≠[]:=by
 unfold ij;split
 ·simp
 ·split
  ·simp
  ·unfold gB
   intro h;have:=tW kH h;simp at this
theorem pN {c:Nat}{ys:List Str}(h:ys≠[])(hf:∀p∈ys,c ∉ p.cps.toList):ij (j8 ⟨#[c]⟩ ys) ⟨#[c]⟩=ys:=by
 have e:j8 ⟨#[c]⟩ ys=jB ⟨#[c]⟩ ys:=iB _ _;rw[e];rwa[join_inj (c:=c) (split_ne _ _) h (λp hp=>StrLaws.split_free _ c p hp) hf ?_];rwa[StrLaws.join_split _ _]
def dig (m:Nat):zC:=(Nat.toDigits 10 m).map Char.toNat
theorem sD (h:m<10):dig m=[48+m]:=by
 unfold dig;rw[Nat.toDigits_of_lt_base h];have:∀d:Nat,d<10->(Nat.digitChar d).toNat=48+d:=by decide
 show[(Nat.digitChar m).toNat]=_;rw[this m h]
theorem dig_ge (h:10<=m):dig m=dig (m / 10)++[48+m % 10]:=by
 have hm:m % 10<10:=Nat.mod_lt m ↥0;have t:Nat.toDigits 10 (m / 10)++Nat.toDigits 10 (m % 10)=Nat.toDigits 10 (10 * (m / 10)+m % 10):=Nat.toDigits_append_toDigits ↥0 ↥2 hm;rw[Nat.div_add_mod] at t;have e:=sD hm;unfold dig at e ⊢;rw[<-t,au,e]
def dig_ne (m:Nat):dig m≠[]:=by
 rcases Nat.lt_or_ge m 10 with h | h
 ·rw[sD h];simp
 ·rw[dig_ge h];simp
theorem dig_all:∀(m:Nat),∀c∈dig m,48<=c/\c<=57:=by
 intro m
 induction m using Nat.strongRecOn with
 | _ m ih =>
  intro c hc
  rcases Nat.lt_or_ge m 10 with h | h
  ·grind [sD,bf]
  ·rw[dig_ge h] at hc
   grind
theorem dig_len:∀(k m:Nat),m<10 ^ (k+1)->(dig m).length<=k+1
 | 0,m,h=>by grind [sD]
 | k+1,m,h=>by
  rcases Nat.lt_or_ge m 10 with q | q
  ·rw[sD q];simp
  ·rw[dig_ge q,ax,iJ]
   have h2:m / 10<10 ^ (k+1):=by
    lia
   have:=dig_len k (m / 10) h2;cbv
theorem dig_head:∀(m:Nat),1<=m->(dig m).head? ≠some 48:=by
 intro m
 induction m using Nat.strongRecOn with
 | _ m ih =>
  intro h1 e
  rcases Nat.lt_or_ge m 10 with h | h
  ·rw[sD h] at e
   have:48+m=48:=by simpa using e
   cbv
  ·rw[dig_ge h] at e
   have ih':=ih (m / 10) ⋯ ⋯;cases hd:dig (m / 10) with
   | nil=>rwa[dig_ne _ hd]
   | cons a r =>
    rw[hd] at e ih';rwa[ih' (by simpa using e)]
theorem dig_one (h:1<(dig m).length):10<=m:=by
 grind [Nat.lt_or_ge,sD]
def num (m:Nat):Str:=Str.ofString (kx ((m:Nat):Int))
theorem nJ (m:Nat):(num m).cps.toList=dig m:=PySem.W.KIN.signs_num m
theorem num_len (h:m<10 ^ 60):(num m).length<=60:=by
 have:=dig_len 59 m h;rw[<-nJ] at this
 simpa [Str.length] using this
theorem num_pos (m:Nat):1<=(num m).length:=by
 have h:=dig_ne m;rw[<-nJ] at h;cases e:(num m).cps.toList with
 | nil=>rwa[tR e h]
 | cons a r =>
  have:(num m).length=(num m).cps.toList.length:=by simp[Str.length]
  rw[this,e];simp
theorem num_int (h:m<10 ^ 60):PySem.intText? (num m)=some ((m:Nat):Int):=by
 have e:=PySem.intText_digits (λc hc=>dig_all m c (by rw[<-nJ];rwa[hc])) (by rw[nJ];rwa[dig_ne m]) (aU (num_len h) ↥0);rw[nJ] at e;rw[e];have v:=PySem.W.KIN.val_back m;unfold dig;rw[v]
end HT2
namespace HN
open HT2
abbrev sp_:Str:=" "
abbrev nl_:Str:="\n"
theorem sp_eq:(sp_:Str)=⟨#[32]⟩:=⇑0
noncomputable def jT (i:Int):Str:=kx i
theorem numI_nat (m:Nat):jT (m:Int)=num m:=rfl
def rG (ns:zI):Str:=j8 sp_ (ns.map jT)
def jJ (b m:Int):Str:=("beat " :Str)++jT b++(" happenings " :Str)++jT m
def netT (b m:Int)(sp:zY):Str:=j8 nl_ (jJ b m::sp.map rG)
def W60 (i:Int):Prop:=0<=i/\i<10 ^ 60
theorem W60.nat {i:Int}(h:W60 i):∃m:Nat,i=m/\m<10 ^ 60:=by
 let⟨m,rfl⟩:=cu h.1;rwa[m,rfl,by have:=h.2;lia]
def numI_cps {i:Int}(h:W60 i):∀c∈(jT i).cps.toList,48<=c/\c<=57:=by
 let⟨m,rfl,_⟩:=h.nat;rw[numI_nat,nJ];rwa[dig_all m]
def kB {i:Int}(h:W60 i):(jT i).length<=60:=by
 let⟨m,rfl,hm⟩:=h.nat;rwa[num_len hm]
def numI_int {i:Int}(h:W60 i):PySem.intText? (jT i)=some i:=by
 let⟨m,rfl,hm⟩:=h.nat;rwa[num_int hm]
theorem tI {i:Int}(h:W60 i):i.natAbs.log2<1920:=by
 by_cases h0:i.natAbs=0
 ·rw[h0];decide
 ·have h1:i.natAbs<2 ^ 200:=by
   have h2:i.natAbs<10 ^ 60:=by have:=h.1;have:=h.2;lia
   lia
  have:=(Nat.log2_lt h0).mpr h1;lia
theorem mm {i:Int}(h:W60 i){c:Nat}(hc:c<48):c ∉ (jT i).cps.toList:=λm=>by
 have:=numI_cps h c m;lia
theorem cps_app (a b:Str):(a++b).cps.toList=a.cps.toList++b.cps.toList:=by simp only[Str.cps_append,Array.toList_append]
theorem oA (a b:Str):(a++b).length=a.length+b.length:=Str.length_append a b
theorem app_assoc (a b c:Str):a++b++c=a++(b++c):=str_ext (by simp only[cps_app,List.append_assoc])
theorem nM (a:Str):gP++a=a:=str_ext (by rw[cps_app];rfl)
theorem join_mem {c:Nat}:∀{ys:List Str} {x:Nat},x∈(jB ⟨#[c]⟩ ys).cps.toList->x=c\/∃y∈ys,x∈y.cps.toList
 | [],x,h=>by
  have h:x∈(gP).cps.toList:=h;rwa[tR h (by simp[gP])]
 | [y],x,h=>.inr ⟨y,∅,h⟩
 | y::z::r,x,h=>by
  rw[pj] at h
  rcases bj.mp h with h | h
  ·rwa[.inr ⟨y,∅,h⟩]
  ·rcases bh.mp h with h | h
   ·rwa[.inl h]
   ·rcases join_mem (ys:=z::r) h with q | ⟨w',hw,q⟩
    ·rwa[.inl q]
    ·rwa[.inr ⟨w',az _ hw,q⟩]
theorem row_free (h:∀i∈ns,W60 i):10 ∉ (rG ns).cps.toList:=λm=>by
 unfold rG at m;rw[sp_eq,show j8 ⟨#[32]⟩ (ns.map jT)=jB ⟨#[32]⟩ (ns.map jT) from iB _ _] at m
 grind [join_mem,bc,mm]
theorem head_join (b m:Int):jJ b m=j8 sp_ ["beat",jT b,"happenings",jT m]:=by
 have e1:("beat ")=("beat")++sp_:=⇑0
 have e2:(" happenings ")=sp_++(("happenings")++sp_):=⇑0
 rw[show j8 sp_ ["beat",jT b,"happenings",jT m]=jB sp_ ["beat",jT b,"happenings",jT m] from iB _ _];unfold jJ;rw[e1,e2];show _=("beat")++sp_++(jT b++sp_++(("happenings")++sp_++jT m));simp only[app_assoc]
def head_free {m:Int}(hb:W60 b)(hm:W60 m):10 ∉ (jJ b m).cps.toList:=by
 unfold jJ;simp only[cps_app,bj,not_or];rwa[⟨⟨?_,mm hb ↥0⟩,?_⟩,mm hm ↥0] <;> decide +kernel
theorem head_split {m:Int}(hb:W60 b)(hm:W60 m):ij (jJ b m) sp_=([("beat" :Str),jT b,("happenings" :Str),jT m]:List Str):=by
 rw[head_join,sp_eq];rwa[pN ∅ λp hp=>?_]
 simp only[bh,fN,or_false] at hp
 rcases hp with rfl | rfl | rfl | rfl
 ·decide +kernel
 ·rwa[mm hb ↥0]
 ·decide +kernel
 ·rwa[mm hm ↥0]
theorem row_split (h:∀i∈ns,W60 i)(hne:ns≠[]):ij (rG ns) sp_=ns.map jT:=by
 rwa[pN (by simpa using hne) λp hp=>?_]
 grind [bc,mm]
structure NetN (b m:Int)(sp:zY):Prop where
 b60:W60 b
 m60:W60 m
 few:sp.length<=40
 five:∀ns∈sp,ns.length=5
 s60:∀ns∈sp,∀i∈ns,W60 i
theorem net_split {m:Int}{sp:zY}(h:NetN b m sp):ij (netT b m sp) nl_=jJ b m::sp.map rG:=by
 rwa[pN ∅ λp hp=>?_]
 rcases bh.mp hp with rfl | hp
 ·rwa[head_free h.b60 h.m60]
 ·let⟨ns,hn,rfl⟩:=bc.mp hp
  rwa[row_free (h.s60 ns hn)]
theorem sum_le {α:Type}(f:α->Nat)(k:Nat):∀(l:List α),(∀x∈l,f x<=k)->(l.map f).sum<=l.length * k
 | [],_=>by simp
 | x::r,h=>by
  have h1:=h x ∅;have h2:=sum_le f k r λy hy=>h y (az _ hy)
  simp only[cz,List.sum_cons,bE,Nat.add_mul];lia
def nums_sum (h:∀i∈ns,W60 i):((ns.map jT).map (·.length)).sum<=ns.length * 60:=by
 rw[bZ];rwa[sum_le _ 60 ns λi hi=>kB (h i hi)]
theorem row_len (h:∀i∈ns,W60 i):(rG ns).length<=ns.length * 61:=by
 unfold rG;rw[show j8 sp_ (ns.map jT)=jB sp_ (ns.map jT) from iB _ _];have h1:=StrLaws.join_length_le sp_ (ns.map jT);have h2:=nums_sum h;have h3:sp_.length=1:=⇑0
 grind
theorem head_len {m:Int}(hb:W60 b)(hm:W60 m):(jJ b m).length<=137:=by
 unfold jJ;have h1:=kB hb;have h2:=kB hm;have h3:("beat " :Str).length=5:=⇑0
 have h4:(" happenings " :Str).length=12:=⇑0
 grind [oA]
theorem rows_sum {m:Int}{sp:zY}(h:NetN b m sp)(k:Nat):(((jJ b m::(sp.take k).map rG)).map (·.length)).sum<=12337:=by
 have h1:=head_len h.b60 h.m60;have h2:((sp.take k).map ((λx:Str=>x.length) ∘ rG)).sum<=(sp.take k).length * 305:=sum_le _ 305 _ λns hn=>by
  have hm:=List.mem_of_mem_take hn;have:=row_len (h.s60 ns hm);have:=h.five ns hm
  cbv
 have h3:=h.few
 grind
def partT (b m:Int)(sp:zY)(k:Nat):Str:=j8 nl_ (jJ b m::(sp.take k).map rG)
theorem part_all (b m:Int)(sp:zY):partT b m sp sp.length=netT b m sp:=by unfold partT netT;cbv
theorem part_len {m:Int}{sp:zY}(h:NetN b m sp)(k:Nat):(partT b m sp k).length<=12400:=by
 unfold partT;rw[show j8 nl_ (jJ b m::(sp.take k).map rG)=jB nl_ (jJ b m::(sp.take k).map rG) from iB _ _];have h1:=StrLaws.join_length_le nl_ (jJ b m::(sp.take k).map rG);have h2:=rows_sum h k;have h3:nl_.length=1:=⇑0
 have h4:=h.few
 grind
def net_len {m:Int}{sp:zY}(h:NetN b m sp):(netT b m sp).length<=12400:=by
 rw[<-part_all];rwa[part_len h _]
end HN
def call_int_str:jy X (.type "int") (λxs H Q=>∃x n,xs=[.str x]/\PySem.intText? x=some n/\x.length<=640/\Q (.int n) H):=by
 norm_cast;let⟨x,n,rfl,hn,hl,q⟩:=h;let⟨u,rfl,ru⟩:=lZ r;let⟨t,rfl⟩:=(ru);rwa[PySem.W.KIN.call_text hn hl ⟨.int n,H,I.tok _,⟨ς⟩,q⟩]
namespace HN
open HT2
structure Nm2 (mg:Str->zJ):Prop where
 tstr:mg "str" =none
 tlist:mg "list" =none
structure Cs2 (mg:Str->zJ):Prop where
 fig:∃t,mg "FIGURES" =some (.str "0123456789" t)
 mf:∃t,mg "MOST_FIGURES" =some (.int 60 t)
def pe_gstr {z:Str}(hm:∃t,X.mg x=some (.str z t))(hg:autoParam (Gl X x) Ωa)(hd:autoParam ((x == ("__debug__" :Str))=false) Ωb):PE X (.Name x pos) (tC (.str z)):=
 let ⟨t,e⟩:=hm;pe_glob hg e ⟨t,rfl⟩ hd
def pe_isStr {p:Pos}(N:Nm X.mg)(N2:Nm2 X.mg)(he:PE X e te)(hg:autoParam (Gl X "isinstance") Ωa)(hg2:autoParam (Gl X "str") Ωa)
  (hs1:autoParam (bF [e,.Name "str" p2] X.env=(false,eO e X.env)::bF [.Name "str" p2] X.env) Ωa) (hpl:autoParam ((gw pos (bF [.Name "str" p2] X.env)).any (·.1)=false) Ωa) :
  PE X (.Call (.Name "isinstance" p) [e,.Name "str" p2] [] pos) (tCB (λxs H Q=>∃x T,xs=[x,.ty "str"]∧tyn H x=some T∧Q (.bl (T == "str")) H) (om te (om (tC (.ty "str")) tNil))):=
 cP tN hg N.isin mE (aV he (aV (rS hg2 N2.tstr boot_str rfl) b9) hs1) (he:=hs1)
noncomputable def lU (z:Str):Bool:=decide (1<=z.length) && (decide (z.length<=60) && (!(decide (z.cps.toList.head? =some 48) && decide (1<z.length)) && z.cps.toList.all λc=>decide (48<=c/\c<=57)))
theorem fig_in (c:Nat):(!(dY ("0123456789" :Str) ⟨#[c]⟩ 0 ("0123456789" :Str).length 1).isEmpty)=decide (48<=c/\c<=57):=by
 rw[StrLaws.found_one];have e:("0123456789" :Str).cps.toList=[48,49,50,51,52,53,54,55,56,57]:=⇑0
 rw[e];rw[decide_eq_decide];rwa[(List.mem_range'_1 (s:=48) (n:=10)).trans (by omega)]
theorem numI_numeral {i:Int}(h:W60 i):lU (jT i)=true:=by
 let⟨m,rfl,hm⟩:=h.nat;unfold lU;rw[numI_nat];rw[tS (num_pos m),tS (num_len hm),nJ];have h1:((dig m).all λc=>decide (48<=c/\c<=57))=true:=by
  rw[gm];rwa[λc hc=>tS (dig_all m c hc)]
 rw[h1];have h2:(decide ((dig m).head? =some 48) && decide (1<(num m).length))=false:=by
  rw[gR];intro z;rw[jf] at z;have z1:=tV z.1;have z2:=tV z.2;have e:(num m).length=(dig m).length:=by rw[<-nJ];simp[Str.length]
  rw[e] at z2;rwa[dig_head m (by have:=dig_one z2;lia) z1]
 rw[h2];rfl
inductive spNumeral (vs:zA)(H:Hp)(Q:VK)(_:XK):Prop
 | mk (z:Str)(_:vs=[.str z])(_:z.length<=100000)(_:∀H',bt H H'->Q (.bl (lU z)) H')
inductive spReadW (vs:zA)(H:Hp)(Q:VK)(_:XK):Prop
 | mk (i:_)(_:vs=[.str (jT i)])(_:W60 i)(_:∀H',bt H H'->Q (.int i) H')
abbrev netD (b m:Int)(sp:zY):Dt:=.tup [.int b,.int m,.tup (sp.map λns=>.tup (ns.map Dt.int))]
inductive spShow (vs:zA)(H:Hp)(Q:VK)(_:XK):Prop
 | mk (v b m sp:_)(_:vs=[v])(_:IsD H v (netD b m sp))(_:NetN b m sp)(_:∀H',bt H H'->Q (.str (netT b m sp)) H')
inductive spHead (vs:zA)(H:Hp)(Q:VK)(_:XK):Prop
 | mk (b m:_)(_:vs=[.str (jJ b m)])(_:W60 b)(_:W60 m)(_:∀p H',bt H H'->H' p=some (.tup [.int b,.int m])->Q (.ref p) H')
inductive spSpanR (vs:zA)(H:Hp)(Q:VK)(_:XK):Prop
 | mk (ns:_)(_:vs=[.str (rG ns)])(_:ns.length=5)(_:(∀i∈ns,W60 i))(_:∀p H',bt H H'->H' p=some (.tup (ns.map V.int))->Q (.ref p) H')
abbrev nX:bY:=top 11
abbrev sRead:bY:=top 12
abbrev sShow:bY:=top 87
abbrev sHead:bY:=top 88
abbrev sSpanR:bY:=top 89
abbrev sNetR:bY:=top 90
def scNumeral:bH pzj pzj (defScope nX):=⇑0
theorem ok_numeral (F:Fun K "is_numeral" "is_numeral" nX f fd)(T:Nm mg)(C:Cs2 mg):‹0› 1 f fd pzj spNumeral:=by
 specialize F.ok scNumeral;let⟨z,rfl,hz,k⟩:=h
 exists 2,_,7,cP nP rfl T.len eY ?_,7,cP nP rfl T.len eY ?_,3,nH C.mf,5,kN ?_,6,ix_str,6,cP nP rfl T.len eY ?_,10,cP (oa rfl) rfl T.all boot_all ?_,1,eN (fr:=[]) (js:=[]) rfl (pi_str (pv 0)) ⇑0 rfl ⇑0 rfl (by exists nX) ⇑0 rfl ⇑0 (λ_ _ _ _ _=>⟨(pe_cmpR op_in_str (pv 0) (pe_gstr C.fig) rfl),dU⟩)
 have big:(100000:Nat)<=aO:=by decide
 have hz':z.length<=aO:=by lia
 have k0:=k H (bt.refl H);rwa[ς,z,rfl,hz',τ,ς,?_];rwa[oJ (λh1=>?_) (λh1=>?_)]
 ·have h1:(z.length:Int)<1:=tV h1
  have e:lU z=false:=by unfold lU;rw[tU ⋯];rfl
  rw[e] at k0;rwa[k0]
 have h1:¬(z.length:Int)<1:=λq=>h1 (tS q)
 rwa[ς,z,rfl,hz',τ,ς,?_];rwa[oJ (λh2=>?_) (λh2=>?_)]
 ·have h2:(60:Int)<(z.length:Int):=tV h2
  have e:lU z=false:=by unfold lU;rw[tU (by lia:¬z.length<=60),Bool.false_and,Bool.and_false]
  rw[e] at k0;rwa[k0]
 have h2:¬(60:Int)<(z.length:Int):=λq=>h2 (tS q)
 have hl:z.cps.toList.length=z.length:=by simp[Str.length]
 obtain⟨c0,r0,hc⟩:∃c r,z.cps.toList=c::r:=by
  cases e:z.cps.toList with
  | nil=>rw[e] at hl;simp at hl;lia
  | cons c r=>rwa[c,r,rfl]
 have en:lU z=(!(decide (c0=48) && decide (1<z.length)) && z.cps.toList.all λc=>decide (48<=c/\c<=57)):=by
  unfold lU;rw[tS (by lia:1<=z.length),tS (by lia:z.length<=60),Bool.true_and,Bool.true_and];congr 3;rw[decide_eq_decide,hc];simp
 have e48:decide (V.str ⟨#[c0]⟩=V.str "0")=decide (c0=48):=by
  rw[decide_eq_decide];have z0:("0" :Str)=⟨#[48]⟩:=⇑0
  rw[z0]
  constructor
  ·intro q
   injection q with q
   have:=tW (λs:Str=>s.cps.toList) q
   simpa using this
  ·intro q;rw[q]
 rwa[λσ' H'=>σ'=[some (.str z)]/\H'=H/\(decide (c0=48) && decide (1<z.length))=false,?_,?_]
 ·rintro σ' H' ⟨rfl,rfl,hq⟩
  sleep 0
  rw[hq] at en;rwa[ς,z,rfl,?_];have hsz:z.cps.size=z.cps.toList.length:=by simp
  let pZ2:zW:=λi ys H2=>H2=H'/\ys=(z.cps.toList.take i).map λc=>V.bl (decide (48<=c/\c<=57))
  rwa[comp_str pZ2 ⟨rfl,rfl⟩ (λi ys H2 hi ⟨e1,e2⟩=>?_) hz' (λi c ys H2 hx ⟨e1,e2⟩=>?_) (λys H2 ⟨e1,e2⟩ D hD=>?_)]
  ·rw[e2,aa,bD];cbv
  ·subst e1
   rwa[eZ ?_];rwa[ς,τ,rfl,?_];have hx':z.cps.toList[i]? =some c:=by rw[iH];rwa[hx]
   rw[e2,aE,hx',au,fig_in];rfl
  ·subst e1
   rw[hsz,aG] at e2;rwa[D,z.cps.toList.map λc=>decide (48<=c/\c<=57),rfl,zL (by rw[aJ,e2,bZ];rfl),?_];have e3:((z.cps.toList.map λc=>decide (48<=c/\c<=57)).all id)=lU z:=by rw[en,List.all_map];rfl
   rw[e3];rwa[k _ (bt.put (bt.refl H2) hD)]
 ·rwa[ς,z,0,c0,rfl,rfl,hz',by rw[hc];rwa[ar (j:=0) rfl],rfl,ς,?_]
  rw[e48];rwa[oJ (λh3=>?_) (λh3=>?_)]
  ·rwa[ς,z,rfl,hz',τ,ς,?_]
   rwa[oJ (λh4=>?_) (λh4=>?_)]
   ·have h4:(1:Int)<(z.length:Int):=tV h4
    rw[en,h3,tS (by lia:1<z.length)] at k0;rwa[k0]
   ·have h4:¬(1:Int)<(z.length:Int):=λq=>h4 (tS q)
    rwa[rfl,rfl,by rw[tU (by lia:¬1<z.length),Bool.and_false]]
  ·rwa[rfl,rfl,by rw[gR.mpr h3,Bool.false_and]]
def scRead:bH pzj pzj (defScope sRead):=⇑0
theorem ok_readW (F:Fun K "read_whole" "read_whole" sRead f fd)(T:Nm mg)(C:Cs2 mg)(GN:Fn K mg "is_numeral" nX pzj f1 fd1):‹0› 2 f fd pzj spReadW:=by
 have FN:‹0› 1 f1 fd1 pzj spNumeral:=ok_numeral GN.F T C;specialize F.ok scRead;let⟨i,rfl,hi,k⟩:=h
 exists 1,_,5,GN,4,oV,3,fP call_int_str rfl T.tint boot_int ?_
 rwa[ς,ς,by have:=kB hi;lia,λH1 S1=>⟨ς,?_⟩];rw[numI_numeral hi];rwa[ς,_,i,rfl,numI_int hi,by have:=kB hi;lia,k H1 S1]
def netD_of {v:V}{m:Int}{sp:zY}(h:IsD H v (netD b m sp)):∃t p ys,v= .ref t/\H t=some (.tup [.int b,.int m,.ref p])/\H p=some (.tup ys)/\dg H ys (sp.map λns=>.tup (ns.map Dt.int)):=by
 let⟨t,xs,rfl,ht,rx⟩:=h.tup_of;cases rx with
 | cons h0 r0 =>
  cases r0 with
  | cons h1 r1 =>
   cases r1 with
   | cons h2 r2 =>
    cases r2;cases h0;cases h1;let⟨p,ys,rfl,hp,ry⟩:=h2.tup_of;rwa[t,p,ys,rfl,ht,hp,ry]
def spanD_of {sp:zY}{x:V}(r:dg H ys (sp.map λns=>.tup (ns.map Dt.int)))(hx:ys[i]? =some x):∃ns q,sp[i]? =some ns/\x= .ref q/\H q=some (.tup (ns.map V.int)):=by
 let⟨d,hd,dx⟩:=r.get hx;rw[av] at hd;let⟨ns,hn,rfl⟩:=aX.mp hd;let⟨q,zs,rfl,hq,rz⟩:=dx.tup_of;have ez:=rz.ints_of;subst ez;rwa[ns,q,hn,rfl,hq]
structure NetS (b m:Int)(sp:zY):Prop where
 b1:1<=b
 b2:b<=10 ^ 59
 m1:1<=m
 m2:m<=16
 few:sp.length<=40
 all:∀ns∈sp,sM b m (ns.map V.int)
theorem sM.nums {m:Int}(hm:m<=16)(h:sM b m (ns.map V.int)):ns.length=5/\∀i∈ns,W60 i:=by
 let⟨s,g,l,o,w,e,h1,h2,h3,h4,h5,h6,h7,h8,h9,h10,h11⟩:=h;have e':ns=[s,g,l,o,w]:=by
  rcases ns with _ | ⟨a1,_ | ⟨a2,_ | ⟨a3,_ | ⟨a4,_ | ⟨a5,_ | ⟨_,_⟩⟩⟩⟩⟩⟩ <;> cbv
 subst e';rwa[rfl,λi hi=>?_];simp only[bh,fN,or_false] at hi
 rcases hi with rfl | rfl | rfl | rfl | rfl <;> rwa[(by omega),⋯]
theorem NetS.n {m:Int}{sp:zY}(h:NetS b m sp):NetN b m sp:=
 ⟨⟨by have:=h.b1;lia,by have:=h.b2;lia⟩,⟨by have:=h.m1;lia,by have:=h.m2;lia⟩,h.few,λns hn=>(sM.nums h.m2 (h.all ns hn)).1,λns hn=>(sM.nums h.m2 (h.all ns hn)).2⟩
inductive spNetR (vs:zA)(H:Hp)(Q:VK)(_:XK):Prop
 | mk (b m sp:_)(_:vs=[.str (netT b m sp)])(_:NetS b m sp)(_:∀v H',bt H H'->IsD H' v (netD b m sp)->Q v H')
def iZ {n:Nat}(h:n<=100000):n<=aO:=aU h ↥0
def scShow:bH ["net","beat","many","rows","span"] pza (defScope sShow):=⇑0
theorem ok_show (F:Fun K "show_net" "show_net" sShow f fd)(T:Nm mg)(T2:Nm2 mg):‹0› 1 f fd pza spShow:=by
 specialize F.ok scShow;let⟨v,b,m,sp,rfl,hv,N,k⟩:=h;let⟨t,p,ys,rfl,ht,hp,ry⟩:=netD_of hv
 exists 4,scShow,17,pe_fstr (pj_str (pj_int (pv 1) (pj_str (pj_int (pv 2) pj_nil)))),14,qj eS jY jX mt_join ?_ ?_,2,eN (fr:=[]) (js:=[]) rfl (jO (pv 4)) ⇑0 rfl ⇑0 rfl ∅ ⇑0 rfl ⇑0 (λ_ _ _ _ _=>⟨(fP lI rfl T2.tstr boot_str (aV (pv 0) b9)),dU⟩),4,qj eS jY jX mt_join ?_ ?_
 have l5:("beat " :Str).length=5:=⇑0
 have l12:(" happenings " :Str).length=12:=⇑0
 have lb:(jT b).length≤60:=kB N.b60;have lm:(jT m).length≤60:=kB N.m60;rwa[ς,ϲ ht 0,?_];rwa[ς,ϲ ht 1,?_];have q1:(gP++("beat " :Str)).length≤aO:=iZ (by rw[nM,l5];cbv);have q2:(gP++("beat " :Str)++jT b).length≤aO:=iZ (by rw[nM,oA,l5];lia);have q3:(gP++("beat " :Str)++jT b++(" happenings " :Str)).length≤aO:=iZ (by grind [nM,oA]);have q4:(gP++("beat " :Str)++jT b++(" happenings " :Str)++jT m).length≤aO:=iZ (by grind [nM,oA]);rwa[q1,ς,b,rfl,tI N.b60,q2,q3,ς,m,rfl,tI N.m60,q4,q4,szZ1,λL hL=>?_];have S1:bt H (upd H L (.lst [V.str (gP++("beat " :Str)++jT b++(" happenings " :Str)++jT m)])):=bt.put (bt.refl H) hL;have e1:(upd H L (.lst [V.str (gP++("beat " :Str)++jT b++(" happenings " :Str)++jT m)])) L=_:=aJ;have eh:gP++("beat " :Str)++jT b++(" happenings " :Str)++jT m=jJ b m:=by rw[nM];rfl
 rw[eh] at e1 S1;show ik _ _ _ _ (upd H L (.lst [V.str (gP++("beat " :Str)++jT b++(" happenings " :Str)++jT m)]));rw[eh];generalize upd H L (.lst [V.str (jJ b m)])=H1 at e1 S1 ⊢;have ht1:=S1 _ _ ht;rwa[ς,ϲ ht1 2,p,rfl,⟨_,zT (S1 _ _ hp)⟩,?_];have hyl:=ry.length;rw[aa] at hyl;have w1:(sp_:Str).length<=16:=⇑0
 have w2:(nl_:Str).length<=16:=⇑0
 let pZ1:zV:=λi σ H2=>(∀c o,c≠L->H1 c=some o->H2 c=some o)/\(∃v4,σ=[some (.ref t),some (.int b),some (.int m),some (.ref L),v4])/\H2 L=some (.lst ((jJ b m::(sp.take i).map rG).map V.str))
 apply jU (K:=K) (a:=p) (xs:=ys) pZ1
  ⟨λ_ _ _ e=>e,⟨none,rfl⟩,e1⟩ (λi σ H2 _ ⟨S2,_,_⟩=>zT (S2 _ _ ⋯ (S1 _ _ hp))) ?_ ?_
 ·rintro i x σ H2 hx ⟨S2,⟨v4,rfl⟩,e2⟩
  sleep 0
  let⟨ns,q,hn,rfl,hq⟩:=spanD_of ry hx;have hq1:=S1 _ _ hq;have hq2:=S2 _ _ (fj hq1 e1 ↥2) hq1;have hm:=aZ hn;have w60:=N.s60 ns hm;have l5:=N.five ns hm;rwa[ς,.inl ⟨rfl,_,zL e2⟩,rfl,ς,q,rfl,⟨_,zT hq2⟩,?_]
  let pZ2:zW:=λj zs H3=>H3=H2/\zs=((ns.take j).map jT).map V.str
  rwa[gO (K:=K) (a:=q) (xs:=ns.map V.int) pZ2 ⟨rfl,rfl⟩ (λj zs H3 hj ⟨g1,g2⟩=>?_) (by rw[aa];exact iZ ↥2) (λj x zs H3 hx3 ⟨g1,g2⟩=>?_) (λzs H3 ⟨g1,g2⟩ D hD=>?_)]
  ·grind [zT,aa,bD]
  ·subst g1
   rw[av] at hx3;let⟨n,hn3,rfl⟩:=aX.mp hx3;rwa[eZ ?_];rwa[ς,n,rfl,tI ↥1,rfl,?_];rw[g2,aE,hn3,au,au];rfl
  ·subst g1
   rw[aa,aG] at g2;have s1:=nums_sum w60;rwa[_,D,ns.map jT,rfl,rfl,zL (by rw[aJ,g2]),w1,↥1,?_];rwa[L,τ,(by rw[bw (bJ e2 hD)];rwa[e2]),?_,?_]
   ·rw[aa,bE,aa,bD]
    have h40:=N.few;have:(1000:Nat)<aO:=by decide
    lia
   ·rwa[λc o hc e=>?_,⟨ς⟩,?_]
    ·rw[bw hc,bw ↥1]
     rwa[S2 c o hc e]
    ·rw[aJ,aE,hn]
     simp only[Option.toList_some,au,cz,List.map_nil,ib];rfl
 ·rintro σ H2 ⟨S2,⟨v4,rfl⟩,e2⟩
  sleep 0
  rw[hyl,aG] at e2;have hs:=rows_sum N sp.length;rw[aG] at hs;rwa[rfl,ς,_,L,jJ b m::sp.map rG,rfl,rfl,zL e2,w2,?_,?_]
  ·rw[bE,aa]
   have h40:=N.few;lia
  ·apply k H2 λc o e=>?_
   by_cases hc:c=L
   ·cbv
   ·rwa[S2 c o hc (S1 c o e)]
def scHead:bH ["row","words"] ["row"] (defScope sHead):=⇑0
theorem ok_head (F:Fun K "read_head" "read_head" sHead f fd)(T:Nm mg)(C:Cs2 mg)(GN:Fn K mg "is_numeral" nX pzj f0 fd0)(GW:Fn K mg "read_whole" sRead pzj f1 fd1):‹0› 3 f fd ["row"] spHead:=by
 have FW:‹0› 2 f1 fd1 pzj spReadW:=ok_readW GW.F T C GN;specialize F.ok scHead;let⟨b,m,rfl,hb,hm,k⟩:=h
 exists 2,scHead,3,qj eS PySem.F.slot_str_split PySem.F.type_str_split mt_split ?_ ?_,19,fR,7,fR,4,oV,5,GW,2,fR,4,GW,2,fR
 have hl:=head_len hb hm;have one:((sp_:Str).length == 0)=false:=⇑0
 rwa[ς,rfl,τ,one,aU (show _<=1000 by lia) ↥0,λL H1 S1 e1=>?_];have e1:H1 L=some (.lst ((ij (jJ b m) sp_).map V.str)):=e1;rw[head_split hb hm] at e1;have e1:H1 L=some (.lst [V.str ("beat" :Str),V.str (jT b),V.str ("happenings" :Str),V.str (jT m)]):=e1;rwa[ς,L,ς,.inl (zL e1),rfl,ς,hX (by show(!decide (V.int ((4:Nat):Int)=V.int 4))=false;decide) ?_];rwa[ς,ϐ e1 0,rfl,ς,hX ⇑0 ?_];rwa[ς,ϐ e1 2,rfl,ς,hX ⇑0 ?_];rwa[ς,ϐ e1 1,b,rfl,hb,λH2 S2=>?_];rwa[ς,ϐ (S2 _ _ e1) 3,m,rfl,hm,λH3 S3=>?_];rwa[lh,λp H4 S4 e4=>k p H4 (S1.trans (S2.trans (S3.trans S4))) e4]
def scSpanR:bH ["row","words"] ["row"] (defScope sSpanR):=⇑0
theorem ok_spanR (F:Fun K "read_span" "read_span" sSpanR f fd)(T:Nm mg)(C:Cs2 mg)(GN:Fn K mg "is_numeral" nX pzj f0 fd0)(GW:Fn K mg "read_whole" sRead pzj f1 fd1):‹0› 3 f fd ["row"] spSpanR:=by
 have FW:‹0› 2 f1 fd1 pzj spReadW:=ok_readW GW.F T C GN;specialize F.ok scSpanR;let⟨ns,rfl,h5,w60,k⟩:=h
 exists 2,scSpanR,3,qj eS PySem.F.slot_str_split PySem.F.type_str_split mt_split ?_ ?_,14,oV,5,eN (fr:=[]) (js:=[]) rfl (gU (pv 1)) ⇑0 rfl ⇑0 rfl ∅ ⇑0 rfl ⇑0 (λ_ _ _ _ _=>⟨(pc1 GW FW hr (aV (pv 0) b9)),dU⟩)
 have hl:=row_len w60;have one:(sp_.length == 0)=false:=⇑0
 rwa[ς,rfl,τ,one,aU (show _<=1000 by lia) ↥0,λL H1 S1 e1=>?_];rw[row_split w60 ↥1] at e1;have hlen:((ns.map jT).map V.str).length=5:=↥2
 rwa[ς,L,ς,.inl (zL e1),rfl,ς,hX ?_ ?_]
 ·rw[hlen];decide
 rwa[ς,L,rfl,⟨_,zL e1⟩,?_];rwa[j7 (xs:=(ns.map jT).map V.str) (λj zs H3=>bt H1 H3/\zs=(ns.take j).map V.int) ⟨bt.refl _,rfl⟩ (λj zs H3 hj ⟨g1,g2⟩=>?_) (by rw[hlen];decide) (λj x zs H3 hx3 ⟨g1,g2⟩=>?_) (λzs H3 ⟨g1,g2⟩ D hD=>?_)]
 ·rwa[zL (g1 _ _ e1),?_]
  cbv
 ·rw[bZ,av] at hx3
  let⟨n,hn3,rfl⟩:=aX.mp hx3;rwa[ς,n,rfl,↥1,λH4 S4=>⟨g1.trans S4,?_⟩];rw[g2,aE,hn3,au];rfl
 ·rw[hlen,<-h5,aG] at g2
  rwa[D,zs,rfl,zL aJ,λp H4 S4 e4=>?_];rw[g2] at e4;rwa[k p H4 (S1.trans (g1.trans (bt.trans (bt.put (bt.refl H3) hD) S4))) e4]
def scNetR:bH ["text","rows","head","net"] ["text"] (defScope sNetR):=⇑0
theorem ok_netR {fH fS fI:ai}{fdH fdS fdI:aM}(F:Fun K "read_net" "read_net" sNetR f fd)(T:Nm mg)(T2:Nm2 mg)(GH:Fn K mg "read_head" sHead ["row"] fH fdH)(FH:‹0› 3 fH fdH ["row"] spHead)
  (GS:Fn K mg "read_span" sSpanR ["row"] fS fdS) (FS:‹0› 3 fS fdS ["row"] spSpanR) (GI:Fn K mg "is_net" sNet pzf fI fdI) (FI:‹0› 5 fI fdI pzf spNetY):‹0› 6 f fd ["text"] spNetR:=by
 specialize F.ok scNetR;let⟨b,m,sp,rfl,N,k⟩:=h
 exists 5,scNetR,5,pe_isStr T T2 ?_,2,oV,3,qj eS PySem.F.slot_str_split PySem.F.type_str_split mt_split ?_ ?_,6,GH,2,fR,19,eN (fr:=[]) (js:=[]) rfl (gU (pe_slice qH (pv 1) (po_some dQ) po_none)) ⇑0 rfl ⇑0 rfl ∅ ⇑0 rfl ⇑0 (λ_ _ _ _ _=>⟨(pc1 GS FS hr (aV (pv 0) b9)),dU⟩),6,GI,4,oV
 have N1:=N.n;have hl:=net_len N1;have one:(nl_.length == 0)=false:=⇑0
 rwa[ς,_,"str",rfl,rfl,ς,hX ↥0 ?_];rwa[ς,rfl,τ,one,aU (show _<=100000 by lia) ↥0,λL H1 S1 e1=>?_];rw[net_split N1] at e1;rwa[ς,ϐ e1,b,m,rfl,N1.b60,N1.m60,λp2 H2 S2 e2=>?_];rwa[ς,ϲ e2,ς,ϲ e2,ς,1,rfl,L,ς,zL (S2 _ _ e1),λL3 H3 S3 e3=>?_];have ec:cutV ((jJ b m::sp.map rG).map V.str) (some 1) none=(sp.map rG).map V.str:=by
  unfold cutV;rw[HT.sIx_none];have:=HT.sIx_nat ((jJ b m::sp.map rG).map V.str).length 0 1
  grind
 rw[ec] at e3;have hn40:=N.few;have hlen:((sp.map rG).map V.str).length=sp.length:=↥2
 rwa[L3,rfl,⟨_,zL e3⟩,?_]
 let pZ1:zW:=λj zs H4=>bt H3 H4/\dg H4 zs ((sp.take j).map λns=>.tup (ns.map Dt.int))
 rwa[j7 (xs:=(sp.map rG).map V.str) pZ1 ⟨bt.refl _,.nil⟩ (λj zs H4 hj ⟨g1,g2⟩=>?_) (by exact iZ ⋯) (λj x zs H4 hx4 ⟨g1,g2⟩=>?_) (λzs H4 ⟨g1,g2⟩ D hD=>?_)]
 ·rwa[zL (g1 _ _ e3),?_]
  rw[g2.length,aa,bD];cbv
 ·rw[bZ,av] at hx4
  let⟨ns,hn4,rfl⟩:=aX.mp hx4;have hm4:=aZ hn4;rwa[ς,ns,rfl,N1.five ns hm4,N1.s60 ns hm4,λp5 H5 S5 e5=>⟨g1.trans S5,?_⟩];rw[aE,hn4,au];rwa[(g2.same S5).append (.cons (.tup e5 (dg.ints ns)) .nil)]
 ·rw[hlen,aG] at g2
  rwa[D,zs,rfl,zL aJ,λp6 H6 S6 e6=>⟨(by show 3<=aO;decide),λt H7 S7 e7=>?_⟩];have S47 :=(bt.put (bt.refl H4) hD).trans (S6.trans S7);have hz:=g2.same S47;have NI:NetIs H7 t b m p6 zs:=by
   rwa[e7,S7 _ _ e6,N.b1,N.b2,N.m1,N.m2,?_,λv hv=>?_]
   ·rw[hz.length,aa];rwa[N.few]
   ·let⟨i,hi⟩:=iY hv
    let⟨ns,q,hn,rfl,hq⟩:=spanD_of hz hi;rwa[q,ς,hq,N.all ns ↥1]
  rwa[ς,_,b,m,_,ς,NI,λH8 S8=>⟨ς,hX rfl ?_⟩];rwa[ς,k _ H8 (S1.trans (S2.trans (S3.trans (g1.trans (S47.trans S8))))) ?_];rwa[IsD.same S8 (.tup e7 (.cons (.int b) (.cons (.int m) (.cons (.tup (S7 _ _ e6) hz) .nil))))]
abbrev sText:bY:=top 108
inductive spText (vs:zA)(H:Hp)(Q:VK)(_:XK):Prop
 | mk (v b m sp:_)(_:vs=[v])(_:IsD H v (netD b m sp))(_:NetN b m sp)(_:∀H',bt H H'->Q (.str (netT b m sp)) H')
def scText:bH ["_law_net_here","_law_rows","_law_span_here"] pze (defScope sText):=⇑0
theorem ok_text (F:Fun K "_law_text" "_law_text" sText f fd)(T:Nm mg)(T2:Nm2 mg):‹0› 1 f fd pze spText:=by
 specialize F.ok scText;let⟨v,b,m,sp,rfl,hv,N,k⟩:=h;let⟨t,p,ys,rfl,ht,hp,ry⟩:=netD_of hv
 exists 2,scText,6,pT,1,pT,1,pT,1,fP lI rfl T2.tstr boot_str ?_,7,fP lI rfl T2.tstr boot_str ?_,20,qj eS jY jX mt_join ?_ ?_,2,eN (fr:=[]) (js:=[]) rfl (jO (pv 2)) ⇑0 rfl ⇑0 rfl (by exists sText) ⇑0 rfl ⇑0 (λ_ _ _ _ _=>⟨(fP lI rfl T2.tstr boot_str (aV (pv 0) b9)),dU⟩),4,qj eS jY jX mt_join ?_ ?_
 have l5:("beat " :Str).length=5:=⇑0
 have l12:(" happenings " :Str).length=12:=⇑0
 have lb:(jT b).length<=60:=kB N.b60;have lm:(jT m).length<=60:=kB N.m60;have w1:(sp_:Str).length<=16:=⇑0
 have w2:(nl_:Str).length<=16:=⇑0
 have q1:("beat " :Str).length+(jT b).length≤aO:=iZ ⋯;have q2:(("beat " :Str)++jT b).length+(" happenings " :Str).length≤aO:=iZ (by rw[oA];lia);have q3:(("beat " :Str)++jT b++(" happenings " :Str)).length+(jT m).length≤aO:=iZ (by rw[oA,oA];lia);rwa[ς,ϲ ht 0,b,rfl,tI N.b60,τ,q1,τ,q2,?_];rwa[ς,ϲ ht 1,m,rfl,tI N.m60,τ,q3,szZ1,λL hL=>?_];have S1:bt H (upd H L (.lst [V.str (jJ b m)])):=bt.put (bt.refl H) hL;have e1:(upd H L (.lst [V.str (jJ b m)])) L=_:=aJ;show ik _ _ _ _ (upd H L (.lst [V.str (jJ b m)]));generalize upd H L (.lst [V.str (jJ b m)])=H1 at e1 S1 ⊢;have ht1:=S1 _ _ ht;rwa[ς,ϲ ht1 2,p,rfl,⟨_,zT (S1 _ _ hp)⟩,?_];have hyl:=ry.length;rw[aa] at hyl
 let pZ1:zV:=λi σ H2=>(∀c o,c≠L->H1 c=some o->H2 c=some o)/\(∃v4,σ=[some (.ref t),some (.ref L),v4])/\H2 L=some (.lst ((jJ b m::(sp.take i).map rG).map V.str))
 apply jU (K:=K) (a:=p) (xs:=ys) pZ1
  ⟨λ_ _ _ e=>e,⟨none,rfl⟩,e1⟩ (λi σ H2 _ ⟨S2,_,_⟩=>zT (S2 _ _ (fj (S1 _ _ hp) e1 nofun) (S1 _ _ hp))) ?_ ?_
 ·rintro i x σ H2 hx ⟨S2,⟨v4,rfl⟩,e2⟩
  sleep 0
  let⟨ns,q,hn,rfl,hq⟩:=spanD_of ry hx;have hq1:=S1 _ _ hq;have hq2:=S2 _ _ (fj hq1 e1 nofun) hq1;have hm:=aZ hn;have wn:=N.s60 ns hm;have l5:=N.five ns hm;rwa[ς,.inl ⟨rfl,_,zL e2⟩,rfl,ς,q,rfl,⟨_,zT hq2⟩,?_]
  let pZ2:zW:=λj zs H3=>H3=H2/\zs=((ns.take j).map jT).map V.str
  rwa[gO (K:=K) (a:=q) (xs:=ns.map V.int) pZ2 ⟨rfl,rfl⟩ (λj zs H3 hj ⟨g1,g2⟩=>?_) (by rw[aa];exact iZ ↥2) (λj x zs H3 hx3 ⟨g1,g2⟩=>?_) (λzs H3 ⟨g1,g2⟩ D hD=>?_)]
  ·subst g1
   rwa[zT hq2,?_];rw[g2,aa,aa,bD];cbv
  ·subst g1
   rw[av] at hx3;let⟨n,hn3,rfl⟩:=aX.mp hx3;rwa[eZ ?_];rwa[ς,n,rfl,tI (wn n (aZ hn3)),rfl,?_];rw[g2,aE,hn3,au,au];rfl
  ·subst g1
   rw[aa,aG] at g2;have s1:=nums_sum wn;rwa[_,D,ns.map jT,rfl,rfl,zL (by rw[aJ,g2]),w1,by rw[aa];lia,?_];rwa[L,τ,(by rw[bw (bJ e2 hD)];rwa[e2]),?_,?_]
   ·rw[aa,bE,aa,bD]
    have h40:=N.few;have:(1000:Nat)<aO:=by decide
    lia
   ·rwa[λc o hc e=>?_,⟨ς⟩,?_]
    ·rw[bw hc,bw (bJ (S2 c o hc e) hD)]
     rwa[S2 c o hc e]
    ·rw[aJ,aE,hn]
     simp only[Option.toList_some,au,cz,List.map_nil,ib];rfl
 ·rintro σ H2 ⟨S2,⟨v4,rfl⟩,e2⟩
  sleep 0
  rw[hyl,aG] at e2;have hs:=rows_sum N sp.length;rw[aG] at hs;rwa[rfl,ς,_,L,jJ b m::sp.map rG,rfl,rfl,zL e2,w2,?_,?_]
  ·rw[bE,aa]
   have h40:=N.few;lia
  ·apply k H2 λc o e=>?_
   by_cases hc:c=L
   ·rw[hc,hL] at e
    cases e
   ·rwa[S2 c o hc (S1 c o e)]
def rwS (sp:zS):zY:=sp.map Sn.row
def netP_D {v:V}{m:Int}:‹4›↔IsD H v (netD b m (rwS sp)):=by
 show IsD H v (.tup [.int b,.int m,.tup (sp.map λx=>.tup (x.row.map Dt.int))])↔IsD H v (.tup [.int b,.int m,.tup ((sp.map Sn.row).map λns=>.tup (ns.map Dt.int))]);rw[bZ];rwa[Iff.rfl]
def iC.txt {m:Int}(N:iC b m sp):NetS b m (rwS sp):=⟨N.b1,N.b2,N.m1,N.m2,by unfold rwS;rw[aa];rwa[N.few],fun ns hn=>by
 obtain ⟨x,hx,rfl⟩:=bc.mp hn;have k:=N.all x hx;exact ⟨x.s,x.g,x.l,x.o,x.w,rfl,k.s0,k.s1,k.g0,k.g1,k.ne,k.l0,k.lo,k.ob,k.o60,k.w0,k.w1⟩⟩
abbrev sDrawD:bY:=top 93
def scDrawD:bH ["_law_deck","_law_most","_law_number"] pzq (defScope sDrawD):=⇑0
theorem ok_drawD (F:Fun K "_law_draw" "_law_draw" sDrawD f fd)(T:Nm mg):‹0› 1 f fd pzq spDrawD:=by
 specialize F.ok scDrawD;let⟨p,m,rfl,⟨k0,ns,hp,hl⟩,h0,h1,k⟩:=h
 exists 3,scDrawD,19,kN ?_,6,fR,7,nZ,9,nZ
 rwa[ς,p,ς,.inl (zL hp),rfl,ς,?_];rwa[oJ (λ_=>k 0 H (by (constructor <;> lia)) h0 (Md.refl ⟨k0,ns,hp,hl⟩)) (λhc=>?_)];have hne:ns≠[]:=λz=>hc (by rw[z];rfl)
 obtain⟨n',n,rfl⟩:∃n' n,ns=n'++[n]:=⟨ns.dropLast,ns.getLast hne,(k3 hne).symm⟩;have hp0:H p=some (.lst ((k0::n').map V.int++[V.int n])):=by rw[hp,<-ib,au];rfl
 have hl':n'.length+1<=1000:=by rw[ax] at hl;rwa[hl]
 rwa[ς,.inl ⟨rfl,_,zL hp0⟩,p,_,V.int n,rfl,rfl,hp0,by rw[ax,bU ∅];simp,?_];rw[eI];have M1:Md p H (upd H p (.lst ((k0::n').map V.int))):=⟨λb o hb e=>by rw[bw hb];rwa[e],k0,n',aJ,⋯⟩;have hp1:(upd H p (.lst ((k0::n').map V.int))) p=some (.lst ((k0::n').map V.int)):=aJ;generalize upd H p (.lst ((k0::n').map V.int))=H1 at M1 hp1 ⊢;rwa[λσ' H'=>σ'=[some (.ref p),some (.int m),some (.int n)]/\Md p H H',?_,?_]
 rotate_left
 ·rwa[ς,ϐ hp1 0,rfl,ς,?_]
  rwa[oJ (λ_=>?_) (λ_=>hX rfl ⟨rfl,M1⟩)];rwa[ς,ς,τ,tH h0 h1,rfl,ς,?_];rwa[oJ (λ_=>?_) (λ_=>⟨rfl,M1⟩)];rwa[ς,.inl ⟨rfl,_,zL hp1⟩,ς,ς,τ,tH h0 h1,?_];rwa[p,τ,hp1,(aW (by rw[aa,bE];lia:((k0::n').map V.int).length<2000) (by decide:2000<=aO)),rfl,?_];rwa[λb o hb e=>by rw[bw hb];rwa[M1.1 b o hb e],k0,n'++[n / m],?_,by rw[ax];rwa[hl']];rw[aJ,<-ib,au];rfl
 rintro σ' H2 ⟨rfl,M2⟩
 sleep 0
 rwa[ς,ς,τ,h0,k _ _ (cS _ ⋯) (cY _ h0) M2]
abbrev sSpanD:bY:=top 94
def scSpanD:bH ["_law_deck","_law_beat","_law_many","_law_hidden","_law_kept","_law_start","_law_goal","_law_width","_law_least","_law_weight"] pzT (defScope sSpanD):=⇑0
theorem ok_spanD (F:Fun K "_law_span" "_law_span" sSpanD f fd)(T:Nm mg)(G1:Fn K mg "_law_draw" sDrawD pzq f1 fd1):‹0› 2 f fd pzT spSpanD:=by
 have F1:‹0› 1 f1 fd1 pzq spDrawD:=ok_drawD G1.F T;specialize F.ok scSpanD;let⟨p,h,b,m,hs,kp,rfl,hp,hb1,hb2,hm1,hm2,hh,hlh,k⟩:=h
 exists 7,scSpanD,3,G1,15,G1,11,cP (sH rfl) rfl T.min boot_min ?_,6,PEs.h (k_ix fR (k_lstF (ju k_int (ju ⟨pc1 G1 F1 hr (aV (pv 0) (aV dQ b9))⟩ (ju ⟨pc1 G1 F1 hr (aV (pv 0) (aV (pv 1) b9))⟩ (ju (k_op op_sub ⟨pv 1⟩ k_int) a_nil))))) ⟨pc1 G1 F1 hr (aV (pv 0) (aV dQ b9))⟩ (λ_ _=>rfl)),3,G1,6,kN ?_,19,G1,18,PEs.h (k_ix fR (k_lstF (ju k_int (ju k_int (ju k_int (ju ⟨pc1 G1 F1 hr (aV (pv 0) (aV (sQ op_pow dQ dQ) b9))⟩ a_nil))))) ⟨pc1 G1 F1 hr (aV (pv 0) (aV dQ b9))⟩ (λ_ _=>rfl)),2,PEs.h (k_ix fR (k_lstF (ju k_int (ju k_int (ju ⟨pc1 G1 F1 hr (aV (pv 0) (aV dQ b9))⟩ (ju ⟨pc1 G1 F1 hr (aV (pv 0) (aV (sQ op_add (sQ op_pow dQ dQ) dQ) b9))⟩ a_nil))))) ⟨pc1 G1 F1 hr (aV (pv 0) (aV dQ b9))⟩ (λ_ _=>rfl))
 rwa[ς,ς,p,m,rfl,hp,⋯,⋯,λr1 H1 a1 c1 M1=>?_];rwa[ς,τ,ς,ς,τ,p,ς,M1.2,⋯,⋯,λr2 H2 a2 c2 M2=>?_];have M2:=M1.trans M2;rwa[τ,ς,τ,⋯,?_];let⟨g0,g1,g2⟩:=goal_ok a1 c1 a2 c2;rwa[ς,τ,?_];rwa[ς,p,4,rfl,M2.2,↥0,↥0,λr7 H7 a7 c7 M7=>?_];have M7:=M2.trans M7;rwa[ς,ς,p,b,rfl,M7.2,⋯,⋯,λr8 H8 a8 c8 M8=>?_];have M8:=M7.trans M8;rwa[ς,τ,szZ4,λq9 hq9=>?_];have nq9:=M8.2.ne hq9;have S9:bt H8 (upd H8 q9 (.lst [.int 0,.int r7,.int r8,.int (b - 1)])):=bt.put (bt.refl H8) hq9;have h9:(upd H8 q9 (.lst [.int 0,.int r7,.int r8,.int (b - 1)])) q9=some (.lst [.int 0,.int r7,.int r8,.int (b - 1)]):=aJ;have M9:=M8.then S9;rwa[ς,p,4,rfl,M9.2,↥0,↥0,λrA HA aA cA MA=>?_];have hA:=MA.at h9 nq9;have MA:=M9.trans MA;let⟨vA,eA,mA⟩:=atI_in (xs:=[V.int 0,V.int r7,V.int r8,V.int (b - 1)]) aA cA;obtain⟨w0,rfl,w00⟩:∃i,vA=V.int i/\0<=i:=by
  grind
 rwa[q9,ϱ,zL hA,eA,_,ς,?_];obtain⟨wd,hwd,wd0,wd1⟩:∃wd,wd=(if w0<b - 1 then w0 else b - 1)/\0<=wd/\wd<b:=by lia
 rwa[ς,ς,p,b,rfl,MA.2,⋯,⋯,λrB HB aB cB MB=>?_];have MB:=MA.trans MB;show ∃_,_;rw[tW V.int hwd.symm];rwa[λσ' H'=>Md p H H'/\∃l,0<=l/\l<b/\σ'=[some (.ref p),some (.int b),some (.int m),some (.ref h),some (.bl kp),some (.int r1),some (.int ((r1+1+r2) % m)),some (.int wd),some (.int l),none],?_,?_]
 rotate_left
 ·rwa[ς,ς,?_]
  rwa[oJ (λ_=>?_) (λ_=>⟨MB,rB,aB,cB,rfl⟩)];have hhB :=Md.tupK hp MB _ _ hh;let⟨vg,eg,mg'⟩:=atI_in (xs:=hs.map V.int) g0 ↥2;let⟨ig,_,rfl⟩:=bc.mp mg';let⟨vs,es,ms⟩:=atI_in (xs:=hs.map V.int) a1 ↥2;let⟨is,_,rfl⟩:=bc.mp ms;rwa[ς,ς,h,ϱ,zT hhB,eg,ς,ς,h,ϱ,zT hhB,es,τ,ς,ς,τ,p,ς,MB.2,⋯,⋯,λrC HC aC cC MC=>⟨τ,ς,τ,⋯,?_⟩];rwa[MB.trans MC,_,cS _ ⋯,cY _ ⋯,rfl]
 rintro σ' HC ⟨MC,l,l0,l1,rfl⟩
 sleep 0
 rwa[ς,ς,ς,τ,⟨↥0,↥0,↥0⟩,p,ς,MC.2,↥0,↥0,λrD HD aD cD MD=>⟨szZ4,λqE hqE=>?_⟩];have MD:=MC.trans MD;have cD :=cD;have nqE:=MD.2.ne hqE;have SE:bt HD (upd HD qE (.lst [.int 0,.int 0,.int 1,.int rD])):=bt.put (bt.refl HD) hqE;have hE:(upd HD qE (.lst [.int 0,.int 0,.int 1,.int rD])) qE=some (.lst [.int 0,.int 0,.int 1,.int rD]):=aJ;have ME:=MD.then SE;rwa[ς,p,4,rfl,ME.2,↥0,↥0,λrF HF aF cF MF=>?_];have hF:=MF.at hE nqE;have MF:=ME.trans MF;let⟨vF,eF,mF⟩:=atI_in (xs:=[V.int 0,V.int 0,V.int 1,V.int rD]) aF cF;obtain⟨n,rfl,n0,n1⟩:∃i,vF=V.int i/\0<=i/\i<=10 ^ 9:=by
  grind
 rwa[qE,ϱ,zL hF,eF,τ,.inr ⟨⋯,⋯⟩,τ,?_];have bn0:0<=b * n:=Int.mul_nonneg ⋯ n0;have bn1:b * n<=10 ^ 33 * 10 ^ 9:=Int.mul_le_mul hb2 n1 n0 ↥0;rwa[ς,p,10,rfl,MF.2,↥0,↥0,λrH HH aH cH MH=>?_];have MH:=MF.trans MH;rwa[ς,τ,⟨↥0,↥0,↥0⟩,τ,p,ς,MH.2,↥0,↥0,λrI HI aI cI MI=>⟨szZ4,λqJ hqJ=>?_⟩];have MI:=MH.trans MI;have cI:rI<10 ^ 12+1:=cI;have nqJ:=MI.2.ne hqJ;have SJ:bt HI (upd HI qJ (.lst [.int 0,.int 1,.int rH,.int rI])):=bt.put (bt.refl HI) hqJ;have hJ:(upd HI qJ (.lst [.int 0,.int 1,.int rH,.int rI])) qJ=some (.lst [.int 0,.int 1,.int rH,.int rI]):=aJ;have MJ:=MI.then SJ;rwa[ς,p,4,rfl,MJ.2,↥0,↥0,λrK HK aK cK MK=>?_];have hK:=MK.at hJ nqJ;have MK:=MJ.trans MK;let⟨vK,eK,mK⟩:=atI_in (xs:=[V.int 0,V.int 1,V.int rH,V.int rI]) aK cK;obtain⟨wt,rfl,t0,t1⟩:∃i,vK=V.int i/\0<=i/\i<=1000000000000:=by
  grind
 rwa[qJ,ϱ,zL hK,eK,?_];rwa[ς,ς,ς,ς,ς,τ,ς,szZ5,λt HL SL hL=>?_];rwa[k t ⟨r1,(r1+1+r2) % m,l+b * n,l+b * n+wd,wt⟩ HL (MK.then SL) hL ⟨a1,c1,g0,g1,g2,⋯,⋯,⋯,⋯,t0,t1⟩]
inductive spNetW (vs:zA)(H:Hp)(Q:VK)(_:XK):Prop
 | mk (p:ai)(a c s g:Int)(_:vs=[.ref p,.int a,.int c,.int s,.int g])(_:Dk p H)(_:1<=a)(_:a<=16)(_:1<=c)(_:c<=100)(_:0<=s)(_:s<=40)(_:1<=g)(_:g<=10 ^ 30)(_:∀(t:ai) (v:V) (h:ai) (b m:Int) (sp:zS) (hs:zI) (H':Hp),Md p H H'->H' t=some (.tup [v,.ref h])->IsD H' v (jz b m sp)->iC b m sp->b<=10 ^ 33->H' h=some (.tup (hs.map V.int))->(hs.length:Int)=m->(∀x∈hs,0<=x/\x<b)->m<=a->b<=c * g->Q (.ref t) H')
abbrev sNetD:bY:=top 95
def scNetD:bH ["_law_deck","_law_most","_law_beats_here","_law_size","_law_great","_law_many","_law_beat","_law_hidden","_law_kept","_law_spans","_law_k"] pzU (defScope sNetD):=⇑0
theorem ok_netD (F:Fun K "_law_net" "_law_net" sNetD f fd)(T:Nm mg)(T2:Nt mg)(G1:Fn K mg "_law_draw" sDrawD pzq f1 fd1)(G2:Fn K mg "_law_span" sSpanD pzT f2 fd2):‹0› 3 f fd pzU spNetW:=by
 have F1:‹0› 1 f1 fd1 pzq spDrawD:=ok_drawD G1.F T;have F2:‹0› 2 f2 fd2 pzT spSpanD:=ok_spanD G2.F T G1;specialize F.ok scNetD;let⟨p,a,c,s0,g,rfl,hp,a1,a2,c1,c2,s1,s2,g1,g2,k⟩:=h
 exists 7,scNetD,6,G1,10,G1,6,kN ?_,3,G1,14,G1,10,eN (fr:=["_law_deck","_law_beat"]) (js:=[0,6]) rfl (kQ rfl T2.range (aV (pv 5) b9)) ⇑0 rfl ⇑0 rfl (by exists sNetD) ⇑0 rfl ⇑0 (λ_ _ _ _ _=>⟨(pc1 G1 F1 hr (aV (pv 1) (aV (pv 2) b9))),dU⟩),5,G1,11,kN ?_,9,G1,15,G2
 rwa[ς,ς,p,a,rfl,hp,⋯,⋯,λr1 H1 r10 r11 M1=>⟨τ,?_⟩];rwa[ς,ς,p,c,rfl,M1.2,⋯,⋯,λr2 H2 r20 r21 M2=>⟨τ,?_⟩];have M2:=M1.trans M2;rwa[λσ' H'=>Md p H H'/\∃b,1<=b/\b<=10 ^ 33/\b<=c * g/\σ'=[some (.ref p),some (.int a),some (.int c),some (.int s0),some (.int g),some (.int (1+r1)),some (.int b),none,none,none,none],?_,?_]
 rotate_left
 ·rwa[ς,p,5,rfl,M2.2,↥0,↥0,λr3 H3 r30 r31 M3=>⟨rfl,ς,?_⟩]
  have M3:=M2.trans M3;rwa[oJ (λ_=>?_) (λ_=>⟨M3,1+r2,⋯,⋯,Int.le_trans ⋯ (cW g1 ⋯),rfl⟩)];rwa[ς,ς,ς,p,g,rfl,M3.2,⋯,⋯,λr4 H4 r40 r41 M4=>⟨τ,τ,.inl ⟨⋯,⋯⟩,?_⟩];rwa[M3.trans M4,_,?_,?_,Int.mul_le_mul ⋯ ⋯ ⋯ ⋯,rfl]
  ·have:1 * 1<=(1+r2) * (1+r4):=Int.mul_le_mul ⋯ ⋯ ↥0 ⋯
   lia
  ·have:(1+r2) * (1+r4)<=100 * (10 ^ 30):=Int.mul_le_mul ⋯ ⋯ ⋯ ↥0
   lia
 rintro σ' H3 ⟨M3,b,b1,b2,bg,rfl⟩
 sleep 0
 rwa[ς,1+r1,rfl,⋯,⋯,?_]
 let pZ1:zW:=λi zs H4=>Md p H H4/\∃hs:zI,zs=hs.map V.int/\hs.length=i/\∀x∈hs,0<=x/\x<b
 rwa[kG pZ1 ⟨M3,[],rfl,rfl,λ_ h=>tR h ∅⟩ (λi zs H4 _ ⟨_,hs,e,hl,_⟩=>by rw[e,aa,hl];lia) (cO ⋯) (λi zs H4 hi ⟨M4,hs,e4,hl4,all4⟩=>?_) (λzs H4 ⟨M4,hs,e4,hl4,all4⟩ D hD=>?_)]
 ·apply eZ ?_
  rwa[ς,ς,p,b,rfl,M4.2,⋯,⋯,λr5 H5 r50 r51 M5=>⟨M4.trans M5,hs++[r5],by rw[e4,au];rfl,by rw[ax,hl4];rfl,λx hx=>?_⟩]
  rcases bj.mp hx with hx | hx
  ·rwa[all4 x hx]
  ·rw[bf.mp hx];rwa[r50,r51]
 subst e4;have S5:=bt.put (o:=.lst (hs.map V.int)) (bt.refl H4) hD;have hD5:(upd H4 D (.lst (hs.map V.int))) D=some (.lst (hs.map V.int)):=aJ;generalize upd H4 D (.lst (hs.map V.int))=H5 at S5 hD5 ⊢;rwa[D,ς,zL hD5,λh H6 S6 h6=>?_];have M6:=M4.then (S5.trans S6);have hlh:hs.length=1+r1:=by lia
 rwa[ς,p,2,rfl,M6.2,↥0,↥0,λr7 H7 _ _ M7=>⟨rfl,?_⟩];have h7:=Md.tupK M6.2 M7 _ _ h6;have M7:=M6.trans M7;obtain⟨kp,hkp⟩:∃kp:Bool,kp=decide (V.int r7=V.int 1):=⟨ς⟩;rwa[bq _,λLs hLs=>?_];have hLsp:=M7.2.ne hLs;have hLsH:H Ls=none:=by
  cases z:H Ls with
  | none=>rfl
  | some o=>rw[M7.1 Ls o hLsp z] at hLs;cases hLs
 have S8:bt H7 (upd H7 Ls (.lst [])):=bt.put (bt.refl H7) hLs;have hLs8:(upd H7 Ls (.lst [])) Ls=some (.lst []):=aJ;generalize upd H7 Ls (.lst [])=H8 at S8 hLs8 ⊢;have M8:=M7.then S8;have h8:=S8 _ _ h7;rwa[λσ' H'=>Md p H H'/\H' h=some (.tup (hs.map V.int))/\∃(v8 vk:zU) (zs:zA) (sp:zS),σ'=[some (.ref p),some (.int a),some (.int c),some (.int s0),some (.int g),some (.int (1+r1)),some (.int b),some (.ref h),v8,some (.ref Ls),vk]/\H' Ls=some (.lst zs)/\dg H' zs (gu Sn.row sp)/\sp.length<=40/\∀z∈sp,SnOk b (1+r1) z,?_,?_]
 rotate_left
 ·rwa[ς,τ,ς,?_]
  rwa[oJ (λhm=>?_) (λ_=>⟨M8,h8,_,none,[],[],rfl,hLs8,.nil,∅,λ_ h=>tR h ∅⟩)];have hm :=tV hm;rwa[ς,ς,τ,p,ς,M8.2,⋯,⋯,λr9 H9 r90 r91 M9=>⟨r9,rfl,⋯,⋯,?_⟩];have h9:=Md.tupK M8.2 M9 _ _ h8;have hLs9:=M9.at hLs8 hLsp;have M9:=M8.trans M9
  let pZ2:zV:=λi σ H'=>Md p H H'/\H' h=some (.tup (hs.map V.int))/\∃(vk:zU) (zs:zA) (sp:zS),σ=[some (.ref p),some (.int a),some (.int c),some (.int s0),some (.int g),some (.int (1+r1)),some (.int b),some (.ref h),some (.bl (decide (V.int r7=V.int 1))),some (.ref Ls),vk]/\H' Ls=some (.lst zs)/\dg H' zs (gu Sn.row sp)/\sp.length=i/\∀z∈sp,SnOk b (1+r1) z
  rwa[su pZ2 ⟨M9,h9,none,[],[],rfl,hLs9,.nil,rfl,λ_ h=>tR h ∅⟩ ?_ ?_]
  ·rintro i σ HA hi ⟨MA,hA,vk,zs,sp,rfl,hLsA,dA,lA,allA⟩
   sleep 0
   rwa[ς,.inl ⟨rfl,_,zL hLsA⟩,ς,ς,ς,ς,ς,p,h,b,1+r1,hs,ς,MA.2,b1,b2,⋯,⋯,hA,hlh,λt z HB MB hB okB=>?_];have KB:=Md.tupK MA.2 MB;have hLsB:=MB.at hLsA hLsp;have MB:=MA.trans MB;have lz:zs.length=sp.length:=by rw[dA.length,aa]
   rwa[Ls,zs,ς,rfl,hLsB,(aW ⋯ (by decide:1000<=aO)),?_];have KC:kh HB (upd HB Ls (.lst (zs++[.ref t]))):=eJ hLsB;rwa[⟨λq o hq e=>?_,?_⟩,KC _ _ (KB _ _ hA),_,zs++[.ref t],sp++[z],rfl,aJ,?_,by rw[ax,lA];rfl,λz' hz'=>?_]
   ·rw[bw (λz=>by lia)]
    rwa[MB.1 q o hq e]
   ·let⟨k1,n1,e1,e2⟩:=MB.2
    rwa[k1,n1,by rw[bw hLsp.symm];rwa[e1],e2]
   ·unfold gu
    rw[au];rwa[(eM (KB.trans KC) dA).append (.cons (.tup (KC _ _ hB) (dg.ints z.row)) .nil)]
   ·rcases bj.mp hz' with hz' | hz'
    ·rwa[allA z' hz']
    ·rw[bf.mp hz'];rwa[okB]
  ·rintro σ HA ⟨MA,hA,vk,zs,sp,rfl,hLsA,dA,lA,allA⟩
   sleep 0
   rwa[MA,hA,_,vk,zs,sp,rfl,hLsA,dA,⋯,allA]
 rintro σ' HA ⟨MA,hA,v8,vk,zs,sp,rfl,hLsA,dA,lA,allA⟩
 sleep 0
 rwa[ς,ς,ς,Ls,ς,zL hLsA,λqB HB SB hB=>⟨(by show 3<=aO;decide),λtC HC SC hC=>⟨ς,lh,λtD HD SD hD'=>?_⟩⟩];have SBD:=SB.trans (SC.trans SD);rwa[k tD (.ref tC) h b (1+r1) sp hs HD (MA.then SBD) hD' (.tup (SD _ _ hC) (.cons (.int b) (.cons (.int _) (.cons (.tup (SD _ _ (SC _ _ hB)) (dA.same SBD)) .nil)))) ⟨b1,⋯,⋯,⋯,lA,allA⟩ b2 (SBD _ _ hA) hlh all4 ⋯ bg]
abbrev sMirS:bY:=top 79
abbrev sMir:bY:=top 80
abbrev sTabMir:bY:=top 81
def scMirS:bH ["span"] ["span"] (defScope sMirS):=⇑0
theorem ok_mirS (F:Fun K "mirrored_span" "mirrored_span" sMirS f fd):‹0› 1 f fd ["span"] spMirS:=by
 specialize F.ok scMirS;let⟨q,x,rfl,hq,k⟩:=h
 exists 98,_
 rwa[ς,ϲ hq,ς,ϲ hq,ς,ϲ hq,ς,ϲ hq,ς,ϲ hq,szZ5,λp H' S h=>k p H' S h]
def scMir:bH pza pza (defScope sMir):=⇑0
theorem ok_mir (F:Fun K "mirrored" "mirrored" sMir f fd)(T:Nm mg)(G1:Fn K mg "mirrored_span" sMirS ["span"] f1 fd1):‹0› 2 f fd pza spMir:=by
 have F1:‹0› 1 f1 fd1 ["span"] spMirS:=ok_mirS G1.F;specialize F.ok scMir;let⟨v,b,m,sp,rfl,hv,few,k⟩:=h;let⟨t,p,ys,rfl,ht,hp,hl,hy⟩:=c5 hv
 exists 98,_,16,eN (fr:=[]) (js:=[]) rfl (jO (ixZ (pv 0))) ⇑0 rfl ⇑0 rfl ∅ ⇑0 rfl ⇑0 (λ_ _ _ _ _=>⟨(pc1 G1 F1 hr (aV (pv 0) b9)),dU⟩)
 rwa[ς,ϲ ht,ς,ϲ ht,ς,ϲ ht,p,rfl,⟨_,zT hp⟩,?_]
 let pZ1:zW:=λi zs H2=>bt H H2/\dg H2 zs (gu Sn.row ((sp.take i).map mirS))
 rwa[gO (xs:=ys) pZ1 ⟨bt.refl H,.nil⟩ (λi zs H2 hi ⟨e1,e2⟩=>?_) (by rw[hl];exact cO few) (λi x zs H2 hx ⟨e1,e2⟩=>?_) (λzs H2 ⟨e1,e2⟩ D hD=>?_)]
 ·rwa[zT (e1 _ _ hp),?_]
  rw[e2.length];cbv
 ·have hi:i<sp.length:=↥1
  let⟨q,hq,hq2⟩:=hy i sp[i] (gE hi);rw[hx] at hq;cases hq;rwa[ς,q,sp[i],rfl,e1 _ _ hq2,λq4 H4 S4 h4=>⟨e1.trans S4,?_⟩];unfold gu;rw[aE,gE hi,au,au];rwa[(e2.same S4).append (.cons (.tup h4 (dg.ints (mirS sp[i]).row)) .nil)]
 ·rwa[D,ς,zL aJ,λp3 H3 S3 h3=>⟨(by show 3<=aO;decide),λt4 H4 S4 h4=>?_⟩]
  have S23:=(bt.put (bt.refl H2) hD).trans S3;rw[hl,aG] at e2;rwa[k (.ref t4) H4 (e1.trans (S23.trans S4)) (.tup h4 (.cons (.int b) (.cons (.int m) (.cons (.tup (S4 _ _ h3) (e2.same (S23.trans S4))) .nil))))]
def scTabMir:bH pzc pzc (defScope sTabMir):=⇑0
theorem ok_tabMir (F:Fun K "table_mirrored" "table_mirrored" sTabMir f fd)(T:Nm mg)(G1:Fn K mg "rest_by" sRest pzl f1 fd1):‹0› 2 f fd pzc spTabMir:=by
 have F1:‹0› 1 f1 fd1 pzl spRest:=ok_rest G1.F;specialize F.ok scTabMir;let⟨t,u,b,rest,ns,rfl,ht,hu,hb,hn,k⟩:=h
 exists 98,_,4,eN (fr:=pza) (js:=[0]) rfl (jO (pv 1)) ⇑0 rfl ⇑0 rfl (by exists sTabMir) ⇑0 rfl ⇑0 (λ_ _ _ _ _=>⟨(pc1 G1 F1 hr (aV (jH (r:=qd K) g9 (pv 1) dQ) (aV (pe_un qV (pv 0)) b9))),dU⟩)
 rwa[ς,u,rfl,⟨_,zT hu⟩,?_];rwa[gO (K:=K) (a:=u) (xs:=ns.map V.int) (λi zs H2=>H2=H/\zs=(mirT b (ns.take i)).map V.int) ⟨rfl,rfl⟩ (λi zs H2 hi ⟨e1,e2⟩=>?_) (by rw[aa];exact cO hn) (λi x zs H2 hx ⟨e1,e2⟩=>?_) (λzs H2 ⟨e1,e2⟩ D hD=>?_)]
 ·subst e1
  rwa[zT hu,?_];rw[e2,aa,mirT_len,bD];cbv
 ·subst e1
  rw[av] at hx;let⟨n,en,rfl⟩:=aX.mp hx;rwa[eZ ?_];rwa[ς,ϲ ht 0,ς,ς,b,ς,hb,rfl,?_];rw[e2];unfold mirT;rw[aE,en];simp
 ·subst e1
  rwa[D,ς,zL aJ,λp H3 S3 h3=>?_];rwa[k p H3 ((bt.put (bt.refl H2) hD).trans S3) ?_];rw[h3,e2,aa,aG]
abbrev sNamed:bY:=top 82
def scNamed:bH pzF pzF (defScope sNamed):=⇑0
theorem ok_named (F:Fun K "span_named" "span_named" sNamed f fd):‹0› 1 f fd pzF spNamed:=by
 specialize F.ok scNamed;let⟨q,L,x,js,rfl,hq,hL,s0,s1,g0,g1,k⟩:=h
 exists 98,_,5,fR,7,fR
 rwa[ς,ς,ϲ hq,L,ϱ,zL hL,tm_at s0 s1,ς,ς,ϲ hq,L,ϱ,zL hL,tm_at g0 g1,ς,ϲ hq,ς,ϲ hq,ς,ϲ hq,szZ5,λp H' S h=>k p H' S h]
abbrev qK:bY:=top 83
abbrev sCheckO:bY:=top 84
abbrev rn:bY:=top 85
def ps_notHere:PS X st (λ_ _ _=>False):=λ_ _ _ _ _ _ h=>h.elim
theorem allTr (n:Nat):(bB n true).all id=true:=↥2
theorem rg_vals (n:Nat):(aQ n).map (λ(k:Nat)=>V.int (k:Int))=(rgI n).map V.int:=by unfold rgI;rw[bZ];rfl
def scIsOrder:bH pzb pzb (defScope qK):=⇑0
theorem ok_isOrder (F:Fun K "is_order" "is_order" qK f fd)(T:Nm mg)(T2:Nt mg)(TS:mg "sorted" =none)(G1:Fn K mg "is_whole" mX pzf f1 fd1):‹0› 2 f fd pzb rd:=by
 have F1:‹0› 1 f1 fd1 pzf spWhT:=ok_whT G1.F T;specialize F.ok scIsOrder;let⟨t,u,n,os,rfl,⟨⟨b,rest,ht⟩,hu,ho,hn⟩,k⟩:=h;have hl:=ho.len
 exists 1,_,7,ky T ?_,4,cP (oa rfl) rfl T.all boot_all ?_,1,eN (fr:=[]) (js:=[]) rfl (jO (pv 1)) ⇑0 rfl ⇑0 rfl (by exists qK) ⇑0 rfl ⇑0 (λ_ _ _ _ _=>⟨(pc1 G1 F1 hr (aV (pv 0) b9)),dU⟩),8,op_eqI hr.units,cP call_sortedT rfl TS boot_sorted ?_,3,fP (pX rfl) rfl T2.tlist boot_list ?_,1,fP pq rfl T2.range boot_range ?_
 have tyu:tyn H (.ref u)=some "tuple":=by simp only[tyn];rw[hu]
 rwa[ς,_,"tuple",rfl,tyu,ς,hX ↥0 ?_];rwa[ς,u,rfl,⟨_,zT hu⟩,?_]
 let pZ1:zW:=λi zs H2=>H2=H/\zs=(bB i true).map V.bl
 rwa[gO (K:=K) (a:=u) (xs:=os.map V.int) pZ1 ⟨rfl,rfl⟩ (λi zs H2 hi ⟨e1,e2⟩=>?_) (by rw[aa];exact cO ⋯) (λi x zs H2 hx ⟨e1,e2⟩=>?_) (λzs H2 ⟨e1,e2⟩ D hD=>?_)]
 ·subst e1
  rwa[zT hu,by rw[e2,aa,gz];rwa[ay _]]
 ·subst e1
  rw[av] at hx;let⟨m,_,rfl⟩:=aX.mp hx;rwa[eZ ?_];rwa[ς,ς,rfl,by rw[e2,iX,au];rfl]
 subst e1;subst e2;rwa[D,ς,zL aJ,ς,hX (by rw[allTr];rfl) ?_];have S1:bt H2 (upd H2 D (.lst ((bB (os.map V.int).length true).map V.bl))):=bt.put (bt.refl H2) hD;generalize upd H2 D (.lst ((bB (os.map V.int).length true).map V.bl))=H1 at S1 ⊢;rwa[ς,u,os,rfl,zT (S1 _ _ hu),⋯,λl ns' hl' hp hs=>?_];have e:=sorted_ord ho hp hs;subst e;have S2:bt H1 (upd H1 l (.lst ((rgI n).map V.int))):=bt.put (bt.refl H1) hl';have h2:(upd H1 l (.lst ((rgI n).map V.int))) l=some (.lst ((rgI n).map V.int)):=aJ;generalize upd H1 l (.lst ((rgI n).map V.int))=H3 at S2 h2 ⊢;rwa[ς,ϲ (S2 _ _ (S1 _ _ ht)) 1,(n:Int),rfl,λq4 H4 S4 h4=>?_];rwa[q4,n,rfl,h4,⋯,λl2 hl2=>?_];have S5:=bt.put (o:=.lst ((aQ n).map λ(k:Nat)=>V.int (k:Int))) (bt.refl H4) hl2;rwa[l,l2,rgI n,rgI n,rfl,rfl,zL (S5 _ _ (S4 _ _ h2)),zL (by rw[<-rg_vals];rwa[aJ]),?_];rw[tS rfl];rwa[k _ (S1.trans (S2.trans (S4.trans S5)))]
def scCheckO:bH pzm pzm (defScope sCheckO):=⇑0
theorem ok_checkO (F:Fun K "check_order" "check_order" sCheckO f fd)(G1:Fn K mg "is_order" qK pzb f1 fd1)(F1:‹0› 2 f1 fd1 pzb rd):‹0› 3 f fd pzm spCheckO:=by
 specialize F.ok scCheckO;let⟨t,u,n,os,rfl,hO,k⟩:=h
 exists 98,_,4,G1,6,ps_notHere
 rwa[ς,ς,t,u,n,os,rfl,hO,λH1 S1=>⟨ς,hX (by rfl) (k H1 S1)⟩]
def scNamedA:bH ["net","order","names"] pzm (defScope rn):=⇑0
theorem ok_namedA (F:Fun K "named_anew" "named_anew" rn f fd)(T:Nm mg)(T2:Nt mg)(G1:Fn K mg "check_order" sCheckO pzm f1 fd1)(F1:‹0› 3 f1 fd1 pzm spCheckO)(G2:Fn K mg "span_named" sNamed pzF f2 fd2):‹0› 4 f fd pzm spNamedA:=by
 have F2:‹0› 1 f2 fd2 pzF spNamed:=ok_named G2.F;specialize F.ok scNamedA;let⟨v,u,b,n,sp,os,rfl,hv,hu,ho,hn,hs,few,k⟩:=h;let⟨t,p,ys,rfl,ht,hp,hl,hy⟩:=c5 hv
 exists 2,scNamedA,3,G1,7,eN (fr:=["order"]) (js:=[1]) rfl (kQ rfl T2.range (aV (ixZ (pv 0)) b9)) ⇑0 rfl ⇑0 rfl (by exists rn) ⇑0 rfl ⇑0 (λ_ _ _ _ _=>⟨(pe_bmT (r:=rIndexT K) PySem.F.slot_tuple_index PySem.F.type_tuple_index mt_indexT (pv 1) (aV (pv 0) b9)),dU⟩),16,eN (fr:=["names"]) (js:=[2]) rfl (jO (ixZ (pv 0))) ⇑0 rfl ⇑0 rfl (by exists rn) ⇑0 rfl ⇑0 (λ_ _ _ _ _=>⟨(pc1 G2 F2 hr (aV (pv 0) (aV (pv 1) b9))),dU⟩)
 rwa[ς,ς,t,u,n,os,rfl,⟨⟨b,_,ht⟩,hu,ho,hn⟩,λH1 S1=>?_];rwa[ς,ϲ (S1 _ _ ht),n,rfl,(by (constructor <;> lia)),⋯,?_]
 let pZ1:zW:=λi zs H2=>H2=H1/\zs=(((rgI n).take i).map (posI os)).map V.int
 rwa[kG pZ1 ⟨rfl,rfl⟩ ↥1 (cO ⋯) (λi zs H2 hi ⟨e1,e2⟩=>?_) (λzs H2 ⟨e1,e2⟩ L hL=>?_)]
 ·subst e1
  have hi':i<n:=by cbv
  have zi:(0:Int)+i=i:=gj _;rw[zi];rwa[ς,⟨u,ς,(S1 _ _ hu)⟩,ς,u,os,i,os.idxOf (i:Int),rfl,rfl,zT (S1 _ _ hu),ho.at (by (constructor <;> lia)) ↥2,λj hj=>ho.first hj,rfl,?_];rw[e2,aE,rgI_at hi',au,au];rfl
 subst e1;have e3:zs=(l9 os n).map V.int:=by grind [l9,List.take_of_length_le,rgI_len]
 subst e3;have S3:bt H (upd H2 L (.lst ((l9 os n).map V.int))):=S1.put hL;have h3:(upd H2 L (.lst ((l9 os n).map V.int))) L=some (.lst ((l9 os n).map V.int)):=aJ;generalize upd H2 L (.lst ((l9 os n).map V.int))=H3 at S3 h3 ⊢;rwa[ς,ϲ (S3 _ _ ht),ς,ϲ (S3 _ _ ht),ς,ϲ (S3 _ _ ht),p,rfl,⟨_,zT (S3 _ _ hp)⟩,?_]
 let pZ1:zW:=λi zs H4=>bt H3 H4/\dg H4 zs (gu Sn.row ((sp.take i).map (namS (l9 os n))))
 rwa[gO (xs:=ys) pZ1 ⟨bt.refl H3,.nil⟩ (λi zs H4 hi ⟨e1,e2⟩=>?_) (by rw[hl];exact cO few) (λi x zs H4 hx ⟨e1,e2⟩=>?_) (λzs H4 ⟨e1,e2⟩ D hD=>?_)]
 ·rwa[zT (e1 _ _ (S3 _ _ hp)),?_]
  rw[e2.length];cbv
 ·have hi:i<sp.length:=↥1
  let⟨q,hq,hq2⟩:=hy i sp[i] (gE hi);rw[hx] at hq;cases hq;let⟨s0,s1,g0,g1⟩:=hs sp[i] (aY hi);rwa[ς,ς,q,L,sp[i],l9 os n,rfl,e1 _ _ (S3 _ _ hq2),e1 _ _ h3,s0,by rw[posL_len];rwa[s1],g0,by rw[posL_len];rwa[g1],λq5 H5 S5 h5=>⟨e1.trans S5,?_⟩];unfold gu;rw[aE,gE hi,au,au];rwa[(e2.same S5).append (.cons (.tup h5 (dg.ints (namS (l9 os n) sp[i]).row)) .nil)]
 ·rwa[D,ς,zL aJ,λp5 H5 S5 h5=>⟨(by show 3<=aO;decide),λt6 H6 S6 h6=>?_⟩]
  have S45:=(bt.put (bt.refl H4) hD).trans S5;rw[hl,aG] at e2;rwa[k (.ref t6) H6 (S3.trans (e1.trans (S45.trans S6))) (.tup h6 (.cons (.int b) (.cons (.int _) (.cons (.tup (S6 _ _ h5) (e2.same (S45.trans S6))) .nil))))]
abbrev sMoved:bY:=top 49
def scMoved:bH pzG pzG (defScope sMoved):=⇑0
theorem ok_moved (F:Fun K "moved_by" "moved_by" sMoved f fd)(T:Nm mg)(G1:Fn K mg "rest_by" sRest pzl f1 fd1):‹0› 2 f fd pzG spMoved:=by
 have F1:‹0› 1 f1 fd1 pzl spRest:=ok_rest G1.F;specialize F.ok scMoved;let⟨t,u,b,rest,ns,j,rfl,ht,hu,hb,hn,k⟩:=h
 exists 98,_,4,eN (fr:=["net","number"]) (js:=[0,2]) rfl (jO (pv 1)) ⇑0 rfl ⇑0 rfl (by exists sMoved) ⇑0 rfl ⇑0 (λ_ _ _ _ _=>⟨(pc1 G1 F1 hr (aV (jH (r:=qd K) g9 (pv 1) dQ) (aV (sQ op_add (pv 0) (pv 2)) b9))),dU⟩)
 have hz:(ns.map V.int).length<=aO:=by
  rw[aa];have:(1000:Nat)<=aO:=by decide
  lia
 rwa[ς,u,rfl,⟨_,zT hu⟩,?_]
 let pZ1:zW:=λi zs H2=>H2=H/\zs=(ko b j (ns.take i)).map V.int
 rwa[gO (K:=K) (a:=u) (xs:=ns.map V.int) pZ1 ⟨rfl,rfl⟩ (λi zs H2 hi ⟨e1,e2⟩=>?_) hz (λi x zs H2 hx ⟨e1,e2⟩=>?_) (λzs H2 ⟨e1,e2⟩ D hD=>?_)]
 ·subst e1
  rwa[zT hu,?_];rw[e2,aa];unfold ko;rw[aa,bD];cbv
 ·subst e1
  rw[av] at hx;let⟨n,en,rfl⟩:=aX.mp hx;rwa[eZ ?_];rwa[ς,ϲ ht 0,ς,ς,τ,b,ς,hb,rfl,?_];rw[e2];unfold ko;rw[aE,en];simp
 ·subst e1
  rwa[D,ς,zL aJ,λp H3 S3 h3=>?_];rwa[k p H3 ((bt.put (bt.refl H2) hD).trans S3) ?_];rw[h3,e2,aa,aG]
abbrev sBroken:bY:=top 46
abbrev sFits:bY:=top 47
def scBroken:bH ["net","table","waits"] pzc (defScope sBroken):=⇑0
theorem ok_broken (F:Fun K "broken_in" "broken_in" sBroken f fd)(T:Nm mg)(T2:Nt mg)(G1:Fn K mg "waits_of" sWaits pzc f1 fd1)(F1:‹0› 3 f1 fd1 pzc spWaits)(G2:Fn K mg "width_of" sWidth pzk f2 fd2):‹0› 4 f fd pzc spBroken:=by
 have F2:‹0› 1 f2 fd2 pzk spWidth:=ok_width G2.F;specialize F.ok scBroken;let⟨v,u,b,m,sp,ts,rfl,hv,hu,R,k⟩:=h
 exists 1,scBroken,3,G1,9,qP (xs:=["span","wait"]) (fr:=pza) (js:=[0]) rfl (pi_enum rfl T2.enum (aV (pv 2) b9)) ⇑0 rfl ⇑0 (by exists sBroken) rfl ⇑0 (λ_ _ _ _ _=>pg_two rfl ⇑0 rfl rfl) (λ_ _ _ _ _=>⟨(pv 0),(oq (lP op_gt (pv 1) (pc1 G2 F2 hr (aV (pv 2) (aV (pv 0) b9))) (qf _)))⟩)
 have few:=R.few;rwa[ς,ς,v,u,b,m,sp,ts,rfl,hv,hu,R,λp1 H1 S1 h1=>?_];have hlen:((iQ b ts sp).map V.int).length=sp.length:=by unfold iQ;rw[aa,aa]
 rwa[ς,p1,ς,h1,?_];rwa[compT_enum (K:=K) (a:=p1) (xs:=(iQ b ts sp).map V.int) (λi zs H2=>bt H1 H2/\zs=(bkAt b ts sp i).map V.int) ⟨bt.refl _,rfl⟩ (λi zs H2 hi ⟨e1,e2⟩=>?_) (by rw[hlen];exact cO few) (λi x zs p2 H2 hx ⟨e1,e2⟩ hp2=>?_) (λzs H2 ⟨e1,e2⟩ D hD=>?_)]
 ·rwa[e1 _ _ h1,?_]
  rw[e2,aa];rwa[bkAt_len i]
 ·have hi:i<sp.length:=by
   rw[<-hlen];rwa[(aw.mp hx).1]
  have hxe:x= .int (fq b ts sp[i]):=by
   unfold iQ at hx;rw[av,av,gE hi] at hx;rwa[(cV hx).symm]
  subst hxe;have S2:bt H1 (upd H2 p2 (.tup [.int (i:Nat),.int (fq b ts sp[i])])):=e1.put hp2;rwa[ς,ς,ς,v,b,m,sp,i,sp[i],rfl,(hv.same S1).same S2,gE hi,τ,ς,?_];have hm:=bkAt_more (b:=b) (ts:=ts) (gE hi);rwa[oJ (λh1=>?_) (λh1=>?_)]
  ·have h1:brk b ts sp[i]=true:=h1
   rwa[ς,S2,?_];rw[hm,tQ h1,au,e2];rfl
  ·have h1:¬brk b ts sp[i]=true:=h1
   rwa[S2,?_];rw[hm,tP h1,fk,e2]
 ·rwa[D,ς,zL aJ,λp3 H3 S3 h3=>?_]
  rwa[k p3 H3 (S1.trans ((e1.put hD).trans S3)) ?_];rw[h3,e2,hlen];rfl
def scFits:bH pzc pzc (defScope sFits):=⇑0
theorem ok_fits (F:Fun K "fits" "fits" sFits f fd)(T:Nm mg)(G1:Fn K mg "broken_in" sBroken pzc f1 fd1)(F1:‹0› 4 f1 fd1 pzc spBroken):‹0› 5 f fd pzc sY:=by
 specialize F.ok scFits;let⟨v,u,b,m,sp,ts,rfl,hv,hu,R,k⟩:=h
 exists 98,_,6,G1
 rwa[ς,ς,v,u,b,m,sp,ts,rfl,hv,hu,R,λp1 H1 S1 h1=>?_];rwa[p1,ς,.inr (zT h1),rfl,?_];have e:decide (V.int (((brokenM b ts sp).map V.int).length:Nat)=V.int 0)=gM b ts sp:=by
  rw[jF,decide_eq_true_iff,<-brokenM_nil,aa]
  constructor
  ·intro z;injection z with z;cbv
  ·intro z;rw[z];rfl
 rw[e];rwa[k H1 S1]
abbrev sLaw:bY:=top 111
inductive spLawTs (Ts:zX)(K:ag)(vs:zA)(H:Hp)(Q:VK)(_:XK):Prop
 | mk (a:ai)(ns:zI)(_:vs=[.ref a])(_:SqL K H a (ns.map V.int))(_:(∀T∈Ts,H T=some (.tbl #[])))(_:∀H',Q (.bl true) H')
theorem L4.md {T2 p:ai}(h:L4 T0 p0 q0 T1 p1 q1 T2 T3 H)(hp:Dk p H)(M:Md p H H'):L4 T0 p0 q0 T1 p1 q1 T2 T3 H':=by
 let⟨c,ns,e,_⟩:=hp;rwa[h.stay (λT ps z=>M.1 _ _ (fj z e ⋯) z) λa o u z=>M.1 _ _ (fj z e ⋯) z]
theorem Dk.kp {p:ai}(h:Dk p H)(k:Kp H H'):Dk p H':=let ⟨c,ns,e,l⟩:=h;⟨c,ns,k.lst _ _ e,l⟩
def fV (b:Int)(sp:zS):Option zI->V
 | none=>.str "none"
 | some ts=>.int (cp b ts sp)
theorem fV_of:∀{o o':Option zI},wV b' sp' 1 o'=wV b sp 1 o->fV b' sp' o'=fV b sp o
 | none,none,_=>rfl
 | none,some _,h=>by cases h
 | some _,none,h=>by cases h
 | some ts,some ts',h=>by
  have h:V.int (cp b' ts' sp' * 1)=V.int (cp b ts sp * 1):=h;rw[Int.mul_one,Int.mul_one] at h;rwa[h]
theorem BsA.v {q:ai}:∀{o:Option zI},BsA H q b sp o->∃x,H q=some (.tup [fV b sp o,x])
 | none,⟨e,h⟩=>⟨e,h⟩
 | some _,⟨u,h,_⟩=>⟨_,h⟩
def It (H:Hp)(x:V)(b m:Int)(sp:zS)(o:Option zI):Prop:=∃sp',IsD H x (jz b m sp')/\iC b m sp'/\(∀l,jM m.toNat sp' l->jg sp' l<=4096)/\∀o',Tld b m sp' o'->fV b sp' o'=fV b sp o
theorem nQ.mvd {m r:Int}(N:iC b m sp)(h:nQ b m sp ts):nQ b m sp (ko b r ts)/\cp b (ko b r ts) sp=cp b ts sp:=by
 have b1:=N.b1;have m1:=N.m1;have R:Rdy b ts sp:=N.rdy (by have:=h.1;lia);rwa[⟨by unfold ko;rw[aa];rwa[h.1],movedL_in ⋯,by rw[fitsM_moved R];rwa[h.2.2]⟩,waitOfM_moved R]
def scLaw:bH ["_law_script","_law_deck","_law_net_here","_law_hidden","_law_text_here","_law_best_here","_law_order","_law_turn","_law_others","_law_other","_law_told","_law_there"] ["_law_script"] (defScope sLaw):=⇑0
theorem ok_law {f6 f7 f8 f9 fA fB fC fD fE fF TT:ai}{fd6 fd7 fd8 fd9 fdA fdB fdC fdD fdE fdF:aM}(F:Fun K "law" "law" sLaw f fd)(T:Nm mg)(T2:Nt mg)
  (G1:Fn K mg "_law_numbers" sNums pzP f1 fd1) (F1:‹0› 1 f1 fd1 pzP (spNums K))
  (G2:Fn K mg "_law_net" sNetD pzU f2 fd2) (F2:‹0› 3 f2 fd2 pzU spNetW)
  (G3:Fn K mg "_law_few" sFew pzS f3 fd3) (F3:‹0› 5 f3 fd3 pzS spFewN)
  (G4:Fn K mg "_law_text" sText pze f4 fd4) (F4:‹0› 1 f4 fd4 pze spText)
  (G5:Fn K mg "show_net" sShow pza f5 fd5) (F5:‹0› 1 f5 fd5 pza spShow)
  (G6:Fn K mg "read_net" sNetR ["text"] f6 fd6) (F6:‹0› 6 f6 fd6 ["text"] spNetR)
  (G7:Fn K mg "_law_best" sBst pze f7 fd7) (F7:‹0› 26 f7 fd7 pze (spBst T0 p0 q0 T1 p1 q1 TT T3))
  (G8:Fn K mg "_law_fits" sFitsN pzg f8 fd8) (F8:‹0› 2 f8 fd8 pzg sY)
  (G9:Fn K mg "_law_draw" sDrawD pzq f9 fd9) (F9:‹0› 1 f9 fd9 pzq spDrawD)
  (GA:Fn K mg "mirrored" sMir pza fA fdA) (FA:‹0› 2 fA fdA pza spMir)
  (GB:Fn K mg "named_anew" rn pzm fB fdB) (FB:‹0› 4 fB fdB pzm spNamedA)
  (GC:Fn K mg "table_mirrored" sTabMir pzc fC fdC) (FC:‹0› 2 fC fdC pzc spTabMir)
  (GD:Fn K mg "moved_by" sMoved pzG fD fdD) (FD:‹0› 2 fD fdD pzG spMoved)
  (GE:Fn K mg "fits" sFits pzc fE fdE) (FE:‹0› 5 fE fdE pzc sY)
  (GF:Fn K mg "wait_of" sWaitOf pzc fF fdF) (FF:‹0› 4 fF fdF pzc nW):‹0› 27 f fd ["_law_script"] (spLawTs [T0,T1,TT,T3] K):=by
 specialize F.ok scLaw;let⟨a,ns,rfl,ha,hT,k⟩:=h;have hrB :=hr
 exists 98,scLaw,3,G1,7,G2,22,G3,7,G4,9,G5,6,op_neD hr.units,G6,10,pc1 G7 F7 hrB ?_,4,kN ?_,4,op_isN,14,G8,11,fP (pX rfl) rfl T2.tlist boot_list ?_,1,fP pq rfl T2.range boot_range ?_,9,G9,11,op_catL,1,qH,5,qH,6,nG ?_,1,GA,4,GB,11,gU ?_,6,op_neD hr.units,G6,1,G5,11,pc1 G7 F7 hrB ?_,8,op_isN,32,GC,3,GD,8,G9,14,op_isB,GE,2,fR,9,GF,2,fR
 have L0:L4 T0 p0 q0 T1 p1 q1 TT T3 H:=⟨LamG.nil (hT T0 ∅),LamG.nil (hT T1 ∅),LamG.nil (hT TT ∅),LamG.nil (hT T3 ∅)⟩;rwa[ς,a,ns,300,rfl,ha,↥0,↥0,λp H0 H1 S0 hp0 M1=>?_];have L1:L4 T0 p0 q0 T1 p1 q1 TT T3 H1:=(L0.same S0).stay (λT ps e=>M1.1 _ _ (bJ e hp0) e) λa o u e=>M1.1 _ _ (bJ e hp0) e
 have D1:=M1.2;rwa[ς,τ,⟨↥0,↥0,↥0⟩,p,5,40,8,10 ^ 30,rfl,D1,↥0,↥0,↥0,↥0,↥0,↥0,↥0,↥0,λt v h b m sp hs H2 M2 ht hv N b33 hh hl hin ma bcg=>?_];have L2':=L1.md D1 M2;have D2:=M2.2;rwa[t,ς,zT ht,rfl,_,ς,τ,?_];rwa[ς,v,b,m,sp,rfl,hv,N,λv sp tk H3 S3 hv N gr pr=>?_];have b1:=N.b1;have m1:=N.m1;have m2:=N.m2;have few:=N.few;let⟨n,rfl⟩:=cu (by grind:0<=m);have E:ke n sp:=N.ends;have gr:GrdL n sp tk:=gr;have cas:∀l,jM (n:Int).toNat sp l->jg sp l<=4096:=gr.few1 ⋯;rwa[ς,v,b,n,rwS sp,rfl,netP_D.mp hv,N.txt.n,λH4 S4=>?_];rwa[ς,v,b,n,rwS sp,rfl,netP_D.mp (hv.same S4),N.txt.n,λH5 S5=>⟨ς,rfl,ς,hX ↥2 ?_⟩];rwa[ς,b,n,rwS sp,rfl,N.txt,λv6 H6 S6 h6=>?_];have S36:=S4.trans (S5.trans S6);have S26:=S3.trans S36;have hv6:=hv.same S36;rwa[ς,_,_,netP_D.mpr h6,hv6,nY b n sp,nY b n sp,deps_netP b n sp,ς,hX (by rw[ph _ (nY b n sp)];rfl) ?_];rwa[ς,v,b,n,sp,rfl,hv6,N,cas,L2'.same S26,λq H7 o kp7 L7 told ans=>?_];let⟨x7,hq7⟩:=ans.v;have hh7:=kp7.tup _ _ (S26 _ _ hh);have hv7:=cf kp7.tup hv6;have D7:=(D2.same S26).kp kp7;rwa[λσ' H'=>bt H7 H'/\σ'=[some (.ref a),some (.ref p),some v,some (.ref h),some (.str (netT b n (rwS sp))),some (.ref q),none,none,none,none,none,none],?_,?_]
 rotate_left
 ·rwa[ς,rfl,ς,hX (by (constructor <;> lia)) ?_]
  rwa[ς,ϲ hq7 0,(by cases o <;> rfl),ς,?_];cases o with
  | none =>
   rwa[mR (tS rfl) ?_];rwa[ς,ς,v,h,b,n,sp,hs,rfl,hv7,hh7,N.rdy hl,λH8 S8=>⟨ς,hX ?_ ⟨S8,rfl⟩⟩];have:=told hs
   cbv
  | some ts=>rwa[hX (tU nofun) ⟨bt.refl _,rfl⟩]
 rintro σ' H8 ⟨S8,rfl⟩
 sleep 0
 let⟨tn,pn,ys,rfl,htn,_⟩:=c5 (hv7.same S8);rwa[ς,ϲ htn 1,n,rfl,λq9 H9 S9 h9=>?_];rwa[q9,n,rfl,h9,⋯,λl hl9=>?_];have SA:bt H9 (upd H9 l (.lst ((aQ n).map λk=>V.int (k:Nat)))):=bt.put (bt.refl H9) hl9;have hA:(upd H9 l (.lst ((aQ n).map λk=>V.int (k:Nat)))) l=some (.lst ((aQ n).map λk=>V.int (k:Nat))):=aJ;generalize upd H9 l (.lst ((aQ n).map λk=>V.int (k:Nat)))=HA at SA hA ⊢;have S7A:=S8.trans (S9.trans SA);have S8A:=S9.trans SA;have DA:=D7.same S7A;have nl:l≠p:=(D7.same (S8.trans S9)).ne hl9;rwa[ς,ς,ϲ (S8A _ _ htn) 1,p,n,rfl,DA,⋯,⋯,λr HB r0 r1 MB=>?_];let⟨j,rfl⟩:=cu r0;have LB:=(L7.same S7A).md DA MB;have DB:=MB.2;have tB:=Md.tupK DA MB;have hB:=MB.1 _ _ nl hA;have rg:((aQ n).map λk=>V.int (k:Nat))=(rgI n).map V.int:=by unfold rgI;rw[bZ];rfl
 rw[rg] at hB;rwa[ς,ς,ς,l,ς,zL hB,λC HC SC eC=>?_];rwa[ς,ς,ς,l,ς,zL (SC _ _ hB),λD HD SD eD=>?_];rw[cutF (n:=j) rfl] at eC;rw[cutU (n:=j) rfl] at eD;rwa[C,D,τ,SD _ _ eC,eD,cO ↥1,λO HE SE eE=>?_];obtain⟨os,eo,od⟩:∃os,(List.drop j ((rgI n).map V.int)++List.take j ((rgI n).map V.int))=os.map V.int/\Ord os n:=⟨(rgI n).drop j++(rgI n).take j,by rw[au,List.map_drop,List.map_take],(List.perm_append_comm).trans (by rw[List.take_append_drop])⟩;rw[eo] at eE;have SBE:=SC.trans (SD.trans SE);have hvE:=(cf tB ((hv7.same S7A))).same SBE;rwa[ς,.ref tn,b,n,sp,rfl,hvE,⋯,λw1 HF SF h1=>?_];rwa[ς,ς,O,ς,zL (SF _ _ eE),λuo HG SG eG=>?_];have SEG:=SF.trans SG;rwa[.ref tn,uo,b,n,sp,os,rfl,hvE.same SEG,eG,od,⋯,N.endsIn,⋯,λw2 HI SI h2=>⟨lh,λLn HJ SJ hJ=>?_⟩];have SGJ:=SI.trans SJ;have SEJ:=SEG.trans SGJ;have SBJ:=SBE.trans SEJ;have LJ:=LB.same SBJ;have DJ:=DB.same SBJ;have hvJ:=hvE.same SEJ;have kA:kh H7 HJ:=λc xs e=>SBJ _ _ (tB _ _ (S7A _ _ e))
 have ansJ:BsA HJ q b sp o:=ans.kp kA;have h1J:=h1.same (SG.trans SGJ);have i1:It HJ w1 b n sp o:=⟨sp.map mirS,h1J,N.mir,(gr.other E (other_mir n sp)).few1 (by rw[ow (other_mir n sp) tk gr.lt];lia),λo' h'=>fV_of (Tld.mir N told h')⟩;have i2:It HJ w2 b n sp o:=⟨sp.map (namS (l9 os n)),h2.same SJ,N.nam od,(gr.other E (other_nam od)).few1 (by rw[ow (other_nam od) tk gr.lt];lia),λo' h'=>fV_of (Tld.nam N od told h')⟩;let⟨x8,hqJ⟩:=ansJ.v;rwa[ς,Ln,rfl,⟨_,zL hJ⟩,?_]
 let pZ1:zV:=λi σ H'=>Kp HJ H'/\L4 T0 p0 q0 T1 p1 q1 TT T3 H'/\∃v9 v10,σ=[some (.ref a),some (.ref p),some (.ref tn),some (.ref h),some (.str (netT b n (rwS sp))),some (.ref q),some (.ref O),some (.int (j:Nat)),some (.ref Ln),v9,v10,none]
 rwa[jb (K:=K) (a:=Ln) (xs:=[w1,w2]) pZ1 ⟨bt.kp (bt.refl HJ),LJ,none,none,rfl⟩ (λi σ H' _ q=>zL (q.1.lst _ _ hJ)) ?_ ?_]
 ·rintro i x σ HK hx ⟨kK,LK,v9,v10,rfl⟩
  sleep 0
  have it:It HJ x b n sp o:=by
   grind
  let⟨sp',y1,y2,y3,y5⟩:=it;have y1:=cf kK.tup y1;rwa[ς,x,b,n,rwS sp',rfl,netP_D.mp y1,y2.txt.n,λHL SL=>?_];rwa[b,n,rwS sp',rfl,y2.txt,λv6 HM SM hM=>?_];have SKM:=SL.trans SM;rwa[ς,_,_,netP_D.mpr hM,y1.same SKM,nY b n sp',nY b n sp',deps_netP b n sp',ς,hX (by rw[ph _ (nY b n sp')];rfl) ?_];rwa[ς,x,b,n,sp',rfl,y1.same SKM,y2,y3,LK.same SKM,λq' HO o' kO LO told' ans'=>?_];let⟨x9,hq'⟩:=ans'.v;have kJO:=kK.trans ((bt.kp SKM).trans kO);rwa[ς,rfl,ς,hX (by (constructor <;> lia)) ?_];rwa[ς,ϲ hq' 0,ς,ϲ (kJO.tup _ _ hqJ) 0,(by cases o' <;> cases o <;> rfl),ς,hX ↥1 ?_];rwa[kJO,LO,_,ς]
 rintro σ HK ⟨kK,LK,v9,v10,rfl⟩
 sleep 0
 have DK:=DJ.kp kK;have hvK:=cf kK.tup hvJ;rwa[ς,ϲ (kK.tup _ _ hqJ) 0,(by cases o <;> rfl),ς,?_];cases o with
 | none=>rwa[mR (tS rfl) (k HK)]
 | some ts =>
  rwa[hX (tU nofun) ?_];let⟨u,hq,hu⟩:=ansJ.kp kK.tup;let⟨t',p',ys',e',htK,_⟩:=c5 hvK;cases e';have tab:nQ b n sp ts:=told.1;have lt:ts.length=n:=tab.1;rwa[ς,ς,ς,ϲ hq 1,ς,τ,⟨↥0,↥0,↥0⟩,p,10 ^ 20,rfl,DK,↥0,↥0,λr2 HL _ _ ML=>?_];have tL:=Md.tupK DK ML;rwa[tn,u,b,_,ts,r2,rfl,tL _ _ htK,tL _ _ hu,⋯,⋯,λx1 HM SM hM=>?_];let⟨tab2,ew2⟩:=tab.mvd (r:=r2) N;let⟨tab3,ew3⟩:=tab_mir N tab2;have l2:(ko b r2 ts).length=n:=tab2.1;rwa[tn,x1,b,_,ko b r2 ts,rfl,SM _ _ (tL _ _ htK),hM,⋯,⋯,λx2 HO SO hO=>?_];have tO:kh HK HO:=λc xs e=>SO _ _ (SM _ _ (tL _ _ e))
  have nLp:Ln≠p:=λz=>by
   let⟨c,ns',e,_⟩:=DK;have e2:=kK.lst _ _ hJ;rw[z,e] at e2;injection e2 with e2
   injection e2 with e2
   let⟨_,_,_,ew,_⟩:=c5 h1J
   grind
  have hLO:=SO _ _ (SM _ _ (ML.1 _ _ nLp (kK.lst _ _ hJ)));have h1O:IsD HO w1 (jz b n (sp.map mirS)):=cf tO (cf kK.tup h1J);have N3:=N.mir;have l3:((mirT b (ko b r2 ts)).length:Int)=n:=by rw[mirT_len];lia
  rwa[ς,ϐ hLO 0,ς,w1,x2,b,n,sp.map mirS,ς,h1O,hO,N3.rdy l3,λHX SX=>?_];rwa[_,true,rfl,rfl,ς,mR (by rw[tab3.2.2];rfl) ?_];rwa[ς,ϐ (SX _ _ hLO) 0,ς,w1,x2,b,n,sp.map mirS,ς,h1O.same SX,SX _ _ hO,N3.rdy l3,N3.ws,λHY SY=>?_];rwa[ς,ϲ (SY _ _ (SX _ _ (tO _ _ hq))) 0,rfl,?_]
  grind
def args0 {P:zD->Prop}(h:P []):∀us:zD,us.length=0->P us:=λus hl=>by rw[fT.mp hl];rwa[h]
theorem args1 {P:zD->Prop}(h:∀x0,P [x0]):∀us:zD,us.length=1->P us:=by
 intro us hl;obtain _ | ⟨x0,us⟩:=us <;> try (cases hl;done)
 obtain _ | ⟨y,us⟩:=us
 ·rwa[h x0]
 ·rwa[tR hl (by simp only[bE];lia)]
theorem args2 {P:zD->Prop}(h:∀x0 x1,P [x0,x1]):∀us:zD,us.length=2->P us:=by
 intro us hl;obtain _ | ⟨x0,us⟩:=us <;> try (cases hl;done)
 obtain _ | ⟨x1,us⟩:=us <;> try (cases hl;done)
 obtain _ | ⟨y,us⟩:=us
 ·rwa[h x0 x1]
 ·rwa[tR hl (by simp only[bE];simp)]
theorem args3 {P:zD->Prop}(h:∀x0 x1 x2,P [x0,x1,x2]):∀us:zD,us.length=3->P us:=by
 intro us hl;obtain _ | ⟨x0,us⟩:=us <;> try (cases hl;done)
 obtain _ | ⟨x1,us⟩:=us <;> try (cases hl;done)
 obtain _ | ⟨x2,us⟩:=us <;> try (cases hl;done)
 obtain _ | ⟨y,us⟩:=us
 ·rwa[h x0 x1 x2]
 ·rwa[tR hl (by simp only[bE];simp)]
theorem args4 {P:zD->Prop}(h:∀x0 x1 x2 x3,P [x0,x1,x2,x3]):∀us:zD,us.length=4->P us:=by
 intro us hl;obtain _ | ⟨x0,us⟩:=us <;> try (cases hl;done)
 obtain _ | ⟨x1,us⟩:=us <;> try (cases hl;done)
 obtain _ | ⟨x2,us⟩:=us <;> try (cases hl;done)
 obtain _ | ⟨x3,us⟩:=us <;> try (cases hl;done)
 obtain _ | ⟨y,us⟩:=us
 ·rwa[h x0 x1 x2 x3]
 ·rwa[tR hl (by simp only[bE];simp)]
def args5 {P:zD->Prop}(h:∀x0 x1 x2 x3 x4,P [x0,x1,x2,x3,x4]):∀us:zD,us.length=5->P us:=by
 intro us hl
 rcases us with _ | ⟨x0,_ | ⟨x1,_ | ⟨x2,_ | ⟨x3,_ | ⟨x4,_ | ⟨x5,xr⟩⟩⟩⟩⟩⟩ <;> first | rwa[h _ _ _ _ _]| simp at hl
theorem Df.fn (a:Df K x st f)(X:K.In h)(G:h.Ns bG mg)
  (hb:∀(kV dc pm:ae) (an:Option ai) (cd ct:ae) (us:zD),us.length=ps.length->bindArgs (eQ x x (kU st) (gp st) (defScope st) .none kV dc pm an cd ct) ⟨us,[]⟩=gv (ps.zip us):=by intro _ _ _ _ _ _;first  | rwa[args0 rfl]| rwa[args1 λ_=>rfl]| rwa[args2 λ_ _=>rfl]| rwa[args3 λ_ _ _=>rfl]| rwa[args4 λ_ _ _ _=>rfl]| rwa[args5 λ_ _ _ _ _=>rfl]):∃fd,Fn K mg x st ps f fd:=by
 let⟨n,oc,od,an,sl,kV,dc,pm,cd,ct,l,c,k⟩:=a;have F:=qg (st:=st) l c k;rwa[_,F,dk X G n,F.binds hb]
theorem all_mk {l:PySem.W.OpenLaw}{fa:ai}(X:K.In h)(G:h.Ns bG mg)(hfa:mg "law" =some (.ref fa))(Fc:Facts K w)
  : ∃fd:aM,(∀(s:aq) (v:ae),BindsTo s fd ⟨[v],[]⟩ [("_law_script",v)])∧∀base:bI,K.In base→base.Ns bG mg→BM mg base→‹_› 27 fa fd ["_law_script"] (spLawTs [202,371,437,456] K):=by
 rwa[Fc _ ?_];intro f1 a1 f2 a2 f3 a3 f4 a4 f5 a5 f6 a6 f7 a7 f8 a8 f9 a9 f10 a10 f11 a11 f12 a12 f13 a13 f14 a14 f15 a15 f16 a16 f17 a17 f18 a18 f19 a19 f20 a20 f21 a21 f22 a22 f23 a23 f24 a24 f25 a25 f26 a26 f27 a27 f28 a28 f29 a29 f30 a30 f31 a31 f32 a32 f33 a33 f34 a34 f35 a35 f36 a36 f37 a37 f38 a38 f39 a39 f40 a40 f41 a41 f42 a42 f43 a43 f44 a44 f45 a45 f46 a46 f47 a47 f48 a48 f49 a49 f50 a50 f51 a51 f52 a52 f53 a53 f54 a54 f55 a55 f56 a56 f57 a57 f58 a58 f59 a59 f60 a60 f61 a61 f62 a62 f63 a63 f64 a64 f65 a65 f66 a66 f67 a67 f68 a68 f69 a69 f70 a70 f71 a71 f72 a72 f73 a73 f74 a74 f75 a75 f76 a76 f77 a77 f78 a78 f79 a79 f80 a80 f81 a81 f82 a82 f83 a83 f84 a84 f85 a85 f86 a86 f87 a87 t1 t2 t3 t4 t5 t6 t7 t8 xC xi xs xt odI anI odS anS odT anT slI slS slT ocI kVI dcI pmI ctI ocS kVS dcS pmS cdS ctS ocT kVT dcT pmT cdT ctT y1 y2 y3 y4 y5 y6 y7 y8 z1 z2 z3 z4 z5 z6 z7 z8 z9 z10 z11 z12 z13 z14 z15 z16 z17 w1 w2 w3 w4 w5 w6 w7 w8 w9 w10 w11 w12 w13 w14 w15 w16 w17 w18 w19 w20 w21 w22 w23 w24 w25 wc0 wh0 wh1 wc2 wh2 wc3 wh3;have e:=hfa.symm.trans (dk X G a87.n);cases e;erw[1,pzk,pzd,pzd,pza,pzH,pzh,pzh];let⟨_,oc,od,an,sl,kV,dc,pm,cd,ct,l8,c8,k8⟩:=id a8;have wc0:cd=ae.ref 206:=(tW cdO l8).symm.trans wc0;have F8:=qg (st:=sSpW) l8 c8 k8;have b8:=F8.binds (ps:=pza) λ_ _ _ _ _ _=>args1 λ_=>rfl
 have G8:Fn K mg "spans_by_width" sSpW pza f8 _:=⟨F8,dk X G a8.n,b8⟩;erw[9,pza,pzr,pzJ,pzk,pza,pza,pza,pzl,pzs,pzB,pzw,pzn,pzL,pzt,["marks"],pzu];let⟨_,oc,od,an,sl,kV,dc,pm,cd,ct,l25,c25,k25⟩:=id a25;have wc2:cd=ae.ref 441:=(tW cdO l25).symm.trans wc2;have F25:=qg (st:=kl) l25 c25 k25;have b25:=F25.binds (ps:=pza) λ_ _ _ _ _ _=>args1 λ_=>rfl
 have G25:Fn K mg "table_for" kl pza f25 _:=⟨F25,dk X G a25.n,b25⟩;erw[26,pzh,pzN,pzc,pzc,["net","rows"],pzI,pzM,pzC];let⟨_,oc,od,an,sl,kV,dc,pm,cd,ct,l34,c34,k34⟩:=id a34;have wc3:cd=ae.ref 460:=(tW cdO l34).symm.trans wc3;have F34:=qg (st:=nA) l34 c34 k34;have b34:=F34.binds (ps:=pza) λ_ _ _ _ _ _=>args1 λ_=>rfl
 have G34:Fn K mg "best_for" nA pza f34 _:=⟨F34,dk X G a34.n,b34⟩;erw[35,[],pzf,pzi,pzy,pzz,pzD,pzf,pzb,pzb,pzb,pzv,pzQ,pzb,pzb,pzO,pzb,pzb,pzc,pzc,pzG,["span"],pza,pzc,pzF,pzb,pzm,pzm,pzj,pzj,pza,["row"],["row"],["text"],pzP,pzq,pzT,pzU,pzA,pzx,pze,pzR,pze,pzo,pzp,pzp,pzE,pzg,pzg,pzg,pze,pzS,pze];let⟨_,oc,od,an,sl,kV,dc,pm,cd,ct,l87,c87,k87⟩:=a87;have F87:=qg (st:=sLaw) l87 c87 k87;have m1:=cb X G z1;have m2:=cb X G z2;have m3:=cb X G z3;have m4:=cb X G z4;have m5:=cb X G z5;have m6:=cb X G z6;have m7:=cb X G z7;have m8:=cb X G z8;have m9:=cb X G z9;have m10:=cb X G z10;have m11:=cb X G z11;have m12:=cb X G z12;have m13:=cb X G z13;have m14:=cb X G z14;have m15:=cb X G z15;have m16:=cb X G z16;have m17:=cb X G z17;have i1:=dk X G y1;have i2:=dk X G y2;have i3:=dk X G y3;have i4:=dk X G y4;have i5:=dk X G y5;have i6:=dk X G y6;have i7:=dk X G y7;have i8:=dk X G y8;rwa[eQ "law" "law" (kU sLaw) (gp sLaw) (defScope sLaw) .none kV dc pm an cd ct,λs v=>.of_eq rfl,λbase _ _ hB=>?_];have T:Nm mg:=⟨m1,m2,m3,m4,m5,m6,m7⟩;have T2:Nt mg:=⟨m8,m9,m10,m11,m12,m13⟩;have T3:N3 mg:=⟨m14⟩;have C:Cs mg:=⟨⟨_,i4⟩,⟨_,i5⟩,⟨_,i6⟩⟩;have C2:Cs2 mg:=⟨⟨_,i7⟩,⟨_,i8⟩⟩;have N2:Nm2 mg:=⟨m17,m12⟩;have SW:‹_› 5 f8 _ pza (spSpW 202 lpW lqW):=ok_spW F8 wc0 wh0 hB T T2 m15 G1;have FO:‹_› 6 f9 _ pza (mL 202 lpW lqW):=ok_forest G9.F T T2 m15 G8 SW;have ST:‹_› 2 f10 _ pzr spSteps:=ok_steps G10.F G2;have RB:‹_› 7 f12 _ pzk (spRingBy 202 lpW lqW):=ok_ringBy G12.F G11 (ok_wayBt G11.F G10 ST G3) G9 FO;have RO:‹_› 8 f14 _ pza (qA 202 lpW lqW):=ok_ringsO G14.F T T2 G9 FO G12 RB;have CC:CutC K xC:=⟨⟨w2,w3,w4,w5⟩,w6,w7,w8⟩;have CI:=qg (st:=s9) w13 w14 w15;have CS:=qg (st:=sSpanC) w19 w20 w18;have CT:=qg (st:=sSidesC) w24 w25 w23;have CK:CutK l.prog w K mg base 202 lpW lqW 371 lpC lqC xC xi xs xt _ _ _:=⟨CC,⟨w9,w10,w11,w12⟩,dk X G w1,ok_initC CI rfl wh1 hB ↥0 T T2 m15 CC G14 RO G18 G4 G9 FO,CI.binds (ps:=["self","net"]) λ_ _ _ _ _ _=>args2 λ_ _=>rfl,⟨w16,w17,w18⟩,ok_spanC CS CC,CS.binds (ps:=["self","case"]) λ_ _ _ _ _ _=>args2 λ_ _=>rfl,⟨w21,w22,w23⟩,ok_sidesC CT CC G17,CT.binds (ps:=pzK) λ_ _ _ _ _ _=>args4 λ_ _ _ _=>rfl⟩;have BO:‹_› 2 f6 _ pzh nq:=ok_beats G6.F G5;have DL:‹_› 4 f20 _ pzn rh:=ok_deadL G20.F G7 (ok_dead G7.F G6 BO);have TF:‹_› 11 f22 _ pzt (spTabF 202 lpW lqW 371 lpC lqC):=ok_tabF G22.F T ↥0 CK G15 (ok_spread G15.F T T2 G9 FO G10 ST G3) G20 DL G21 (ok_tabBy G21.F T G3 G2 G16) G19;have TY:‹_› 11 f24 _ pzu (qy l.prog w K mg base 202 lpW lqW 371 lpC lqC):=ok_treeBy G24.F T CK G19 G23 (ok_treeF G23.F m16);have TN:‹_› 12 f25 _ pza (oQ 202 lpW lqW 371 lpC lqC 437):=ok_tabForN F25 wc2 wh2 hB T ⟨_,i1⟩ ↥0 ↥0 ↥0 G13 (ok_cases G13.F G9 FO G1) G22 TF G24 TY G20 DL;have WO:‹_› 4 f29 _ pzc nW:=ok_waitOf G29.F T T2 G28 (ok_waits G28.F T T2 G16 G27);have LB:‹_› 5 f33 _ pzC spLeafBy:=ok_leafBy G33.F G20 DL G32 (ok_priceL G32.F T G26 (ok_sure G26.F G6 BO)) G31 (ok_worth G31.F T T2 G6 BO G30);have BF:‹_› 13 f34 _ pza (spBest 202 lpW lqW 371 lpC lqC 437 456):=ok_best F34 wc3 wh3 hB T ⟨_,i1⟩ ↥0 ↥0 ↥0 ↥0 ↥0 ↥0 G25 TN G22 TF G24 TY G33 LB G29 WO G14 RO;have W:‹_› 4 f43 _ pzb spRgT:=ok_wyT G43.F T T2 G42 (ok_stT G42.F T G37 G36) G2 G3;have R:‹_› 5 f44 _ pzb spRgT:=ok_rgT G44.F T T3 G43 W G2 G3;have LI:‹_› 8 f50 _ pzb spLvT:=ok_leavesIn G50.F T ⟨_,i3⟩ G4 (ok_first G4.F T) G46 (ok_ctT G46.F T m17 G45 G37 G36) G49 (ok_sides G49.F G17) G48 (ok_lfT G48.F T m17 ⟨_,i2⟩ G45 G44 R G47 G36);have TI:‹_› 9 f51 _ pzb spTreeI:=ok_treeI G51.F G50 LI;have SL:‹_› 25 f80 _ pzE (spShownL 22):=ok_shownL G80.F T G77 (tF G77 22) G74 (ok_boundsF G74.F T) G78 (ok_isRL G78.F G73) G79 (ok_worthL G79.F T T2 G73);have FT:‹_› 2 f82 _ pzg sY:=ok_fitsN G82.F T2 G81;have BS:‹_› 26 f86 _ pze (spBst 202 lpW lqW 371 lpC lqC 437 456):=ok_bst G86.F ↥0 ↥0 ↥0 G34 BF G25 TN G51 TI G80 SL G82 FT G83 (ok_waitN G83.F T2 G81);have FG:‹_› 4 f76 _ pze spForG:=ok_forN G76.F T T2 m15 G72 G75;have IN:‹_› 5 f41 _ pzf spNetY:=ok_net G41.F T C G35 G36 G37 G38 G39 G40;have RN:‹_› 6 f67 _ ["text"] spNetR:=ok_netR G67.F T N2 G65 (ok_head G65.F T C2 G62 G63) G66 (ok_spanR G66.F T C2 G62 G63) G41 IN;have IO:‹_› 2 f59 _ pzb rd:=ok_isOrder G59.F T T2 m15 G36;have CO:‹_› 3 f60 _ pzm spCheckO:=ok_checkO G60.F G59 IO;have BR:‹_› 4 f52 _ pzc spBroken:=ok_broken G52.F T T2 G28 (ok_waits G28.F T T2 G16 G27) G1;rwa[ok_law F87 T T2 G68 (ok_nums G68.F T T2) G71 (ok_netD G71.F T T2 G69 G70) G85 (ok_fewN G85.F T G76 FG) G84 (ok_text G84.F T N2) G64 (ok_show G64.F T N2) G67 RN G86 BS G82 FT G69 (ok_drawD G69.F T) G56 (ok_mir G56.F T G55) G61 (ok_namedA G61.F T T2 G60 CO G58) G57 (ok_tabMir G57.F T G16) G54 (ok_moved G54.F T G16) G53 (ok_fits G53.F T G52 BR) G29 WO]
theorem walk {l:PySem.W.OpenLaw}{q:aL}{d:DefRec}{K:bp->ag}(hn:l.most=some 63)(hdf:d.params.defaults=[])
  (hY:∀(w:bp) (h:bI),YP w h->(K w).In h/\∀T∈([202,371,437,456]:zX),h.get? T=some (PySem.W.tabObj #[])) (hC:∀w:bp,∀T∈([202,371,437,456]:zX),∃c,d5 (K w) c T=true) (hN:∀w:bp,PySem.W.noTabs (K w)=true)
  (F:∀ (w:bp) (mg:Str->zJ) (fa:ai) (h:bI),(K w).In h->h.Ns bG mg->mg d.name=some (.ref fa) ->
   ∃ fd:aM,(∀ (s:aq) (u:ae),BindsTo s fd ⟨[u],[]⟩ [("_law_script",u)])∧∀ base:bI,(K w).In base→base.Ns bG mg→BM mg base→bX l.prog w (K w) mg base CX0 27 fa fd ["_law_script"] (spLawTs [202,371,437,456] (K w))) :
  PySem.W.WalkO q loose XP YP l.row.toRowW d [] (λf vs=>PySem.call f vs):=
 walk_ofTs (n:=63) (k:=27) (x:="_law_script") (Ts:=[202,371,437,456]) (CX:=λ_=>CX0) (sp:=λw=>spLawTs [202,371,437,456] (K w)) hn ↥0 hdf ⟨rfl,↥0,↥0⟩ hY hC hN F (λ_ _ a ns hl hT hS=>⟨a,ns,rfl,hS,hT,λ_=>rfl⟩) λ_ _ _ _ _ z=>z
end HN
end Lake
theorem PySem.Challenge.cw_hourtable_k95_whole_from_text_to_text_holds : PySem.Challenge.rw_hourtable_k95_whole_from_text_to_text.Holds := by
 refine Lake.HN.head0.2 ?_ Lake.HN.leftA Lake.HN.sc0;intro q loose XP YP d K hdf hd h0 h1 h2 Fc;exact Lake.HN.walk (l:=fe) rfl hdf h0 h1 h2 fun w mg fa h KX G hmg=>Lake.HN.all_mk KX G (by rw[hd] at hmg;exact hmg) (Fc w)
