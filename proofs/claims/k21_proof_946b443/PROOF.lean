import PyProof.Rows.All
import Wide.All
import OpenK.AllK
import Wide.FinOn
import Lean
import PyProof.EqAt
import PyProof.EqKinds
import PyProof.TupleCall
import KE.KIntText
import KE.KDictList
import KE.KDictSum
import PyProof.Rows.Range3
import PyProof.DictWalks
import KE.KMinKey
import PySem.Challenge.RW_slitview_k21_unlike_views
noncomputable section
set_option compiler.extract_closed false
local macro_rules | `(tactic| eq_refl) => `(tactic| first | exact Or.inl rfl | exact Or.inr (Or.inl rfl) | exact Or.inr (Or.inr rfl))
local macro_rules | `(∅) => `(by first | lia | omega)
set_option Elab.async false
set_option bootstrap.genMatcherCode false
set_option genSizeOf false
set_option linter.all false
set_option maxRecDepth 100000
local macro_rules | `(tactic| ac_nf) => `(tactic| exact ⟨rfl,rfl,rfl,by decide +kernel,rfl,by decide +kernel,by decide +kernel⟩)
open Option renaming some->aa,none->ae,bind_some->gW,map_some->nE,map_eq_some_iff->t6,map->Am,isSome_iff_exists->DL,isSome_map->D1,map_none->D8,getD_some->Ew,getD_none->KA,bind_eq_some_iff->K0
open PySem renaming Addr->ah,Value->ak,Shared->aq,wpAny_bind->au,wpAny->aA,model->aB,Expr->aE,wpAny_pure->aF,Heap->aI,World->aT,starEach->aW,Program->aZ,Stmt->ba,Around->bd,eval->bf,sizeLine->bw,mainGlobals->cf,wpAny_mono->dr,strKind->dE,backTo->dR,Scope->d8,rawInt->eJ,compareOp->eW,bootBuiltins->fz,bindArgs->fZ,cellsFrom->f6,FuncData->gD,wpAny_ite_split->gE,SetTable->gU,NameKind->io,wpAny_setState_of->iL,binaryOp->jr,wpAny_holding->kH,wpAny_rule->lr,wpAny_askSetting->lu,mem_of_lookup->mi,Keyword->mj,Paired->nj,behindInMarks->nu,swapsWith->nv,codeAny->nz,sysModules->ou,isTrue->oz,wpAny_truthy_bool->oA,sizeLine_eq->oB,IsPart->oD,wpAny_newObj_type->oE,setNext->oK,setField->oM,setsByText->oN,pyIter->p7,attributeBase->p_,valueAt->qe,builtinsNs->rJ,codeAny_mono->rL,Arguments->rM,wpAny_field->rN,getItem->rO,wpAny_passesOwn->tU,foldedSetIterable->tW,sliceBounds->tY,backToKw->t4,keywordEach->t5,callerA->t7,relayAll->ua,wpAny_storeSet_of->uc,wpAny_setField->ud,argBest->uf,tupleKind->v7,codeAmong->v8,recursionLimit->v_,wpAny_call->wb,wpAny_call_entry->we,typeIs_str->wj,call_meets->wl,fits_of_scanBound->wu,codeAny_builtin->wv,pickOrder->ww,wpAny_Name->zN,wpAny_execs_nil->zO,wpAny_Call_Name_kw->zQ,tupleKind_room_in1->zV,closureFor->zY,wpAny_pyIter_list->z6,partValue->z8,wpAny_isInstance->Ab,setFlight->Ag,wpAny_setEpoch_of->An,wpAny_execs_cons->DB,PassesOwn->DC,letOwnedTupleGo->DH,subscripted->DZ,wpAny_alloc->D4,plainId_quiet->Ee,sub_set_self->Ef,wpAny_setEntries_of->Eg,excClassObj->Em,setWalkUnseen->Ex,wpAny_assign_Name->Ko,wpAny_setScan_of->KJ,checkBuiltinCall->KO,wpAny_loadPart_at->KW
open Bool renaming true->ai,false->am,and_eq_true->f7,false_ne_true->gz,false_xor->oU,eq_iff_iff->p8,false_eq_true->qh,or_eq_true->z9,not_true->Aq,true_and->D9,and_false->D_,eq_false_iff->KY,not_eq_true'->KZ
open PySem.W renaming Frag->aC,nsIn->dq,kitOne->gA,fnOf->i4,tabIn->l_,kia_one->mh,keepIn->oC,excIn->qi,findIn->rK,InstAt->v9,codeIn->wd,mg_of->wz,mroIn->zP,codeHdIn->zX,OpenLaw->D3,clsIn->En,kla_obj->EG,methodObj->Kn,specialIn->Kv,callWith_K->Kx,cellsFrom_some->Ky
open PyProof.Rows renaming wpS_bind->aR,wpS_pure->aY,pendingOf->bE,SortSt->bY,StrsAre->e_,wpS_mono->ir,wpS_forRange->iu,envOfC->js,size_push'->kj,wpS_get->mr,seqObj->nH,AllBare->ox,wpS_modify->oP,wpS_lift->ug,subscriptTail->DY,listUpdate_at->Ev,callWith_type1->Kq,slot_tuple_getitem->WO
open Nat renaming le_refl->bn,ne_of_lt->cX,le_trans->dj,lt_irrefl->fu,lt_of_lt_of_le->fI,ne_of_gt->mf,lt_succ_of_lt->mo,zero_add->mq,le_of_lt->nt,zero_le->nB,lt_succ_self->nG,lt_trans->oG,le_of_eq->oH,mod_eq_of_lt->qj,mod_lt->rT,not_lt->rW,pow_succ->rX,lt_of_le_of_lt->t8,add_mod->uh,lt_add_right->ul,add_assoc->wy,not_lt_zero->zW,le_succ->z0,mul_le_mul->z_,add_right_comm->Ah,mul_comm->Ao,lt_of_succ_lt->Ar,min_eq_left->Au,add_sub_cancel_left->EI,min_eq_right->Lg,le_add_right->Lh,add_sub_cancel'->Li
open PySem.Heap renaming lt_size->bD,get?_push_of_some->bH,get?_push_size->df,SameBut->jq,get?_update_other->rP,get?_update_self->rS,get?_none_of_le->Dz,size_push->D5,size_update->KU
open List renaming range->bF,replicate->bK,mem_cons->b8,size_toArray->cU,length_map->dw,mem_map->dG,getElem?_eq_some_iff->d9,length_append->d_,map_cons->eZ,length_cons->fi,getElem?_set_ne->fA,getElem?_append_left->fJ,map_map->fK,find?_cons->f8,getElem?_eq_getElem->f9,mem_append->gy,getElem?_set_self->im,mem_singleton->iq,map_congr_left->iK,append_nil->iZ,nil_append->i5,foldl_cons->jt,not_mem_nil->ju,length_take->jN,getElem?_append_right->jO,getElem?_map->jP,getElem?_eq_none->jQ,length_set->jR,getElem?_take->jS,nodup_cons->kh,length_drop->ki,append_assoc->kI,getElem?_drop->kJ,lookup_cons->lq,ext_getElem?->lv,filterMap_cons->ma,mem_cons_of_mem->me,replicate_succ->ml,take_of_length_le->mn,mem_filter->nq,mem_range->nr,mem_append_right->ny,mem_cons_self->oy,any_cons->oF,mem_of_mem_take->oV,flatten_cons->qb,map_append->qg,filter_eq_self->qo,flatMap_cons->qp,length_nil->rQ,range_succ_eq_map->rR,mem_reverse->rV,mem_of_mem_drop->rZ,dropLast->r8,length->tX,all_cons->tZ,range_succ->t9,all_eq_true->t_,any_eq_true->uk,length_singleton->wm,map_nil->wn,eq_nil_of_length_eq_zero->wo,take_append_drop->wB,mem_append_left->zM,getElem?_take_of_lt->zR,mem_of_getElem?->zS,lookup->zZ,getD->z5,drop_zero->z7,nodup_append->Ae,drop_eq_getElem_cons->Af,getD_eq_getElem?_getD->Ai,take_length->Aj,getElem_of_mem->Ak,find?_eq_none->Ap,filter_cons->At,of_mem_zip->DK,filterMap_map->DQ,getElem?_range->D6,all_map->D7,toList_toArray->Ea,getElem_mem->Eb,pairwise_map->Ec,findIdx?_eq_some_iff_getElem->Ed,length_eraseIdx->Eh,take_zero->Ej,any_map->Ep,length_dropLast->Er,singleton_append->Es,drop_eq_nil_iff->Et,cons_append->Eu,length_filter_le->EC,filter_append->ED,filter_map->EE,isPerm_iff->EH,drop_of_length_le->EJ,range'->EK,sum_cons->EL,mem_filterMap->Kr,any_eq_false->Ku,lookup_append->KF,findIdx?_eq_none_iff->KL,foldl_append->KM,drop_length->KS,pairwise_append->K1,getElem_drop->K3,getElem_take->K4,reverse_append->K5,reverse_perm->K6,pairwise_reverse->K7,filter_congr->La,length_eq_zero_iff->Lb,mem_flatMap->Lc,flatMap_nil->Ld,length_erase_of_mem->Le,isEmpty_nil->Lf,take_succ_eq_append_getElem->WR,count_eq_zero_of_not_mem->WS
open Option.some renaming inj->eV
open Ne renaming symm->fY
open Array renaming length_toList->iI,toList_append->iM,getElem_extract->oR,getElem?_eq_some_iff->qf,toList_push->wq,getElem?_eq_getElem->Ac,getElem?_toList->Ei,toList_extract->K2,perm_iff_toList_perm->K8,getD_eq_getD_getElem?->K_
open False renaming elim->iJ
open PySem.PassesOwn renaming never->lw
open PyProof.Rows.KeyOrd renaming kle_of_klt->mv,kle_refl->oQ,kle_trans->wA
open Int renaming toNat_natCast->nA,emod_lt_of_pos->Ey,emod_nonneg->Ez
open List.Perm renaming refl->nD,append_left->KP
open PySem.SetTable renaming sizeAbove->oI,eraseAt->oS,bits->qm,grown->ub,fits->ue,fill->ui,turns->wD,insertAt->KH,layClean->KI,below->KQ
open PySem.Heap.SameBut renaming update->oJ,refl->wp
open PySem.Obj renaming mapFields->oO,mapSeq->qd,data_mapFields->wx,isFreed_of_fields->El
open PySem.Str renaming empty->p9,length->wg,ofString->DU
open PySem.Value renaming isStrOf->rH
open List.cons renaming injEq->rY
open Function renaming comp->uj
open PySem.SetTable.layClean renaming free->wC
open PySem.SetTable.sizeAbove renaming go->wE
open PySem.SeqAt renaming EqAt->zT
open PySem.Builtin.List renaming listTooLong->zU
open PySem.Around renaming under_plainId->Aa
open PySem.F renaming excBase_ValueError->As,plainAttrs_list->Ek,slot_dict_get->KD,slot_str_getitem->WP
open Classical renaming byContradiction->Av
open PySem.Calls renaming spliced_cons->DJ,spliced_nil->Kw,callWith_builtin->KB,evalArgs_plain->KC
open PySem.Builtin.Slice renaming slicePlaces->DP,sliceAdjust->Kz
open PySem.Builtin.Tuple renaming tupleExact->DV
open Nat.succ renaming inj->Eo
open PySem.Builtin.Frozenset renaming unchanged->EB,sizeOf->K9
open PySem.Builtin.Str renaming occurrences->Kt,strSliceIndices->KG
open PyProof.Rows.F renaming plain_set_update_loop->KN,entry_set_update_loop->WQ
open PySem.SetTable.below renaming go->KR
open PySem PySem.Spec PyProof.Rows
namespace L2
abbrev aS:=Sum Int Str
def tu:aS->ak->Bool
 |.inl k,v=>Value.isInt k v
 |.inr x,v=>rH x v
def Wi(w:aT):aS->Int
 |.inl k=>hashInt k
 |.inr x=>hashStr w x
theorem oj:∀{k:aS}{v:ak},tu k v=ai->(∃i t,k=Sum.inl i/\v=Value.int i t)\/(∃x t,k=Sum.inr x/\v=Value.str x t)
 |.inl i,v,h=>by obtain⟨t,e⟩:=Value.isInt_shape (k:=i) (v:=v) h;exact .inl ⟨i,t,rfl,e⟩
 |.inr x,v,h=>by obtain⟨t,e⟩:=Value.isStrOf_shape (x:=x) (v:=v) h;exact .inr ⟨x,t,rfl,e⟩
theorem MN(i:Int)(t:Tok):tu (.inl i) (.int i t)=ai:=by simp[tu,Value.isInt]
theorem Ta(x:Str)(t:Tok):tu (.inr x) (.str x t)=ai:=by simp[tu,rH]
theorem Vt(a b:Int):decide ((Sum.inl a:aS)=Sum.inl b)=(a == b):=by
 by_cases e:a=b
 ·subst e;simp
 ·have h:¬(Sum.inl a:aS)=Sum.inl b:=λq=>e (Sum.inl.inj q);rw[decide_eq_false h];exact(beq_eq_false_iff_ne.mpr e).symm
theorem VS(a b:Str):decide ((Sum.inr a:aS)=Sum.inr b)=decide (a=b):=by
 by_cases e:a=b
 ·subst e;simp
 ·have h:¬(Sum.inr a:aS)=Sum.inr b:=λq=>e (Sum.inr.inj q);rw[decide_eq_false h,decide_eq_false e]
theorem Ob(a:Int)(b:Str):decide ((Sum.inl a:aS)=Sum.inr b)=am:=decide_eq_false (λq=>nomatch q)
theorem OD(a:Str)(b:Int):decide ((Sum.inr a:aS)=Sum.inl b)=am:=decide_eq_false (λq=>nomatch q)
def gM(prog:aZ)(w:aT):PySem.KeyKind prog w aS where
 is:=tu
 hash:=Wi w
 inj:=λv a b ha hb=>by
  rcases oj ha with⟨i,t,rfl,rfl⟩|⟨x,t,rfl,rfl⟩
  ·rcases oj hb with⟨j,u,rfl,e⟩|⟨y,u,rfl,e⟩
   ·injection e with e1 _;rw[e1]
   ·exact nomatch e
  ·rcases oj hb with⟨j,u,rfl,e⟩|⟨y,u,rfl,e⟩
   ·exact nomatch e
   ·injection e with e1 _;rw[e1]
 byValue:=λk v h=>by rcases oj h with⟨i,t,rfl,rfl⟩|⟨x,t,rfl,rfl⟩ <;> rfl
 pyHash:=λhv h=>by
  rcases oj hv with⟨i,t,rfl,rfl⟩|⟨x,t,rfl,rfl⟩
  ·exact wpAny_pyHash_int h
  ·exact wpAny_pyHash_str h
 eqBool:=λhu hv h=>by
  rcases oj hu with⟨i,t,rfl,rfl⟩|⟨x,t,rfl,rfl⟩
  ·rcases oj hv with⟨j,u,rfl,rfl⟩|⟨y,u,rfl,rfl⟩
   ·rw[Vt]at h;exact wpAny_eqBool_int h
   ·rw[Ob]at h;exact SeqAt.EqAt.int_str i t y u _ _ _ _ h
  ·rcases oj hv with⟨j,u,rfl,rfl⟩|⟨y,u,rfl,rfl⟩
   ·rw[OD]at h;exact SeqAt.EqAt.str_int x t j u _ _ _ _ h
   ·rw[VS]at h;exact wpAny_eqBool_str h
 «strs»:=λk x t v h=>by
  rcases oj h with⟨i,u,rfl,e⟩|⟨y,u,rfl,e⟩
  ·exact nomatch e
  ·injection e with e1 _;subst e1;cases v <;> rfl
theorem Md(prog:aZ)(w:aT)(i:Int)(t:Tok):(gM prog w).is (.inl i) (.int i t)=ai:=MN i t
theorem OE(prog:aZ)(w:aT)(x:Str)(t:Tok):(gM prog w).is (.inr x) (.str x t)=ai:=Ta x t
inductive V where
 |non|bl (b:Bool)|int (i:Int)|str (x:Str)|byt (b:Array UInt8)|flt (b:UInt64)|ref (a:ah)|ty (n:String)
 deriving DecidableEq
def RelV:V->ak->Prop
 |.non,u=>u=Value.none
 |.bl b,u=>u=Value.bool b
 |.int i,u=>∃t,u=Value.int i t
 |.str x,u=>∃t,u=Value.str x t
 |.byt b,u=>∃t,u=Value.bytes b t
 |.flt b,u=>∃t,u=Value.float b t
 |.ref a,u=>u=Value.ref a
 |.ty n,u=>u=Value.type n
abbrev bX:List V->List ak->Prop:=nj RelV
theorem bX.length{xs:List V}{us:List ak}(r:bX xs us):xs.length=us.length:=Paired.length r
theorem bX.get:∀{xs:List V}{us:List ak}{i:Nat}{x:V},bX xs us->xs[i]?=aa x->∃u,us[i]?=aa u/\RelV x u
 |_,_,_,_,.nil,e=>by simp at e
 |_,_,0,_,.cons r _,e=>by simp at e;subst e;exact⟨_,rfl,r⟩
 |_,_,i+1,x,.cons _ t,e=>by obtain⟨u,h1,h2⟩:=bX.get (i:=i) (x:=x) t (by simpa using e);exact⟨u,by simpa using h1,h2⟩
theorem bX.append:∀{xs ys:List V}{us ws:List ak},bX xs us->bX ys ws->bX (xs++ys) (us++ws)
 |_,_,_,_,.nil,s=>s
 |_,_,_,_,.cons r t,s=>.cons r (bX.append t s)
theorem bX.take:∀{xs:List V}{us:List ak} (n:Nat),bX xs us->bX (xs.take n) (us.take n)
 |_,_,0,_=>.nil
 |_,_,_+1,.nil=>.nil
 |_,_,n+1,.cons r t=>.cons r (bX.take n t)
theorem bX.drop:∀{xs:List V}{us:List ak} (n:Nat),bX xs us->bX (xs.drop n) (us.drop n)
 |_,_,0,r=>r
 |_,_,_+1,.nil=>.nil
 |_,_,n+1,.cons _ t=>bX.drop n t
def p6:Option V->Option ak->Prop
 |some v,aa u=>RelV v u
 |none,ae=>True
 |_,_=>False
def KV{κ:Type}:List (κ×V)->List (κ×ak)->Prop:=nj λ(p:κ×V) (q:κ×ak)=>p.1=q.1/\RelV p.2 q.2
def kV:aS->V
 |.inl i=>.int i
 |.inr x=>.str x
inductive HO where
 |lst (xs:List V)
 |tup (xs:List V)
 |dK (XN:List (aS×V))|dT (XN:List (List aS×V))
 |set (S:Int->Bool) (n:Nat)
 |ins (C dx:ah) (fs:List (Str×V))
 |own (x:ah)
 |xd (fs:List (Str×V))
 |met (f x:ah)
 |rng (lo hi:Int)
 |frz (o:Obj) (u:HO)
 |tbl (q:Str)
 |ext (φ:aI->Prop)
abbrev Hp:=ah->Option HO
def upd(H:Hp)(a:ah)(o:HO):Hp:=λb=>if b=a then aa o else H b
theorem cF{H:Hp}{a:ah}{o:HO}:upd H a o a=aa o:=by unfold upd;rw[if_pos rfl]
theorem cp{H:Hp}{a b:ah}{o:HO}(h:b≠a):upd H a o b=H b:=by unfold upd;rw[if_neg h]
theorem Mq{H:Hp}{a b:ah}{o u:HO}(h:H a=aa o)(h':H b=aa u)(d:o≠u):a≠b:=by intro e;subst e;rw[h]at h';exact d (eV h')
theorem mT{H:Hp}{a b:ah}{o:HO}(h:H a=aa o)(h':H b=ae):a≠b:=by
 intro e;subst e;rw[h]at h';cases h'
def Kl(h:aI)(a:ah)(X4:Array ak):Prop:=IsTup h a X4/\∃o,h.get? a=aa o/\o.dict=ae
theorem Kl.new(h:aI)(its:Array ak):Kl (h.push {cls:=.type "tuple",data:=.seq its}) h.objs.size its:=⟨IsTup.new _ _,_,df _ rfl,rfl⟩
section
variable(P:aZ)(w:aT)
def dS(H:Hp)(h:aI)(a:ah):HO->Prop
 |.lst xs=>xs.length<=bw/\∃(its:List ak) (n:Nat),bX xs its/\h.get? a=aa {cls:=.type "list",data:=.seq its.toArray n}
 |.tup xs=>xs.length<=bw/\∃its:List ak,bX xs its/\Kl h a its.toArray
 |.dK XN=>XN.length<=bw/\(a == ou)=am/\∃vs,KV XN vs/\h.DictOf (gM P w) a vs
 |.dT XN=>XN.length<=bw/\(a == ou)=am/\∃xs:List (List aS×ah×ak),
   nj (λ(p:List aS×V) (q:List aS×ah×ak)=>p.1=q.1/\H q.2.1=aa (.tup (p.1.map kV))/\RelV p.2 q.2.2) XN xs /\
   ∃o es ep,h.get? a=aa o/\o.ExactDict/\o.data=.dict es ep/\es.toList=xs.map (entryOfKey (v7 (gM P w)))/\(xs.map (·.1)).Nodup
 |.set S n=>h.SetOf (intKind P w) a S n
 |.ins C dx fs=>H dx=aa (.own a)/\fs.length<=1000/\dx≠a/\h.get? a=aa (PySem.W.instObj C dx) /\
   ∃mA,h.Ns1 dx mA/\(∀f,p6 (fs.lookup f) (mA f))/\PySem.Within mA (fs.map (·.1))
 |.own _=>∃o,h.get? a=aa o
 |.xd fs=>∃mA,h.Ns1 a mA/\∀f,p6 (fs.lookup f) (mA f)
 |.rng lo hi=>∃t u v,h.get? a=aa {cls:=.type "range",data:=.fields #[.int lo t,.int hi u,.int 1 v]}
 |.frz o u=>h.get? a=aa o/\dS H h a u
 |.tbl q=>∃ps:Array ak,h.get? a=aa {cls:=.none,data:=.fields ps}/\TriplesOk ps.toList/\∀pos cv,v8 pos ps.toList=aa cv->∃c,cv=.ref c/\H c=aa (.own a)/\h.CodeRec cv q
 |.met f x=>h.get? a=aa (Kn (.ref f) (.ref x))
 |.ext φ=>φ h/\(∃o,h.get? a=aa o)/\∀h1 h2:aI,φ h1->(∀o,h1.get? a=aa o->h2.get? a=aa o)->φ h2
def dO(H:Hp)(h:aI):Prop:=∀a o,H a=aa o->dS P w H h a o
end
section
variable{P:aZ}{w:aT}{H H':Hp}{h h':aI}{a:ah}{o:HO}
theorem dS.lt(x:dS P w H h a o):a<h.objs.size:=by
 cases o with
 |lst xs=>obtain⟨_,_,_,_,e⟩:=x;exact bD e
 |tup xs=>obtain⟨_,_,_,p,_⟩:=x;exact p.lt
 |dK XN=>obtain⟨_,_,_,_,o,_,_,e,_⟩:=x;exact bD e
 |dT XN=>obtain⟨_,_,_,_,o,_,_,e,_⟩:=x;exact bD e
 |set S n=>obtain⟨o,_,_,_,e,_⟩:=x;exact bD e
 |ins C dx fs=>obtain⟨_,_,_,e,_⟩:=x;exact bD e
 |own y=>obtain⟨_,e⟩:=x;exact bD e
 |xd fs=>obtain⟨_,⟨_,_,_,e,_⟩,_⟩:=x;exact bD e
 |rng lo hi=>obtain⟨_,_,_,e⟩:=x;exact bD e
 |frz ob u=>obtain⟨e,_⟩:=x;exact bD e
 |tbl q=>obtain⟨_,e,_⟩:=x;exact bD e
 |met f y=>exact bD (show h.get? a=aa _ from x)
 |ext φ=>obtain⟨_,⟨_,e⟩,_⟩:=x;exact bD e
theorem Paired.mapP{α β:Type}{F G:α->β->Prop}:∀{lP:List α}{mt:List β},nj F lP mt->(∀a b,F a b->G a b)->nj G lP mt
 |_,_,.nil,_=>.nil
 |_,_,.cons r t,f=>.cons (f _ _ r) (Paired.mapP t f)
theorem dS.stay(x:dS P w H h a o)(k:∀b u,(b=a\/H b=aa (.own a))->h.get? b=aa u->h'.get? b=aa u)(ho:∀b,H b=aa (.own a)->H' b=aa (.own a)) (ht:∀b xs,H b=aa (.tup xs)->H' b=aa (.tup xs)):dS P w H' h' a o:=by
 induction o with
 |lst xs=>obtain⟨z,its,n,r,e⟩:=x;exact⟨z,its,n,r,k _ _ (.inl rfl) e⟩
 |tup xs=>obtain⟨z,its,r,⟨ob,e,c⟩,o2,e2,c2⟩:=x;exact⟨z,its,r,⟨ob,k _ _ (.inl rfl) e,c⟩,o2,k _ _ (.inl rfl) e2,c2⟩
 |dK XN=>obtain⟨z,y,vs,r,ob,es,ep,e,c⟩:=x;exact⟨z,y,vs,r,ob,es,ep,k _ _ (.inl rfl) e,c⟩
 |dT XN=>obtain⟨z,y,xs,r,ob,es,ep,e,c⟩:=x;exact⟨z,y,xs,Paired.mapP r λp q z=>⟨z.1,ht _ _ z.2.1,z.2.2⟩,ob,es,ep,k _ _ (.inl rfl) e,c⟩
 |set S n=>obtain⟨ob,es,ep,t,e,c⟩:=x;exact⟨ob,es,ep,t,k _ _ (.inl rfl) e,c⟩
 |ins C dx fs=>obtain⟨d,z,ne,e,mA,⟨od,es,ep,e2,c⟩,r⟩:=x;exact⟨ho _ d,z,ne,k _ _ (.inl rfl) e,mA,⟨od,es,ep,k _ _ (.inr d) e2,c⟩,r⟩
 |own y=>obtain⟨ob,e⟩:=x;exact⟨ob,k _ _ (.inl rfl) e⟩
 |xd fs=>obtain⟨mA,⟨od,es,ep,e,c⟩,r⟩:=x;exact⟨mA,⟨od,es,ep,k _ _ (.inl rfl) e,c⟩,r⟩
 |rng lo hi=>obtain⟨t,u,v,e⟩:=x;exact⟨t,u,v,k _ _ (.inl rfl) e⟩
 |frz ob u ih=>obtain⟨e,q⟩:=x;exact⟨k _ _ (.inl rfl) e,ih q⟩
 |tbl q=>
  obtain⟨ps,e,t,g⟩:=x;refine⟨ps,k a _ (.inl rfl) e,t,λpos cv hc=>?_⟩;obtain⟨c,rfl,h1,c2,o,vs,tk,e2,e3,r⟩:=g pos cv hc;cases e2;exact⟨c,rfl,ho c h1,c,o,vs,tk,rfl,k c _ (.inr h1) e3,r⟩
 |met f y=>have e:h.get? a=aa (Kn (.ref f) (.ref y)):=x;show h'.get? a=aa (Kn (.ref f) (.ref y));exact k a _ (.inl rfl) e
 |ext φ=>obtain⟨p,⟨o,e⟩,st⟩:=x;exact⟨st _ _ p λo q=>k _ _ (.inl rfl) q,⟨o,k _ _ (.inl rfl) e⟩,st⟩
theorem dO.lt(x:dO P w H h)(e:H a=aa o):a<h.objs.size:=(x a o e).lt
theorem dO.fresh(x:dO P w H h)(e:h.objs.size<=a):H a=ae:=by
 cases q:H a with
 |none=>rfl
 |some u=>exact absurd (fI (x.lt q) e) (fu _)
theorem dO.kept(x:dO P w H h)(k:∀b u,h.get? b=aa u->h'.get? b=aa u):dO P w H h':=λa o e=>(x a o e).stay (λb u _ q=>k b u q) (λ_ q=>q) λ_ _ q=>q
theorem dO.laid(x:dO P w H h)(k:∀b u,h.get? b=aa u->h'.get? b=aa u)(hp:h.objs.size<=a)(new:dS P w (upd H a o) h' a o):dO P w (upd H a o) h':=λb u e=>by
 have hn:=x.fresh hp;by_cases hb:b=a
 ·subst hb;rw[cF]at e;cases e;exact new
 ·rw[cp hb]at e;exact(x b u e).stay (λc v _ q=>k c v q) (λc q=>by rw[cp (mT q hn)];exact q) λc xs q=>by rw[cp (mT q hn)];exact q
end
def Rd(H:Hp)(a:ah)(u:HO):Prop:=H a=aa u\/∃o,H a=aa (.frz o u)
theorem Rd.ok{P:aZ}{w:aT}{H:Hp}{h:aI}{a:ah}{u:HO}(r:Rd H a u)(x:dO P w H h):dS P w H h a u:=by
 rcases r with r|⟨o,r⟩
 ·exact x a u r
 ·obtain⟨_,q⟩:=x a _ r;exact q
def u9:Option HO->Prop
 |some (.lst _)=>True
 |some (.dK _)=>True
 |some (.dT _)=>True
 |some (.set _ _)=>True
 |some (.ins _ _ _)=>True
 |some (.ext _)=>True
 |_=>False
section
variable{P:aZ}{w:aT}{H:Hp}{h h':aI}{x e:ah}{o':HO}
theorem dO.write(ok:dO P w H h)(mu:u9 (H x))(he:e=x\/H e=aa (.own x))(k:∀b u,b≠e->h.get? b=aa u->h'.get? b=aa u)(uo:∃u,h'.get? e=aa u)(new:dS P w (upd H x o') h' x o'):dO P w (upd H x o') h':=λb u q=>by
 have nown:∀c y,H c=aa (.own y)->c≠x:=λc y r z=>by subst z;rw[r]at mu;exact mu
 have ntup:∀c xs,H c=aa (.tup xs)->c≠x:=λc xs r z=>by subst z;rw[r]at mu;exact mu
 by_cases hb:b=x
 ·subst hb;rw[cF]at q;cases q;exact new
 ·rw[cp hb]at q;by_cases my:b=e
  ·have q':H b=aa (.own x):=by
    rcases he with z|z
    ·exact absurd (my.trans z) hb
    ·rw[my];exact z
   rw[q]at q';cases q';obtain⟨v,hv⟩:=uo;exact⟨v,by rw[my];exact hv⟩
  ·refine(ok b u q).stay (λc v hc r=>k c v ?_ r) (λc r=>by rw[cp (nown c b r)];exact r) λc xs r=>by rw[cp (ntup c xs r)];exact r
   rcases hc with rfl|hc
   ·exact my
   ·rintro rfl;rcases he with z|z
    ·exact nown c b hc z
    ·rw[hc]at z;cases z;exact hb rfl
end
structure Un(fs ex:List ah)(H H':Hp)(h h':aI):Prop where
 keep:∀b o,h.get? b=aa o->H b=ae->b∉fs->b∉ex->h'.get? b=aa o
 slot:∀b o,h.get? b=aa o->H b=ae->b∈fs->b∉ex->∃sl,h'.get? b=aa {o with slots:=sl}
 free:∀b o,h.get? b=aa o->H b=ae->b∉ex->H' b=ae
 there:∀b o,h.get? b=aa o->b∉ex->∃o',h'.get? b=aa o'
 tups:∀b xs,H b=aa (.tup xs)->H' b=aa (.tup xs)
 frzs:∀b o u,H b=aa (.frz o u)->H' b=aa (.frz o u)
 tbls:∀b q,H b=aa (.tbl q)->H' b=aa (.tbl q)
section
variable{fs fs' ex ex':List ah}{H H1 H2:Hp}{h h1 h2 h':aI}{a x e:ah}{o:HO}
theorem Un.any(u:Un fs ex H H1 h h1){b:ah}{ob:Obj}(q:h.get? b=aa ob)(n:H b=ae)(hx:b∉ex):∃sl,h1.get? b=aa {ob with slots:=sl}:=by
 by_cases hb:b∈fs
 ·exact u.slot b ob q n hb hx
 ·exact⟨ob.slots,u.keep b ob q n hb hx⟩
theorem Un.kept(k:∀b u,h.get? b=aa u->h'.get? b=aa u):Un fs ex H H h h' :=⟨λb ob q _ _ _=>k b ob q,λb ob q _ _ _=>⟨ob.slots,k b ob q⟩,λ_ _ _ n _=>n,λb ob q _=>⟨ob,k b ob q⟩,λ_ _ q=>q,λ_ _ _ q=>q,λ_ _ q=>q⟩
theorem Un.refl:Un fs ex H H h h:=Un.kept λ_ _ q=>q
theorem Un.laid(k:∀b u,h.get? b=aa u->h'.get? b=aa u)(hp:h.objs.size<=a)(hn:H a=ae):Un fs ex H (upd H a o) h h' where
 keep:=λb u q _ _ _=>k b u q
 slot:=λb u q _ _ _=>⟨u.slots,k b u q⟩
 free:=λb u q n _=>by rw[cp (cX (fI (bD q) hp))];exact n
 there:=λb u q _=>⟨u,k b u q⟩
 tups:=λb xs q=>by rw[cp (mT q hn)];exact q
 frzs:=λb u xs q=>by rw[cp (mT q hn)];exact q
 tbls:=λb ps q=>by rw[cp (mT q hn)];exact q
theorem Un.write(mu:u9 (H x))(he:e=x\/H e=aa (.own x))(k:∀b u,b≠e->h.get? b=aa u->h'.get? b=aa u)(uo:∃u,h'.get? e=aa u):Un fs ex H (upd H x o) h h':=by
 have hx:∀b,H b=ae->b≠x:=λb n z=>by subst z;rw[n]at mu;exact mu
 have hb:∀b,H b=ae->b≠e:=λb n z=>by
  subst z;rcases he with r|r
  ·exact hx b n r
  ·rw[n]at r;cases r
 have hm:∀b u,H b=aa u->¬u9 (aa u)->b≠x:=λb u q nm z=>by subst z;rw[q]at mu;exact nm mu
 refine⟨λb u q n _ _=>k b u (hb b n) q,λb u q n _ _=>⟨u.slots,k b u (hb b n) q⟩,λb u q n _=>by rw[cp (hx b n)];exact n,λb u q _=>?_,
  λb xs q=>by rw[cp (hm b _ q λz=>z)];exact q,λb u xs q=>by rw[cp (hm b _ q λz=>z)];exact q,λb ps q=>by rw[cp (hm b _ q λz=>z)];exact q⟩
 by_cases my:b=e
 ·subst my;exact uo
 ·exact⟨u,k b u my q⟩
end
def y3(h:aI)(H:Hp):List ah:=(bF h.objs.size).filter λa=>(H a).isSome
def nZ(h:aI)(H:Hp):aI:=PySem.W.hideAll h (y3 h H)
theorem LK(h:aI)(H:Hp):(nZ h H).objs.size=h.objs.size:=PySem.W.hideAll_size _ _
theorem Qo{h:aI}{H:Hp}{b:ah}{o:Obj}(e:h.get? b=aa o)(n:H b=ae):(nZ h H).get? b=aa o :=PySem.W.hideAll_get _ e λhm=>by have q:(H b).isSome=ai:=(nq.mp hm).2;rw[n]at q;simp at q
theorem WI{h:aI}{H:Hp}{b:ah}{o:Obj}(e:(nZ h H).get? b=aa o):h.get? b=aa o/\H b=ae:=by
 have e':h.get? b=aa o:=PySem.W.of_hideAll (y3 h H) e;refine⟨e',?_⟩;cases q:H b with
 |none=>rfl
 |some x=>
  have hm:b∈y3 h H:=nq.mpr ⟨nr.mpr (bD e'),by simp[q]⟩;have z:(nZ h H).get? b=ae:=PySem.W.hideAll_none (y3 h H) hm;rw[z]at e;cases e
def SE(g h:aI)(L:ah):List (ah×Obj):=(bF h.objs.size).filterMap λa=>if a=L\/(g.get? a).isSome=ai then ae else(h.get? a).map λo=>(a,o)
def rest(g h:aI)(L d:ah):List (ah×Obj):=(SE g h L).filter λp=>decide (p.1≠d)
structure Mod(K:aC)(mg:Str->Option ak)(base:aI):Prop where
 kin:K.In base
 glob:base.Ns cf mg
 blt:∃mb,base.Ns rJ mb/\∀x:Str,x≠"__name__"->mb x=fz x
 nolimit:base.NoLimit
 bm:∃bm ob,mg "__builtins__" = aa (.ref bm)/\bm≠rJ/\base.get? bm=aa ob/\ob.cls=.type "module"/\ob.dict=aa rJ/\ob.data=.plain
set_option genInjectivity false in
structure Cx where
 prog:aZ
 w:aT
 K:aC
 mg:Str->Option ak
 base:aI
 A:bd
 N:List Str
 tM:aq
 uM:Hp
 env:Env
 outer:List Env
 stack:List Env
 ex:List ah
 fn:Str->Bool
 calm:Bool
 pn:List (ah×Obj)
 xe:ak->aq->Prop
def fV(l:List Env):List ah:=l.filterMap (·.frame)
abbrev Cx.fs(X:Cx):List ah:=fV X.outer
def fP(sc:d8)(x:Str):Prop:=sc.names.lookup x=aa .local\/sc.names.lookup x=aa .cell\/sc.names.lookup x=aa .free
def Loc(sc:d8)(x:Str):Prop:=sc.names.lookup x=aa .local\/sc.names.lookup x=aa .cell
def Look(env:Env)(h:aI)(m:Str->Option ak)(x:Str)(u:ak):Prop :=(env.kindOf x=aa .local/\m x=aa u)\/((env.kindOf x=aa .cell\/env.kindOf x=aa .free)/\∃c,env.cells.lookup x=aa c/\h.IsCell c (aa u))
def vT:List Str:=["road"]
def xF(K:aC)(H:Hp):Prop:=∀x∈vT,∀c P,l_ K x=aa (c,P)->H P=aa (.tbl (x++".<locals>.<lambda>"))
set_option genInjectivity false in
structure Cx.Ok(X:Cx):Prop where
 mod:Mod X.K X.mg X.base
 kind:X.env.scope.kind=.function
 glob:X.env.globals=cf
 blt:X.env.builtins=rJ
 above:X.tM.heap.objs.size<=X.env.locals
 inj:∀x y c,X.env.cells.lookup x=aa c->X.env.cells.lookup y=aa c->x=y
 has:∀x,(X.env.kindOf x=aa .cell\/X.env.kindOf x=aa .free)->∃c,X.env.cells.lookup x=aa c
 cab:∀x c,X.fn x=ai->X.env.cells.lookup x=aa c->X.tM.heap.objs.size<=c
 hd:X.calm=ai->X.A.handled=ae
 frames:X.A.frames=aa X.stack
 stk:X.stack=X.outer\/(X.stack=X.env::X.outer/\X.env.frame=aa X.env.locals)
 exf:∀b∈X.ex,b≠X.env.locals/\∀x c,X.env.cells.lookup x=aa c->c≠b
 bs:∀b o,X.base.get? b=aa o->X.tM.heap.get? b=aa o/\X.uM b=ae
 bsz:X.base.objs.size<=X.tM.heap.objs.size
 noex:∀b o,X.base.get? b=aa o->b∉X.ex
 exfs:∀b∈X.ex,b∉X.fs
 funs:X.tM.heap.FunFrames X.base X.outer
 frf:∀b∈X.fs,X.uM b=ae
 tab:xF X.K X.uM
structure Inv(X:Cx)(af:List (ah×Obj))(Y:List (Option V))(H:Hp)(s:aq):Prop where
 ok:X.Ok
 os:s.os=X.tM.os
 bare:ox s.gens
 base:Un X.fs X.ex X.uM H X.tM.heap s.heap
 loc:∃m,s.heap.Ns X.env.locals m/\∀(i:Nat) (x:Str) (v:V),X.N[i]?=aa x->Y[i]?=aa (aa v)->fP X.env.scope x->∃u,RelV v u/\Look X.env s.heap m x u
 cell:∀x c,X.env.cells.lookup x=aa c->∃v,s.heap.IsCell c v
 free:H X.env.locals=ae
 freeC:∀x c,X.env.cells.lookup x=aa c->H c=ae
 pin:∀p∈X.pn++af,s.heap.get? p.1=aa p.2/\H p.1=ae/\p.1≠X.env.locals/\p.1∉X.fs/\∀v,p.2.data≠.cell v
 hok:dO X.prog X.w H s.heap
 len:Y.length=X.N.length
section
variable{X:Cx}{af:List (ah×Obj)}{Y:List (Option V)}{H H':Hp}{s:aq}{h':aI}
theorem Cx.Ok.nofr(ok:X.Ok){b:ah}{o:Obj}(e:X.base.get? b=aa o):b∉X.fs:=λhb=>by
 have:=(ok.funs.mem hb).1;rw[e]at this;cases this
theorem Inv.bs(I:Inv X af Y H s):∀b o,X.base.get? b=aa o->s.heap.get? b=aa o/\H b=ae:=λb o e=>⟨I.base.keep b o (I.ok.bs b o e).1 (I.ok.bs b o e).2 (I.ok.nofr e) (I.ok.noex b o e),I.base.free b o (I.ok.bs b o e).1 (I.ok.bs b o e).2 (I.ok.noex b o e)⟩
theorem Inv.bk(I:Inv X af Y H s):∀b o,X.base.get? b=aa o->s.heap.get? b=aa o:=λb o e=>(I.bs b o e).1
theorem Inv.mod(I:Inv X af Y H s):Mod X.K X.mg X.base:=I.ok.mod
theorem Inv.kIn(I:Inv X af Y H s):X.K.In s.heap:=I.ok.mod.kin.keeps I.bk
theorem Inv.lt(I:Inv X af Y H s):X.env.locals<s.heap.objs.size:=let ⟨_,hn,_⟩:=I.loc;hn.lt
theorem Inv.sz(I:Inv X af Y H s):X.tM.heap.objs.size<=s.heap.objs.size:=dj I.ok.above (nt I.lt)
theorem Inv.nofs(I:Inv X af Y H s){a:ah}(h:s.heap.objs.size<=a):a∉X.fs:=λhb=>by obtain⟨_,o,ho,_⟩:=I.ok.funs.mem hb;exact absurd (fI (bD ho) (dj I.sz h)) (fu _)
theorem Inv.cne(I:Inv X af Y H s):∀x c,X.env.cells.lookup x=aa c->c≠X.env.locals:=λx c e z=>by
 obtain⟨v,o,ho,hd⟩:=I.cell x c e;obtain⟨m,⟨o',es,ep,jU,hd',_⟩,_⟩:=I.loc;rw[z,jU]at ho;cases ho;rw[hd']at hd;cases hd
theorem Inv.tab(I:Inv X af Y H s):xF X.K H:=λx hx c P h=>I.base.tbls P _ (I.ok.tab x hx c P h)
theorem Inv.funs(I:Inv X af Y H s):s.heap.FunFrames X.base X.outer:=by
 have all:∀(l:List Env),(∀b∈fV l,b∈X.fs)->X.tM.heap.FunFrames X.base l->s.heap.FunFrames X.base l:=by
  intro l
  induction l with
  |nil=>intro _ _;trivial
  |cons env r ih=>intro hs hl;obtain⟨hk,⟨L,o,hf,hn,ho,hd⟩,hr⟩:=hl;have hL:L∈X.fs:=hs L (by unfold fV;rw[ma,hf];exact oy);obtain⟨sl,e⟩:=I.base.slot L o ho (I.ok.frf L hL) hL λz=>I.ok.exfs L z hL;exact⟨hk,⟨L,_,hf,hn,e,hd⟩,ih (λb hb=>hs b (by unfold fV;rw[ma,hf];exact me _ hb)) hr⟩
 exact all X.outer (λ_ hb=>hb) I.ok.funs
theorem Inv.stack(I:Inv X af Y H s):s.heap.FunFrames X.base X.stack:=by
 rcases I.ok.stk with e|⟨e,hf⟩
 ·rw[e];exact I.funs
 ·rw[e];obtain⟨m,hn,_⟩:=I.loc;refine .cons (by rw[I.ok.kind];decide) hf hn ?_ I.funs;exact Dz (dj I.ok.bsz I.ok.above)
theorem Inv.stkSub(I:Inv X af Y H s):∀b∈fV X.stack,b∈X.env.locals::X.fs:=λb hb=>by
 rcases I.ok.stk with e|⟨e,hf⟩
 ·rw[e]at hb;exact me _ hb
 ·rw[e]at hb;unfold fV at hb;rw[ma,hf]at hb;exact hb
theorem Inv.stkFree(I:Inv X af Y H s):∀b∈fV X.stack,H b=ae:=λb hb=>by
 rcases b8.mp (I.stkSub b hb)with e|hb
 ·rw[e];exact I.free
 ·obtain⟨_,o,ho,_⟩:=I.ok.funs.mem hb;exact I.base.free b o ho (I.ok.frf b hb) λz=>I.ok.exfs b z hb
theorem Inv.step{g':Array GenState}{t':Nat}{d':Drawn}{ch:List ah}(I:Inv X af Y H s)(nI:∀b∈ch,(b∈X.ex\/X.tM.heap.objs.size<=b)/\b≠X.env.locals/\(∀x c,X.env.cells.lookup x=aa c->c≠b)/\∀p∈X.pn++af,p.1≠b)(keep:∀b o,b≠X.env.locals->b∉X.fs->b∉ch->s.heap.get? b=aa o->H b=ae->h'.get? b=aa o)(slot:∀b o,b≠X.env.locals->b∈X.fs->b∉ch->s.heap.get? b=aa o->H b=ae->∃sl,h'.get? b=aa {o with slots:=sl}) (free:∀b o,b∉ch->s.heap.get? b=aa o->H b=ae->H' b=ae)(there:∀b o,b∉ch->s.heap.get? b=aa o->∃o',h'.get? b=aa o')(tups:∀b xs,H b=aa (.tup xs)->H' b=aa (.tup xs)) (frzs:∀b o u,H b=aa (.frz o u)->H' b=aa (.frz o u)) (tbls:∀b q,H b=aa (.tbl q)->H' b=aa (.tbl q))(ns:∀m,s.heap.Ns X.env.locals m->h'.Ns X.env.locals m) (hok:dO X.prog X.w H' h') (hg:ox g'):Inv X af Y H' {s with heap:=h',gens:=g',drawn:=d',toks:=t'}:=by
 have neL:∀b o,X.tM.heap.get? b=aa o->b≠X.env.locals:=λb o e=>cX (fI (bD e) I.ok.above);have neC:∀b o,X.tM.heap.get? b=aa o->b∉X.ex->b∉ch:=λb o e hx hb=>by
  rcases(nI b hb).1 with z|z
  ·exact hx z
  ·exact absurd (fI (bD e) z) (fu _)
 have cellK:∀x c,X.env.cells.lookup x=aa c->∀v,s.heap.IsCell c v->h'.IsCell c v:=λx c e v ⟨o,ho,hd⟩=>by
  have nch:c∉ch:=λz=>(nI c z).2.2.1 x c e rfl;by_cases hc:c∈X.fs
  ·obtain⟨sl,q⟩:=slot c o (I.cne x c e) hc nch ho (I.freeC x c e);exact⟨_,q,hd⟩
  ·exact⟨o,keep c o (I.cne x c e) hc nch ho (I.freeC x c e),hd⟩
 refine⟨I.ok,I.os,hg,⟨λb o e n hb hx=>?_,λb o e n hb hx=>?_,λb o e n hx=>?_,λb o e hx=>?_,λb xs e=>tups b xs (I.base.tups b xs e),λb o xs e=>frzs b o xs (I.base.frzs b o xs e),λb ps e=>?_⟩,?_,λx c e=>?_,?_,λx c e=>?_,λp hp=>?_,hok,I.len⟩
 ·exact keep b o (neL b o e) hb (neC b o e hx) (I.base.keep b o e n hb hx) (I.base.free b o e n hx)
 ·obtain⟨sl,e1⟩:=I.base.slot b o e n hb hx;obtain⟨sl',e2⟩:=slot b _ (neL b o e) hb (neC b o e hx) e1 (I.base.free b o e n hx);exact⟨sl',e2⟩
 ·obtain⟨o',e1⟩:=I.base.there b o e hx;exact free b o' (neC b o e hx) e1 (I.base.free b o e n hx)
 ·obtain⟨o',e1⟩:=I.base.there b o e hx;exact there b o' (neC b o e hx) e1
 ·exact tbls b _ (I.base.tbls b ps e)
 ·obtain⟨m,hn,hl⟩:=I.loc;refine⟨m,ns m hn,λi x v e1 e2 e3=>?_⟩;obtain⟨u,r,l⟩:=hl i x v e1 e2 e3;refine⟨u,r,?_⟩;rcases l with l|⟨k,c,e,z⟩
  ·exact .inl l
  ·exact .inr ⟨k,c,e,cellK x c e _ z⟩
 ·obtain⟨v,z⟩:=I.cell x c e;exact⟨v,cellK x c e v z⟩
 ·obtain⟨m,⟨o,_,_,ho,_⟩,_⟩:=I.loc;exact free _ o (λz=>(nI _ z).2.1 rfl) ho I.free
 ·obtain⟨v,o,ho,hd⟩:=I.cell x c e;exact free c o (λz=>(nI c z).2.2.1 x c e rfl) ho (I.freeC x c e)
 ·obtain⟨e,n,ne,nf,d⟩:=I.pin p hp;have nch:p.1∉ch:=λz=>(nI p.1 z).2.2.2 p hp rfl;exact⟨keep p.1 p.2 ne nf nch e n,free p.1 p.2 nch e n,ne,nf,d⟩
theorem Inv.un{t':Nat}(I:Inv X af Y H s)(u:Un X.fs [] H H' s.heap h')(hok:dO X.prog X.w H' h'):Inv X af Y H' {s with heap:=h',toks:=t'}:=by
 obtain⟨m,⟨o,es,ep,ho,r⟩,_⟩:=id I.loc;obtain⟨sl,hL⟩:=u.any ho I.free (by simp);exact I.step (g':=s.gens) (d':=s.drawn) (ch:=[]) (λ_ z=>nomatch z) (λb o _ hb _ e n=>u.keep b o e n hb (by simp)) (λb o _ hb _ e n=>u.slot b o e n hb (by simp)) (λb o _ e n=>u.free b o e n (by simp)) (λb o _ e=>u.there b o e (by simp)) u.tups u.frzs u.tbls (λm' hm=>by
  obtain⟨o',es',ep',jU,r'⟩:=hm;rw[ho]at jU;cases jU;exact⟨_,es',ep',hL,r'⟩) hok I.bare
theorem Inv.call{g':Array GenState}{t':Nat}{d':Drawn}{ch:List ah}(I:Inv X af Y H s)(u:Un (fV X.stack) ch H H' s.heap h')(hok:dO X.prog X.w H' h')(hg:ox g')(nI:∀b∈ch,(b∈X.ex\/X.tM.heap.objs.size<=b)/\b≠X.env.locals/\(∀x c,X.env.cells.lookup x=aa c->c≠b)/\∀p∈X.pn++af,p.1≠b):Inv X af Y H' {s with heap:=h',gens:=g',drawn:=d',toks:=t'}:=by
 obtain⟨m,⟨o,es,ep,ho,r⟩,_⟩:=id I.loc;obtain⟨sl,hL⟩:=u.any ho I.free λz=>(nI _ z).2.1 rfl;exact I.step (ch:=ch) nI (λb o hL hb hc e n=>u.keep b o e n (λz=>(b8.mp (I.stkSub b z)).elim hL hb) hc) (λb o _ _ hc e n=>u.any e n hc) (λb o hc e n=>u.free b o e n hc) (λb o hc e=>u.there b o e hc) u.tups u.frzs u.tbls (λm' hm=>by
  obtain⟨o',es',ep',jU,r'⟩:=hm;rw[ho]at jU;cases jU;exact⟨_,es',ep',hL,r'⟩) hok hg
theorem Inv.turned{t':Nat}{it:ah}(I:Inv X af Y H s)(k:∀b o,b≠it->s.heap.get? b=aa o->h'.get? b=aa o)(hn:H it=ae)(hL:it≠X.env.locals)(h1:it∈X.ex\/X.tM.heap.objs.size<=it) (h2:∀x c,X.env.cells.lookup x=aa c->c≠it) (h3:∀p∈X.pn++af,p.1≠it):Inv X af Y H {s with heap:=h',toks:=t'}:=by
 have nit:∀b u,H b=aa u->b≠it:=λb u e z=>by rw[z,hn]at e;cases e
 refine I.step (g':=s.gens) (d':=s.drawn) (ch:=[it]) (λb hb=>?_) (λb o _ _ hc e _=>k b o (λz=>hc (by simp[z])) e) (λb o _ _ hc e _=>⟨o.slots,k b o (λz=>hc (by simp[z])) e⟩) (λ_ _ _ _ n=>n)
  (λb o hc e=>⟨o,k b o (λz=>hc (by simp[z])) e⟩) (λ_ _ e=>e) (λ_ _ _ e=>e) (λ_ _ e=>e) (λm hm=>?_) (λb u e=>?_) I.bare
 ·have e:b=it:=by simpa using hb
  subst e;exact⟨h1,hL,h2,h3⟩
 ·obtain⟨o,es,ep,ho,r⟩:=hm;exact⟨o,es,ep,k _ o (fY hL) ho,r⟩
 ·refine(I.hok b u e).stay (λc v hc q=>k c v ?_ q) (λ_ q=>q) λ_ _ q=>q;rcases hc with z|z
  ·rw[z];exact nit b u e
  ·exact nit c _ z
theorem Inv.tok(I:Inv X af Y H s)(t:Nat):Inv X af Y H {s with toks:=t}:=I.un (h':=s.heap) (t':=t) Un.refl I.hok
theorem Inv.kept{t':Nat}(I:Inv X af Y H s)(k:∀b u,s.heap.get? b=aa u->h'.get? b=aa u):Inv X af Y H {s with heap:=h',toks:=t'}:=I.un (Un.kept k) (I.hok.kept k)
theorem Inv.laid{a:ah}{o:HO}{t':Nat}(I:Inv X af Y H s)(k:∀b u,s.heap.get? b=aa u->h'.get? b=aa u)(hp:s.heap.objs.size<=a)(new:dS X.prog X.w (upd H a o) h' a o):Inv X af Y (upd H a o) {s with heap:=h',toks:=t'}:=I.un (Un.laid k hp (I.hok.fresh hp)) (I.hok.laid k hp new)
theorem Inv.write{x e:ah}{o:HO}{t':Nat}(I:Inv X af Y H s)(mu:u9 (H x))(he:e=x\/H e=aa (.own x))(k:∀b u,b≠e->s.heap.get? b=aa u->h'.get? b=aa u)(uo:∃u,h'.get? e=aa u)(new:dS X.prog X.w (upd H x o) h' x o):Inv X af Y (upd H x o) {s with heap:=h',toks:=t'}:=I.un (Un.write mu he k uo) (I.hok.write mu he k uo new)
theorem Inv.pins_of{pins':List (ah×Obj)}(I:Inv X af Y H s)(h:∀p∈pins',s.heap.get? p.1=aa p.2/\H p.1=ae/\p.1≠X.env.locals/\p.1∉X.fs/\∀v,p.2.data≠.cell v):Inv X pins' Y H s :=⟨I.ok,I.os,I.bare,I.base,I.loc,I.cell,I.free,I.freeC,λp hp=>(gy.mp hp).elim (λz=>I.pin p (zM _ z)) (h p),I.hok,I.len⟩
theorem A5{N:List Str}(hN:N.Nodup){i j:Nat}{x:Str}(a:N[i]?=aa x)(b:N[j]?=aa x):i=j:=by obtain⟨h1,e1⟩:=d9.mp a;obtain⟨h2,e2⟩:=d9.mp b;exact(List.getElem_inj hN).mp (e1.trans e2.symm)
theorem IT{M:Model}{A:bd}{E:ak->aq->Prop}{i:Nat}{x:Str}{v:V}{u:ak}{Q:Unit->aq->Prop}(I:Inv X af Y H s)(hN:X.N.Nodup)(hi:X.N[i]?=aa x)(hx:Loc X.env.scope x)(r:RelV v u)(h:∀s',Inv X af (Y.set i (aa v)) H s'->(∃a,jq a s.heap s'.heap/\(a=X.env.locals\/X.env.cells.lookup x=aa a))->Q () s') (hf:X.fn x=ai\/X.env.scope.names.lookup x=aa .local:=by first|exact .inl rfl|exact .inr rfl|assumption):aA M A (storeName X.env x u) Q E s:=by
 obtain⟨m,hn,hl⟩:=id I.loc;have oW:(X.env.scope.kind == .class||(X.env.scope.kind == .module&&X.env.locals != X.env.globals))=am:=by rw[I.ok.kind];rfl
 have hiσ:i<Y.length:=by rw[I.len];exact(d9.mp hi).1
 have cne:=I.cne;have tracked:∀{a:ah}{h':aI},(∃o,s.heap.get? a=aa o/\H a=ae)->jq a s.heap h'->dO X.prog X.w H h':=λ{a h'} ha hs b ob e=>by
  obtain⟨_,_,wF⟩:=ha;refine(I.hok b ob e).stay (λc w' hc q=>(hs.2 c ?_).trans q) (λ_ q=>q) λ_ _ q=>q;rintro rfl;rcases hc with rfl|hc
  ·rw[wF]at e;cases e
  ·rw[wF]at hc;cases hc
 rcases hx with hk|hk
 ·refine wpAny_storeName_local hk hn (λh' wR hs=>?_) oW;obtain⟨oL,_,_,ur,_⟩:=id hn;refine h _ ⟨I.ok,I.os,I.bare,⟨λb o e n hb hx=>?_,λb o e n hb hx=>?_,I.base.free,λb o e hx=>?_,I.base.tups,I.base.frzs,I.base.tbls⟩,⟨_,wR,λj y v' e1 e2 e3=>?_⟩,λy c e=>?_,I.free,I.freeC,λp hp=>?_,tracked ⟨oL,ur,I.free⟩ hs,by simpa using I.len⟩ ⟨_,hs,.inl rfl⟩
  ·exact(hs.2 b (cX (fI (bD e) I.ok.above))).trans (I.base.keep b o e n hb hx)
  ·obtain⟨sl,e1⟩:=I.base.slot b o e n hb hx;exact⟨sl,(hs.2 b (cX (fI (bD e) I.ok.above))).trans e1⟩
  ·obtain⟨o',e1⟩:=I.base.there b o e hx;exact⟨o',(hs.2 b (cX (fI (bD e) I.ok.above))).trans e1⟩
  ·by_cases hj:j=i
   ·subst hj;rw[hi]at e1;cases e1;rw[im hiσ]at e2;cases e2;exact⟨u,r,.inl ⟨hk,by simp⟩⟩
   ·rw[fA (fY hj)]at e2;obtain⟨u',r',q⟩:=hl j y v' e1 e2 e3;refine⟨u',r',?_⟩;rcases q with⟨k,e⟩|⟨k,c,e,z⟩
    ·refine .inl ⟨k,?_⟩;have:y≠x:=λe=>hj (A5 hN e1 (e ▸ hi));simp[this,e]
    ·exact .inr ⟨k,c,e,z.sameBut hs (cne y c e)⟩
  ·obtain⟨w',z⟩:=I.cell y c e;exact⟨w',z.sameBut hs (cne y c e)⟩
  ·obtain⟨e,n,ne,nf,d⟩:=I.pin p hp;exact⟨(hs.2 p.1 ne).trans e,n,ne,nf,d⟩
 ·have hfn:X.fn x=ai:=by
   rcases hf with z|z
   ·exact z
   ·rw[z]at hk;cases hk
  obtain⟨c,hc⟩:=I.ok.has x (.inl hk);obtain⟨w',z⟩:=I.cell x c hc;refine wpAny_storeName_cell I.ok.kind hk hc z (λh' iN hs=>?_);obtain⟨oc,hoc,hocd⟩:=id z;refine h {s with heap:=h'} ⟨I.ok,I.os,I.bare,⟨λb o e n hb hx=>?_,λb o e n hb hx=>?_,I.base.free,λb o e hx=>?_,I.base.tups,I.base.frzs,I.base.tbls⟩,⟨m,hn.sameBut hs (fY (cne x c hc)),λj y v' e1 e2 e3=>?_⟩,λy c' e=>?_,I.free,I.freeC,λp hp=>?_,tracked ⟨oc,hoc,I.freeC x c hc⟩ hs,by simpa using I.len⟩ ⟨c,hs,.inr hc⟩
  ·exact(hs.2 b (cX (fI (bD e) (I.ok.cab x c hfn hc)))).trans (I.base.keep b o e n hb hx)
  ·obtain⟨sl,e1⟩:=I.base.slot b o e n hb hx;exact⟨sl,(hs.2 b (cX (fI (bD e) (I.ok.cab x c hfn hc)))).trans e1⟩
  ·obtain⟨o',e1⟩:=I.base.there b o e hx;exact⟨o',(hs.2 b (cX (fI (bD e) (I.ok.cab x c hfn hc)))).trans e1⟩
  ·by_cases hj:j=i
   ·subst hj;rw[hi]at e1;cases e1;rw[im hiσ]at e2;cases e2;exact⟨u,r,.inr ⟨.inl hk,c,hc,iN⟩⟩
   ·rw[fA (fY hj)]at e2;obtain⟨u',r',q⟩:=hl j y v' e1 e2 e3;refine⟨u',r',?_⟩;rcases q with q|⟨k,c',e,z'⟩
    ·exact .inl q
    ·refine .inr ⟨k,c',e,z'.sameBut hs ?_⟩;rintro rfl;exact hj (A5 hN e1 (I.ok.inj _ _ _ e hc ▸ hi))
  ·by_cases hcc:c'=c
   ·subst hcc;exact⟨_,iN⟩
   ·obtain⟨w2,z2⟩:=I.cell y c' e;exact⟨w2,z2.sameBut hs hcc⟩
  ·obtain⟨e,n,ne,nf,d⟩:=I.pin p hp;refine⟨(hs.2 p.1 ?_).trans e,n,ne,nf,d⟩;intro q;rw[q,hoc]at e;have q':oc=p.2:=eV e;exact d w' (by rw[←q'];exact hocd)
theorem vE{M:Model}{A:bd}{E:ak->aq->Prop}{i:Nat}{x:Str}{v:V}{u:ak}{Q:Unit->aq->Prop}(I:Inv X af Y H s)(hN:X.N.Nodup)(hi:X.N[i]?=aa x)(hx:Loc X.env.scope x)(r:RelV v u)(h:∀s',Inv X af (Y.set i (aa v)) H s'->Q () s') (hf:X.fn x=ai\/X.env.scope.names.lookup x=aa .local:=by first|exact .inl rfl|exact .inr rfl|assumption):aA M A (storeName X.env x u) Q E s :=IT I hN hi hx r (λs' I' _=>h s' I') hf
theorem Inv.call'{s':aq}{ch:List ah}(I:Inv X af Y H s)(ho:s'.os=s.os)(u:Un (fV X.stack) ch H H' s.heap s'.heap)(hok:dO X.prog X.w H' s'.heap)(hg:ox s'.gens)(nI:∀b∈ch,(b∈X.ex\/X.tM.heap.objs.size<=b)/\b≠X.env.locals/\(∀x c,X.env.cells.lookup x=aa c->c≠b)/\∀p∈X.pn++af,p.1≠b):Inv X af Y H' s':=by obtain⟨h',g',d',t',o'⟩:=s';have e:o'=s.os:=ho;subst e;exact I.call (g':=g') (t':=t') (d':=d') u hok hg nI
end
abbrev XK:=ak->Option ah->Hp->Prop
abbrev St:=List (Option V)
abbrev VK:=V->Hp->Prop
abbrev TE:=St->Hp->VK->Prop
abbrev TT:=St->Hp->(Bool->Hp->Prop)->Prop
abbrev TA:=St->Hp->(List V->Hp->Prop)->Prop
structure lT where
 nx:St->Hp->Prop
 rt:VK
 bk:St->Hp->Prop:=λ_ _=>False
 ct:St->Hp->Prop:=λ_ _=>False
abbrev TS:=lT->St->Hp->Prop
def EP(X:Cx)(af:List (ah×Obj))(Y:St)(Q:VK)(u:ak)(s':aq):Prop:=∃v H',Inv X af Y H' s'/\RelV v u/\Q v H'
def TP(X:Cx)(af:List (ah×Obj))(Y:St)(Q:Bool->Hp->Prop)(b:Bool)(s':aq):Prop:=∃H',Inv X af Y H' s'/\Q b H'
def AP(X:Cx)(af:List (ah×Obj))(Y:St)(Q:List V->Hp->Prop)(us:List ak)(s':aq):Prop:=∃vs H',Inv X af Y H' s'/\bX vs us/\Q vs H'
def SP(X:Cx)(af:List (ah×Obj))(D:lT)(f:Flow)(s':aq):Prop :=
 match f with
 |.next=>∃Y' H',Inv X af Y' H' s'/\D.nx Y' H'
 |.brk=>∃Y' H',Inv X af Y' H' s'/\D.bk Y' H'
 |.cont=>∃Y' H',Inv X af Y' H' s'/\D.ct Y' H'
 |.ret u=>∃v Y' H',Inv X af Y' H' s'/\RelV v u/\D.rt v H'
def PE(X:Cx)(e:aE)(t:TE):Prop :=
 ∀(af:List (ah×Obj)) (s:aq) (Y:St) (H:Hp) (Q:VK),Inv X af Y H s->t Y H Q->aA (aB X.prog X.w) X.A (bf e X.env) (EP X af Y Q) X.xe s
def PT(X:Cx)(e:aE)(t:TT):Prop :=
 ∀(af:List (ah×Obj)) (s:aq) (Y:St) (H:Hp) (Q:Bool->Hp->Prop),Inv X af Y H s->t Y H Q->aA (aB X.prog X.w) X.A (oz e X.env (bf e X.env)) (TP X af Y Q) X.xe s
def PW(X:Cx)(e:aE)(t:TT):Prop :=
 ∀(gF:Sem ak) (af:List (ah×Obj)) (s:aq) (Y:St) (H:Hp) (Q:Bool->Hp->Prop),Inv X af Y H s->t Y H Q->aA (aB X.prog X.w) X.A (oz e X.env gF) (TP X af Y Q) X.xe s
def PA(X:Cx)(es:List aE)(t:TA):Prop :=
 ∀(pos:Pos) (af:List (ah×Obj)) (s:aq) (Y:St) (H:Hp) (Q:List V->Hp->Prop),Inv X af Y H s->t Y H Q->aA (aB X.prog X.w) X.A (spliced (dR pos (aW es X.env))) (AP X af Y Q) X.xe s
def PS(X:Cx)(st:ba)(t:TS):Prop :=
 ∀(af:List (ah×Obj)) (s:aq) (Y:St) (H:Hp) (D:lT),Inv X af Y H s->t D Y H->aA (aB X.prog X.w) X.A (exec st X.env) (SP X af D) X.xe s
def lY(X:Cx)(st:List ba)(t:TS):Prop :=
 ∀(af:List (ah×Obj)) (s:aq) (Y:St) (H:Hp) (D:lT),Inv X af Y H s->t D Y H->aA (aB X.prog X.w) X.A (execs st X.env) (SP X af D) X.xe s
theorem a_{α:Type}{t:Sem α}{Q Q':α->aq->Prop}{M:Model}{A:bd}{E:ak->aq->Prop}{s:aq}(h:aA M A t Q E s)(hQ:∀a s,Q a s->Q' a s):aA M A t Q' E s:=dr h hQ λ_ _ x=>x
section
variable{X:Cx}
def Jx(i:Nat):TE:=λY H Q=>∃v,Y[i]?=aa (aa v)/\Q v H
def tC(v:V):TE:=λ_ H Q=>Q v H
theorem gL{i:Nat}{x:Str}{pos:Pos}(hN:X.N[i]?=aa x)(hv:fP X.env.scope x)(hd:(x == ("__debug__" : Str))=am:=by decide)(bL:(x == ("__classdict__" : Str))=am:=by decide):PE X (.Name x pos) (Jx i):=by
 intro af s Y H Q I h;obtain⟨v,e,h⟩:=h;obtain⟨m,hn,hl⟩:=I.loc;obtain⟨u,r,l⟩:=hl i x v hN e hv;have fin:EP X af Y Q u s:=⟨v,H,I,r,h⟩
 rcases l with⟨hk,hm⟩|⟨hk,c,hc,mw⟩
 ·exact zN (wpAny_loadName_local I.ok.kind hk hn hm fin) hd
 ·rcases hk with hk|hk
  ·exact zN (wpAny_loadName_cell I.ok.kind hk hc mw fin) hd
  ·exact zN (wpAny_loadName_free I.ok.kind hk hc mw fin bL) hd
theorem JJ{i j pos}:PE X (.Constant (.int i) j pos) (tC (.int i)):=λ_ _ _ H _ I h=>wpAny_Constant_int ⟨.int i,H,I.tok _,⟨_,rfl⟩,h⟩
theorem RS{b j pos}:PE X (.Constant (.bool b) j pos) (tC (.bl b)):=λ_ _ _ H _ I h=>Constant_bool ⟨.bl b,H,I,rfl,h⟩
theorem R8{j pos}:PE X (.Constant .none j pos) (tC .non):=λ_ _ _ H _ I h=>Constant_none ⟨.non,H,I,rfl,h⟩
theorem Qy{x j pos}:PE X (.Constant (.str x) j pos) (tC (.str x)):=λ_ _ _ H _ I h=>Calls.Constant_str ⟨.str x,H,I.tok _,⟨_,rfl⟩,h⟩
def Gl(X:Cx)(x:Str):Prop:=X.env.kindOf x=aa .globalImplicit
theorem vZ{E:ak->aq->Prop}{af:List (ah×Obj)}{s:aq}{Y:St}{H:Hp}{x:Str}{u:ak}{pos:Pos}{Q:ak->aq->Prop}(I:Inv X af Y H s)(hg:Gl X x)(hm:X.mg x=aa u)(h:Q u s)(hd:(x == ("__debug__" : Str))=am:=by decide):aA (aB X.prog X.w) X.A (bf (.Name x pos) X.env) Q E s :=Calls.Name_function_global I.ok.kind hg (Calls.loadGlobal_global (by rw[I.ok.glob];exact I.mod.glob.keeps I.bk) hm h) hd
theorem tK{E:ak->aq->Prop}{af:List (ah×Obj)}{s:aq}{Y:St}{H:Hp}{x:Str}{u:ak}{pos:Pos}{Q:ak->aq->Prop}(I:Inv X af Y H s)(hg:Gl X x)(hm:X.mg x=ae)(hv:fz x=aa u)(h:Q u s)(hn:x≠"__name__":=by decide) (hd:(x == ("__debug__" : Str))=am:=by decide):aA (aB X.prog X.w) X.A (bf (.Name x pos) X.env) Q E s:=by obtain⟨mb,h1,h2⟩:=I.mod.blt;exact Calls.Name_function_global I.ok.kind hg (Calls.loadGlobal_builtin (by rw[I.ok.glob];exact I.mod.glob.keeps I.bk) hm (by rw[I.ok.blt];exact h1.keeps I.bk) ((h2 x hn).trans hv) h) hd
theorem Cr{x:Str}{v:V}{u:ak}{pos:Pos}(hg:Gl X x)(hm:X.mg x=aa u)(r:RelV v u)(hd:(x == ("__debug__" : Str))=am:=by decide):PE X (.Name x pos) (tC v) :=λ_ _ _ H _ I h=>vZ I hg hm ⟨v,H,I,r,h⟩ hd
theorem P8{x:Str}{v:V}{u:ak}{pos:Pos}(hg:Gl X x)(hm:X.mg x=ae)(hv:fz x=aa u)(r:RelV v u)(hn:x≠"__name__":=by decide)(hd:(x == ("__debug__" : Str))=am:=by decide):PE X (.Name x pos) (tC v) :=λ_ _ _ H _ I h=>tK I hg hm hv ⟨v,H,I,r,h⟩ hn hd
variable{a b:aE}{ta tb:TE}{pos:Pos}
def PC(X:Cx)(op:CmpOp)(a b:aE)(t:TE):Prop :=
 ∀(af:List (ah×Obj)) (s:aq) (Y:St) (H:Hp) (Q:VK),Inv X af Y H s->t Y H Q ->
  aA (aB X.prog X.w) X.A (bf a X.env) (λv s₁=>aA (aB X.prog X.w) X.A (bf b X.env) (λu vP=>aA (aB X.prog X.w) X.A (eW op v u) (EP X af Y Q) X.xe vP) X.xe s₁) X.xe s
theorem J2(b:aE){op:CmpOp}(h:op≠.In)(h2:op≠.NotIn):nu op b=am:=by
 have e1:(op == CmpOp.In)=am:=by cases op <;> first|rfl|exact absurd rfl h
 have e2:(op == CmpOp.NotIn)=am:=by cases op <;> first|rfl|exact absurd rfl h2
 cases b <;> simp[nu,e1,e2]
def tB(t:TE):TT:=λY H Q=>t Y H λx H1=>∃c,x=.bl c/\Q c H1
theorem Oa{op:CmpOp}{t:TE}(h:PC X op a b t)(h1:nu op b=am:=by first|exact J2 _ (by decide) (by decide)|rfl):PE X (.Compare a [op] [b] pos) t:=λaf s Y H Q I hw=>wpAny_Compare1 (h af s Y H Q I hw) h1
theorem Jh{op:CmpOp}{t:TE}(h:PC X op a b t)(h1:nu op b=am:=by first|exact J2 _ (by decide) (by decide)|rfl):PT X (.Compare a [op] [b] pos) (tB t):=by
 intro af s Y H Q I hw;refine wpAny_isTrue_Compare1 (a_ (h af s Y H _ I hw) λv s1 h1=>a_ h1 λu s2 h2=>a_ h2 λc s3 ⟨x,H1,I1,r1,q1⟩=>?_) h1;obtain⟨d,rfl,q⟩:=q1;cases r1;exact oA ⟨H1,I1,q⟩
theorem TX{e:aE}{t:TE}(h:PE X e t)(he:∀gF,oz e X.env gF=(do let v ←gF;standAt e.pos;holding [v] (truthy v)):=by intro _;rfl):PT X e (tB t):=by
 intro af s Y H Q I hw;refine isTrue_plain (a_ (h af s Y H _ I hw) λv s1 ⟨x,H1,I1,r1,q1⟩=>?_) (he _);obtain⟨d,rfl,q⟩:=q1;cases r1;exact oA ⟨H1,I1,q⟩
variable{tA tB':TT}{rest:List aE}
def LN(t u:TT):TT:=λY H Q=>t Y H λc H1=>if c=ai then u Y H1 Q else Q am H1
def MT(t u:TT):TT:=λY H Q=>t Y H λc H1=>if c=ai then Q ai H1 else u Y H1 Q
def Vx(t:TT):TT:=λY H Q=>t Y H λc H1=>Q (!c) H1
theorem RQ(ha:PT X a tA):PW X (.BoolOp .And [a] pos) tA:=by
 intro wh af s Y H Q I h;refine isTrue_and (a_ (ha af s Y H Q I h) λc s1 e=>?_);cases c with
 |true=>exact isTrue_and_nil e
 |false=>exact e
theorem Qi(ha:PT X a tA):PW X (.BoolOp .Or [a] pos) tA:=by
 intro wh af s Y H Q I h;refine isTrue_or (a_ (ha af s Y H Q I h) λc s1 e=>?_);cases c with
 |false=>exact isTrue_or_nil e
 |true=>exact e
theorem P9(ha:PT X a tA)(hb:PW X (.BoolOp .And (b::rest) pos) tB'):PW X (.BoolOp .And (a::b::rest) pos) (LN tA tB'):=by
 intro wh af s Y H Q I h;refine isTrue_and (a_ (ha af s Y H _ I h) λc s1 ⟨H1,I1,q1⟩=>?_);cases c with
 |true=>exact hb wh af s1 Y H1 Q I1 q1
 |false=>exact⟨H1,I1,q1⟩
theorem R0(ha:PT X a tA)(hb:PW X (.BoolOp .Or (b::rest) pos) tB'):PW X (.BoolOp .Or (a::b::rest) pos) (MT tA tB'):=by
 intro wh af s Y H Q I h;refine isTrue_or (a_ (ha af s Y H _ I h) λc s1 ⟨H1,I1,q1⟩=>?_);cases c with
 |true=>exact⟨H1,I1,q1⟩
 |false=>exact hb wh af s1 Y H1 Q I1 q1
theorem N0(ha:PT X a tA):PT X (.UnaryOp .Not a pos) (Vx tA):=by intro af s Y H Q I h;exact isTrue_not (ha af s Y H (λc H1=>Q (!c) H1) I h)
def NR(ta tb:TE):TE:=λY H Q=>ta Y H λx H1=>∃c,x=.bl c/\if c=ai then tb Y H1 Q else Q (.bl am) H1
def QV(ta:TE):TE:=λY H Q=>ta Y H λx H1=>∃c,x=.bl c/\Q (.bl (!c)) H1
theorem O6{op}{t:TE}(h:PE X a t):PE X (.BoolOp op [a] pos) t:=λaf s Y H Q I hw=>BoolOp_one (h af s Y H Q I hw)
theorem L5(ha:PE X a ta)(hb:PE X (.BoolOp .And (b::rest) pos) tb):PE X (.BoolOp .And (a::b::rest) pos) (NR ta tb):=by
 intro af s Y H Q I h;refine BoolOp_and (a_ (ha af s Y H _ I h) λv s1 ⟨x,H1,I1,r1,q1⟩=>?_);obtain⟨c,rfl,q1⟩:=q1;cases r1;refine oA ?_;cases c with
 |true=>exact hb af s1 Y H1 Q I1 q1
 |false=>exact⟨.bl am,H1,I1,rfl,q1⟩
theorem UE(ha:PE X a ta):PE X (.UnaryOp .Not a pos) (QV ta):=by
 intro af s Y H Q I h;refine UnaryOp_ (a_ (ha af s Y H _ I h) λv s1 ⟨x,H1,I1,r1,q1⟩=>?_);obtain⟨c,rfl,q1⟩:=q1;cases r1;exact not_of (oA ⟨.bl (!c),H1,I1,rfl,q1⟩)
def Qs(t:TT)(ta tb:TE):TE:=λY H Q=>t Y H λc H1=>if c=ai then ta Y H1 Q else tb Y H1 Q
theorem Qb{c:aE}(hc:PT X c tA)(ha:PE X a ta)(hb:PE X b tb):PE X (.IfExp c a b pos) (Qs tA ta tb):=by
 intro af s Y H Q I h;refine wpAny_IfExp (a_ (hc af s Y H _ I h) λd s1 ⟨H1,I1,q1⟩=>?_);cases d with
 |true=>exact ha af s1 Y H1 Q I1 q1
 |false=>exact hb af s1 Y H1 Q I1 q1
end
def cC(K:aC)(H:Hp)(a:ah)(xs:List V):Prop :=
 Rd H a (.lst xs) \/
  ∃(o:Obj) (its:Array ak) (n:Nat),K.lookup a=aa o/\o.cls=.type "list"/\o.dict=ae/\o.data=.seq its n/\its.size<=bw/\bX xs its.toList
def d7(K:aC)(H:Hp)(a:ah)(xs:List V):Prop :=
 Rd H a (.tup xs) \/
  ∃(o:Obj) (its:Array ak) (n:Nat),K.lookup a=aa o/\o.cls=.type "tuple"/\o.data=.seq its n/\its.size<=bw/\bX xs its.toList
def WM:ak->Option V
 |.none=>aa .non
 |.bool b=>aa (.bl b)
 |.int i _=>aa (.int i)
 |.str x _=>aa (.str x)
 |.bytes b _=>aa (.byt b)
 |.float b _=>aa (.flt b)
 |.ref a=>aa (.ref a)
 |.type n=>aa (.ty n)
 |_=>ae
theorem RelV.abs{x:V}{u:ak}(r:RelV x u):WM u=aa x:=by
 cases x with
 |non=>cases r;rfl
 |bl _=>cases r;rfl
 |int _=>obtain⟨t,rfl⟩:=r;rfl
 |str _=>obtain⟨t,rfl⟩:=r;rfl
 |byt _=>obtain⟨t,rfl⟩:=r;rfl
 |flt _=>obtain⟨t,rfl⟩:=r;rfl
 |ref _=>cases r;rfl
 |ty _=>cases r;rfl
theorem RelV.inj{x y:V}{u:ak}(r:RelV x u)(q:RelV y u):x=y:=eV (r.abs.symm.trans q.abs)
theorem bX.inj:∀{xs ys:List V}{us:List ak},bX xs us->bX ys us->xs=ys
 |_,_,_,.nil,.nil=>rfl
 |_,_,_,.cons r t,.cons r' t'=>by rw[r.inj r',bX.inj t t']
section
variable{X:Cx}{af:List (ah×Obj)}{Y:St}{H:Hp}{s:aq}{a:ah}{xs ys:List V}
theorem cC.of{K:aC}(h:H a=aa (.lst xs)):cC K H a xs:=.inl (.inl h)
theorem d7.of{K:aC}(h:H a=aa (.tup xs)):d7 K H a xs:=.inl (.inl h)
theorem Inv.list(I:Inv X af Y H s)(h:cC X.K H a xs):∃its:List ak,bX xs its/\PlainL s.heap a its.toArray/\xs.length<=bw:=by
 rcases h with h|⟨o,its,n,hk,hc,hd,hs,hz,r⟩
 ·obtain⟨z,its,n,r,e⟩:=h.ok I.hok;exact⟨its,r,⟨_,n,e,rfl,rfl,rfl⟩,z⟩
 ·refine⟨its.toList,r,⟨o,n,I.kIn a o hk,hc,hd,by simpa using hs⟩,?_⟩;have e:=r.length;simp only[iI]at e;lia
theorem Inv.tuple(I:Inv X af Y H s)(h:d7 X.K H a xs):∃its:List ak,bX xs its/\IsTup s.heap a its.toArray/\xs.length<=bw:=by
 rcases h with h|⟨o,its,n,hk,hc,hs,hz,r⟩
 ·obtain⟨z,its,r,p,_⟩:=h.ok I.hok;exact⟨its,r,p,z⟩
 ·refine⟨its.toList,r,⟨o,I.kIn a o hk,hc,n,by simpa using hs⟩,?_⟩;have e:=r.length;simp only[iI]at e;lia
theorem Inv.list_inj(I:Inv X af Y H s)(h:cC X.K H a xs)(h':cC X.K H a ys):xs=ys:=by
 obtain⟨its,r,⟨o,n,e,_,_,d⟩,_⟩:=I.list h;obtain⟨its',r',⟨o',n',e',_,_,d'⟩,_⟩:=I.list h';rw[e]at e';cases e';rw[d]at d';injection d' with d1 _;have:its=its':=by simpa using congrArg Array.toList d1
 subst this;exact r.inj r'
theorem Inv.tuple_inj(I:Inv X af Y H s)(h:d7 X.K H a xs)(h':d7 X.K H a ys):xs=ys:=by
 obtain⟨its,r,⟨o,e,_,n,d⟩,_⟩:=I.tuple h;obtain⟨its',r',⟨o',e',_,n',d'⟩,_⟩:=I.tuple h';rw[e]at e';cases e';rw[d]at d';injection d' with d1 _;have:its=its':=by simpa using congrArg Array.toList d1
 subst this;exact r.inj r'
end
abbrev Cx.wish(X:Cx)(E:ak->aq->Prop):Cx:={X with xe:=E}
abbrev Cx.nox(X:Cx):Cx:=X.wish λ_ _=>False
theorem Cx.Ok.wish{X:Cx}(ok:X.Ok)(E:ak->aq->Prop):(X.wish E).Ok :=⟨ok.mod,ok.kind,ok.glob,ok.blt,ok.above,ok.inj,ok.has,ok.cab,ok.hd,ok.frames,ok.stk,ok.exf,ok.bs,ok.bsz,ok.noex,ok.exfs,ok.funs,ok.frf,ok.tab⟩
theorem Cx.Ok.unwish{X:Cx}{E:ak->aq->Prop}(ok:(X.wish E).Ok):X.Ok :=⟨ok.mod,ok.kind,ok.glob,ok.blt,ok.above,ok.inj,ok.has,ok.cab,ok.hd,ok.frames,ok.stk,ok.exf,ok.bs,ok.bsz,ok.noex,ok.exfs,ok.funs,ok.frf,ok.tab⟩
section
variable{X:Cx}{af:List (ah×Obj)}{Y:St}{H:Hp}{s:aq}{E:ak->aq->Prop}
theorem Inv.wish(I:Inv X af Y H s)(E:ak->aq->Prop):Inv (X.wish E) af Y H s:=⟨I.ok.wish E,I.os,I.bare,I.base,I.loc,I.cell,I.free,I.freeC,I.pin,I.hok,I.len⟩
theorem Inv.unwish(I:Inv (X.wish E) af Y H s):Inv X af Y H s:=⟨I.ok.unwish,I.os,I.bare,I.base,I.loc,I.cell,I.free,I.freeC,I.pin,I.hok,I.len⟩
theorem SP.unwish{D:lT}{f:Flow}{s':aq}(h:SP (X.wish E) af D f s'):SP X af D f s':=by
 cases f with
 |next=>obtain⟨Y',H',I,q⟩:=h;exact⟨Y',H',I.unwish,q⟩
 |brk=>obtain⟨Y',H',I,q⟩:=h;exact⟨Y',H',I.unwish,q⟩
 |cont=>obtain⟨Y',H',I,q⟩:=h;exact⟨Y',H',I.unwish,q⟩
 |ret u=>obtain⟨v,Y',H',I,r,q⟩:=h;exact⟨v,Y',H',I.unwish,r,q⟩
end
section
variable{X:Cx}{st:ba}{rest:List ba}{t u:TS}{e:aE}{te:TE}{pos:Pos}
def Pp:TS:=λD Y H=>D.nx Y H
def NX(t u:TS):TS:=λD Y H=>t {D with nx:=u D} Y H
theorem Nx:lY X [] Pp:=λ_ _ Y H _ I h=>zO ⟨Y,H,I,h⟩
theorem Mf(h1:PS X st t)(h2:lY X rest u):lY X (st::rest) (NX t u):=by
 intro af s Y H D I h;refine DB (a_ (h1 af s Y H {D with nx:=u D} I h) λf s1 q=>?_);cases f with
 |next=>obtain⟨Y',H',I',q⟩:=q;exact h2 af s1 Y' H' D I' q
 |ret v=>exact q
 |brk=>exact q
 |cont=>exact q
theorem Nt(h1:PS X st t):lY X [st] t:=by
 intro af s Y H D I h;refine DB (a_ (h1 af s Y H D I h) λf s1 q=>?_);cases f with
 |next=>exact zO q
 |ret v=>exact q
 |brk=>exact q
 |cont=>exact q
theorem Inv.quiet{af:List (ah×Obj)}{Y:St}{H:Hp}{s:aq}(I:Inv X af Y H s):interactive X.env=am:=by simp[interactive,I.ok.kind]
def Rk(te:TE):TS:=λD Y H=>te Y H λ_ H1=>D.nx Y H1
theorem Ci(he:PE X e te)(hs:nv e ae pos.line X.env=pure am:=by rfl):PS X (.Expr e pos) (Rk te):=by intro af s Y H D I h;exact wpAny_Expr_any (a_ (he af s Y H _ I h) λv s1 ⟨x,H1,I1,r1,q1⟩=>⟨Y,H1,I1,q1⟩) I.quiet hs
def QL(te:TE):TS:=λD Y H=>te Y H D.rt
theorem xX(he:PE X e te):PS X (.Return (aa e) pos) (QL te):=by intro af s Y H D I h;exact wpAny_Return_some (a_ (he af s Y H _ I h) λv s1 ⟨x,H1,I1,r1,q1⟩=>⟨x,Y,H1,I1,r1,q1⟩)
def Ud:TS:=λD _ H=>D.rt .non H
theorem V_:PS X (.Return ae pos) Ud:=λ_ _ Y H _ I h=>wpAny_Return_none ⟨.non,Y,H,I,rfl,h⟩
def V4(c:TT)(t u:TS):TS:=λD Y H=>c Y H λb H1=>if b=ai then t D Y H1 else u D Y H1
theorem VJ{c:aE}{a b:List ba}{tc:TT}(hc:PT X c tc)(ha:lY X a t)(hb:lY X b u):PS X (.If c a b pos) (V4 tc t u):=by
 intro af s Y H D I h;refine wpAny_If (a_ (hc af s Y H _ I h) λd s1 ⟨H1,I1,q1⟩=>?_);cases d with
 |true=>exact ha af s1 Y H1 D I1 q1
 |false=>exact hb af s1 Y H1 D I1 q1
end
abbrev TG:=V->St->Hp->(St->Hp->Prop)->Prop
def PG(X:Cx)(target:aE)(t:TG):Prop :=
 ∀(af:List (ah×Obj)) (s:aq) (Y:St) (H:Hp) (v:V) (u:ak) (Q:St->Hp->Prop),Inv X af Y H s->RelV v u->t v Y H Q ->
  aA (aB X.prog X.w) X.A (assign target X.env u) (λ_ s'=>∃Y' H',Inv X af Y' H' s'/\Q Y' H') X.xe s
section
variable{X:Cx}{pos:Pos}
def Fx(i:Nat):TG:=λv Y H Q=>Q (Y.set i (aa v)) H
theorem WE{i:Nat}{x:Str}(hN:X.N.Nodup)(hi:X.N[i]?=aa x)(hx:Loc X.env.scope x)(hf:X.fn x=ai\/X.env.scope.names.lookup x=aa .local:=by first|exact .inl rfl|exact .inr rfl|assumption):PG X (.Name x pos) (Fx i):=by intro af s Y H v u Q I r h;exact Ko (vE I hN hi hx r (λs' I'=>⟨_,H,I',h⟩) hf)
def NN(te:TE)(g:TG):TS:=λD Y H=>te Y H λx H1=>g x Y H1 D.nx
theorem JF{i:Nat}{x:Str}{e:aE}{te:TE}{XG:Pos}(hN:X.N.Nodup)(hi:X.N[i]?=aa x)(hx:Loc X.env.scope x)(he:PE X e te)(hs:nv e (aa (.Name x XG)) pos.line X.env=pure am:=by rfl)(hf:X.fn x=ai\/X.env.scope.names.lookup x=aa .local:=by first|exact .inl rfl|exact .inr rfl|assumption):PS X (.Assign [.Name x XG] e pos) (NN te (Fx i)):=by intro af s Y H D I h;refine wpAny_Assign_Name (a_ (he af s Y H _ I h) λv s1 ⟨y,H1,I1,r1,q1⟩=>?_) hs;exact vE I1 hN hi hx r1 (λs2 I2=>⟨_,H1,I2,q1⟩) hf
def Ov(c:TT)(tb:TS):TS:=λD Y H=>∃W:Nat->St->Hp->Prop,(∃m,W m Y H)/\∀m Y H,W m Y H ->
 c Y H λb H1=>if b=ai then ∃N:St->Hp->Prop,(∀Y' H',N Y' H'->∃m',m'<m/\W m' Y' H')/\tb {D with nx:=N,ct:=N,bk:=D.nx} Y H1 else D.nx Y H1
theorem Ve{c:aE}{body:List ba}{tc:TT}{tb:TS}(hp:DC (aB X.prog X.w) X.A X.env X.xe)(hc:PT X c tc)(hb:lY X body tb):PS X (.While c body [] pos) (Ov tc tb):=by
 intro af s Y H D I h;obtain⟨W,⟨m0,w0⟩,turn⟩:=h;refine wpAny_While (codeAny_whileLoop (λn s'=>∃Y' H',Inv X af Y' H' s'/\W n Y' H') ?_ m0 ⟨Y,H,I,w0⟩);rintro n s1 ⟨lB,H1,I1,w1⟩;refine tU hp (a_ (hc af s1 lB H1 _ I1 (turn n lB H1 w1)) λb s2 ⟨H2,I2,q2⟩=>?_);cases b with
 |true=>
  obtain⟨N,hN,q2⟩:=q2;rw[if_pos rfl];refine tU hp (a_ (hb af s2 lB H2 _ I2 q2) λf s3 q3=>?_);cases f with
  |next=>obtain⟨lC,H3,I3,n3⟩:=q3;obtain⟨m',hm,w3⟩:=hN lC H3 n3;exact⟨m',hm,lC,H3,I3,w3⟩
  |cont=>obtain⟨lC,H3,I3,n3⟩:=q3;obtain⟨m',hm,w3⟩:=hN lC H3 n3;exact⟨m',hm,lC,H3,I3,w3⟩
  |brk=>exact q3
  |ret v=>exact q3
 |false=>rw[if_neg gz];exact zO ⟨lB,H2,I2,q2⟩
end
structure It where
 go:Nat->Hp->Prop
 yld:Nat->Hp->V->Hp->Prop
 stop:Nat->Hp->Prop
def l9(X:Cx)(af:List (ah×Obj))(H:Hp)(b:ah):Prop :=
 H b=ae/\b≠X.env.locals/\b∉X.fs/\(b∈X.ex\/X.tM.heap.objs.size<=b)/\(∀x c,X.env.cells.lookup x=aa c->c≠b)/\∀p∈X.pn++af,p.1≠b
theorem Inv.fpOk{X:Cx}{af:List (ah×Obj)}{Y:St}{H H':Hp}{s:aq}{b:ah}(I:Inv X af Y H s)(hb:s.heap.objs.size<=b)(hn:H' b=ae):l9 X af H' b:=by
 refine⟨hn,mf (fI I.lt hb),I.nofs hb,.inr (dj I.sz hb),λx c e z=>?_,λp hp z=>?_⟩
 ·obtain⟨v,q⟩:=I.cell x c e;exact absurd (fI q.lt (by rw[z];exact hb)) (fu _)
 ·exact absurd (fI (bD (I.pin p hp).1) (by rw[z];exact hb)) (fu _)
structure u8(P:aZ)(w:aT)(K:aC)(tg:aE)(J:It)(fp:List ah)(it:ah)(tn:Nat->aI->Prop):Prop where
 mem:it∈fp
 obj:∀i h,tn i h->∀b∈fp,∃o,h.get? b=aa o/\∀v,o.data≠.cell v
 keep:∀i h h',tn i h->(∀b∈fp,∀o,h.get? b=aa o->h'.get? b=aa o)->tn i h'
 item:∀(X:Cx),X.prog=P->X.w=w->X.K=K->X.calm=ai->∀(i:Nat) (af:List (ah×Obj)) (s:aq) (Y:St) (H:Hp) (E:ak->aq->Prop),Inv X af Y H s->(∀b∈fp,l9 X af H b)->tn i s.heap->J.go i H ->
  aA (aB P w) X.A (pyNext (.ref it)) (λr s1=>∃u,r=aa u /\ aA (aB P w) X.A (DH tg (.ref it) u) (λ_ s2=>∃x H',Inv X af Y H' s2/\RelV x u/\J.yld i H x H'/\tn (i+1) s2.heap/\∀b∈fp,H' b=ae) E s1) E s
 done:∀(X:Cx),X.prog=P->X.w=w->X.K=K->X.calm=ai->∀(i:Nat) (af:List (ah×Obj)) (s:aq) (Y:St) (H:Hp) (E:ak->aq->Prop),Inv X af Y H s->(∀b∈fp,l9 X af H b)->tn i s.heap->J.stop i H ->
  aA (aB P w) X.A (pyNext (.ref it)) (λr s1=>r=ae/\Inv X af Y H s1) E s
 self:∀(A:bd) (i:Nat) (s:aq) (Q:ak->aq->Prop) (E:ak->aq->Prop),tn i s.heap->Q (.ref it) s->aA (aB P w) A (p7 (.ref it)) Q E s
abbrev TI:=St->Hp->(It->Hp->Prop)->Prop
def xO(X:Cx)(af:List (ah×Obj))(Y:St)(tg:aE)(R:It->Hp->Prop)(itv:ak)(s2:aq):Prop :=
 ∃(it:ah) (fp:List ah) (tn:Nat->aI->Prop) (J:It) (H':Hp),itv=.ref it/\Inv X af Y H' s2/\u8 X.prog X.w X.K tg J fp it tn/\tn 0 s2.heap/\(∀b∈fp,l9 X af H' b)/\R J H'
def PI(X:Cx)(tg X5:aE)(wi:TI):Prop :=
 ∀(af:List (ah×Obj)) (s:aq) (Y:St) (H:Hp) (R:It->Hp->Prop),Inv X af Y H s->wi Y H R ->
  aA (aB X.prog X.w) X.A (bf X5 X.env) (λv s1=>aA (aB X.prog X.w) X.A (p7 v) (xO X af Y tg R) X.xe s1) X.xe s
theorem xI{M:Model}{A:bd}{E:ak->aq->Prop}{s:aq}{tg:aE}{it:ah}{u:ak}{o:Obj}{n:String}{vs:Array ak}{Q:Unit->aq->Prop}(ho:s.heap.get? it=aa o)(hc:o.cls=.type n)(hd:o.data=.fields vs)(hn:["enumerate","zip","dict_itemiterator","dict_reverseitemiterator","odict_iterator","itertools.zip_longest","itertools.pairwise"].contains n=am) (hQ:Q () s):aA M A (DH tg (.ref it) u) Q E s:=by
 unfold DH;cases tg <;> first
  |exact aF hQ
  | (cases u <;> first
    |exact aF hQ
    | (refine au (wpAny_load ho ?_)
       rw[hc,hd];show aA M A (if(["enumerate","zip","dict_itemiterator","dict_reverseitemiterator","odict_iterator","itertools.zip_longest","itertools.pairwise"].contains n&&vs[0]? == aa (eJ _))=ai then _ else _) Q E s;rw[if_neg (by intro h;rw[hn,Bool.false_and]at h;cases h)];exact aF hQ))
def Bd(K:aC)(a:ah):It :=⟨λi H=>∃xs x,cC K H a xs/\xs[i]?=aa x,λi H x H'=>H'=H/\∀xs,cC K H a xs->xs[i]?=aa x,λi H=>∃xs,cC K H a xs/\xs.length<=i⟩
def CB(K:aC)(a:ah):It :=⟨λi H=>∃xs x,d7 K H a xs/\xs[i]?=aa x,λi H x H'=>H'=H/\∀xs,d7 K H a xs->xs[i]?=aa x,λi H=>∃xs,d7 K H a xs/\xs.length<=i⟩
def vo(lo:Int)(n:Nat):It:=⟨λi _=>i<n,λi H x H'=>H'=H/\x=.int (lo+i),λi _=>n<=i⟩
theorem Q6{P:aZ}{w:aT}{K:aC}{tg:aE}(a it:ah):u8 P w K tg (Bd K a) [it] it (λi h=>h.IsListIter it a i) where
 mem:=by simp
 obj:=λi h st b hb=>by
  have e:b=it:=by simpa using hb
  subst e;obtain⟨o,e,c,d⟩:=st;exact⟨o,e,λv z=>by rw[d]at z;cases z⟩
 keep:=λi h h' st k=>st.at λo e=>k it (by simp) o e
 item:=by intro X hP hw hK hc i af s Y H E I hf st hg;subst hP hw hK;obtain⟨xs,x,hq,hx⟩:=hg;obtain⟨its,rv,p,hz⟩:=I.list hq;obtain⟨u,hu,ru⟩:=rv.get hx;obtain⟨f0,f1,f2,f3,f4,f5⟩:=hf it (by simp);refine wpAny_pyNext_list_item st p.isList (x:=u) (by simpa using hu) λh' aG sb=>?_;have I1:Inv X af Y H {s with heap:=h'}:=I.turned (t':=s.toks) (λb o hb e=>(sb.2 b hb).trans e) f0 f1 f3 f4 f5;obtain⟨o,e,c,d⟩:=id aG;exact⟨u,rfl,xI (s:={s with heap:=h'}) e c d (by decide) ⟨x,H,I1,ru,⟨rfl,λys hy=>by rw[I.list_inj hy hq];exact hx⟩,aG,λb hb=>(hf b hb).1⟩⟩
 done:=by intro X hP hw hK hc i af s Y H E I hf st hg;subst hP hw hK;obtain⟨xs,hq,hx⟩:=hg;obtain⟨its,rv,p,hz⟩:=I.list hq;obtain⟨f0,f1,f2,f3,f4,f5⟩:=hf it (by simp);have hl:=rv.length;exact wpAny_pyNext_list_end (I.ok.hd hc) st p.isList (by simp;lia) λh' eb=>⟨rfl,I.turned (t':=s.toks) (λb o hb e=>eb b o hb e) f0 f1 f3 f4 f5⟩
 self:=λ_ _ _ _ _ st h=>wpAny_pyIter_listiter st h
theorem UN{P:aZ}{w:aT}{K:aC}{tg:aE}(a it:ah):u8 P w K tg (CB K a) [it] it (λi h=>h.IsTupleIter it a i) where
 mem:=by simp
 obj:=λi h st b hb=>by
  have e:b=it:=by simpa using hb
  subst e;obtain⟨o,e,c,d⟩:=st;exact⟨o,e,λv z=>by rw[d]at z;cases z⟩
 keep:=λi h h' st k=>st.at λo e=>k it (by simp) o e
 item:=by intro X hP hw hK hc i af s Y H E I hf st hg;subst hP hw hK;obtain⟨xs,x,hq,hx⟩:=hg;obtain⟨its,rv,p,hz⟩:=I.tuple hq;obtain⟨u,hu,ru⟩:=rv.get hx;obtain⟨f0,f1,f2,f3,f4,f5⟩:=hf it (by simp);refine wpAny_pyNext_tuple_item st (show s.heap.IsTuple a its.toArray from p) (x:=u) (by simpa using hu) λh' aG sb=>?_;have I1:Inv X af Y H {s with heap:=h'}:=I.turned (t':=s.toks) (λb o hb e=>(sb.2 b hb).trans e) f0 f1 f3 f4 f5;obtain⟨o,e,c,d⟩:=id aG;exact⟨u,rfl,xI (s:={s with heap:=h'}) e c d (by decide) ⟨x,H,I1,ru,⟨rfl,λys hy=>by rw[I.tuple_inj hy hq];exact hx⟩,aG,λb hb=>(hf b hb).1⟩⟩
 done:=by intro X hP hw hK hc i af s Y H E I hf st hg;subst hP hw hK;obtain⟨xs,hq,hx⟩:=hg;obtain⟨its,rv,p,hz⟩:=I.tuple hq;obtain⟨f0,f1,f2,f3,f4,f5⟩:=hf it (by simp);have hl:=rv.length;exact wpAny_pyNext_tuple_end (I.ok.hd hc) st (show s.heap.IsTuple a its.toArray from p) (by simp;lia) λh' eb=>⟨rfl,I.turned (t':=s.toks) (λb o hb e=>eb b o hb e) f0 f1 f3 f4 f5⟩
 self:=λ_ _ _ _ _ st h=>wpAny_pyIter_tupleiter st h
theorem PX{P:aZ}{w:aT}{K:aC}{tg:aE}(it:ah)(lo:Int)(n:Nat):u8 P w K tg (vo lo n) [it] it (λi h=>IsRangeIter h it (lo+(i:Nat)*1) ((n:Int)-(i:Nat)) 1) where
 mem:=by simp
 obj:=λi h st b hb=>by
  have e:b=it:=by simpa using hb
  subst e;exact⟨_,st,λv z=>by
   have z':Data.fields _=Data.cell v:=z;cases z'⟩
 keep:=λi h h' st k=>k it (by simp) _ st
 item:=by intro X hP hw hK hc i af s Y H E I hf st hg;subst hP hw hK;obtain⟨f0,f1,f2,f3,f4,f5⟩:=hf it (by simp);have W:=Walks.range (prog:=X.prog) (w:=X.w) (I.ok.hd hc) it lo 1 n;refine W.item i s _ _ hg st λv h' tk hv aG kk=>?_;obtain⟨t,rfl⟩:=hv;have I1:Inv X af Y H {s with heap:=h',toks:=tk}:=I.turned (λb o hb e=>kk b o (by simpa using hb) e) f0 f1 f3 f4 f5;refine⟨_,rfl,xI (s:={s with heap:=h',toks:=tk}) (n:="range_iterator") aG rfl rfl (by decide) ⟨.int (lo+i),H,I1,⟨t,?_⟩,⟨rfl,rfl⟩,aG,λb hb=>(hf b hb).1⟩⟩;rw[Int.mul_one]
 done:=by intro X hP hw hK hc i af s Y H E I hf st hg;subst hP hw hK;obtain⟨f0,f1,f2,f3,f4,f5⟩:=hf it (by simp);exact wpAny_pyNext_range_end (I.ok.hd hc) st (by have:n<=i:=hg;lia) λh' eb=>⟨rfl,I.turned (t':=s.toks) (λb o hb e=>eb b o hb e) f0 f1 f3 f4 f5⟩
 self:=λ_ _ _ _ _ st h=>wpAny_pyIter_rangeiter st h
section
variable{X:Cx}{tg:aE}
theorem Fg{af:List (ah×Obj)}{Y:St}{H:Hp}{s:aq}{R:It->Hp->Prop}{E:ak->aq->Prop}{lo hi:Int}{t u v:Tok}{tk:Nat}(I:Inv X af Y H s)(h1:-(2^62)<=lo)(h2:lo<2^62)(h3:-(2^62)<=hi)(h4:hi<2^62)(q:R (vo lo (hi-lo).toNat) H):aA (aB X.prog X.w) X.A (p7 (.ref s.heap.objs.size)) (xO X af Y tg R) E {s with heap:=s.heap.push {cls:=.type "range",data:=.fields #[.int lo t,.int hi u,.int 1 v]},toks:=tk}:=by
 refine wpAny_pyIter_range (IsRange.new ..) (small_one h1 h2 h3 h4) ?_;have I1:Inv X af Y H {s with heap:=s.heap.push {cls:=.type "range",data:=.fields #[.int lo t,.int hi u,.int 1 v]},toks:=tk}:=I.kept λb o e=>bH _ e;refine⟨(s.heap.push {cls:=.type "range",data:=.fields #[.int lo t,.int hi u,.int 1 v]}).objs.size,[(s.heap.push {cls:=.type "range",data:=.fields #[.int lo t,.int hi u,.int 1 v]}).objs.size],_,_,H,rfl,I1.kept (t':=tk) λb o e=>bH _ e,PX _ lo (hi-lo).toNat,?_,λb hb=>?_,q⟩
 ·have e1:lo+((0:Nat):Int)*1=lo:=by simp
  have e2:(((hi-lo).toNat:Nat):Int)-((0:Nat):Int)=Builtin.Range.rangeSize lo hi 1:=by rw[rangeSize_one];split <;> lia
  show IsRangeIter _ _ (lo+((0:Nat):Int)*1) ((((hi-lo).toNat:Nat):Int)-((0:Nat):Int)) 1;rw[e1,e2];exact df _ rfl
 ·have e:b=(s.heap.push {cls:=.type "range",data:=.fields #[.int lo t,.int hi u,.int 1 v]}).objs.size:=by simpa using hb
  subst e;exact I1.fpOk (bn _) (I1.hok.fresh (bn _))
def Mw(ta:TA):TI:=λY H R=>ta Y H λvs H1=>∃j:Int,vs=[.int j]/\-(2^62)<=j/\j<2^62/\R (vo 0 j.toNat) H1
def Qh(ta:TA):TI:=λY H R=>ta Y H λvs H1=>∃i j:Int,vs=[.int i,.int j]/\(-(2^62)<=i/\i<2^62/\-(2^62)<=j/\j<2^62)/\R (vo i (j-i).toNat) H1
theorem Wc{a:aE}{ta:TA}{p pos:Pos}(hg:Gl X "range")(hm:X.mg "range" = ae)(ha:PA X [a] ta)(hs:aW [a] X.env=[(am,bf a X.env)]:=by rfl):PI X tg (.Call (.Name "range" p) [a] [] pos) (Mw ta):=by
 intro af s Y H R I h;refine Call_ (tK I hg hm boot_range (Kq (a_ (ha pos af s Y H _ I h) λus s1 ⟨vs,H1,I1,r1,q1⟩=>?_) hs rfl));obtain⟨j,e,q1,q2,q⟩:=q1;subst e;cases r1 with
 |cons r rr=>
  cases rr;obtain⟨t,rfl⟩:=r;exact call_range_1 (Fg I1 ∅ ∅ q1 q2 (by simpa using q))
theorem Pb{a b:aE}{ta:TA}{p pos:Pos}(hg:Gl X "range")(hm:X.mg "range" = ae)(ha:PA X [a,b] ta)(hs:aW [a,b] X.env=[(am,bf a X.env),(am,bf b X.env)]:=by rfl)(lz:aW [b] X.env=[(am,bf b X.env)]:=by rfl):PI X tg (.Call (.Name "range" p) [a,b] [] pos) (Qh ta):=by
 intro af s Y H R I h;refine Call_ (tK I hg hm boot_range (Kq (a_ (ha pos af s Y H _ I h) λus s1 ⟨vs,H1,I1,r1,q1⟩=>?_) (by rw[hs,lz]) (by rw[lz];rfl)));obtain⟨i,j,e,⟨q1,q2,q3,q4⟩,q⟩:=q1;subst e;cases r1 with
 |cons r rr=>
  cases rr with
  |cons r' rr=>
   cases rr;obtain⟨t,rfl⟩:=r;obtain⟨t',rfl⟩:=r';exact call_range_2 (Fg I1 q1 q2 q3 q4 q)
def Uh(wi:TI)(g:TG)(tb:TS):TS:=λD Y H=>wi Y H λJ H1=>∃W:Nat->Nat->St->Hp->Prop,(∃m,W 0 m Y H1)/\∀i m Y H,W i m Y H ->
 (J.stop i H/\D.nx Y H)\/(J.go i H/\∃N:St->Hp->Prop,(∀Y' H',N Y' H'->∃m',m'<m/\W (i+1) m' Y' H')/\∀x H',J.yld i H x H'->g x Y H' λlE H2=>tb {D with nx:=N,ct:=N,bk:=D.nx} lE H2)
def vM(fp:List ah)(h:aI):List (ah×Obj):=fp.filterMap λb=>(h.get? b).map λo=>(b,o)
theorem y9{fp:List ah}{h:aI}{b:ah}{o:Obj}(hb:b∈fp)(e:h.get? b=aa o):(b,o)∈vM fp h:=Kr.mpr ⟨b,hb,by rw[e];rfl⟩
theorem Qc{fp:List ah}{h:aI}{p:ah×Obj}(hp:p∈vM fp h):p.1∈fp/\h.get? p.1=aa p.2:=by
 obtain⟨b,hb,e⟩:=Kr.mp hp;cases q:h.get? b with
 |none=>rw[q]at e;cases e
 |some o=>rw[q]at e;have e':(b,o)=p:=eV e;subst e';exact⟨hb,q⟩
theorem Inv.pinned{af:List (ah×Obj)}{Y:St}{H:Hp}{s:aq}{fp:List ah}(I:Inv X af Y H s)(hf:∀b∈fp,l9 X af H b)(ho:∀b∈fp,∃o,s.heap.get? b=aa o/\∀v,o.data≠.cell v):Inv X (af++vM fp s.heap) Y H s :=
 I.pins_of λp hp=>(gy.mp hp).elim (λz=>I.pin p (ny _ z)) λz=>by
  obtain⟨hb,e⟩:=Qc z;obtain⟨f0,f1,f2,_⟩:=hf p.1 hb;obtain⟨o,e',d⟩:=ho p.1 hb;rw[e]at e';cases e';exact⟨e,f0,f1,f2,d⟩
theorem Inv.unpinned{af pl:List (ah×Obj)}{Y:St}{H:Hp}{s:aq}(I:Inv X (af++pl) Y H s):Inv X af Y H s:=I.pins_of λp hp=>I.pin p (ny _ (zM _ hp))
theorem QK{X5:aE}{body:List ba}{wi:TI}{g:TG}{tb:TS}{pos:Pos}(hp:DC (aB X.prog X.w) X.A X.env X.xe)(hc:X.calm=ai)(hi:PI X tg X5 wi)(hg:PG X tg g)(hb:lY X body tb)(hs:∀x,tW X5 X.env x=pure x:=by intro _;rfl):PS X (.For tg X5 body [] pos) (Uh wi g tb):=by
 intro af s Y H D I h;refine wpAny_For (a_ (hi af s Y H _ I h) λv s1 h1=>a_ h1 λitv s2 h2=>?_) hs;obtain⟨it,fp,tn,J,H2,e,I2,T,bi,f2,W,⟨m0,w0⟩,turn⟩:=h2;subst e;have stat:∀{H':Hp},(∀b∈fp,H' b=ae)->∀b∈fp,l9 X af H' b:=λhn b hb=>⟨hn b hb,(f2 b hb).2⟩
 refine codeAny_forLoop_any (λn s'=>∃i Y' H',Inv X af Y' H' s'/\tn i s'.heap/\(∀b∈fp,H' b=ae)/\W i n Y' H') ?_ m0 ⟨0,Y,H2,I2,bi,λb hb=>(f2 b hb).1,w0⟩;rintro n s3 ⟨i,lC,H3,I3,bP,fr3,w3⟩;rcases turn i n lC H3 w3 with⟨stop,qn⟩|⟨go,N,hN,step⟩
 ·refine tU hp (a_ (T.done X rfl rfl rfl hc i af s3 lC H3 X.xe I3 (stat fr3) bP stop) λr s4 ⟨hr,I4⟩=>?_);subst hr;exact zO ⟨lC,H3,I4,qn⟩
 ·refine tU hp (a_ (T.item X rfl rfl rfl hc i af s3 lC H3 X.xe I3 (stat fr3) bP go) λr s4 ⟨u,hr,h4⟩=>?_);subst hr;refine tU hp (a_ h4 λ_ s5 ⟨x,H5,I5,r5,y5,cG,fr5⟩=>?_);have I5':=I5.pinned (stat fr5) (T.obj _ _ cG);refine tU hp (a_ (hg _ s5 lC H5 x u _ I5' r5 (step x H5 y5)) λ_ s6 ⟨Y6,H6,I6,q6⟩=>?_);refine tU hp (a_ (hb _ s6 Y6 H6 _ I6 q6) λf s7 q7=>?_);have again:∀{Y7:St}{H7:Hp},Inv X (af++vM fp s5.heap) Y7 H7 s7->N Y7 H7->∃m,m<n/\∃i Y' H',Inv X af Y' H' s7/\tn i s7.heap/\(∀b∈fp,H' b=ae)/\W i m Y' H':=λ{Y7 H7} I7 n7=>by obtain⟨m',hm,w7⟩:=hN Y7 H7 n7;refine⟨m',hm,i+1,Y7,H7,I7.unpinned,T.keep _ _ _ cG λb hb o e=>(I7.pin (b,o) (ny _ (ny _ (y9 hb e)))).1,λb hb=>?_,w7⟩;obtain⟨o,e,d⟩:=T.obj _ _ cG b hb;exact(I7.pin (b,o) (ny _ (ny _ (y9 hb e)))).2.1
  cases f with
  |next=>obtain⟨Y7,H7,I7,n7⟩:=q7;exact again I7 n7
  |cont=>obtain⟨Y7,H7,I7,n7⟩:=q7;exact again I7 n7
  |brk=>obtain⟨Y7,H7,I7,q7⟩:=q7;exact⟨Y7,H7,I7.unpinned,q7⟩
  |ret v=>obtain⟨x7,Y7,H7,I7,r7,q7⟩:=q7;exact⟨x7,Y7,H7,I7.unpinned,r7,q7⟩
end
abbrev R2:=V->V->Hp->VK->Prop
def cr(X:Cx)(f:ak->ak->Sem ak)(r:R2):Prop :=
 ∀(af:List (ah×Obj)) (s:aq) (Y:St) (H:Hp) (x y:V) (v u:ak) (Q:VK),Inv X af Y H s->RelV x v->RelV y u->r x y H Q ->
  aA (aB X.prog X.w) X.A (f v u) (EP X af Y Q) X.xe s
def zH(X:Cx)(f:ak->Sem ak)(r:V->Hp->VK->Prop):Prop :=
 ∀(af:List (ah×Obj)) (s:aq) (Y:St) (H:Hp) (x:V) (v:ak) (Q:VK),Inv X af Y H s->RelV x v->r x H Q ->
  aA (aB X.prog X.w) X.A (f v) (EP X af Y Q) X.xe s
def fD(X:Cx)(f:ak)(r:List V->Hp->VK->Prop):Prop :=
 ∀(af:List (ah×Obj)) (s:aq) (Y:St) (H:Hp) (xs:List V) (us:List ak) (Q:VK),Inv X af Y H s->bX xs us->r xs H Q ->
  aA (aB X.prog X.w) X.A (call f us) (EP X af Y Q) X.xe s
def xS(r:R2)(ta tb:TE):TE:=λY H Q=>ta Y H λx H1=>tb Y H1 λy H2=>r x y H2 Q
def TQ(r:V->Hp->VK->Prop)(ta:TE):TE:=λY H Q=>ta Y H λx H1=>r x H1 Q
def rI(C:Int->Int->Prop)(g:Int->Int->V):R2:=λx y H Q=>∃i j,x=.int i/\y=.int j/\C i j/\Q (g i j) H
def mK(g:Int->Int->V):R2:=λx y H Q=>∃i j,x=.int i/\y=.int j/\Q (g i j) H
def rU(g:Int->V):V->Hp->VK->Prop:=λx H Q=>∃i,x=.int i/\Q (g i) H
section
variable{X:Cx}{a b c:aE}{ta tb tc:TE}{pos:Pos}
theorem C_(ha:PE X a ta)(hb:PE X b tb){af:List (ah×Obj)}{s:aq}{Y:St}{H:Hp}{R:V->V->Hp->Prop}(I:Inv X af Y H s)(h:ta Y H λx H1=>tb Y H1 λy H2=>R x y H2) {Q:ak->aq->Prop}{f:ak->ak->Sem ak}(hf:∀v u s2 x y H2,Inv X af Y H2 s2->RelV x v->RelV y u->R x y H2->aA (aB X.prog X.w) X.A (f v u) Q X.xe s2):aA (aB X.prog X.w) X.A (bf a X.env) (λv s₁=>aA (aB X.prog X.w) X.A (bf b X.env) (λu vP=>aA (aB X.prog X.w) X.A (f v u) Q X.xe vP) X.xe s₁) X.xe s:=by refine a_ (ha af s Y H _ I h) λv s1 ⟨x,H1,I1,r1,q1⟩=>?_;refine a_ (hb af s1 Y H1 _ I1 q1) λu s2 ⟨y,H2,I2,r2,q2⟩=>?_;exact hf v u s2 x y H2 I2 r1 r2 q2
theorem E7{op:Operator}{r:R2}(ho:cr X (jr op) r)(ha:PE X a ta)(hb:PE X b tb):PE X (.BinOp a op b pos) (xS r ta tb):=by intro af s Y H Q I h;exact wpAny_BinOp (C_ ha hb I h λv u s2 x y H2 I2 rx ry q=>ho af s2 Y H2 x y v u Q I2 rx ry q)
theorem Um{op:UnaryOp}{r:V->Hp->VK->Prop}(ho:zH X (unaryOp op) r)(ha:PE X a ta):PE X (.UnaryOp op a pos) (TQ r ta):=by intro af s Y H Q I h;exact UnaryOp_ (a_ (ha af s Y H _ I h) λv s1 ⟨x,H1,I1,r1,q1⟩=>ho af s1 Y H1 x v Q I1 r1 q1)
theorem CC{f:ak->ak->Sem ak}{C:Int->Int->Prop}{g:Int->Int->Int}(rule:∀(i j:Int) (t u:Tok) (s:aq) (Q:ak->aq->Prop) (E:ak->aq->Prop),C i j->Q (.int (g i j) s.toks) {s with toks:=s.toks+1}->aA (aB X.prog X.w) X.A (f (.int i t) (.int j u)) Q E s):cr X f (rI C λi j=>.int (g i j)):=by intro af s Y H x y v u Q I rx ry h;obtain⟨i,j,rfl,rfl,hc,q⟩:=h;obtain⟨t,rfl⟩:=rx;obtain⟨t',rfl⟩:=ry;exact rule i j t t' s _ _ hc ⟨.int (g i j),H,I.tok _,⟨_,rfl⟩,q⟩
theorem HK{f:ak->ak->Sem ak}{g:Int->Int->Int}(rule:∀(i j:Int) (t u:Tok) (s:aq) (Q:ak->aq->Prop) (E:ak->aq->Prop),Q (.int (g i j) s.toks) {s with toks:=s.toks+1}->aA (aB X.prog X.w) X.A (f (.int i t) (.int j u)) Q E s):cr X f (mK λi j=>.int (g i j)):=by intro af s Y H x y v u Q I rx ry h;obtain⟨i,j,rfl,rfl,q⟩:=h;obtain⟨t,rfl⟩:=rx;obtain⟨t',rfl⟩:=ry;exact rule i j t t' s _ _ ⟨.int (g i j),H,I.tok _,⟨_,rfl⟩,q⟩
theorem Dx{f:ak->ak->Sem ak}{g:Int->Int->Bool}(rule:∀(i j:Int) (t u:Tok) (s:aq) (Q:ak->aq->Prop) (E:ak->aq->Prop),Q (.bool (g i j)) s->aA (aB X.prog X.w) X.A (f (.int i t) (.int j u)) Q E s):cr X f (mK λi j=>.bl (g i j)):=by intro af s Y H x y v u Q I rx ry h;obtain⟨i,j,rfl,rfl,q⟩:=h;obtain⟨t,rfl⟩:=rx;obtain⟨t',rfl⟩:=ry;exact rule i j t t' s _ _ ⟨.bl (g i j),H,I,rfl,q⟩
def GR(i j:Int):Prop:=0<=j/\j<=1000000/\i.natAbs<2^64
def Cw(i j:Int):Prop:=(-(2^64)<i/\i<2^64)\/(-(2^64)<j/\j<2^64)
theorem Cw.ok{i j:Int}(h:Cw i j):IntMulOk i j:=by
 rcases h with⟨h1,h2⟩|⟨h1,h2⟩
 ·exact .of_left (intBits_le_64 h1 h2)
 ·exact .of_right (intBits_le_64 h1 h2)
theorem Xn:cr X (jr .Add) (mK λi j=>.int (i+j)):=HK λ_ _ _ _ _ _ _ q=>add_int q
theorem mH:cr X (jr .Sub) (mK λi j=>.int (i-j)):=HK λ_ _ _ _ _ _ _ q=>sub_int q
theorem W_:cr X (jr .Mult) (rI Cw λi j=>.int (i*j)):=CC λ_ _ _ _ _ _ _ hc q=>mul_int q hc.ok
theorem uT:cr X (jr .Mod) (rI (λ_ j=>0<j) λi j=>.int (i % j)):=CC λi j _ _ _ _ _ hc q=>by have h1:(0:Int)<j:=hc;exact mod_int' ∅ (by rw[Int.fmod_eq_emod_of_nonneg i ∅];exact q)
theorem Uo:cr X (jr .Pow) (rI GR λi j=>.int (i^j.toNat)):=CC λ_ _ _ _ _ _ _ hc q=>pow_int_small hc.1 hc.2.1 hc.2.2 q
theorem Mj{f:ak->Sem ak}{g:Int->Int}(rule:∀(i:Int) (t:Tok) (s:aq) (Q:ak->aq->Prop) (E:ak->aq->Prop),Q (.int (g i) s.toks) {s with toks:=s.toks+1}->aA (aB X.prog X.w) X.A (f (.int i t)) Q E s):zH X f (rU λi=>.int (g i)):=by intro af s Y H x v Q I rx h;obtain⟨i,rfl,q⟩:=h;obtain⟨t,rfl⟩:=rx;exact rule i t s _ _ ⟨.int (g i),H,I.tok _,⟨_,rfl⟩,q⟩
theorem sS:zH X (unaryOp .USub) (rU λi=>.int (-i)):=Mj λ_ _ _ _ _ q=>neg_int q
end
def re:V->V->Bool
 |.non,.non=>ai|.non,.int _=>ai|.int _,.non=>ai|.non,.bl _=>ai|.bl _,.non=>ai|.non,.str _=>ai|.str _,.non=>ai
 |.int _,.int _=>ai|.bl _,.bl _=>ai|.str _,.str _=>ai|.byt _,.byt _=>ai
 |.int _,.str _=>ai|.str _,.int _=>ai|.bl _,.str _=>ai|.str _,.bl _=>ai
 |_,_=>am
def H_:R2:=λx y H Q=>re x y=ai/\Q (.bl (decide (x=y))) H
def G7:R2:=λx y H Q=>re x y=ai/\Q (.bl (!decide (x=y))) H
theorem HN{i j:Int}:decide (V.int i=V.int j)=(i == j):=by rw[p8];simp
theorem Hg{i j:Bool}:decide (V.bl i=V.bl j)=(i == j):=by rw[p8];simp
theorem Gk{i j:Str}:decide (V.str i=V.str j)=(i == j):=by rw[p8];simp
theorem Kb{i j:Array UInt8}:decide (V.byt i=V.byt j)=(i.toList == j.toList):=by
 rw[p8];cases i;cases j;simp
section
variable{X:Cx}{a b c:aE}{ta tb tc:TE}{pos:Pos}
theorem dA{af:List (ah×Obj)}{Y:St}{H:Hp}{s:aq}{Q:VK}{k k':Bool}(I:Inv X af Y H s)(q:Q (.bl k) H)(e:k=k'):EP X af Y Q (.bool k') s:=by subst e;exact⟨.bl k,H,I,rfl,q⟩
theorem Xi:cr X (eW .Eq) H_:=by
 intro af s Y H x y v u Q I rx ry h;obtain⟨hs,q⟩:=h;cases x with
 |non=>
  cases rx;cases y with
  |non=>cases ry;exact PySem.EqNone.eq_none_none (dA I q (by simp))
  |bl j=>cases ry;exact PySem.EqNone.eq_none_bool (dA I q (by simp))
  |int j=>obtain⟨t',rfl⟩:=ry;exact PySem.EqNone.eq_none_int (dA I q (by simp))
  |str j=>obtain⟨t',rfl⟩:=ry;exact PySem.EqNone.eq_none_str (dA I q (by simp))
  |_=>exact absurd (show am=ai from hs) gz
 |bl i=>
  cases rx;cases y with
  |non=>cases ry;exact PySem.EqNone.eq_bool_none (dA I q (by simp))
  |bl j=>cases ry;exact eq_bool (dA I q Hg)
  |str j=>obtain⟨t',rfl⟩:=ry;exact PySem.EqMixed.eq_bool_str (dA I q (by simp))
  |_=>exact absurd (show am=ai from hs) gz
 |int i=>
  obtain⟨t,rfl⟩:=rx;cases y with
  |non=>cases ry;exact PySem.EqNone.eq_int_none (dA I q (by simp))
  |int j=>obtain⟨t',rfl⟩:=ry;exact eq_int (dA I q HN)
  |str j=>obtain⟨t',rfl⟩:=ry;exact PySem.EqMixed.eq_int_str (dA I q (by simp))
  |_=>exact absurd (show am=ai from hs) gz
 |str i=>
  obtain⟨t,rfl⟩:=rx;cases y with
  |non=>cases ry;exact PySem.EqNone.eq_str_none (dA I q (by simp))
  |bl j=>cases ry;exact PySem.EqMixed.eq_str_bool (dA I q (by simp))
  |int j=>obtain⟨t',rfl⟩:=ry;exact PySem.EqMixed.eq_str_int (dA I q (by simp))
  |str j=>obtain⟨t',rfl⟩:=ry;exact eq_str (dA I q Gk)
  |_=>exact absurd (show am=ai from hs) gz
 |byt i=>
  obtain⟨t,rfl⟩:=rx;cases y with
  |byt j=>obtain⟨t',rfl⟩:=ry;exact PySem.W.eq_bytes (dA I q Kb)
  |_=>exact absurd (show am=ai from hs) gz
 |_=>cases y <;> exact absurd (show am=ai from hs) gz
theorem Xx:cr X (eW .NotEq) G7:=by
 intro af s Y H x y v u Q I rx ry h;obtain⟨hs,q⟩:=h;cases x with
 |non=>
  cases rx;cases y with
  |non=>cases ry;exact PySem.EqNone.ne_none_none (dA I q (by simp))
  |bl j=>cases ry;exact PySem.EqNone.ne_none_bool (dA I q (by simp))
  |int j=>obtain⟨t',rfl⟩:=ry;exact PySem.EqNone.ne_none_int (dA I q (by simp))
  |str j=>obtain⟨t',rfl⟩:=ry;exact PySem.EqNone.ne_none_str (dA I q (by simp))
  |_=>exact absurd (show am=ai from hs) gz
 |bl i=>
  cases rx;cases y with
  |non=>cases ry;exact PySem.EqNone.ne_bool_none (dA I q (by simp))
  |bl j=>cases ry;exact ne_bool (dA I q (congrArg not Hg))
  |str j=>obtain⟨t',rfl⟩:=ry;exact PySem.EqMixed.ne_bool_str (dA I q (by simp))
  |_=>exact absurd (show am=ai from hs) gz
 |int i=>
  obtain⟨t,rfl⟩:=rx;cases y with
  |non=>cases ry;exact PySem.EqNone.ne_int_none (dA I q (by simp))
  |int j=>obtain⟨t',rfl⟩:=ry;exact ne_int (dA I q (congrArg not HN))
  |str j=>obtain⟨t',rfl⟩:=ry;exact PySem.EqMixed.ne_int_str (dA I q (by simp))
  |_=>exact absurd (show am=ai from hs) gz
 |str i=>
  obtain⟨t,rfl⟩:=rx;cases y with
  |non=>cases ry;exact PySem.EqNone.ne_str_none (dA I q (by simp))
  |bl j=>cases ry;exact PySem.EqMixed.ne_str_bool (dA I q (by simp))
  |int j=>obtain⟨t',rfl⟩:=ry;exact PySem.EqMixed.ne_str_int (dA I q (by simp))
  |str j=>obtain⟨t',rfl⟩:=ry;exact ne_str (dA I q (congrArg not Gk))
  |_=>exact absurd (show am=ai from hs) gz
 |byt i=>
  obtain⟨t,rfl⟩:=rx;cases y with
  |byt j=>obtain⟨t',rfl⟩:=ry;exact PySem.W.ne_bytes (dA I q (congrArg not Kb))
  |_=>exact absurd (show am=ai from hs) gz
 |_=>cases y <;> exact absurd (show am=ai from hs) gz
theorem C0:cr X (eW .Lt) (mK λi j=>.bl (decide (i<j))):=Dx λ_ _ _ _ _ _ _ q=>lt_int q
theorem o_:cr X (eW .LtE) (mK λi j=>.bl (decide (i<=j))):=Dx λ_ _ _ _ _ _ _ q=>le_int q
theorem PQ:cr X (eW .Gt) (mK λi j=>.bl (decide (j<i))):=Dx λ_ _ _ _ _ _ _ q=>gt_int q
theorem Xd:cr X (eW .In) (λx y H Q=>∃i j,x=.str i/\y=.str j/\Q (.bl (!(Kt j i 0 j.length 1).isEmpty)) H):=by intro af s Y H x y v u Q I rx ry h;obtain⟨i,j,rfl,rfl,q⟩:=h;obtain⟨t,rfl⟩:=rx;obtain⟨t',rfl⟩:=ry;exact in_str (dA I q rfl)
theorem cr.or{f:ak->ak->Sem ak}{r r':R2}(h:cr X f r)(h':cr X f r'):cr X f (λx y H Q=>r x y H Q\/r' x y H Q):=by
 intro af s Y H x y v u Q I rx ry q;rcases q with q|q
 ·exact h af s Y H x y v u Q I rx ry q
 ·exact h' af s Y H x y v u Q I rx ry q
theorem TH{op:CmpOp}{r:R2}(ho:cr X (eW op) r)(ha:PE X a ta)(hb:PE X b tb)(hm:nu op b=am):PE X (.Compare a [op] [b] pos) (xS r ta tb):=by intro af s Y H Q I h;exact wpAny_Compare1 (C_ ha hb I h λv u s2 x y H2 I2 rx ry q=>ho af s2 Y H2 x y v u Q I2 rx ry q) hm
def Hn(t:TE):TT:=λY H Q=>t Y H λx H'=>∃k,x=.bl k/\Q k H'
theorem Pi{op:CmpOp}{r:R2}(ho:cr X (eW op) r)(ha:PE X a ta)(hb:PE X b tb)(hm:nu op b=am):PT X (.Compare a [op] [b] pos) (Hn (xS r ta tb)):=by
 intro af s Y H Q I h;refine wpAny_isTrue_Compare1 (a_ (ha af s Y H _ I h) λv s1 ⟨x,H1,I1,r1,q1⟩=>a_ (hb af s1 Y H1 _ I1 q1) λu s2 ⟨y,H2,I2,r2,q2⟩=>a_ (ho af s2 Y H2 x y v u _ I2 r1 r2 q2) λc s3 ⟨z,H3,I3,r3,k,e,q3⟩=>?_) hm;subst e;cases r3;exact oA ⟨H3,I3,q3⟩
def Bg(r r':R2)(ta tb tc:TE):TE:=λY H Q=>ta Y H λx H1=>tb Y H1 λy H2=>r x y H2 λz H3=>∃k,z=.bl k /\
 (if k=ai then tc Y H3 λw' H4=>r' y w' H4 Q else Q (.bl am) H3)
theorem R4{op op':CmpOp}{r r':R2}(ho:cr X (eW op) r)(jU:cr X (eW op') r')(ha:PE X a ta)(hb:PE X b tb)(hc:PE X c tc)(hm:lastMarks [op,op'] [b,c]=am:=by with_unfolding_all rfl):PE X (.Compare a [op,op'] [b,c] pos) (Bg r r' ta tb tc):=by
 intro af s Y H Q I h;refine Compare_chain (a_ (ha af s Y H _ I h) λv s1 ⟨x,H1,I1,r1,q1⟩=>chain_link (a_ (hb af s1 Y H1 _ I1 q1) λu s2 ⟨y,H2,I2,r2,q2⟩=>a_ (ho af s2 Y H2 x y v u _ I2 r1 r2 q2) λd s3 ⟨z,H3,I3,r3,k,e,q3⟩=>?_)) hm;subst e;cases r3;refine oA ?_;cases k with
 |false=>exact ite_ff ⟨.bl am,H3,I3,rfl,q3⟩
 |true=>exact ite_tt (chain_last (a_ (hc af s3 Y H3 _ I3 q3) λw' s4 ⟨z',H4,I4,r4,q4⟩=>jU af s4 Y H4 y z' u w' Q I4 r2 r4 q4))
theorem SW{op op':CmpOp}{r r':R2}(ho:cr X (eW op) r)(jU:cr X (eW op') r')(ha:PE X a ta)(hb:PE X b tb)(hc:PE X c tc)(hm:lastMarks [op,op'] [b,c]=am:=by with_unfolding_all rfl):PT X (.Compare a [op,op'] [b,c] pos) (Hn (Bg r r' ta tb tc)):=by
 intro af s Y H Q I h;refine isTrue_chain (a_ (ha af s Y H _ I h) λv s1 ⟨x,H1,I1,r1,q1⟩=>test_link (a_ (hb af s1 Y H1 _ I1 q1) λu s2 ⟨y,H2,I2,r2,q2⟩=>a_ (ho af s2 Y H2 x y v u _ I2 r1 r2 q2) λd s3 ⟨z,H3,I3,r3,k,e,q3⟩=>?_)) hm;subst e;cases r3;refine oA ?_;cases k with
 |false=>
  obtain⟨k',e',q'⟩:=q3;cases e';exact ite_ff ⟨H3,I3,q'⟩
 |true=>
  refine ite_tt (test_last (a_ (hc af s3 Y H3 _ I3 q3) λw' s4 ⟨z',H4,I4,r4,q4⟩=>a_ (jU af s4 Y H4 y z' u w' _ I4 r2 r4 q4) λd' s5 ⟨z2,H5,I5,r5,k2,e2,q5⟩=>?_));subst e2;cases r5;exact oA ⟨H5,I5,q5⟩
theorem u_:(bw:Nat)<2^63:=by rw[oB];decide
theorem OI:cr X (jr .Add) (λx y H Q=>∃i j,x=.str i/\y=.str j/\i.length+j.length<=bw/\Q (.str (i++j)) H):=by intro af s Y H x y v u Q I rx ry h;obtain⟨i,j,rfl,rfl,hz,q⟩:=h;obtain⟨t,rfl⟩:=rx;obtain⟨t',rfl⟩:=ry;exact add_str (λt' tk=>⟨.str (i++j),H,I.tok _,⟨_,rfl⟩,q⟩) hz
theorem vals1{x:V}{us:List ak}(r:bX [x] us):∃u,us=[u]/\RelV x u:=by
 cases r with
 |cons r1 r2=>cases r2;exact⟨_,rfl,r1⟩
def Gf(K:aC)(x:V)(H:Hp)(n:Nat):Prop :=
 match x with
 |.str y=>y.length<=bw/\n=y.length
 |.byt y=>y.size<=bw/\n=y.size
 |.ref p=>(∃xs,cC K H p xs/\n=xs.length)\/∃xs,d7 K H p xs/\n=xs.length
 |_=>False
theorem gQ:fD X (.builtin "len") (λxs H Q=>∃x n,xs=[x]/\Gf X.K x H n/\Q (.int n) H):=by
 intro af s Y H xs us Q I r h;obtain⟨x,n,rfl,e,q⟩:=h;obtain⟨u,rfl,rx⟩:=vals1 r;have hl:=u_;have hs:bw=16777216:=oB;cases x with
 |str y=>obtain⟨t,rfl⟩:=rx;obtain⟨hy,e'⟩:y.length<=bw/\n=y.length:=e;subst e';exact len_str ∅ ⟨.int _,H,I.tok _,⟨_,rfl⟩,q⟩
 |byt y=>obtain⟨t,rfl⟩:=rx;obtain⟨hy,e'⟩:y.size<=bw/\n=y.size:=e;subst e';exact PySem.W.len_bytes ∅ ⟨.int _,H,I.tok _,⟨_,rfl⟩,q⟩
 |ref p=>
  cases rx;have e':(∃xs,cC X.K H p xs/\n=xs.length)\/∃xs,d7 X.K H p xs/\n=xs.length:=e;rcases e' with⟨xs,hx,e'⟩|⟨xs,hx,e'⟩
  ·subst e';obtain⟨its,r',pl,hz⟩:=I.list hx;have cg:=r'.length;exact Calls.call_len_list pl.isList (by simp only[cU];lia) ⟨.int xs.length,H,I.tok _,⟨_,by simp only[cU];rw[cg]⟩,q⟩
  ·subst e';obtain⟨its,r',pl,hz⟩:=I.tuple hx;have cg:=r'.length;exact len_tuple pl (by simp only[cU];lia) ⟨.int xs.length,H,I.tok _,⟨_,by simp only[cU];rw[cg]⟩,q⟩
 |_=>exact(show False from e).elim
end
structure J5(h:aI)(x dx C:ah)(mA:Str->Option ak):Prop where
 obj:h.get? x=aa (PySem.W.instObj C dx)
 ns:h.Ns1 dx mA
 ne:dx≠x
theorem Tr{h:aI}{dx:ah}{mA:Str->Option ak}(n:h.Ns1 dx mA):∃od,h.get? dx=aa od/\∀name,PySem.W.lookIn name od=aa (mA name):=by
 obtain⟨o,es,ep,ho,hd,hk,_,hm⟩:=n;refine⟨o,ho,λname=>?_⟩;have e:=hm name;unfold nsFind findBy at e;rw[←Array.find?_toList]at e;unfold PySem.W.lookIn;rw[hd];dsimp only;split
 ·rename_i y q;rw[q]at e;exact congrArg aa e
 ·rename_i q;rw[q]at e;have a:es.toList.any (·.refKey)=am:=by rw[Ku];intro y hy;obtain⟨z,t,jv⟩:=hk y (Array.mem_toList_iff.mp hy);simp[DictEntry.refKey,jv]
  have a':¬es.toList.any (·.refKey)=ai:=by rw[a];exact gz
  rw[if_neg a'];exact congrArg aa e
theorem J5.look{h:aI}{x dx C:ah}{mA:Str->Option ak}(I:J5 h x dx C mA):∃od,v9 h x (PySem.W.instObj C dx) C (aa od)/\∀name,PySem.W.lookIn name od=aa (mA name) :=
 let ⟨od,ho,hl⟩:=Tr I.ns
 ⟨od,⟨I.obj,rfl,rfl,ho⟩,hl⟩
theorem p6.some_of{v:V}{o:Option ak}(r:p6 (aa v) o):∃u,o=aa u/\RelV v u:=by
 cases o with
 |none=>exact(show False from r).elim
 |some u=>exact⟨u,rfl,r⟩
section
variable{P:aZ}{w:aT}{H H':Hp}{h h':aI}{a C dx:ah}{fs fs':List (Str×V)}
theorem QG(hok:dO P w H h)(e:H a=aa (.ins C dx fs)):∃mA,J5 h a dx C mA/\(∀f,p6 (fs.lookup f) (mA f))/\PySem.Within mA (fs.map (·.1))/\fs.length<=1000/\H dx=aa (.own a):=by
 obtain⟨d,z,ne,ob,mA,n,r,q⟩:=(show dS P w H h a (.ins C dx fs)from hok a _ e)
 exact⟨mA,⟨ob,n,ne⟩,r,q,z,d⟩
end
structure HY(K:aC)(C:ah):Prop where
 pg:PySem.W.plainGet K C p9=ai
 hd:PySem.W.hasDictIn K C=ai
 po:PySem.W.plainOver K C=ai
 sa:rK K (.ref C) "__setattr__" = aa (aa (.builtin "object.__setattr__"))
theorem HY.get{K:aC}{C:ah}(c:HY K C)(f:Str):PySem.W.plainGet K C f=ai:=c.pg
section
variable{X:Cx}{af:List (ah×Obj)}{Y:St}{H:Hp}{s:aq}{A:bd}{E:ak->aq->Prop}{Q:ak->aq->Prop}{c:ak}{b:Bool}
inductive jo(K:aC)(H:Hp):V->ak->Prop where
 |non:jo K H .non (.type "NoneType")
 |bl (x:Bool):jo K H (.bl x) (.type "bool")
 |int (i:Int):jo K H (.int i) (.type "int")
 |str (x:Str):jo K H (.str x) (.type "str")
 |flt (x:UInt64):jo K H (.flt x) (.type "float")
 |lst {a:ah}{xs:List V} (e:H a=aa (.lst xs)):jo K H (.ref a) (.type "list")
 |frz {a:ah}{o:Obj}{xs:List V} (e:H a=aa (.frz o (.lst xs))):jo K H (.ref a) (.type "list")
 |tup {a:ah}{xs:List V} (e:H a=aa (.tup xs)):jo K H (.ref a) (.type "tuple")
 |dK {a:ah}{XN:List (aS×V)} (e:H a=aa (.dK XN)):jo K H (.ref a) (.type "dict")
 |dT {a:ah}{XN:List (List aS×V)} (e:H a=aa (.dT XN)):jo K H (.ref a) (.type "dict")
 |ins {a C dx:ah}{fs:List (Str×V)} (e:H a=aa (.ins C dx fs)) (cl:HY K C) (ha:rK K (.ref C) "__class__" = aa (aa (.builtin "object.__class__")))
   (hn:Kv K (.builtin "object.__class__") "__get__" = aa (aa (.builtin "getset_descriptor.__get__"))) (wS:PySem.W.takesIn K (.builtin "object.__class__")=aa ai)
   (hm:zP K C (.type "object")=aa ai):jo K H (.ref a) (.ref C)
theorem Pm{x:V}{u t:ak}(I:Inv X af Y H s)(rx:RelV x u)(ty:jo X.K H x t)(e:gA X.K t c=aa b)(h:∀tk,Q (.bool b) {s with toks:=tk}):aA (aB X.prog X.w) A (call (.builtin "isinstance") [u,c]) Q E s:=by
 cases ty with
 |non=>cases (show u=Value.none from rx);exact mh PySem.W.kitx_none I.kIn True.intro e (λz=>nomatch z) h
 |bl y=>cases (show u=Value.bool y from rx);exact mh PySem.W.kitx_bool I.kIn True.intro e (λz=>nomatch z) h
 |int i=>obtain⟨t,q⟩:=(show ∃t,u=Value.int i t from rx);cases q;exact mh PySem.W.kitx_int I.kIn True.intro e (λz=>nomatch z) h
 |str y=>obtain⟨t,q⟩:=(show ∃t,u=Value.str y t from rx);cases q;exact mh PySem.W.kitx_str I.kIn True.intro e (λz=>nomatch z) h
 |flt y=>obtain⟨t,q⟩:=(show ∃t,u=Value.float y t from rx);cases q;exact mh PySem.W.kitx_float I.kIn True.intro e (λz=>nomatch z) h
 |@lst a xs ea=>
  cases (show u=Value.ref a from rx);obtain⟨_,_,n,_,h1⟩:=(show dS X.prog X.w H s.heap a (.lst xs)from I.hok a _ ea)
  exact mh PySem.W.kitx_list I.kIn ⟨_,h1,rfl⟩ e (λz=>nomatch z) h
 |@frz a ob xs ea=>
  cases (show u=Value.ref a from rx);obtain⟨_,_,_,n,_,h1⟩:=(show dS X.prog X.w H s.heap a (.frz ob (.lst xs))from I.hok a _ ea)
  exact mh PySem.W.kitx_list I.kIn ⟨_,h1,rfl⟩ e (λz=>nomatch z) h
 |@tup a xs ea=>
  cases (show u=Value.ref a from rx);obtain⟨_,_,_,p,_⟩:=(show dS X.prog X.w H s.heap a (.tup xs)from I.hok a _ ea)
  obtain⟨o,h1,h2,_⟩:=p;exact mh PySem.W.kitx_tuple I.kIn ⟨o,h1,h2⟩ e (λz=>nomatch z) h
 |@dK a XN ea=>
  cases (show u=Value.ref a from rx);obtain⟨_,_,vs,_,p⟩:=(show dS X.prog X.w H s.heap a (.dK XN)from I.hok a _ ea)
  obtain⟨o,es,ep,h1,h2,_⟩:=p;exact mh PySem.W.kitx_dict I.kIn ⟨o,h1,h2.1⟩ e (λz=>nomatch z) h
 |@dT a XN ea=>
  cases (show u=Value.ref a from rx);obtain⟨_,_,xs,_,o,es,ep,h1,h2,_⟩:=(show dS X.prog X.w H s.heap a (.dT XN)from I.hok a _ ea)
  exact mh PySem.W.kitx_dict I.kIn ⟨o,h1,h2.1⟩ e (λz=>nomatch z) h
 |@ins a C dx fs ea cl ha hn wS hm=>
  cases (show u=Value.ref a from rx);obtain⟨mA,O,_⟩:=QG I.hok ea;obtain⟨od,J,_⟩:=O.look;exact mh (PySem.W.kitx_own (cl.get _) cl.hd ha hn wS hm) I.kIn J e (λz=>nomatch z) h
end
structure Room(k:Nat)(A:bd):Prop where
 hd:A.handled=ae
 dp:A.depth+3*k+5<v_
 un:A.units+16*k+200<cLine
theorem Room.mono{j k:Nat}{A:bd}(r:Room k A)(h:j<=k):Room j A:=⟨r.hd,by have:=r.dp;lia,by have:=r.un;lia⟩
theorem Room.deeper{k:Nat}{A:bd}(r:Room (k+1) A)(env:Env):Room k (A.deeper env) :=⟨r.hd,by have:=r.dp;show A.depth+1+3*k+5<_;lia,by have:=r.un;show A.units+3+16*k+200<_;lia⟩
theorem Room.depth{k:Nat}{A:bd}(r:Room k A):A.depth<v_:=by have:=r.dp;lia
theorem Room.units{k:Nat}{A:bd}(r:Room k A):A.units+64<cLine:=by have:=r.un;lia
def O7:TA:=λ_ H Q=>Q [] H
def OT(ta:TE)(tr:TA):TA:=λY H Q=>ta Y H λx H1=>tr Y H1 λxs H2=>Q (x::xs) H2
section
variable{X:Cx}{e:aE}{es:List aE}{te:TE}{t:TA}{pos:Pos}
theorem k_:PA X [] O7:=λ_ _ _ _ H Q I h=>Kw ⟨[],H,I,.nil,h⟩
theorem jE(ha:PE X e te)(hr:PA X es t)(hs:aW (e::es) X.env=(am,bf e X.env)::aW es X.env:=by rfl):PA X (e::es) (OT te t):=by intro pos af s Y H Q I h;rw[hs];show aA _ _ (spliced ((am,bf e X.env)::dR pos (aW es X.env))) _ _ s;refine DJ (a_ (ha af s Y H _ I h) λu s1 ⟨x,H1,I1,r1,q1⟩=>?_);exact a_ (hr pos af s1 Y H1 _ I1 q1) λus s2 ⟨xs,H2,I2,r2,q2⟩=>⟨x::xs,H2,I2,.cons r1 r2,q2⟩
def QP(t:TA):TE:=λY H Q=>t Y H λxs H1=>xs.length<=bw/\∀p,H1 p=ae->Q (.ref p) (upd H1 p (.tup xs))
def Ms(t:TA):TE:=λY H Q=>t Y H λxs H1=>xs.length<=bw/\∀p,H1 p=ae->Q (.ref p) (upd H1 p (.lst xs))
theorem NP{x1}(h:PA X es t):PE X (.Tuple es x1 pos) (QP t):=by intro af s Y H Q I hq;refine wpAny_Tuple_spliced (a_ (h pos af s Y H _ I hq) λus s1 ⟨xs,H1,I1,r,z,q⟩=>⟨by rw[←r.length];exact z,?_⟩);have hf:H1 s1.heap.objs.size=ae:=I1.hok.fresh (bn _);refine⟨.ref s1.heap.objs.size,upd H1 s1.heap.objs.size (.tup xs),I1.laid (t':=s1.toks) (λb u e=>bH _ e) (bn _) ?_,rfl,q _ hf⟩;exact⟨z,us,r,⟨⟨_,df _ rfl,rfl,_,rfl⟩,_,df _ rfl,rfl⟩⟩
theorem Vz(h:PA X es t):PE X (.List es pos) (Ms t):=by intro af s Y H Q I hq;refine wpAny_List_spliced (a_ (h pos af s Y H _ I hq) λus s1 ⟨xs,H1,I1,r,z,q⟩=>⟨by rw[←r.length];exact z,?_⟩);have hf:H1 s1.heap.objs.size=ae:=I1.hok.fresh (bn _);refine⟨.ref s1.heap.objs.size,upd H1 s1.heap.objs.size (.lst xs),I1.laid (t':=s1.toks) (λb u e=>bH _ e) (bn _) ?_,rfl,q _ hf⟩;exact⟨z,us,0,r,df _ rfl⟩
end
abbrev Sp:=List V->Hp->VK->XK->Prop
abbrev gc:=List Env->Hp->aq->XK->ak->aq->Prop
structure sT(P:aZ)(w:aT)(K:aC)(mg:Str->Option ak)(base:aI)(A:bd)(outer:List Env)(s:aq)(H:Hp):Prop where
 frames:A.frames=aa outer
 mod:Mod K mg base
 bs:∀b o,base.get? b=aa o->s.heap.get? b=aa o/\H b=ae
 bsz:base.objs.size<=s.heap.objs.size
 funs:s.heap.FunFrames base outer
 frf:∀b∈fV outer,H b=ae
 hok:dO P w H s.heap
 bare:ox s.gens
 tab:xF K H
def CE(outer:List Env)(P:aZ)(w:aT)(H:Hp)(s:aq)(Q:VK)(u:ak)(s':aq):Prop :=
 ∃v H',s'.os=s.os/\ox s'.gens/\Un (fV outer) [] H H' s.heap s'.heap/\dO P w H' s'.heap/\RelV v u/\Q v H'
def CR(CX:gc)(outer:List Env)(P:aZ)(w:aT)(H:Hp)(s:aq)(Q:VK)(E:XK)(r:Result)(s':aq):Prop :=
 match r with
 |.ok (.ret u)=>CE outer P w H s Q u s'
 |.ok _=>False
 |.error e=>CX outer H s E e s'
structure j5(P:aZ)(w:aT)(K:aC)(mg:Str->Option ak)(base:aI)(CX:gc)(k:Nat)(f:ah)(fd:gD)(ps:List Str)(sp:Sp):Prop where
 len:∀vs H Q E,sp vs H Q E->vs.length=ps.length
 run:∀(A:bd) (outer:List Env) (s:aq) (H:Hp) (args:Args) (us:List ak) (vs:List V) (Q:VK) (E:XK),Room k A->sT P w K mg base A outer s H->BindsTo s fd args (ps.zip us)->bX vs us->sp vs H Q E ->
  nz (aB P w) A (.call (.ref f) args) (CR CX outer P w H s Q E) s
section
variable{X:Cx}{af:List (ah×Obj)}{Y:St}{H:Hp}{s s':aq}
theorem Inv.env0(I:Inv X af Y H s):sT X.prog X.w X.K X.mg X.base X.A X.stack s H :=⟨I.ok.frames,I.ok.mod,I.bs,dj I.ok.bsz I.sz,I.stack,I.stkFree,I.hok,I.bare,I.tab⟩
theorem Inv.after{Q:VK}{u:ak}(I:Inv X af Y H s)(h:CE X.stack X.prog X.w H s Q u s'):EP X af Y Q u s':=by obtain⟨v,H',os,bare,un,hok,r,q⟩:=h;obtain⟨hh,g,d,t,os'⟩:=s';obtain rfl:os'=s.os:=os;exact⟨v,H',I.call (h':=hh) (g':=g) (d':=d) (t':=t) (ch:=[]) un hok bare (λb z=>absurd z (by simp)),r,q⟩
end
def Oc(sp:Sp)(dvs:List V)(E:XK)(t:TA):TE:=λY H Q=>t Y H λvs H1=>sp (vs++dvs) H1 Q E
def Binds(K:aC)(fd:gD)(ps:List Str)(ds:List ak):Prop :=
 ∀(s:aq) (us:List ak),K.In s.heap->(us++ds).length=ps.length->BindsTo s fd ⟨us,[]⟩ (ps.zip (us++ds))
theorem Binds.all{K:aC}{fd:gD}{ps:List Str}(h:∀us:List ak,us.length=ps.length->fZ fd ⟨us,[]⟩=pure (ps.zip us)):Binds K fd ps []:=λs us _ hl=>by rw[iZ]at hl ⊢;exact .of_eq (h us hl)
def tq(CX:gc)(X:Cx)(E:XK):Prop:=∀(af:List (ah×Obj)) (Y:St) (H:Hp) (s:aq) (e:ak) (s':aq),Inv X af Y H s->CX X.stack H s E e s'->X.xe e s'
section
variable{X:Cx}{CX:gc}{k:Nat}{f C:ah}{fd:gD}{ps:List Str}{sp:Sp}{dvs:List V}{ds:List ak}{E:XK}{x m:Str}{p pos X7:Pos}{e o:aE}{es:List aE}{ta:TE}{t:TA}
theorem WH{af:List (ah×Obj)}{Y:St}{H:Hp}{s:aq}{Q:VK}{us:List ak}{vs:List V}(F:j5 X.prog X.w X.K X.mg X.base CX k f fd ps sp)(hr:Room k X.A)(hb:Binds X.K fd ps ds)(hd:bX dvs ds)(hx:tq CX X E)(I:Inv X af Y H s) (r:bX vs us) (h:sp (vs++dvs) H Q E):aA (aB X.prog X.w) X.A (call (.ref f) us) (EP X af Y Q) X.xe s:=by
 have r2:bX (vs++dvs) (us++ds):=r.append hd;have hl:(us++ds).length=ps.length:=by rw[←r2.length];exact F.len _ _ _ _ h
 refine wb (rL (F.run X.A X.stack s H ⟨us,[]⟩ (us++ds) (vs++dvs) Q E hr I.env0 (hb s us I.kIn hl) r2 h) λr s' hq=>?_);cases r with
 |error e=>exact hx af Y H s e s' I hq
 |ok fl=>
  cases fl with
  |ret u=>exact I.after hq
  |next=>exact iJ hq
  |brk=>exact iJ hq
  |cont=>exact iJ hq
theorem Go(F:j5 X.prog X.w X.K X.mg X.base CX k f fd ps sp)(hr:Room k X.A)(hg:Gl X x)(hm:X.mg x=aa (.ref f))(hk:oC X.K (.ref f)=ai)(hb:Binds X.K fd ps ds)(hd:bX dvs ds)(hx:tq CX X E)(ha:PA X (e::es) t) (jV:(x == ("__debug__" : Str))=am:=by decide) (he:aW (e::es) X.env=(am,bf e X.env)::aW es X.env:=by rfl) (cV:(dR pos (aW es X.env)).any (·.1)=am:=by rfl):PE X (.Call (.Name x p) (e::es) [] pos) (Oc sp dvs E t):=by intro af s Y H Q I h;refine zQ (vZ I hg hm ?_ jV);refine Kx (h₀:=X.base) I.ok.mod.kin hk (a_ (ha pos af s Y H _ I h) λus s1 ⟨vs,H1,I1,r,q⟩=>⟨I1.kIn,?_⟩) he cV;exact WH F hr hb hd hx I1 r q
end
structure b7(N P:List Str)(sc:d8):Prop where
 kind:sc.kind=.function
 co:sc.isCoroutine=am
 gen:sc.isGenerator=am
 nd:N.Nodup
 pre:N.take P.length=P
 par:∀x∈P,sc.names.lookup x=aa .local\/sc.names.lookup x=aa .cell
 nofree:∀y∈sc.names,y.2≠.free
theorem Ie{kindOf:Str->Option io}{x:Str}:∀{binds:List (Str×ak)}{m:Str->Option ak},(∀v,(x,v)∉binds)->bindL kindOf binds m x=m x
 |[],_,_=>rfl
 | (n,v)::r,m,h=>by
  unfold bindL;rw[Ie λw hw=>h w (me _ hw)];split
  ·have:x≠n:=by rintro rfl;exact h v oy
   simp[this]
  ·rfl
theorem Kc{kindOf:Str->Option io}{x:Str}:∀{binds:List (Str×ak)}{m:Str->Option ak},(∀v,(x,v)∉binds)->bindC kindOf binds m x=m x
 |[],_,_=>rfl
 | (n,v)::r,m,h=>by
  unfold bindC;rw[Kc λw hw=>h w (me _ hw)];split
  ·rfl
  ·have:x≠n:=by rintro rfl;exact h v oy
   simp[this]
theorem Ge{kindOf:Str->Option io}{x:Str}{v:ak}:∀{P:List Str}{vs:List ak}{i:Nat}{m:Str->Option ak},P.Nodup->P[i]?=aa x->vs[i]?=aa v->kindOf x=aa .local -> bindL kindOf (P.zip vs) m x=aa v
 |[],_,_,_,_,h,_,_=>by simp at h
 |_::_,[],_,_,_,_,h,_=>by simp at h
 |p::P,w::vs,0,m,nd,h1,h2,hk=>by simp at h1 h2;subst h1;subst h2;show bindL kindOf ((p,w)::P.zip vs) m p=_;unfold bindL;rw[Ie λv hv=>(kh.mp nd).1 (DK hv).1,if_pos hk];simp
 |p::P,w::vs,i+1,m,nd,h1,h2,hk=>by show bindL kindOf ((p,w)::P.zip vs) m x=_;unfold bindL;exact Ge (i:=i) (kh.mp nd).2 (by simpa using h1) (by simpa using h2) hk
theorem J3{kindOf:Str->Option io}{x:Str}{v:ak}:∀{P:List Str}{vs:List ak}{i:Nat}{m:Str->Option ak},P.Nodup->P[i]?=aa x->vs[i]?=aa v->kindOf x≠aa .local -> bindC kindOf (P.zip vs) m x=aa v
 |[],_,_,_,_,h,_,_=>by simp at h
 |_::_,[],_,_,_,_,h,_=>by simp at h
 |p::P,w::vs,0,m,nd,h1,h2,hk=>by simp at h1 h2;subst h1;subst h2;show bindC kindOf ((p,w)::P.zip vs) m p=_;unfold bindC;rw[Kc λv hv=>(kh.mp nd).1 (DK hv).1,if_neg hk];simp
 |p::P,w::vs,i+1,m,nd,h1,h2,hk=>by show bindC kindOf ((p,w)::P.zip vs) m x=_;unfold bindC;exact J3 (i:=i) (kh.mp nd).2 (by simpa using h1) (by simpa using h2) hk
def start(N:List Str)(vs:List V):St:=vs.map aa++bK (N.length-vs.length) ae
def iU(CX:gc)(P:aZ)(w:aT)(K:aC)(mg:Str->Option ak)(base:aI)(N:List Str)(qual:Str)(scope:d8)(f:ah)(cd:ak)(A:bd)(outer:List Env)(s:aq)(H:Hp)(E:XK):Cx where
 prog:=P
 w:=w
 K:=K
 mg:=mg
 base:=base
 A:=A.deeper (js qual scope s.heap.objs.size f cd)
 N:=N
 tM:=s
 uM:=H
 env:=js qual scope s.heap.objs.size f cd
 outer:=outer
 stack:=js qual scope s.heap.objs.size f cd::outer
 ex:=[]
 calm:=ai
 fn:=λ_=>ai
 pn:=[]
 xe:=λe s'=>aA (aB P w) (A.deeper (js qual scope s.heap.objs.size f cd)) (leaving (js qual scope s.heap.objs.size f cd) e) (λ_ s''=>CX outer H s E e s'') (λe' s''=>CX outer H s E e' s'') s'
theorem F7{sc:d8}{n:Nat}{x:Str}(h:sc.names.lookup x=aa .cell):∃c,(f6 n sc.names []).lookup x=aa c:=by have q:=Ky sc.names n [] (.inl h);exact DL.mp q
theorem Hx{CX:gc}{P:aZ}{w:aT}{K:aC}{mg:Str->Option ak}{base:aI}{N ps:List Str}{qual:Str}{scope:d8}{f:ah}{cd:ak}{A:bd}{outer:List Env}{s s1:aq}{H:Hp}{E:XK}{us:List ak}{vs:List V}(S:b7 N ps scope) (hd:A.handled=ae) (e0:sT P w K mg base A outer s H) (hl:vs.length=ps.length) (r:bX vs us)(x:InCallC s s.heap.objs.size (bindL (js qual scope s.heap.objs.size f cd).kindOf (ps.zip us) λ_=>ae) (f6 (s.heap.objs.size+1) scope.names []) (bindC (js qual scope s.heap.objs.size f cd).kindOf (ps.zip us) λ_=>ae) s1):Inv (iU CX P w K mg base N qual scope f cd A outer s H E) [] (start N vs) H s1:=by
 have cV:ps.length<=N.length:=by have:=congrArg tX S.pre;rw[jN]at this;lia
 obtain⟨h1,tk,rfl,hk⟩:=x.done;have noA:∀b:ah,b∉(iU CX P w K mg base N qual scope f cd A outer s H E).ex:=λb z=>absurd (show b∈([]:List ah)from z) (by simp);refine⟨⟨e0.mod,S.kind,rfl,rfl,bn _,λy z c h1 h2=>?_,λy hy=>?_,λy c _ h=>?_,λ_=>hd,Around.frames_deeper e0.frames,.inr ⟨rfl,rfl⟩,λb z=>absurd z (noA b),e0.bs,e0.bsz,λb _ _=>noA b,λb z=>absurd z (noA b),e0.funs,e0.frf,e0.tab⟩,rfl,e0.bare,Un.kept hk,⟨_,x.toInCall.ns,λi y v h1 h2 h3=>?_⟩,λy c h=>⟨_,x.cell y c h⟩,e0.hok.fresh (bn _),λy c h=>?_,λp hp=>absurd (show p∈([]:List (ah×Obj))from hp) (by simp),e0.hok.kept hk,?_⟩
 ·exact name_of_addr x.apart (mi h1) (mi h2)
 ·have hy:scope.names.lookup y=aa .cell\/scope.names.lookup y=aa .free:=hy;rcases hy with hy|hy
  ·exact F7 hy
  ·exact absurd rfl (S.nofree _ (mi hy))
 ·exact nt (x.above y c (mi h))
 ·have hi:i<vs.length:=by
   unfold start at h2;by_cases hi:i<vs.length
   ·exact hi
   ·rw[jO (by simpa using hi)]at h2;rw[List.getElem?_replicate]at h2;split at h2 <;> cases h2
  have ha:vs[i]?=aa v:=by
   unfold start at h2;rw[fJ (by simpa using hi),jP]at h2;cases e:vs[i]? with
   |none=>rw[e]at h2;cases h2
   |some a=>rw[e]at h2;cases h2;rfl
  obtain⟨u,hu,rv⟩:=r.get ha;have hp:ps[i]?=aa y:=by rw[←S.pre,zR ∅];exact h1
  have ndP:ps.Nodup:=by rw[←S.pre];exact S.nd.sublist (List.take_sublist _ _)
  refine⟨u,rv,?_⟩;rcases S.par y (zS hp)with k|k
  ·exact .inl ⟨k,Ge ndP hp hu k⟩
  ·obtain⟨c,e⟩:=F7 (n:=s.heap.objs.size+1) k;refine .inr ⟨.inl k,c,e,?_⟩;have q:=x.cell y c e;rw[J3 ndP hp hu (by show scope.names.lookup y≠_;rw[k];decide)]at q;exact q
 ·exact e0.hok.fresh (nt (x.above y c (mi h)))
 ·unfold start;show _=N.length;rw[d_,dw,List.length_replicate];lia
theorem L7{CX:gc}{P:aZ}{w:aT}{K:aC}{mg:Str->Option ak}{base:aI}{k:Nat}{f:ah}{name qual:Str}{params:rM}{body:List ba}{scope:d8}{dV kV X9 pm aN ct oc:ak}{an od:Option ah}{osl:Array (Option ak)}{N ps:List Str}{sp:Sp} (lk:K.lookup f=aa ⟨oc,od,.func (i4 name qual params body scope dV kV X9 pm an aN ct),osl⟩) (bL:wd K aN qual=ai) (S:b7 N ps scope)(len:∀vs H Q E,sp vs H Q E->vs.length=ps.length)(iw:∀(A:bd) (outer:List Env) (s:aq) (H:Hp) (vs:List V) (Q:VK) (E:XK),Room k (A.deeper (js qual scope s.heap.objs.size f aN))->sp vs H Q E -> ∃t,lY (iU CX P w K mg base N qual scope f aN A outer s H E) body t/\t {nx:=λ_ H'=>Q .non H',rt:=Q} (start N vs) H):j5 P w K mg base CX (k+1) f (i4 name qual params body scope dV kV X9 pm an aN ct) ps sp:=by
 refine⟨len,λA outer s H args us vs Q E hr e0 hb r jW=>?_⟩;have hl:=len _ _ _ _ jW;have KX:K.In s.heap:=e0.mod.kin.keeps λb o e=>(e0.bs b o e).1;have lim:s.heap.NoLimit:=e0.mod.nolimit.keeps λb o e=>(e0.bs b o e).1;have EM:∀y∈ps.zip us,scope.names.lookup y.1=aa .local\/(scope.names.lookup y.1=aa .cell/\((f6 (s.heap.objs.size+1) scope.names []).lookup y.1).isSome=ai):=λ⟨n,v⟩ hy=>by
  rcases S.par n (DK hy).1 with q|q
  ·exact .inl q
  ·exact .inr ⟨q,Ky _ _ _ (.inl q)⟩
 refine codeAny_call_function hr.depth (KX _ _ lk) rfl S.co S.gen rfl (PySem.W.codeRec_of KX bL) (hb _ _ _ _ ?_);refine wpAny_newFunctionEnv_cells S.kind EM λenv he s1 x=>?_;subst he;refine⟨lim.keeps x.toInCall.keep,codeAny_func ?_⟩;obtain⟨t,ht,hq⟩:=iw A outer s H vs Q E (hr.deeper _) jW;have I:Inv (iU CX P w K mg base N qual scope f aN A outer s H E) [] (start N vs) H s1:=Hx S hr.hd e0 hl r x;refine dr (ht [] s1 (start N vs) H _ I hq) (λfl s' hs=>?_) λe s' hs=>hs;have fin:∀{Y':St}{H':Hp}{v:V}{u:ak},Inv (iU CX P w K mg base N qual scope f aN A outer s H E) [] Y' H' s'->RelV v u->Q v H'->CE outer P w H s Q u s' :=λ{Y' H' v u} J rv q=>⟨v,H',J.os,J.bare,J.base,J.hok,rv,q⟩
 cases fl with
 |ret u=>obtain⟨v,Y',H',J,rv,q⟩:=hs;exact fin J rv q
 |next=>obtain⟨Y',H',J,q⟩:=hs;exact fin (v:=V.non) (u:=Value.none) J rfl q
 |brk=>obtain⟨_,_,_,q⟩:=hs;exact iJ q
 |cont=>obtain⟨_,_,_,q⟩:=hs;exact iJ q
section
variable{X:Cx}{x:Str}{p pos:Pos}{e:aE}{es:List aE}{t:TA}{id T:String}{r:List V->Hp->VK->Prop}
def IW(r:List V->Hp->VK->Prop)(t:TA):TE:=λY H Q=>t Y H λvs H1=>r vs H1 Q
theorem rA(hc:fD X (.builtin id) r)(hg:Gl X x)(hm:X.mg x=ae)(hv:fz x=aa (.builtin id))(ha:PA X (e::es) t)(hn:x≠"__name__":=by decide)(jV:(x == ("__debug__" : Str))=am:=by decide)(he:aW (e::es) X.env=(am,bf e X.env)::aW es X.env:=by rfl) (cV:(dR pos (aW es X.env)).any (·.1)=am:=by rfl):PE X (.Call (.Name x p) (e::es) [] pos) (IW r t):=by intro af s Y H Q I h;refine zQ (tK I hg hm hv ?_ hn jV);exact PyProof.Rows.callWith_builtin1 (a_ (ha pos af s Y H _ I h) λus s1 ⟨vs,H1,I1,r1,q1⟩=>hc af s1 Y H1 vs us Q I1 r1 q1) he cV
theorem vJ(hc:fD X (.type T) r)(hg:Gl X x)(hm:X.mg x=ae)(hv:fz x=aa (.type T))(ha:PA X (e::es) t)(hn:x≠"__name__":=by decide)(jV:(x == ("__debug__" : Str))=am:=by decide)(he:aW (e::es) X.env=(am,bf e X.env)::aW es X.env:=by rfl) (cV:(dR pos (aW es X.env)).any (·.1)=am:=by rfl):PE X (.Call (.Name x p) (e::es) [] pos) (IW r t):=by intro af s Y H Q I h;refine zQ (tK I hg hm hv ?_ hn jV);exact Kq (a_ (ha pos af s Y H _ I h) λus s1 ⟨vs,H1,I1,r1,q1⟩=>hc af s1 Y H1 vs us Q I1 r1 q1) he cV
end
end L2
namespace HT
section
open PySem.SeqAt
open PySem.AutoSeq1 (wpAny_loadPart')
open PySem.MeetsSeq PySem.MeetsSeq2 PySem.MeetsSeq3
end
section
variable{prog:aZ}{w:aT}{A:bd}{E:ak->aq->Prop}{s:aq}
theorem cat_tup{t b:ah}{vs ws:List ak}{Q:ak->aq->Prop}(ht:IsTup s.heap t vs.toArray)(hb:IsTup s.heap b ws.toArray)(hv:vs≠[])(h1:ws=[]->Q (.ref t) s) (h2:ws≠[]->Q (.ref s.heap.objs.size) {s with heap:=s.heap.push {cls:=.type "tuple",data:=.seq (vs++ws).toArray}})(hsz:vs.length+ws.length<=bw):aA (aB prog w) A (jr .Add (.ref t) (.ref b)) Q E s:=by
 obtain⟨⟨cls,dd,data,sl⟩,ho,hc,n,hd⟩:=id ht;obtain⟨⟨cls2,dd2,data2,sl2⟩,qw,ut,n2,r9⟩:=id hb;simp only at hc hd ut r9;subst hc hd ut r9;have e:vs.toArray++ws.toArray=(vs++ws).toArray:=by simp
 by_cases hw:ws=[]
 ·exact concat_meets ⟨_,ho,rfl⟩ ⟨_,qw,rfl⟩ noFill_tuple_add seq_tuple_add PySem.F.slot_tuple_add PySem.F.entry_tuple_add (PySem.F.args_tuple_add_2 _ _)
   (tuple_addW1 t b vs.toArray ws.toArray n n2 dd dd2 sl sl2 (by simpa using hv) (by simp[hw])) ⟨ho,qw,h1 hw⟩
 ·refine concat_meets ⟨_,ho,rfl⟩ ⟨_,qw,rfl⟩ noFill_tuple_add seq_tuple_add PySem.F.slot_tuple_add PySem.F.entry_tuple_add (PySem.F.args_tuple_add_2 _ _)
   (tuple_addW2 t b vs.toArray ws.toArray n n2 dd dd2 sl sl2 (by simpa using hv) (by simpa using hw) (by rw[cU,cU];exact hsz)) ⟨ho,qw,?_⟩
  rw[e];exact h2 hw
def sIx(n d:Nat):Option Int->Nat
 |none=>d
 |some v=>if v<0 then(v+(n:Int)).toNat else min v.toNat n
theorem sIx_nat(n d k:Nat):sIx n d (aa (k:Int))=min k n:=by show(if(k:Int)<0 then((k:Int)+(n:Int)).toNat else min (k:Int).toNat n)=min k n;rw[if_neg ∅,nA]
theorem sIx_le(n d:Nat)(hd:d<=n)(o:Option Int):sIx n d o<=n:=by
 cases o with
 |none=>exact hd
 |some v=>
  show(if v<0 then(v+(n:Int)).toNat else min v.toNat n)<=n;by_cases hv:v<0
  ·rw[if_pos hv];lia
  ·rw[if_neg hv];exact Nat.min_le_right _ _
theorem FN(v:Int)(n d:Nat):(if v<0 then max (v+(n:Int)) 0 else min v (n:Int))=((sIx n d (aa v):Nat):Int):=by
 show(if v<0 then max (v+(n:Int)) 0 else min v (n:Int))=(((if v<0 then(v+(n:Int)).toNat else min v.toNat n):Nat):Int)
 by_cases hv:v<0
 ·simp only[if_pos hv];lia
 ·simp only[if_neg hv];lia
theorem O4(lo hi:Option Int)(n:Nat):Kz lo hi 1 (n:Int)=(((sIx n 0 lo:Nat):Int),((sIx n n hi:Nat):Int)):=by
 have h1:¬((1:Int)<0):=∅
 unfold Kz;simp only[h1,if_false];refine Prod.ext ?_ ?_
 ·cases lo with
  |none=>rfl
  |some v=>exact FN v n 0
 ·cases hi with
  |none=>rfl
  |some v=>exact FN v n n
theorem SM(i j:Nat):DP (i:Int) (j:Int) 1=j-i:=by
 unfold DP;have h1:(1:Int) > 0:=∅
 simp only[h1,if_true,Int.ediv_one];split <;> lia
theorem JA{v:ak}{o:Option Int}{Q:Option Int->aq->Prop}(p:oD v o)(h:Q o s):aA (aB prog w) A (Builtin.Slice.slicePartIndex v) Q E s:=by
 cases p with
 |none=>exact slicePart_none h
 |int i t=>exact slicePart_int h
theorem T8{sl:ah}{vl vu:ak}{lo hi:Option Int}{n:Nat}{Q:Int×Int×Nat->aq->Prop}(hs:s.heap.IsSliceOf sl vl vu .none)(pl:oD vl lo)(pu:oD vu hi)(h:Q (((sIx n 0 lo:Nat):Int),1,sIx n n hi-sIx n 0 lo) s):aA (aB prog w) A (Builtin.Slice.sliceApplied (.ref sl) (pure (n:Int))) Q E s:=by
 obtain⟨os,wT,hcs,hds⟩:=id hs;unfold Builtin.Slice.sliceApplied Builtin.Slice.sliceFields;refine au (au (rN wT hds (x:=vl) rfl (au (rN wT hds (x:=vu) rfl (au (rN wT hds (x:=.none) rfl (aF ?_)))))));refine au (slicePart_none ?_);show aA _ _ (if((1:Int) == 0)=ai then _ else _) _ _ s;rw[if_neg (by decide)];refine au (JA pl (au (JA pu (au (aF ?_)))));show aA _ _ (match Kz lo hi 1 (n:Int)with | (lo,hi)=>pure (lo,(1:Int),DP lo hi 1)) _ _ s;rw[O4 lo hi n];show aA _ _ (pure (((sIx n 0 lo:Nat):Int),(1:Int),DP ((sIx n 0 lo:Nat):Int) ((sIx n n hi:Nat):Int) 1)) _ _ s;rw[SM];exact aF h
theorem Rx(xs:Array ak)(i k:Nat):((bF k).filterMap λ(m:Nat)=>xs[((i:Int)+(m:Int)*1).toNat]?).toArray=((xs.toList.drop i).take k).toArray:=by
 have e:(λ(m:Nat)=>xs[((i:Int)+(m:Int)*1).toNat]?)=λm=>xs[i+m]?:=by
  funext m;have:((i:Int)+(m:Int)*1).toNat=i+m:=∅
  rw[this]
 rw[e];have:=pick_run xs i k;rw[DQ]at this;have e2:((λx=>xs[x]?) ∘ λx=>i+x)=λm=>xs[i+m]?:=rfl;rw[e2]at this;rw[this]
theorem getItem_tuple_cut{t sl:ah}{X4:Array ak}{vl vu:ak}{lo hi:Option Int}{Q:ak->aq->Prop}(ht:IsTup s.heap t X4)(hs:s.heap.IsSliceOf sl vl vu .none)(pl:oD vl lo)(pu:oD vu hi)(hw:¬(sIx X4.size 0 lo=0/\sIx X4.size X4.size hi=X4.size))(h:Q (.ref s.heap.objs.size) {s with heap:=s.heap.push {cls:=.type "tuple",data:=.seq ((X4.toList.drop (sIx X4.size 0 lo)).take (sIx X4.size X4.size hi-sIx X4.size 0 lo)).toArray}})(hsz:X4.size<=bw):aA (aB prog w) A (rO (.ref t) (.ref sl)) Q E s:=by
 have Ax:sizeOk (.seq ((X4.toList.drop (sIx X4.size 0 lo)).take (sIx X4.size X4.size hi-sIx X4.size 0 lo)).toArray):=by show((X4.toList.drop (sIx X4.size 0 lo)).take (sIx X4.size X4.size hi-sIx X4.size 0 lo)).toArray.size<=bw;rw[cU,jN,ki,iI];lia
 have hj:sIx X4.size X4.size hi<=X4.size:=sIx_le _ _ (bn _) hi;obtain⟨os,wT,hcs,hds⟩:=id hs;have hTs:s.TypeIs (.ref sl) "slice":=⟨os,wT,hcs⟩
 unfold rO
 try with_reducible refine kH ?_
 first|refine au (aF ?_)|skip
 refine au (wpAny_sequenceKey ht.typeIs (by decide) ?_);refine au (wpAny_callSpecial?_slot (name:=DU "__getitem__") ht.typeIs WO (we WO ht.typeIs entry_tuple_getitem ?_ (args_tuple_getitem _ _)));show aA _ _ (Builtin.Tuple.tupleItemsOf (.ref t) >>= _) _ _ s;refine au (tupleItemsOf_ ht ?_);refine au (wpAny_typeOf hTs ?_);rw[if_pos (by decide)];refine au (T8 hs pl pu ?_);have hno:¬((((sIx X4.size 0 lo:Nat):Int) == 0&&(1:Int) == 1&&(sIx X4.size X4.size hi-sIx X4.size 0 lo) == X4.size)=ai):=by intro q;rw[f7,f7]at q;have q1:((sIx X4.size 0 lo:Nat):Int)=0:=eq_of_beq q.1.1;have q2:sIx X4.size X4.size hi-sIx X4.size 0 lo=X4.size:=eq_of_beq q.2;exact hw ⟨∅,∅⟩
 show aA _ _ (if(((sIx X4.size 0 lo:Nat):Int) == 0&&(1:Int) == 1&&(sIx X4.size X4.size hi-sIx X4.size 0 lo) == X4.size)=ai then _ else _) _ _ s;rw[if_neg hno,Rx]
 first
  |exact au (m:=DV _) (oE (aF ⟨_,rfl,aF h⟩) Ax)
  |exact au (m:=DV _) (oE (au (aF (aF ⟨_,rfl,aF h⟩))) Ax)
  |exact au (au (m:=DV _) (oE (aF (aF ⟨_,rfl,aF h⟩)) Ax))
  |exact au (au (m:=DV _) (oE (aF ⟨_,rfl,aF h⟩) Ax))
end
end HT
namespace L2
abbrev TO:=St->Hp->(Option Int->Hp->Prop)->Prop
def PO(X:Cx)(e:Option aE)(t:TO):Prop :=
 ∀(af:List (ah×Obj)) (s:aq) (Y:St) (H:Hp) (Q:Option Int->Hp->Prop),Inv X af Y H s->t Y H Q ->
  aA (aB X.prog X.w) X.A (evalPart e X.env) (λu s'=>∃o H',Inv X af Y H' s'/\oD u o/\Q o H') X.xe s
def US:TO:=λ_ H Q=>Q ae H
def Oq(t:TE):TO:=λY H Q=>t Y H λx H1=>∃i,x=.int i/\Q (aa i) H1
section
variable{X:Cx}{e:aE}{te:TE}{lo hi:Option aE}{tl th:TO}{pos p2:Pos}
theorem PD:PO X ae US:=by intro af s Y H Q I h;rw[evalPart_none];exact aF ⟨ae,H,I,.none,h⟩
theorem RK(h:PE X e te):PO X (aa e) (Oq te):=by intro af s Y H Q I hw;rw[evalPart_some];refine a_ (h af s Y H _ I hw) λu s1 ⟨x,H1,I1,r1,q1⟩=>?_;obtain⟨i,rfl,q⟩:=q1;obtain⟨t,rfl⟩:=r1;exact⟨aa i,H1,I1,.int i t,q⟩
def nX(X:Cx)(r:V->Option Int->Option Int->Hp->VK->Prop):Prop :=
 ∀(af:List (ah×Obj)) (s:aq) (Y:St) (H:Hp) (x:V) (v vl vu:ak) (lo hi:Option Int) (sl:ah) (Q:VK),Inv X af Y H s->RelV x v->s.heap.IsSliceOf sl vl vu .none->oD vl lo->oD vu hi->r x lo hi H Q ->
  ∃T id,typeLookup (.type T) "__getitem__" = pure (aa (.builtin id))/\s.TypeIs v T/\aA (aB X.prog X.w) X.A (rO v (.ref sl)) (EP X af Y Q) X.xe s
theorem nX.or{r r':V->Option Int->Option Int->Hp->VK->Prop}(h:nX X r)(h':nX X r'):nX X (λx lo hi H Q=>r x lo hi H Q\/r' x lo hi H Q):=by
 intro af s Y H x v vl vu lo hi sl Q I rx hs pl pu q;rcases q with q|q
 ·exact h af s Y H x v vl vu lo hi sl Q I rx hs pl pu q
 ·exact h' af s Y H x v vl vu lo hi sl Q I rx hs pl pu q
def Ti(r:V->Option Int->Option Int->Hp->VK->Prop)(te:TE)(tl th:TO):TE:=λY H Q=>te Y H λx H1=>tl Y H1 λl H2=>th Y H2 λu H3=>r x l u H3 Q
theorem QH{r:V->Option Int->Option Int->Hp->VK->Prop}(hr:nX X r)(he:PE X e te)(hl:PO X lo tl)(hu:PO X hi th):PE X (.Subscript e (.Slice lo hi ae p2) pos) (Ti r te tl th):=by intro af s Y H Q I h;refine Subscript_ (a_ (he af s Y H _ I h) λv s1 ⟨x,H1,I1,r1,q1⟩=>?_);refine wpAny_Slice (a_ (hl af s1 Y H1 _ I1 q1) λvl s2 ⟨l,H2,I2,pl,q2⟩=>a_ (hu af s2 Y H2 _ I2 q2) λvu s3 ⟨u,H3,I3,pu,q3⟩=>?_);rw[evalPart_none];refine aF ?_;have I4:Inv X af Y H3 {s3 with heap:=s3.heap.push {cls:=.type "slice",data:=.fields #[vl,vu,.none]}}:=I3.kept (t':=s3.toks) λb ob q=>bH _ q;obtain⟨T,id,hT,ht,hg⟩:=hr af {s3 with heap:=s3.heap.push {cls:=.type "slice",data:=.fields #[vl,vu,.none]}} Y H3 x v vl vu l u s3.heap.objs.size Q I4 r1 (Heap.IsSliceOf.new ..) pl pu q3;show aA (aB X.prog X.w) X.A (DY e (.Slice lo hi ae p2) v (.ref s3.heap.objs.size)) (EP X af Y Q) X.xe {s3 with heap:=s3.heap.push {cls:=.type "slice",data:=.fields #[vl,vu,.none]}};exact tail_any (ops:=[.ref s3.heap.objs.size,v]) ht hT hg (by with_unfolding_all rfl)
def pt(xs:List V)(lo hi:Option Int):List V:=(xs.drop (HT.sIx xs.length 0 lo)).take (HT.sIx xs.length xs.length hi-HT.sIx xs.length 0 lo)
theorem FM(xs:List V)(lo hi:Option Int):(pt xs lo hi).length<=xs.length:=by unfold pt;rw[jN,ki];lia
def IJ(K:aC):V->Option Int->Option Int->Hp->VK->Prop:=λx lo hi H Q=>∃a xs,x=.ref a/\d7 K H a xs /\
 ¬(HT.sIx xs.length 0 lo=0/\HT.sIx xs.length xs.length hi=xs.length)/\∀p,H p=ae->Q (.ref p) (upd H p (.tup (pt xs lo hi)))
theorem Pg:nX X (IJ X.K):=by
 intro af s Y H x v vl vu lo hi sl Q I rx hs pl pu h;obtain⟨a,xs,rfl,hx,hw,q⟩:=h;cases rx;obtain⟨its,r,ht,hz⟩:=I.tuple hx;have cg:its.toArray.size=xs.length:=by rw[cU];exact r.length.symm
 refine⟨"tuple",_,PyProof.Rows.slot_tuple_getitem.lookup,ht.typeIs,?_⟩;refine HT.getItem_tuple_cut ht hs pl pu (by rw[cg];exact hw) ?_ (by rw[cg];exact hz);rw[cg];refine⟨.ref s.heap.objs.size,_,I.laid (t':=s.toks) (o:=.tup (pt xs lo hi)) (λb ob q=>bH _ q) (bn _) ?_,rfl,q _ (I.hok.fresh (bn _))⟩;exact⟨dj (FM xs lo hi) hz,_,(r.drop (HT.sIx xs.length 0 lo)).take (HT.sIx xs.length xs.length hi-HT.sIx xs.length 0 lo),Kl.new _ _⟩
def Gs(K:aC):R2:=λx y H Q=>∃a b xs ys,x=.ref a/\y=.ref b/\d7 K H a xs/\d7 K H b ys/\xs≠[]/\xs.length+ys.length<=bw /\
 (ys=[]->Q (.ref a) H)/\(ys≠[]->∀p,H p=ae->Q (.ref p) (upd H p (.tup (xs++ys))))
theorem bX.nil_iff{xs:List V}{us:List ak}(r:bX xs us):us=[]↔xs=[]:=by
 cases r with
 |nil=>simp
 |cons _ _=>simp
theorem Xg:cr X (jr .Add) (Gs X.K):=by
 intro af s Y H x y v u Q I rx ry h;obtain⟨a,b,xs,ys,rfl,rfl,ha,hb,hx,hz,q1,q2⟩:=h;cases rx;cases ry;obtain⟨its,r1,p1,_⟩:=I.tuple ha;obtain⟨its2,r2,p2,_⟩:=I.tuple hb;refine HT.cat_tup p1 p2 (λz=>hx (r1.nil_iff.mp z)) (λz=>⟨.ref a,H,I,rfl,q1 (r2.nil_iff.mp z)⟩) (λz=>?_) (by rw[←r1.length,←r2.length];exact hz);refine⟨.ref s.heap.objs.size,_,I.laid (t':=s.toks) (o:=.tup (xs++ys)) (λb ob q=>bH _ q) (bn _) ?_,rfl,q2 (λw=>z (r2.nil_iff.mpr w)) _ (I.hok.fresh (bn _))⟩;exact⟨by rw[d_];exact hz,_,r1.append r2,Kl.new _ _⟩
end
def kC(n:Nat)(i:Int):Option Nat:=if 0<=i then(if i<n then aa i.toNat else ae)else if -(n:Int)<=i then aa (i+n).toNat else ae
def fF{α:Type}(xs:List α)(i:Int):Option α:=(kC xs.length i).bind λj=>xs[j]?
theorem Oz{n:Nat}{i:Int}{j:Nat}(h:kC n i=aa j):seqIndex? i n=aa j/\j<n/\-(n:Int)<=i/\i<n:=by
 unfold kC at h;by_cases h0:0<=i
 ·rw[if_pos h0]at h;by_cases h1:i<n
  ·rw[if_pos h1]at h;have e:i.toNat=j:=eV h;exact⟨by rw[seqIndex_of h0 h1,e],∅,∅,h1⟩
  ·rw[if_neg h1]at h;cases h
 ·rw[if_neg h0]at h;by_cases h1:-(n:Int)<=i
  ·rw[if_pos h1]at h;have e:(i+n).toNat=j:=eV h;exact⟨by rw[seqIndex_neg ∅ h1,e],∅,h1,∅⟩
  ·rw[if_neg h1]at h;cases h
theorem Ba{α:Type}{xs:List α}{i:Int}{v:α}(h:fF xs i=aa v):∃j,seqIndex? i xs.length=aa j/\xs[j]?=aa v/\j<xs.length/\-(xs.length:Int)<=i/\i<xs.length:=by
 unfold fF at h;cases e:kC xs.length i with
 |none=>rw[e]at h;cases h
 |some j=>rw[e]at h;obtain⟨h1,h2,h3,h4⟩:=Oz e;exact⟨j,h1,h,h2,h3,h4⟩
theorem Tz{α:Type}{xs:List α}{j:Nat}{v:α}(h:xs[j]?=aa v):fF xs (j:Int)=aa v:=by
 have hj:j<xs.length:=(d9.mp h).1;have e:kC xs.length (j:Int)=aa j:=by unfold kC;rw[if_pos ∅,if_pos ∅];simp
 unfold fF;rw[e];exact h
def yL(b:aE):Prop:=∀o i,DZ b am o i=operate [o,i] (rO o i)
def mG(X:Cx)(r:R2):Prop :=
 ∀(value slice:aE) (af:List (ah×Obj)) (s:aq) (Y:St) (H:Hp) (x y:V) (v u:ak) (Q:VK),Inv X af Y H s->RelV x v->RelV y u->r x y H Q ->
  DZ slice am v u=operate [v,u] (rO v u)->aA (aB X.prog X.w) X.A (DY value slice v u) (EP X af Y Q) X.xe s
def Du(X:Cx)(id:String)(r:V->List V->Hp->VK->Prop):Prop :=
 ∀(af:List (ah×Obj)) (s:aq) (Y:St) (H:Hp) (x:V) (xs:List V) (v:ak) (us:List ak) (Q:VK),Inv X af Y H s->RelV x v->bX xs us->r x xs H Q ->
  aA (aB X.prog X.w) X.A (call (.builtin id) (v::us)) (EP X af Y Q) X.xe s
section
variable{X:Cx}{a b:aE}{ta tb:TE}{pos:Pos}
theorem mG.or{r r':R2}(h:mG X r)(h':mG X r'):mG X (λx y H Q=>r x y H Q\/r' x y H Q):=by
 intro value slice af s Y H x y v u Q I rx ry q hs;rcases q with q|q
 ·exact h value slice af s Y H x y v u Q I rx ry q hs
 ·exact h' value slice af s Y H x y v u Q I rx ry q hs
theorem Hh{r:R2}(hr:mG X r)(ha:PE X a ta)(hb:PE X b tb)(hs:yL b):PE X (.Subscript a b pos) (xS r ta tb):=by intro af s Y H Q I h;exact Subscript_ (C_ ha hb I h λv u s2 x y H2 I2 rx ry q=>hr a b af s2 Y H2 x y v u Q I2 rx ry q (hs _ _))
def Iu(K:aC):R2:=λx y H Q=>∃p xs i v,x=.ref p/\y=.int i/\cC K H p xs/\fF xs i=aa v/\Q v H
def Fc(K:aC):R2:=λx y H Q=>∃p xs i v,x=.ref p/\y=.int i/\d7 K H p xs/\fF xs i=aa v/\Q v H
def Fv:R2:=λx y H Q=>∃z i c,x=.str z/\y=.int i/\z.length<=bw/\fF z.cps.toList i=aa c/\Q (.str ⟨#[c]⟩) H
theorem Xj:mG X (Iu X.K):=by
 intro value slice af s Y H x y v u Q I rx ry h hs;obtain⟨p,xs,i,z,rfl,rfl,hq,he,q⟩:=h;cases rx;obtain⟨t,rfl⟩:=ry;obtain⟨its,r,pl,hz⟩:=I.list hq;obtain⟨j,h1,h2,h3,h4,h5⟩:=Ba he;obtain⟨w,ew,rw'⟩:=r.get h2;have hl:=r.length;have hn:=u_;have fin:EP X af Y Q w s:=⟨z,H,I,rw',q⟩
 by_cases h0:0<=i
 ·have hj:i.toNat=j:=by
   rw[seqIndex_of h0 h5]at h1;exact eV h1
  exact item_listR pl.isList h0 ∅ (by rw[hj];simpa using ew) fin hs
 ·have hj:(i+(its.toArray.size:Int)).toNat=j:=by
   rw[seqIndex_neg ∅ h4]at h1;rw[cU,←hl];exact eV h1
  exact subscriptTail_builtinR (x:=w) pl.isList.typeIs slot_list_getitem.lookup
   (wpAny_getItem_list_neg (Q:=λr s'=>r=w/\EP X af Y Q r s') pl.isList ∅ (by rw[cU] <;> lia) ∅ (by rw[hj];simpa using ew) ⟨rfl,fin⟩) hs
theorem Xp:mG X (Fc X.K):=by
 intro value slice af s Y H x y v u Q I rx ry h hs;obtain⟨p,xs,i,z,rfl,rfl,hq,he,q⟩:=h;cases rx;obtain⟨t,rfl⟩:=ry;obtain⟨its,r,pl,hz⟩:=I.tuple hq;obtain⟨j,h1,h2,h3,h4,h5⟩:=Ba he;obtain⟨w,ew,rw'⟩:=r.get h2;have hl:=r.length;have hn:=u_;have fin:EP X af Y Q w s:=⟨z,H,I,rw',q⟩
 exact subscriptTail_builtinR (x:=w) pl.typeIs slot_tuple_getitem.lookup
  (getItem_tuple (j:=j) (Q:=λr s'=>r=w/\EP X af Y Q r s') pl ∅ ∅ (by rw[cU,←hl];exact h1) (by simpa using ew) ⟨rfl,fin⟩) hs
theorem QD:mG X Fv:=by
 intro value slice af s Y H x y v u Q I rx ry h hs;obtain⟨z,i,c,rfl,rfl,hz,he,q⟩:=h;obtain⟨t,rfl⟩:=rx;obtain⟨t',rfl⟩:=ry;obtain⟨j,h1,h2,h3,h4,h5⟩:=Ba he;have hl:z.cps.toList.length=z.length:=by simp[wg]
 rw[hl]at h1 h4 h5;have hn:=u_;exact tail_any (wj s z t) slot_str_getitem.lookup (getItem_str (c:=c) (by have e1:decide (i < -(2^63:Int))=am:=decide_eq_false ∅;have e2:decide (i ≥ 2^63)=am:=decide_eq_false ∅;rw[e1,e2,Bool.or_false]) (by rw[h1];simpa using h2) ⟨.str ⟨#[c]⟩,H,I.tok _,⟨_,rfl⟩,q⟩) hs
def Jf(K:aC):R2:=λx y H Q=>Iu K x y H Q\/Fc K x y H Q\/Fv x y H Q
theorem eC:mG X (Jf X.K):=Xj.or (Xp.or QD)
theorem RU(lo hi:Option Int)(n:Nat):(tY lo hi ae n).1=((HT.sIx n 0 lo:Nat):Int)/\(tY lo hi ae n).2.1=((HT.sIx n n hi:Nat):Int)/\(tY lo hi ae n).2.2=1:=by
 refine⟨?_,?_,rfl⟩
 ·cases lo with
  |none=>simp[tY,HT.sIx]
  |some i=>
   simp only[tY,HT.sIx,KA,show(1:Int) > 0 by decide,if_true];by_cases h:i<0
   ·simp only[h,if_true] <;> lia
   ·simp only[h,if_false] <;> lia
 ·cases hi with
  |none=>simp[tY,HT.sIx]
  |some i=>
   simp only[tY,HT.sIx,KA,show(1:Int) > 0 by decide,if_true];by_cases h:i<0
   ·simp only[h,if_true] <;> lia
   ·simp only[h,if_false] <;> lia
theorem M0(its:List ak)(lo hi:Option Int):slicePick its.toArray lo hi ae=((its.drop (HT.sIx its.length 0 lo)).take (HT.sIx its.length its.length hi-HT.sIx its.length 0 lo)).toArray:=by obtain⟨h1,h2,h3⟩:=RU lo hi its.toArray.size;unfold slicePick;rw[h1,h2,h3];simp only[sliceRange_one,pick_run,cU] <;> rfl
def Hb(K:aC):V->Option Int->Option Int->Hp->VK->Prop:=λx lo hi H Q=>∃a xs,x=.ref a/\cC K H a xs/\∀p,H p=ae->Q (.ref p) (upd H p (.lst (pt xs lo hi)))
theorem Xb:nX X (Hb X.K):=by
 intro af s Y H x v vl vu lo hi sl Q I rx hs pl pu h;obtain⟨a,xs,rfl,hx,q⟩:=h;cases rx;obtain⟨its,r,ht,hz⟩:=I.list hx;have cg:=r.length;refine⟨"list",_,slot_list_getitem.lookup,ht.isList.typeIs,?_⟩;refine wpAny_getItem_list_slice ht.isList hs pl pu .none (by simp) ?_ (by rw[cU] <;> lia);rw[M0,←cg];refine⟨.ref s.heap.objs.size,_,I.laid (t':=s.toks) (o:=.lst (pt xs lo hi)) (λb ob q=>bH _ q) (bn _) ?_,rfl,q _ (I.hok.fresh (bn _))⟩;exact⟨dj (FM xs lo hi) hz,_,0,(r.drop (HT.sIx xs.length 0 lo)).take (HT.sIx xs.length xs.length hi-HT.sIx xs.length 0 lo),df _ rfl⟩
def g7:V->Bool
 |.non=>ai
 |.bl _=>ai
 |.int _=>ai
 |.str _=>ai
 |_=>am
def fW:V->V->Bool
 |.non,.non=>ai
 |.bl a,.bl b=>a == b
 |.bl a,.int b=>(if a then 1 else 0) == b
 |.int a,.bl b=>a == (if b then 1 else 0)
 |.int a,.int b=>a == b
 |.str a,.str b=>a == b
 |_,_=>am
theorem He{A:bd}{s:aq}{y x:V}{u v:ak}(ry:RelV y u)(rx:RelV x v)(fy:g7 y=ai)(fx:g7 x=ai):zT A s u v (fW y x):=by
 cases y with
 |non=>
  cases ry;cases x with
  |non=>cases rx;exact SeqAt.EqAt.same _
  |bl b=>cases rx;exact SeqAt.EqAt.none_bool b
  |int b=>obtain⟨t,rfl⟩:=rx;exact SeqAt.EqAt.none_int b t
  |str b=>obtain⟨t,rfl⟩:=rx;exact SeqAt.EqAt.none_str b t
  |_=>exact absurd (show am=ai from fx) gz
 |bl a=>
  cases ry;cases x with
  |non=>cases rx;exact SeqAt.EqAt.bool_none a
  |bl b=>cases rx;exact SeqAt.EqAt.bool_bool a b
  |int b=>obtain⟨t,rfl⟩:=rx;exact SeqAt.EqAt.bool_int a b t
  |str b=>obtain⟨t,rfl⟩:=rx;exact SeqAt.EqAt.bool_str a b t
  |_=>exact absurd (show am=ai from fx) gz
 |int a=>
  obtain⟨t',rfl⟩:=ry;cases x with
  |non=>cases rx;exact SeqAt.EqAt.int_none a t'
  |bl b=>cases rx;exact SeqAt.EqAt.int_bool a t' b
  |int b=>obtain⟨t,rfl⟩:=rx;exact SeqAt.EqAt.int_int a t' b t
  |str b=>obtain⟨t,rfl⟩:=rx;exact SeqAt.EqAt.int_str a t' b t
  |_=>exact absurd (show am=ai from fx) gz
 |str a=>
  obtain⟨t',rfl⟩:=ry;cases x with
  |non=>cases rx;exact SeqAt.EqAt.str_none a t'
  |bl b=>cases rx;exact SeqAt.EqAt.str_bool a t' b
  |int b=>obtain⟨t,rfl⟩:=rx;exact SeqAt.EqAt.str_int a t' b t
  |str b=>obtain⟨t,rfl⟩:=rx;exact SeqAt.EqAt.str_str a t' b t
  |_=>exact absurd (show am=ai from fx) gz
 |_=>exact absurd (show am=ai from fy) gz
def kF(x:V)(u:ak):Bool:=match u with
 |.none=>fW .non x
 |.bool b=>fW (.bl b) x
 |.int i _=>fW (.int i) x
 |.str z _=>fW (.str z) x
 |_=>am
theorem x_{x y:V}{u:ak}(r:RelV y u)(f:g7 y=ai):kF x u=fW y x:=by
 cases y with
 |non=>cases r;rfl
 |bl b=>cases r;rfl
 |int i=>obtain⟨t,rfl⟩:=r;rfl
 |str z=>obtain⟨t,rfl⟩:=r;rfl
 |_=>exact absurd (show am=ai from f) gz
theorem B0{x:V}:∀{xs:List V}{us:List ak},bX xs us->xs.all g7=ai->us.any (kF x)=xs.any λy=>fW y x
 |_,_,.nil,_=>rfl
 |y::xs,u::us,.cons r t,f=>by rw[tZ,f7]at f;rw[oF,oF,x_ r f.1,B0 t f.2]
theorem uS{A:bd}{s:aq}{x:V}{v:ak}(rx:RelV x v)(fx:g7 x=ai):∀{xs:List V}{us:List ak},bX xs us->xs.all g7=ai->∀u∈us,zT A s u v (kF x u)
 |_,_,.nil,_=>λu hu=>by cases hu
 |y::xs,u::us,.cons r t,f=>λu' hu=>by
  rw[tZ,f7]at f;rcases b8.mp hu with rfl|hu
  ·rw[x_ r f.1];exact He r rx f.1 fx
  ·exact uS rx fx t f.2 u' hu
def vf(x:V)(xs:List V):Bool:=xs.any λy=>fW y x
def BX(K:aC)(neg:Bool):R2:=λx y H Q=>∃p xs,y=.ref p/\(cC K H p xs\/d7 K H p xs)/\g7 x=ai/\xs.all g7=ai/\Q (.bl (if neg then !vf x xs else vf x xs)) H
theorem UV:cr X (eW .In) (BX X.K am):=by
 intro af s Y H x y v u Q I rx ry h;obtain⟨p,xs,rfl,hq,fx,fs,q⟩:=h;cases ry;rcases hq with hq|hq
 ·obtain⟨its,r,pl,hz⟩:=I.list hq;refine SeqAt.in_listAt (kF x) pl.isList (λw hw=>uS rx fx r fs w (by simpa using hw)) ⟨.bl _,H,I,rfl,?_⟩;rw[show its.toArray.any (kF x)=its.any (kF x) by simp,B0 r fs];exact q
 ·obtain⟨its,r,pl,hz⟩:=I.tuple hq;refine SeqAt.in_tupleAt (kF x) pl (λw hw=>uS rx fx r fs w (by simpa using hw)) ⟨.bl _,H,I,rfl,?_⟩;rw[show its.toArray.any (kF x)=its.any (kF x) by simp,B0 r fs];exact q
theorem fD.or{f:ak}{r r':List V->Hp->VK->Prop}(h:fD X f r)(h':fD X f r'):fD X f (λxs H Q=>r xs H Q\/r' xs H Q):=by
 intro af s Y H xs us Q I rs q;rcases q with q|q
 ·exact h af s Y H xs us Q I rs q
 ·exact h' af s Y H xs us Q I rs q
theorem We:fD X (.type "list") (λxs H Q=>∃p ys,xs=[.ref p]/\(cC X.K H p ys\/d7 X.K H p ys)/\∀l,H l=ae->Q (.ref l) (upd H l (.lst ys))):=by
 intro af s Y H xs us Q I r h;obtain⟨p,ys,rfl,hq,q⟩:=h;obtain⟨u,rfl,rx⟩:=vals1 r;cases rx;have fin:∀(its:List ak),bX ys its->ys.length<=bw->∀(h':aI) (c':Nat),(∀b o',s.heap.get? b=aa o'->h'.get? b=aa o') ->
   h'.get? s.heap.objs.size=aa {cls:=.type "list",dict:=ae,data:=.seq its.toArray c',slots:=#[]}->EP X af Y Q (.ref s.heap.objs.size) {s with heap:=h'}:=λits r' hz h' c' kp e=>
  ⟨.ref s.heap.objs.size,_,I.laid (t':=s.toks) kp (bn _) (show dS X.prog X.w _ h' _ (.lst ys)from⟨hz,its,c',r',e⟩),rfl,q _ (I.hok.fresh (bn _))⟩
 rcases hq with hq|hq
 ·obtain⟨its,r',pl,hz⟩:=I.list hq;have cg:=r'.length;obtain⟨o,ho,hc,n,hd⟩:=pl.isList;exact call_list_seq p (.inl rfl) ho hc hd (λh' c' kp e=>fin its r' hz h' c' kp e) (by simp only[cU] <;> lia)
 ·obtain⟨its,r',pl,hz⟩:=I.tuple hq;have cg:=r'.length;obtain⟨o,ho,hc,n,hd⟩:=pl;exact call_list_seq p (.inr rfl) ho hc hd (λh' c' kp e=>fin its r' hz h' c' kp e) (by simp only[cU] <;> lia)
theorem Us:fD X (.type "tuple") (λxs H Q=>∃p ys,xs=[.ref p]/\((cC X.K H p ys/\∀l,H l=ae->Q (.ref l) (upd H l (.tup ys)))\/(d7 X.K H p ys/\Q (.ref p) H))):=by
 intro af s Y H xs us Q I r h;obtain⟨p,ys,rfl,h⟩:=h;obtain⟨u,rfl,rx⟩:=vals1 r;cases rx;rcases h with⟨hq,q⟩|⟨hq,q⟩
 ·obtain⟨its,r',pl,hz⟩:=I.list hq;have cg:=r'.length;refine call_tuple_list pl.isList (λh' kp=>?_) (by simp only[cU] <;> lia);have I1:Inv X af Y H {s with heap:=h'}:=I.kept (t':=s.toks) kp;have I2:Inv X af Y (upd H h'.objs.size (.tup ys)) {s with heap:=h'.push {cls:=.type "tuple",data:=.seq its.toArray}} :=I1.laid (t':=s.toks) (λb o e=>bH _ e) (bn _) (show dS X.prog X.w _ _ _ (.tup ys)from⟨hz,its,r',Kl.new _ _⟩);exact⟨.ref h'.objs.size,_,I2,rfl,q _ (I1.hok.fresh (bn _))⟩
 ·obtain⟨its,r',pl,hz⟩:=I.tuple hq;exact call_tuple_same pl ⟨.ref p,H,I,rfl,q⟩
def Dm(K:aC)(T:String)(x:V)(H:Hp):Prop:=match x with
 |.str _=>T = "str"
 |.int _=>T = "int"
 |.ref p=>(T = "list"/\∃xs,cC K H p xs)\/(T = "tuple"/\∃o,K.lookup p=aa o/\o.cls=.type "tuple"/\o.dict=ae) \/
   (T = "dict"/\((∃XN,H p=aa (.dK XN))\/∃XN,H p=aa (.dT XN)))\/(T = "set"/\∃S n,H p=aa (.set S n))
 |_=>False
theorem GC{af:List (ah×Obj)}{Y:St}{H:Hp}{s:aq}{T:String}{x:V}{v:ak}(I:Inv X af Y H s)(r:RelV x v)(ty:Dm X.K T x H):s.TypeIs v T/\∀a,v=.ref a->∃ob,s.heap.get? a=aa ob/\ob.dict=ae:=by
 cases x with
 |str z=>
  obtain⟨t,rfl⟩:=r;cases (show T = "str" from ty);exact⟨wj s z t,λ_ e=>nomatch e⟩
 |int i=>
  obtain⟨t,rfl⟩:=r;cases (show T = "int" from ty);exact⟨typeIs_int s i t,λ_ e=>nomatch e⟩
 |ref p=>
  cases r;rcases ty with⟨rfl,xs,hq⟩|⟨rfl,o,hk,hc,hd⟩|⟨rfl,hk⟩|⟨rfl,S,n,hk⟩
  ·obtain⟨its,_,pl,_⟩:=I.list hq;refine⟨pl.isList.typeIs,λa e=>?_⟩;cases e;obtain⟨o,n,e,c,hd,_⟩:=pl;exact⟨o,e,hd⟩
  ·refine⟨⟨o,I.kIn p o hk,hc⟩,λa e=>?_⟩;cases e;exact⟨o,I.kIn _ o hk,hd⟩
  ·have z:∃o,s.heap.get? p=aa o/\o.ExactDict:=by
    rcases hk with⟨XN,hk⟩|⟨XN,hk⟩
    ·obtain⟨_,_,_,_,o,_,_,e,ex,_⟩:=I.hok p _ hk;exact⟨o,e,ex⟩
    ·obtain⟨_,_,_,_,o,_,_,e,ex,_⟩:=I.hok p _ hk;exact⟨o,e,ex⟩
   obtain⟨o,e,ex⟩:=z;refine⟨⟨o,e,ex.1⟩,λa e2=>?_⟩;cases e2;exact⟨o,e,ex.2.1⟩
  ·obtain⟨o,_,_,_,e,ex,_⟩:=I.hok p _ hk;refine⟨⟨o,e,ex.1⟩,λa e2=>?_⟩;cases e2;exact⟨o,e,ex.2.1⟩
 |_=>exact iJ ty
def Tw(K:aC)(T:String)(r:V->List V->Hp->VK->Prop)(to:TE):TE:=λY H Q=>to Y H λx H1=>Dm K T x H1/\r x [] H1 Q
def Og(K:aC)(T:String)(r:V->List V->Hp->VK->Prop)(to:TE)(t:TA):TE:=λY H Q=>to Y H λx H1=>Dm K T x H1/\t Y H1 λxs H2=>r x xs H2 Q
variable{o e:aE}{es:List aE}{to:TE}{t:TA}{name:Str}{X7 X6:Pos}{T id:String}{r:V->List V->Hp->VK->Prop}
theorem Ol(pa:PlainAttrs T)(slot:Slot T name id)(uu:typeOf (.builtin id)=pure (.type "method_descriptor"))(hm:Du X id r)(ho:PE X o to)(wG:p_ o name X.env (bf o X.env)=bf o X.env:=by rfl) (wH:(X7.endLine == X6.line)=ai:=by rfl):PE X (.Call (.Attribute o name X7) [] [] X6) (Tw X.K T r to):=by intro af s Y H Q I h;refine wpAny_Call_method0_late wG wH (a_ (ho af s Y H _ I h) λv s1 ⟨x,H1,I1,r1,ty,q1⟩=>?_);obtain⟨h1,h2⟩:=GC I1 r1 ty;exact⟨T,id,pa,slot,uu,h1,h2,KB rfl (PySem.evalArgs_none (hm af s1 Y H1 x [] v [] Q I1 r1 .nil q1))⟩
theorem zj(pa:PlainAttrs T)(slot:Slot T name id)(uu:typeOf (.builtin id)=pure (.type "method_descriptor"))(hm:Du X id r)(ho:PE X o to)(ha:PA X (e::es) t)(wG:p_ o name X.env (bf o X.env)=bf o X.env:=by rfl)(Lm:((dR X6 (aW (e::es) X.env)).all (λx=>!x.1)&&(t4 X6 (t5 [] X.env)).all (λx=>x.1.isSome)&&decide ((e::es).length+([]:List mj).length+(if([]:List mj).isEmpty then 0 else 1)<30))=ai:=by rfl)(wH:(X7.endLine == X6.line)=ai:=by rfl) (hs:aW (e::es) X.env=(am,bf e X.env)::aW es X.env:=by rfl) (Aw:(dR X6 (aW es X.env)).any (·.1)=am:=by rfl):PE X (.Call (.Attribute o name X7) (e::es) [] X6) (Og X.K T r to t):=by intro af s Y H Q I h;refine wpAny_Call_method_late wG Lm wH rfl (a_ (ho af s Y H _ I h) λv s1 ⟨x,H1,I1,r1,ty,q1⟩=>?_);obtain⟨h1,h2⟩:=GC I1 r1 ty;refine⟨T,id,pa,slot,uu,h1,h2,?_⟩;have hA:=ha X6 af s1 Y H1 _ I1 q1;rw[hs]at hA ⊢;refine KB (by show(am||(dR X6 (aW es X.env)).any (·.1))=am;rw[Aw] <;> rfl) (KC ?_);exact a_ hA λus s2 ⟨vs,H2,I2,r2,q2⟩=>hm af s2 Y H2 x vs v us Q I2 r1 r2 q2
end
def zI(X:Cx)(id:String)(r:V->List V->Hp->VK->Prop):Prop :=
 ∀(af:List (ah×Obj)) (s:aq) (Y:St) (H:Hp) (x:V) (xs:List V) (v:ak) (us:List ak) (Q:VK),Inv X af Y H s->RelV x v->bX xs us->r x xs H Q ->
  aA (aB X.prog X.w) X.A (call (.builtin id) (v::us)) (EP X af Y Q) X.xe s
theorem bX.one:∀{x:V}{us:List ak},bX [x] us->∃u,us=[u]/\RelV x u
 |_,_,.cons r .nil=>⟨_,rfl,r⟩
theorem bX.zero:∀{us:List ak},bX [] us->us=[]
 |_,.nil=>rfl
theorem bX.rep{xs:List V}{us:List ak}(h:bX xs us):∀k:Nat,bX (bK k xs).flatten (bK k us).flatten
 |0=>.nil
 |k+1=>by rw[ml,ml,qb,qb];exact bX.append h (bX.rep h k)
theorem foldl_rep(its:List ak):∀(k:Nat) (aK:List ak), List.foldl (λx1 x2=>x1++x2) aK.toArray (bK k its.toArray)=(aK++(bK k its).flatten).toArray
 |0,aK=>by simp
 |k+1,aK=>by
  have e:aK.toArray++its.toArray=(aK++its).toArray:=by simp
  have e2:(aK++its)++(bK k its).flatten=aK++(bK (k+1) its).flatten:=by rw[ml,qb,kI]
  rw[←e2,←foldl_rep its k (aK++its),←e,ml,jt]
section
variable{X:Cx}{af:List (ah×Obj)}{Y:St}{H:Hp}{s:aq}{l b:ah}{xs ys zs:List V}
theorem Inv.lset{its its':List ak}{n:Nat}{f:Array ak->Array ak}{t':Nat}(I:Inv X af Y H s)(hH:H l=aa (.lst xs))(e:s.heap.get? l=aa {cls:=.type "list",data:=.seq its.toArray n}) (hf:f its.toArray=its'.toArray) (hv:bX ys its') (hz:ys.length<=bw):Inv X af Y (upd H l (.lst ys)) {s with heap:=s.heap.update l (qd f),toks:=t'}:=by have q:=PySem.IsL.update e f;rw[hf]at q;refine I.write (x:=l) (e:=l) (by rw[hH];exact trivial) (.inl rfl) (λb' u hb hu=>(rP s.heap (qd f) (fY hb)).trans hu) ⟨_,q⟩ ?_;exact⟨hz,its',_,hv,q⟩
theorem Inv.lnew{its:List ak}{t':Nat}(I:Inv X af Y H s)(hv:bX ys its)(hz:ys.length<=bw):Inv X af Y (upd H s.heap.objs.size (.lst ys)) {s with heap:=s.heap.push {cls:=.type "list",data:=.seq its.toArray},toks:=t'} :=I.laid (λ_ _ q=>bH _ q) (bn _) ⟨hz,its,0,hv,df _ rfl⟩
theorem Inv.fresh(I:Inv X af Y H s):H s.heap.objs.size=ae:=I.hok.fresh (bn _)
theorem Inv.lstM(I:Inv X af Y H s)(hH:H l=aa (.lst xs)):xs.length<=bw/\∃(its:List ak) (n:Nat),bX xs its/\xs.length=its.length/\s.heap.get? l=aa {cls:=.type "list",data:=.seq its.toArray n}:=by obtain⟨z,its,n,r,e⟩:=I.hok l _ hH;exact⟨z,its,n,r,r.length,e⟩
theorem TW{n:Nat}(h:n<=bw):zU n=am:=by unfold zU;exact decide_eq_false ∅
end
section
variable{X:Cx}
def Rp:V->List V->Hp->VK->Prop:=λx vs H Q=>∃l xs y,x=.ref l/\vs=[y]/\H l=aa (.lst xs)/\xs.length<bw/\Q .non (upd H l (.lst (xs++[y])))
theorem HV:zI X "list.append" Rp:=by
 intro af s Y H x vs v us Q I rx rv h;obtain⟨l,xs,y,rfl,rfl,hH,hz,q⟩:=h;cases rx;obtain⟨u,rfl,ru⟩:=rv.one;obtain⟨z,its,n,r,hl,e⟩:=I.lstM hH;refine wl F.slot_list_append ⟨_,e,rfl⟩ F.entry_list_append (F.args_list_append_2 _ _) (PySem.list_append l its.toArray n u (by rw[cU];lia)) ⟨e,?_⟩;refine⟨.non,_,I.lset (its':=its++[u]) hH e (by simp) (r.append (.cons ru .nil)) ?_,rfl,q⟩;rw[d_,wm];lia
theorem HI{α:Type}(xs:List α)(k:Nat):(bK k xs).flatten.length=k*xs.length:=by
 induction k with
 |zero=>simp
 |succ k ih=>rw[ml,qb,d_,ih,Nat.succ_mul,Nat.add_comm]
end
section
variable{κ:Type}[DecidableEq κ]
def jf(XN:List (κ×V))(k:κ):Option V:=(XN.find? λkv=>decide (kv.1=k)).map (·.2)
def iH(XN:List (κ×V))(k:κ)(v:V):List (κ×V) :=if(XN.any λkv=>decide (kv.1=k))=ai then XN.map (λkv=>if kv.1=k then(kv.1,v)else kv)else XN++[(k,v)]
theorem vH{p:κ×V}{r:List (κ×V)}{k:κ}(e:p.1=k):jf (p::r) k=aa p.2:=by simp[jf,f8,e]
theorem ve{p:κ×V}{r:List (κ×V)}{k:κ}(e:¬p.1=k):jf (p::r) k=jf r k:=by simp[jf,f8,e]
theorem Gj(k:κ):∀XN:List (κ×V),(XN.any λkv=>decide (kv.1=k))=(jf XN k).isSome
 |[]=>rfl
 |p::r=>by
  rw[oF];by_cases e:p.1=k
  ·simp only[vH e,decide_eq_true e,Bool.true_or,Option.isSome_some]
  ·rw[ve e,decide_eq_false e,Bool.false_or];exact Gj k r
theorem Dk(XN:List (κ×V))(k:κ)(v:V):(iH XN k v).length<=XN.length+1:=by
 unfold iH;split
 ·rw[dw];lia
 ·rw[d_,fi,rQ];lia
theorem p6.isSome_eq{o:Option V}{u:Option ak}(r:p6 o u):o.isSome=u.isSome:=by
 cases o with
 |none=>cases u with
  |none=>rfl
  |some _=>exact(show False from r).elim
 |some _=>cases u with
  |none=>exact(show False from r).elim
  |some _=>rfl
theorem p6.getD{o:Option V}{u:Option ak}{d:V}{d':ak}(r:p6 o u)(rd:RelV d d'):RelV (o.getD d) (u.getD d'):=by
 cases o with
 |none=>cases u with
  |none=>exact rd
  |some _=>exact(show False from r).elim
 |some _=>cases u with
  |none=>exact(show False from r).elim
  |some _=>exact r
theorem KV.val{XN:List (κ×V)}{vs:List (κ×ak)}(r:KV XN vs)(k:κ):p6 (jf XN k) (qe vs k):=by
 unfold KV at r
 induction r with
 |nil=>exact True.intro
 |@cons p q ps qs h t ih=>
  obtain⟨h1,h2⟩:=h;by_cases e:p.1=k
  ·have e':q.1=k:=h1.symm.trans e;have b:qe (q::qs) k=aa q.2:=by simp[qe,f8,e']
   rw[vH e,b];exact h2
  ·have e':¬q.1=k:=λz=>e (h1.trans z);have b:qe (q::qs) k=qe qs k:=by simp[qe,f8,e']
   rw[ve e,b];exact ih
theorem KV.any{XN:List (κ×V)}{vs:List (κ×ak)}(r:KV XN vs)(k:κ):(XN.any λkv=>decide (kv.1=k))=vs.any λkv=>decide (kv.1=k):=by
 unfold KV at r
 induction r with
 |nil=>rfl
 |cons h t ih=>rw[oF,oF,ih,h.1]
theorem KV.repl{XN:List (κ×V)}{vs:List (κ×ak)}(r:KV XN vs)(k:κ){y:V}{u:ak}(ry:RelV y u):KV (XN.map λkv=>if kv.1=k then(kv.1,y)else kv) (vs.map λkv=>if kv.1=k then(kv.1,u)else kv):=by
 unfold KV at r ⊢
 induction r with
 |nil=>exact .nil
 |@cons p q ps qs h t ih=>
  rw[eZ,eZ];refine .cons ?_ ih;obtain⟨h1,h2⟩:=h;by_cases e:p.1=k
  ·rw[if_pos e,if_pos (h1.symm.trans e)];exact⟨h1,ry⟩
  ·rw[if_neg e,if_neg (λz=>e (h1.trans z))];exact⟨h1,h2⟩
theorem KV.put{XN:List (κ×V)}{vs:List (κ×ak)}(r:KV XN vs)(k:κ){y:V}{u:ak}(ry:RelV y u):KV (iH XN k y) (stored vs k u):=by
 unfold iH stored;rw[r.any k];by_cases e:(vs.any λkv=>decide (kv.1=k))=ai
 ·rw[if_pos e,if_pos e];exact r.repl k ry
 ·rw[if_neg e,if_neg e];exact Paired.snoc r ⟨rfl,ry⟩
theorem KV.length{XN:List (κ×V)}{vs:List (κ×ak)}(r:KV XN vs):XN.length=vs.length:=Paired.length r
end
theorem pZ{P:aZ}{w:aT}{k:aS}{u:ak}(r:RelV (kV k) u):(gM P w).is k u=ai:=by
 cases k with
 |inl i=>obtain⟨t,e⟩:=(show ∃t,u=Value.int i t from r);subst e;exact Md P w i t
 |inr x=>obtain⟨t,e⟩:=(show ∃t,u=Value.str x t from r);subst e;exact OE P w x t
theorem Ga{P:aZ}{w:aT}:∀{ks:List aS}{us:List ak},bX (ks.map kV) us->ItemsAre (gM P w) ks us
 |[],_,r=>by rw[wn]at r;cases r;exact .nil
 |k::ks,_,r=>by
  rw[eZ]at r;cases r with
  |cons h t=>exact .cons (pZ h) (Ga t)
abbrev KT(H:Hp):List (List aS×V)->List (List aS×ah×ak)->Prop:=nj λp q=>p.1=q.1/\H q.2.1=aa (.tup (p.1.map kV))/\RelV p.2 q.2.2
theorem KT.val{H:Hp}{XN:List (List aS×V)}{xs:List (List aS×ah×ak)}(r:KT H XN xs)(k:List aS):p6 (jf XN k) ((atKey xs k).map (·.2)):=by
 induction r with
 |nil=>exact True.intro
 |@cons p q ps qs h t ih=>
  obtain⟨h1,_,h2⟩:=h;by_cases e:p.1=k
  ·have e':q.1=k:=h1.symm.trans e;have b:atKey (q::qs) k=aa q.2:=by simp[atKey,f8,e']
   rw[vH e,b];exact h2
  ·have e':¬q.1=k:=λz=>e (h1.trans z);have b:atKey (q::qs) k=atKey qs k:=by simp[atKey,f8,e']
   rw[ve e,b];exact ih
theorem KT.repl{H:Hp}{XN:List (List aS×V)}{xs:List (List aS×ah×ak)}(r:KT H XN xs)(k:List aS){y:V}{u:ak}(ry:RelV y u):KT H (XN.map λkv=>if kv.1=k then(kv.1,y)else kv) (xs.map (putAt k u)):=by
 induction r with
 |nil=>exact .nil
 |@cons p q ps qs h t ih=>
  rw[eZ,eZ];refine .cons ?_ ih;obtain⟨h1,h2,h3⟩:=h;unfold putAt;by_cases e:p.1=k
  ·rw[if_pos e,if_pos (h1.symm.trans e)];exact⟨h1,h2,ry⟩
  ·rw[if_neg e,if_neg (λz=>e (h1.trans z))];exact⟨h1,h2,h3⟩
theorem KT.put{H:Hp}{XN:List (List aS×V)}{xs:List (List aS×ah×ak)}(r:KT H XN xs)(k:List aS){b:ah}{y:V}{u:ak}(hb:H b=aa (.tup (k.map kV)))(ry:RelV y u):KT H (iH XN k y) (storedH xs k b u):=by
 have e:(XN.any λkv=>decide (kv.1=k))=(atKey xs k).isSome:=by rw[Gj,(r.val k).isSome_eq,D1]
 unfold iH storedH;rw[e];by_cases q:(atKey xs k).isSome=ai
 ·rw[if_pos q,if_pos q];exact r.repl k ry
 ·rw[if_neg q,if_neg q];exact Paired.snoc r ⟨rfl,hb,ry⟩
theorem KT.keeps{H H':Hp}{XN:List (List aS×V)}{xs:List (List aS×ah×ak)}(r:KT H XN xs)(ht:∀b ys,H b=aa (.tup ys)->H' b=aa (.tup ys)):KT H' XN xs :=Paired.mapP r λ_ _ z=>⟨z.1,ht _ _ z.2.1,z.2.2⟩
section
variable{P:aZ}{w:aT}{H:Hp}{h:aI}{a:ah}
theorem IR{u:HO}(ok:dO P w H h)(e:Rd H a u):dS P w H h a u:=e.ok ok
theorem p5{XN:List (aS×V)}(ok:dO P w H h)(e:Rd H a (.dK XN)):XN.length<=bw/\(a == ou)=am/\∃vs,KV XN vs/\h.DictOf (gM P w) a vs :=show dS P w H h a (.dK XN)from IR ok e
theorem yV{XN:List (aS×V)}(ok:dO P w H h)(e:H a=aa (.dK XN)):XN.length<=bw/\(a == ou)=am/\∃vs,KV XN vs/\h.DictOf (gM P w) a vs:=p5 ok (.inl e)
theorem tD{ks:List aS}(ok:dO P w H h)(e:H a=aa (.tup (ks.map kV))):(v7 (gM P w)).is h ks a:=by
 obtain⟨_,its,r,⟨o,h1,h2,n,h3⟩,_⟩:=(show dS P w H h a (.tup (ks.map kV))from ok a _ e)
 exact⟨o,its.toArray,n,h1,h2,h3,by simpa using Ga r⟩
theorem rn{XN:List (List aS×V)}(ok:dO P w H h)(e:Rd H a (.dT XN)):XN.length<=bw/\(a == ou)=am /\ ∃xs,KT H XN xs/\h.DictOfH (v7 (gM P w)) a xs:=by
 obtain⟨z,y,xs,r,o,es,ep,h1,h2,h3,h4,h5⟩:=(show dS P w H h a (.dT XN)from IR ok e)
 refine⟨z,y,xs,r,o,es,ep,h1,h2,h3,h4,λx hx=>?_,h5⟩;have all:∀{l:List (List aS×V)}{m:List (List aS×ah×ak)},KT H l m->∀x∈m,(v7 (gM P w)).is h x.1 x.2.1:=by
  intro l m q
  induction q with
  |nil=>intro x hx;exact nomatch hx
  |@cons p q ps qs hq t ih=>
   intro x hx;rcases b8.mp hx with e|hx
   ·subst e;exact tD ok (by rw[←hq.1];exact hq.2.1)
   ·exact ih x hx
 exact all r x hx
theorem MA{XN:List (List aS×V)}(ok:dO P w H h)(e:H a=aa (.dT XN)):XN.length<=bw/\(a == ou)=am /\ ∃xs,KT H XN xs/\h.DictOfH (v7 (gM P w)) a xs:=rn ok (.inl e)
end
def lM(H:Hp)(a:ah)(y:V)(r:Option V):Prop :=(∃XN k,Rd H a (.dK XN)/\y=kV k/\r=jf XN k)\/∃XN k b,Rd H a (.dT XN)/\y=.ref b/\H b=aa (.tup (k.map kV))/\r=jf XN k
def Dw(H:Hp)(a:ah)(y v:V)(H':Hp):Prop :=
 (∃XN k,H a=aa (.dK XN)/\y=kV k/\XN.length<bw/\H'=upd H a (.dK (iH XN k v))) \/
 ∃XN k b,H a=aa (.dT XN)/\y=.ref b/\H b=aa (.tup (k.map kV))/\XN.length<bw/\H'=upd H a (.dT (iH XN k v))
theorem lM.k{H:Hp}{a:ah}{XN:List (aS×V)}{k:aS}(e:H a=aa (.dK XN)):lM H a (kV k) (jf XN k):=.inl ⟨XN,k,.inl e,rfl,rfl⟩
theorem Dw.k{H:Hp}{a:ah}{XN:List (aS×V)}{k:aS}{v:V}(e:H a=aa (.dK XN))(hl:XN.length<bw):Dw H a (kV k) v (upd H a (.dK (iH XN k v))):=.inl ⟨XN,k,e,rfl,hl,rfl⟩
section
variable{X:Cx}{af:List (ah×Obj)}{Y:St}{H:Hp}{s:aq}{a:ah}{y v:V}{u r:ak}{o:Option V}{A:bd}{E:ak->aq->Prop}
theorem Inv.big(I:Inv X af Y H s):ou<s.heap.objs.size:=by have h:cf<s.heap.objs.size:=(I.mod.glob.keeps I.bk).lt;exact oG (by decide) h
theorem Qw{Q:ak->aq->Prop}(hu:A.units+1<cLine)(I:Inv X af Y H s)(g:lM H a y (aa v))(ry:RelV y u)(h:∀w' s',Inv X af Y H s'->RelV v w'->Q w' s'):aA (aB X.prog X.w) A (rO (.ref a) u) Q E s:=by
 rcases g with⟨XN,k,e,ey,l⟩|⟨XN,k,b,e,ey,eb,l⟩
 ·subst ey;obtain⟨z,hd,vs,XA,dd⟩:=p5 I.hok e;obtain⟨w',hw,rw'⟩:=p6.some_of (v:=v) (o:=qe vs k) (by rw[l];exact XA.val k);exact wpAny_getItem_of (pZ ry) dd.mapOf hw (h w' _ (I.tok _) rw')
 ·subst ey;cases (show u=Value.ref b from ry);obtain⟨z,hd,xs,XA,dd⟩:=rn I.hok e;obtain⟨w',hw,rw'⟩:=p6.some_of (v:=v) (o:=(atKey xs k).map (·.2)) (by rw[l];exact XA.val k);obtain⟨p,hp,fR⟩:=t6.mp hw;refine wpAny_getItem_heap (zV hu) (tD I.hok eb) dd hp ?_;rw[fR];exact h w' _ (I.tok _) rw'
theorem Wd{Q:ak->aq->Prop}(hu:A.units+1<cLine)(I:Inv X af Y H s)(g:lM H a y o)(ry:RelV y u)(h:∀s',Inv X af Y H s'->Q (.bool o.isSome) s'):aA (aB X.prog X.w) A (eW .In u (.ref a)) Q E s:=by
 rcases g with⟨XN,k,e,ey,l⟩|⟨XN,k,b,e,ey,eb,l⟩
 ·subst ey;obtain⟨z,hd,vs,XA,dd⟩:=p5 I.hok e;refine wpAny_in_of (pZ ry) hd dd.mapOf ?_;rw[←(XA.val k).isSome_eq,←l];exact h _ (I.tok _)
 ·subst ey;cases (show u=Value.ref b from ry);obtain⟨z,hd,xs,XA,dd⟩:=rn I.hok e;refine wpAny_in_heap (zV hu) (tD I.hok eb) hd dd ?_;have q:=(XA.val k).isSome_eq;rw[D1]at q;rw[←q,←l];exact h _ (I.tok _)
theorem TU{Q:ak->aq->Prop}(hu:A.units+1<cLine)(I:Inv X af Y H s)(g:lM H a y o)(ry:RelV y u)(h:∀s',Inv X af Y H s'->Q (.bool (!o.isSome)) s'):aA (aB X.prog X.w) A (eW .NotIn u (.ref a)) Q E s:=by
 rcases g with⟨XN,k,e,ey,l⟩|⟨XN,k,b,e,ey,eb,l⟩
 ·subst ey;obtain⟨z,hd,vs,XA,dd⟩:=p5 I.hok e;refine wpAny_notIn_of (pZ ry) hd dd.mapOf ?_;rw[←(XA.val k).isSome_eq,←l];exact h _ (I.tok _)
 ·subst ey;cases (show u=Value.ref b from ry);obtain⟨z,hd,xs,XA,dd⟩:=rn I.hok e;refine wpAny_notIn_heap (zV hu) (tD I.hok eb) hd dd ?_;have q:=(XA.val k).isSome_eq;rw[D1]at q;rw[←q,←l];exact h _ (I.tok _)
theorem AX{h':aI}{t':Nat}{ob:HO}(I:Inv X af Y H s)(mu:u9 (H a))(hs:jq a s.heap h')(he:∃q,h'.get? a=aa q)(new:dS X.prog X.w (upd H a ob) h' a ob):Inv X af Y (upd H a ob) {s with heap:=h',toks:=t'} :=I.write (x:=a) (e:=a) mu (.inl rfl) (λb q hb z=>(hs.2 b hb).trans z) he new
theorem FA{P:aZ}{w:aT}{H':Hp}{h':aI}{XN:List (aS×V)}{vs:List (aS×ak)}(z:XN.length<=bw)(hd:(a == ou)=am)(XA:KV XN vs)(dd:h'.DictOf (gM P w) a vs):dS P w H' h' a (.dK XN):=⟨z,hd,vs,XA,dd⟩
theorem OS{H':Hp}{Q:Unit->aq->Prop}(hu:A.units+1<cLine)(I:Inv X af Y H s)(g:Dw H a y v H')(ry:RelV y u)(rv:RelV v r)(h:∀s',Inv X af Y H' s'->Q () s'):aA (aB X.prog X.w) A (setItem (.ref a) u r) Q E s:=by
 rcases g with⟨XN,k,e,ey,l,eH⟩|⟨XN,k,b,e,ey,eb,l,eH⟩
 ·subst ey eH;obtain⟨z,hd,vs,XA,dd⟩:=yV I.hok e;have hz:vs.length<=bw:=by rw[←XA.length];exact z
  have hl:(iH XN k v).length<=bw:=by have:=Dk XN k v;lia
  refine wpAny_setItem_pairs (hsz:=hz) (pZ ry) dd λh' dd' hs=>h _ ?_;have he:∃q,h'.get? a=aa q:=let ⟨q,_,_,hq,_⟩:=dd';⟨q,hq⟩
  exact AX I (by rw[e];exact True.intro) hs he (FA hl hd (XA.put k rv) dd')
 ·subst ey eH;cases (show u=Value.ref b from ry);obtain⟨z,hd,xs,XA,dd⟩:=MA I.hok e;have hz:xs.length<=bw:=by rw[←Paired.length XA];exact z
  have hl:(iH XN k v).length<=bw:=by have:=Dk XN k v;lia
  refine wpAny_setItem_heap (hsz:=hz) (zV hu) (tD I.hok eb) dd λh' dd' hs=>h _ ?_;obtain⟨q,es,ep,hq,h2,h3,h4,_,h5⟩:=dd';refine AX I (by rw[e];exact True.intro) hs ⟨q,hq⟩ ⟨hl,hd,_,(XA.put k eb rv).keeps λc ys ec=>?_,q,es,ep,hq,h2,h3,h4,h5⟩;rw[cp (Mq ec e (λz=>nomatch z))];exact ec
end
section
variable{X:Cx}{af:List (ah×Obj)}{Y:St}{H:Hp}{s:aq}{a:ah}{XN:List (aS×V)}{k:aS}{u:ak}{A:bd}{E:ak->aq->Prop}
theorem UZ{Q:ak->aq->Prop}(I:Inv X af Y H s)(e:Rd H a (.dK XN))(h:∀t s',Inv X af Y H s'->Q (.int XN.length t) s'):aA (aB X.prog X.w) A (call (.builtin "len") [.ref a]) Q E s:=by obtain⟨z,hd,vs,XA,dd⟩:=p5 I.hok e;refine call_len_dict hd dd (by rw[←XA.length];rw[oB]at z;lia) ?_;rw[←XA.length];exact h _ _ (I.tok _)
end
def B_(i:aE):Prop:=∀ov iv,DZ i am ov iv=operate [ov,iv] (rO ov iv)
theorem JI{prog:aZ}{w:aT}{A:bd}{E:ak->aq->Prop}{s:aq}{env:Env}{value slice:aE}{pos:Pos}{T id:String}{Q:ak->aq->Prop}(hl:typeLookup (.type T) "__getitem__" = pure (aa (.builtin id))) (hs:B_ slice)(h:aA (aB prog w) A (bf value env) (λo s₁=>aA (aB prog w) A (bf slice env) (λi vP=>vP.TypeIs o T/\aA (aB prog w) A (rO o i) Q E vP) E s₁) E s):aA (aB prog w) A (bf (.Subscript value slice pos) env) Q E s:=by
 refine Subscript_ (dr h (λo s₁ h₁=>dr h₁ (λi vP BT=>?_) λ_ _ x=>x) λ_ _ x=>x);obtain⟨hT,BT⟩:=BT;unfold DY;refine au ?_;rw[getitemInPython_of_ne hT.not_modules];refine au (wpAny_specialOf hT hl ?_);have fin:aA (aB prog w) A (DZ slice am o i) (λr Cl=>aA (aB prog w) A (letTemporaryGo value o r >>= λ_=>pure r) Q E Cl) E vP:=by rw[hs o i];exact wpAny_operating (dr BT (λr Cl Ks=>au (wpAny_letTemporaryGo (aF Ks))) λ_ _ x=>x)
 first
  |exact aF (au fin)
  |exact au (aF (au fin))
  |exact au fin
theorem Qk{X:Cx}{af:List (ah×Obj)}{Y:St}{H:Hp}{s:aq}{a:ah}{y:V}{o:Option V}(I:Inv X af Y H s)(g:lM H a y o):s.TypeIs (.ref a) "dict":=by
 rcases g with⟨XN,k,e,_,_⟩|⟨XN,k,b,e,_,_,_⟩
 ·obtain⟨_,_,vs,_,dd⟩:=p5 I.hok e;exact dd.typeIs
 ·obtain⟨_,_,xs,_,dd⟩:=rn I.hok e;exact dd.typeIs
def Oh(td ty:TE):TE:=λY H Q=>td Y H λx H1=>ty Y H1 λy H2=>∃a v,x=.ref a/\lM H2 a y (aa v)/\Q v H2
def VI(ty td:TE):TE:=λY H Q=>ty Y H λy H1=>td Y H1 λx H2=>∃a o,x=.ref a/\lM H2 a y o/\Q (.bl o.isSome) H2
def N_(ty td:TE):TE:=λY H Q=>ty Y H λy H1=>td Y H1 λx H2=>∃a o,x=.ref a/\lM H2 a y o/\Q (.bl (!o.isSome)) H2
def N7(td ty tv:TE):TS:=λD Y H=>tv Y H λv H1=>td Y H1 λx H2=>ty Y H2 λy H3=>∃a H4,x=.ref a/\Dw H3 a y v H4/\D.nx Y H4
section
variable{X:Cx}{o i e value:aE}{pos XG tpos:Pos}{td ty tv:TE}
theorem LQ(hu:X.A.units+1<cLine)(ho:PE X o td)(hi:PE X i ty)(hs:B_ i):PE X (.Subscript o i pos) (Oh td ty):=by intro af s Y H Q I h;refine JI PySem.F.slot_dict_getitem.lookup hs (a_ (ho af s Y H _ I h) λu s1 ⟨x,H1,I1,rx,q1⟩=>a_ (hi af s1 Y H1 _ I1 q1) λiv s2 ⟨y,H2,I2,ry,a,v,ex,g,q2⟩=>?_);subst ex;obtain rfl:u=Value.ref a:=rx;exact⟨Qk I2 g,Qw hu I2 g ry λw' s3 I3 rw'=>⟨v,H2,I3,rw',q2⟩⟩
theorem HF(hu:X.A.units+1<cLine)(hi:PE X i ty)(ho:PE X o td):PC X .In i o (VI ty td):=by intro af s Y H Q I h;refine a_ (hi af s Y H _ I h) λiv s1 ⟨y,H1,I1,ry,q1⟩=>a_ (ho af s1 Y H1 _ I1 q1) λu s2 ⟨x,H2,I2,rx,a,ov,ex,g,q2⟩=>?_;subst ex;obtain rfl:u=Value.ref a:=rx;exact Wd hu I2 g ry λs3 I3=>⟨.bl ov.isSome,H2,I3,rfl,q2⟩
theorem S8(hu:X.A.units+1<cLine)(hi:PE X i ty)(ho:PE X o td):PC X .NotIn i o (N_ ty td):=by intro af s Y H Q I h;refine a_ (hi af s Y H _ I h) λiv s1 ⟨y,H1,I1,ry,q1⟩=>a_ (ho af s1 Y H1 _ I1 q1) λu s2 ⟨x,H2,I2,rx,a,ov,ex,g,q2⟩=>?_;subst ex;obtain rfl:u=Value.ref a:=rx;exact TU hu I2 g ry λs3 I3=>⟨.bl (!ov.isSome),H2,I3,rfl,q2⟩
theorem Nu(hu:X.A.units+1<cLine)(ho:PE X o td)(hi:PE X i ty)(hv:PE X value tv)(hs:nv value (aa (.Subscript o i XG)) pos.line X.env=pure am):PS X (.Assign [.Subscript o i XG] value pos) (N7 td ty tv):=by intro af s Y H D I h;refine wpAny_Assign_Subscript (a_ (hv af s Y H _ I h) λr s1 ⟨v,H1,I1,rv,q1⟩=>a_ (ho af s1 Y H1 _ I1 q1) λu s2 ⟨x,H2,I2,rx,q2⟩=>a_ (hi af s2 Y H2 _ I2 q2) λiv s3 ⟨y,H3,I3,ry,a,H4,ex,g,q3⟩=>?_) hs;subst ex;obtain rfl:u=Value.ref a:=rx;exact OS hu I3 g ry rv λs4 I4=>⟨Y,H4,I4,q3⟩
end
theorem GM{P:aZ}{w:aT}{H:Hp}(h:aI)(hb:ou<h.objs.size):dS P w H (h.push {cls:=.type "dict",data:=.dict #[]}) h.objs.size (.dK []) :=⟨nB _,beq_eq_false_iff_ne.mpr (fY (cX hb)),[],.nil,Heap.DictOf.new h⟩
def Sx:TE:=λ_ H Q=>∀p,H p=ae->Q (.ref p) (upd H p (.dK []))
section
variable{X:Cx}{pos:Pos}
theorem OG:PE X (.Dict [] [] pos) Sx:=λaf s Y H Q I h=>wpAny_Dict_empty ⟨.ref s.heap.objs.size,_,I.laid (a:=s.heap.objs.size) (o:=.dK []) (t':=s.toks) (λ_ _ q=>bH _ q) (bn _) (GM s.heap I.big),rfl,h _ (I.hok.fresh (bn _))⟩
end
def B1:List (TE×TE)->St->Hp->(List (V×V)->Hp->Prop)->Prop
 |[],_,H,Q=>Q [] H
 | (tk,tv)::r,Y,H,Q=>tk Y H λx H1=>tv Y H1 λy H2=>B1 r Y H2 λps H3=>Q ((x,y)::ps) H3
abbrev VV:List (V×V)->List (ak×ak)->Prop:=nj λp q=>RelV p.1 q.1/\RelV p.2 q.2
def y6(X:Cx)(pos:Pos)(keys:List (Option aE))(values:List aE)(trs:List (TE×TE)):Prop :=
 ∀(af:List (ah×Obj)) (s:aq) (Y:St) (H:Hp) (Q:List (V×V)->Hp->Prop),Inv X af Y H s->B1 trs Y H Q ->
  aA (aB X.prog X.w) X.A (evalPairs (pairTrees keys values X.env pos)) (λvs s'=>∃ps H',Inv X af Y H' s'/\VV ps vs/\Q ps H') X.xe s
theorem Vh{X:Cx}{pos:Pos}:y6 X pos [] [] []:=λaf s Y H Q I h=>pairTrees_nil_walk ⟨[],H,I,.nil,h⟩
theorem Ra{X:Cx}{pos:Pos}{k v:aE}{ks:List (Option aE)}{vs:List aE}{tk tv:TE}{trs:List (TE×TE)}(hk:PE X k tk)(hv:PE X v tv)(hr:y6 X pos ks vs trs):y6 X pos (aa k::ks) (v::vs) ((tk,tv)::trs):=λaf s Y H Q I h=>pairTrees_cons_walk (a_ (hk af s Y H _ I h) λu s1 ⟨x,H1,I1,rx,q1⟩=>a_ (hv af s1 Y H1 _ I1 q1) λw2 s2 ⟨y,H2,I2,ry,q2⟩=>a_ (hr af s2 Y H2 _ I2 q2) λws s3 ⟨ps,H3,I3,XA,q3⟩=>⟨(x,y)::ps,H3,I3,.cons ⟨rx,ry⟩ XA,q3⟩)
def tT(XN more:List (aS×V)):List (aS×V):=more.foldl (λaK kv=>iH aK kv.1 kv.2) XN
theorem KV.merge:∀{more:List (aS×V)}{rs:List (aS×ak)}{XN:List (aS×V)}{vs:List (aS×ak)},KV more rs->KV XN vs->KV (tT XN more) (merged vs rs):=by
 intro more rs XN vs r;unfold KV at r
 induction r generalizing XN vs with
 |nil=>intro q;exact q
 |@cons p q ps qs h t ih=>
  intro r0;have e:KV (iH XN p.1 p.2) (stored vs q.1 q.2):=by have:=r0.put p.1 h.2;rw[←h.1];exact this
  exact ih e
theorem IQ:∀(more XN:List (aS×V)),(tT XN more).length<=XN.length+more.length
 |[],XN=>by show XN.length<=XN.length+0;lia
 |p::r,XN=>by have h1:=IQ r (iH XN p.1 p.2);have h2:=Dk XN p.1 p.2;show(tT (iH XN p.1 p.2) r).length<=_;rw[fi];lia
theorem FJ{P:aZ}{w:aT}:∀{XN:List (aS×V)}{ws:List (ak×ak)},VV (XN.map λkv=>(kV kv.1,kv.2)) ws->∃rs,Carries (gM P w) ws rs/\KV XN rs
 |[],_,r=>by rw[wn]at r;cases r;exact⟨[],True.intro,.nil⟩
 |p::XN,_,r=>by
  rw[eZ]at r;cases r with
  |@cons a b as bs h t=>obtain⟨rs,c,q⟩:=FJ (P:=P) (w:=w) t;obtain⟨b1,b2⟩:=b;exact⟨(p.1,b2)::rs,⟨pZ h.1,rfl,c⟩,.cons ⟨rfl,h.2⟩ q⟩
def V8(trs:List (TE×TE)):TE:=λY H Q=>∀p,H p=ae->B1 trs Y (upd H p (.dK [])) λps H2=>H2 p=aa (.dK [])/\∃XN:List (aS×V),ps=XN.map (λkv=>(kV kv.1,kv.2))/\XN.length<=15/\Q (.ref p) (upd H2 p (.dK (tT [] XN)))
theorem Nd{X:Cx}{pos:Pos}{keys:List (Option aE)}{values:List aE}{trs:List (TE×TE)}(h:y6 X pos keys values trs)(um:keys.all (·.isSome)=ai)(hl:keys.length=values.length)(h0:keys≠[])(h15:keys.length<=15):PE X (.Dict keys values pos) (V8 trs):=by
 intro af s Y H Q I q;have hn:=I.hok.fresh (bn s.heap.objs.size);have I1:=I.laid (a:=s.heap.objs.size) (o:=.dK []) (h':=s.heap.push {cls:=.type "dict",data:=.dict #[]}) (t':=s.toks) (λ_ _ q=>bH _ q) (bn _) (GM s.heap I.big);refine wpAny_Dict_walk (knd:=gM X.prog X.w) um hl h0 h15 (a_ (h af _ Y _ _ I1 (q _ hn)) λws s2 ⟨ps,H2,I2,XA,e,XN,ep,lk,q2⟩=>?_);subst ep;obtain⟨rs,c,rk⟩:=FJ (P:=X.prog) (w:=X.w) XA;obtain⟨z,hd,vs0,r0,dd⟩:=yV I2.hok e;cases r0;refine⟨rs,c,dd,λh' dd' hs=>⟨.ref s.heap.objs.size,_,?_,rfl,q2⟩⟩;have hz:(tT [] XN).length<=bw:=by have h1:=IQ XN [];rw[rQ]at h1;rw[oB];lia
 have he:∃q,h'.get? s.heap.objs.size=aa q:=let ⟨q,_,_,hq,_⟩:=dd';⟨q,hq⟩
 exact AX I2 (by rw[e];exact True.intro) hs he (FA hz hd (rk.merge .nil) dd')
structure M2(X:Cx)(o:aE)(m:Str)(X7:Pos)(e f:aE)(X6:Pos):Prop where
 base:p_ o m X.env (bf o X.env)=bf o X.env
 few:((dR X6 (aW [e,f] X.env)).all (λx=>!x.1)&&(t4 X6 (t5 [] X.env)).all (λx=>x.1.isSome)&&decide (([e,f]:List aE).length+([]:List mj).length+(if([]:List mj).isEmpty then 0 else 1)<30))=ai
 line:(X7.endLine == X6.line)=ai
 trees:dR X6 (aW [e,f] X.env)=[(am,bf e X.env),(am,bf f X.env)]
def F9(H:Hp)(a:ah):Prop:=(∃XN,Rd H a (.dK XN))\/∃XN,Rd H a (.dT XN)
theorem RO{X:Cx}{af:List (ah×Obj)}{Y:St}{H:Hp}{s:aq}{a:ah}(I:Inv X af Y H s)(d:F9 H a):s.TypeIs (.ref a) "dict"/\(∀b,Value.ref a=.ref b->∃ob,s.heap.get? b=aa ob/\ob.dict=ae)/\(a == ou)=am:=by
 rcases d with⟨XN,e⟩|⟨XN,e⟩
 ·obtain⟨_,hd,vs,_,dd⟩:=p5 I.hok e;refine⟨dd.typeIs,λb q=>?_,hd⟩;cases q;obtain⟨ob,_,_,h1,h2,_⟩:=dd;exact⟨ob,h1,h2.2.1⟩
 ·obtain⟨_,hd,xs,_,dd⟩:=rn I.hok e;refine⟨dd.typeIs,λb q=>?_,hd⟩;cases q;obtain⟨ob,_,_,h1,h2,_⟩:=dd;exact⟨ob,h1,h2.2.1⟩
section
variable{X:Cx}{af:List (ah×Obj)}{Y:St}{H:Hp}{s:aq}{a:ah}{y d:V}{u r:ak}{o:Option V}{A:bd}{E:ak->aq->Prop}
theorem NZ{Q:ak->aq->Prop}(hu:A.units+1<cLine)(I:Inv X af Y H s)(g:lM H a y o)(ry:RelV y u)(rd:RelV d r)(h:∀w' s',Inv X af Y H s'->RelV (o.getD d) w'->Q w' s'):aA (aB X.prog X.w) A (call (.builtin "dict.get") [.ref a,u,r]) Q E s:=by
 rcases g with⟨XN,k,e,ey,l⟩|⟨XN,k,b,e,ey,eb,l⟩
 ·subst ey;obtain⟨z,hd,vs,XA,dd⟩:=p5 I.hok e;refine call_meetsIn KD dd.typeIs PySem.F.entry_dict_get (PySem.F.args_dict_get_3 _ _ _) (meets_dict_get_default (gM X.prog X.w) a (pZ ry) hd r) ⟨_,dd.mapOf,h _ _ (I.tok _) ?_⟩;rw[l];exact(XA.val k).getD rd
 ·subst ey;cases (show u=Value.ref b from ry);obtain⟨z,hd,xs,XA,dd⟩:=rn I.hok e;refine call_meetsIn KD dd.typeIs PySem.F.entry_dict_get (PySem.F.args_dict_get_3 _ _ _) (meetsH_dict_get_default (v7 (gM X.prog X.w)) a b hd r) ⟨zV hu,k,xs,tD I.hok eb,dd,h _ _ (I.tok _) ?_⟩;rw[l];exact(XA.val k).getD rd
end
def TC(td ty tx:TE):TE:=λY H Q=>td Y H λx H1=>∃a,x=.ref a/\F9 H1 a/\ty Y H1 λy H2=>tx Y H2 λz H3=>∃o,lM H3 a y o/\Q (o.getD z) H3
section
variable{X:Cx}{o e f:aE}{X7 X6:Pos}{td ty tx:TE}
theorem ON(hu:X.A.units+1<cLine)(ho:PE X o td)(he:PE X e ty)(hf:PE X f tx)(m:M2 X o "get" X7 e f X6):PE X (.Call (.Attribute o "get" X7) [e,f] [] X6) (TC td ty tx):=by intro af s Y H Q I h;refine wpAny_Call_method m.base m.few m.line PySem.F.plainAttrs_dict KD PySem.F.type_dict_get (a_ (ho af s Y H _ I h) λu s1 ⟨x,H1,I1,rx,a,ex,d,q1⟩=>?_);subst ex;obtain rfl:u=Value.ref a:=rx;obtain⟨t1,t2,_⟩:=RO I1 d;refine⟨t1,t2,?_⟩;rw[m.trees];refine KB rfl (KC (DJ (a_ (he af s1 Y H1 _ I1 q1) λiv s2 ⟨y,H2,I2,ry,q2⟩=>DJ (a_ (hf af s2 Y H2 _ I2 q2) λfv s3 ⟨z,H3,I3,rz,ov,g,q3⟩=>Kw ?_))));exact NZ hu I3 g ry rz λw' s4 I4 rw'=>⟨_,H3,I4,rw',q3⟩
end
end L2
namespace Att
open PySem PySem.W PySem.Calls PyProof.Rows
theorem U0{P:Params}{h:aI}:∀(ns:List Int) (vs:List ak),WellAll P h vs (ns.map WData.int)->IntsAre vs ns:=by
 intro ns
 induction ns with
 |nil=>
  intro vs w;rw[wn]at w;cases w;exact .nil
 |cons n ns ih=>
  intro vs w;rw[eZ]at w;cases w with
  |cons a b=>
   cases a;exact .cons _ _ (ih _ b)
theorem Wb{l:OpenLaw}{n:Nat}(hn:l.most=aa n){P:Params}{h:aI}{args:List WData}{vals:List ak}(AA:l.row.toRowW.claim.pre args=ai) (hwl:WellAll P h vals args):∃a vs ns,vals=[Value.ref a]/\args=[WData.list (ns.map WData.int)]/\h.get? a=aa {cls:=.type "list",data:=.seq vs.toArray}/\IntsAre vs ns/\ns.length<=n:=by
 have hsh:WShape.hasAll [] args [.list .int]=ai:=(pre_splitW AA).1;have hc:l.pre.holds [] {args:=args}=ai:=(pre_splitW AA).2;obtain⟨d,r,rfl,h1,h2⟩:=hasAllW_cons hsh;obtain rfl:=hasAllW_nil h2;obtain⟨xs,rfl,h3⟩:=hasW_list h1;obtain⟨ns,rfl⟩:=items_int h3;have cg:ns.length<=n:=by
  unfold OpenLaw.pre at hc;have h4:(WTm.not (.lt (.lit (.int (n:Int))) (.len (.arg 0)))).holds [] {args:=[.list (ns.map .int)]}=ai:=by have h4:=(holds_andW hc).1;rw[hn]at h4;exact h4
  have h5:=condW_of h4 (w_not (w_lt w_lit (w_len_list (w_arg rfl))));rw[dw]at h5;refine Nat.le_of_not_lt λq=>?_;have q':(n:Int)<((ns.length:Nat):Int):=∅
  first
   | (rw[decide_eq_true q']at h5;exact absurd h5 (by decide))
   | (simp at h5;lia)
 cases hwl with
 |cons w1 w2=>
  cases w2;cases w1 with
  |list ho um=>exact⟨_,_,ns,rfl,rfl,ho,U0 ns _ um,cg⟩
theorem Rv(l:OpenLaw)(args:List WData):l.row.toRowW.claim.post args (.bool ai) args=ai :=
 postW_of (r:=l.row.toRowW) (X:=(ai == ai))
  (show WShape.has [] (.bool ai) .bool=ai by first|rfl|decide|simp[WShape.has,WShape.arms,WShape.armsAll])
  (show(WTm.eq .res (.lit (.bool ai))).value [] {args:=args,res:=aa (.bool ai),after:=args}=aa (.bool (ai == ai))from w_eq_bool (w_res rfl) w_lit) rfl
theorem attach_call{l:OpenLaw}{n:Nat}{q:aZ}{XJ:List Str}{XP:(Str->Option ak)->aI->Prop}{YP:aT->aI->Prop}{d:DefRec}(hn:l.most=aa n) (r_:d.params.defaults=[])(call:∀(w:aT) (tM s₁:aq) (mg mb:Str->Option ak) (fa:ah) (o:Obj) (pm cd X9:ak) (a:ah) (vs:List ak) (ns:List Int),Ground q XJ [] XP w tM mg mb s₁.heap->YP w s₁.heap -> s₁.heap.get? fa=aa o->o.data=.func (docDef d.name d.params d.body d.scope pm cd X9)->s₁.heap.CodeRec cd d.name->mg d.name=aa (.ref fa) -> s₁.heap.get? a=aa {cls:=.type "list",data:=.seq vs.toArray}->IntsAre vs ns->ns.length<=n->s₁.gens=#[] -> nz (aB l.prog w) t7 (.call (.ref fa) ⟨[.ref a],[]⟩) (λr s'=>r=.ok (.ret (.bool ai))/\OldK s₁.heap s'.heap/\s'.os=s₁.os/\ox s'.gens) s₁):WalkO q XJ XP YP l.row.toRowW d [] (λf vs=>PySem.call f vs):=by intro w tM s₁ mg mb G ld fa o pm cd X9 dV kV ho hd bL hD wU hg args vals as AA hlay hrd hwl hlo;obtain rfl:dV=.none:=Dflts.none hD r_;obtain rfl:kV=.none:=Dflts.noKw hD;obtain⟨a,vs,ns,rfl,rfl,ES,EN,cg⟩:=Wb hn AA hwl;refine enter_call (rL (call w tM s₁ mg mb fa o pm cd X9 a vs ns G ld ho (fd_plain hd) bL wU ES EN cg hg) λr s' hq=>?_);obtain⟨rfl,h2,h3,h4⟩:=hq;exact⟨.inl ⟨.bool ai,.bool ai,[],rfl,λ_=>rfl,.bool ai,Rv l _,λ_=>⟨List.Pairwise.nil,λ_ hm=>(nomatch hm)⟩⟩,h2,h3,h4⟩
section
variable{prog:aZ}{w:aT}{A:bd}{E:ak->aq->Prop}{s:aq}{K:Frag}
def zp(h:aI):aI:={h with objs:=#[]}
theorem Ke(h:aI)(b:ah):(zp h).get? b=ae:=by
 cases e:(zp h).get? b with
 |none=>rfl
 |some o=>exact absurd (bD e) (zW _)
def CM(h:aI)(L d:ah):List (ah×Obj):=(bF h.objs.size).filterMap λa=>if a=L\/a=d then ae else(h.get? a).map λo=>(a,o)
theorem QU{h:aI}{L d a:ah}{o:Obj}:(a,o)∈CM h L d↔a≠L/\a≠d/\h.get? a=aa o:=by
 unfold CM;rw[Kr];constructor
 ·rintro⟨b,_,e⟩;split at e
  ·cases e
  ·rename_i hb;obtain⟨o',ho,e'⟩:=t6.mp e;cases e';exact⟨λq=>hb (.inl q),λq=>hb (.inr q),ho⟩
 ·rintro⟨n1,n2,ho⟩;refine⟨a,nr.mpr (bD ho),?_⟩;rw[if_neg (show ¬(a=L\/a=d)from λq=>q.elim n1 n2),ho] <;> rfl
theorem Uy{h:aI}{L:ah}{m:Str->Option ak}(n:h.Ns L m):Fr (zp h) L h m :=
 ⟨n,λb o e=>(by rw[Ke]at e;cases e),nB _⟩
end
end Att
namespace L2
theorem Fp:∀{vs:List ak}{ns:List Int},IntsAre vs ns->bX (ns.map V.int) vs
 |_,_,.nil=>.nil
 |_,_,.cons n t h=>.cons ⟨t,rfl⟩ (Fp h)
def CU(H:Hp):Prop:=∀b,H b=ae\/(∃o xs,H b=aa (.frz o (.lst xs)))\/∃q,H b=aa (.tbl q)
def kA(K:aC):Hp:=λb=>match l_ K "road" with
 |some (_,P)=>if b=P then aa (.tbl "road.<locals>.<lambda>")else ae
 |none=>ae
theorem qZ{K:aC}{b:ah}{u:HO}(h:kA K b=aa u):u=.tbl "road.<locals>.<lambda>"/\∃c,l_ K "road" = aa (c,b):=by
 unfold kA at h;split at h
 ·rename_i c P e;split at h
  ·rename_i hb;subst hb;cases h;exact⟨rfl,c,e⟩
  ·cases h
 ·cases h
theorem Gb{K:aC}{c P:ah}(h:l_ K "road" = aa (c,P)):kA K P=aa (.tbl "road.<locals>.<lambda>"):=by unfold kA;rw[h];exact if_pos rfl
def FG(K:aC)(h:aI):Prop:=∀c P,l_ K "road" = aa (c,P)->zX K c P=ai/\K.lookup P=ae/\h.get? P=aa {cls:=.none,data:=.fields #[]}
theorem Rc{P:aZ}{w:aT}{K:aC}{mg mb:Str->Option ak}{CX:gc}{k:Nat}{fa a:ah}{fd:gD}{x:Str}{sp:Sp}{s₁:aq}{vs:List ak}{ns:List Int}(KX:K.In s₁.heap) (mz:s₁.heap.Ns cf mg) (hb:s₁.heap.Ns rJ mb) (hbb:∀x:Str,x≠"__name__"->mb x=fz x) (hlim:s₁.heap.NoLimit) (hbm:∃bm ob,mg "__builtins__" = aa (.ref bm)/\bm≠rJ/\s₁.heap.get? bm=aa ob/\ob.cls=.type "module"/\ob.dict=aa rJ/\ob.data=.plain) (qx:FG K s₁.heap) (hg:s₁.gens=#[])(ha:s₁.heap.get? a=aa {cls:=.type "list",data:=.seq vs.toArray}) (hi:IntsAre vs ns) (hl:ns.length<=bw) (hr:Room k t7)(F:∀base:aI,K.In base->base.Ns cf mg->j5 P w K mg base CX k fa fd [x] sp) (WY:∀(s:aq) (u:ak),BindsTo s fd ⟨[u],[]⟩ [(x,u)])(jW:∀H:Hp,CU H->cC K H a (ns.map V.int)->sp [.ref a] H (λv _=>v=.bl ai) λ_ _ _=>False)(hCX:∀H e s',CX [] H s₁ (λ_ _ _=>False) e s'->False):nz (aB P w) t7 (.call (.ref fa) ⟨[.ref a],[]⟩) (λr s'=>r=.ok (.ret (.bool ai))/\OldK s₁.heap s'.heap/\s'.os=s₁.os/\ox s'.gens) s₁:=by
 have rv:=Fp hi;have lenV:=hi.length;have core:∀H:Hp,CU H->cC K H a (ns.map V.int)->dO P w H s₁.heap->(∀b,H b≠ae->b=a\/∃c,l_ K "road" = aa (c,b))->(H a≠ae->K.lookup a=ae)->xF K H ->
   nz (aB P w) t7 (.call (.ref fa) ⟨[.ref a],[]⟩) (λr s'=>r=.ok (.ret (.bool ai))/\OldK s₁.heap s'.heap/\s'.os=s₁.os/\ox s'.gens) s₁:=by
  intro H hO hS hok hA hK hTH;have base_of:∀{b:ah}{o:Obj},s₁.heap.get? b=aa o->H b=ae->(nZ s₁.heap H).get? b=aa o:=λe n=>Qo e n;have noA:∀{b:ah}{o:Obj}{es:Array DictEntry}{ep:Nat},s₁.heap.get? b=aa o->o.data=.dict es ep->H b=ae:=λ{b o es ep} e d=>by
   cases q:H b with
   |none=>rfl
   |some u=>
    rcases hA b (by rw[q];simp)with e'|⟨c,e'⟩
    ·subst e';rw[ha]at e;cases e;have d':Data.seq vs.toArray _=Data.dict es ep:=d;cases d'
    ·rw[(qx c b e').2.2]at e;cases e;cases d
  have nsK:∀{b:ah}{m:Str->Option ak},s₁.heap.Ns b m->(nZ s₁.heap H).Ns b m:=λ{b m} ⟨o,es,ep,e,d,r⟩=>⟨o,es,ep,base_of e (noA e d),d,r⟩
  have hKb:K.In (nZ s₁.heap H):=λb o e=>base_of (KX b o e) (by
   cases q:H b with
   |none=>rfl
   |some u=>
    rcases hA b (by rw[q];simp)with e'|⟨c,e'⟩
    ·subst e';rw[hK (by rw[q];simp)]at e;cases e
    ·rw[(qx c b e').2.1]at e;cases e)
  have hM:Mod K mg (nZ s₁.heap H):=⟨hKb,nsK mz,⟨mb,nsK hb,hbb⟩,(let ⟨mc,h1,h2⟩:=hlim;⟨mc,nsK h1,h2⟩),by
   obtain⟨bm,ob,b1,b2,b3,b4,b5,b6⟩:=hbm;refine⟨bm,ob,b1,b2,base_of b3 ?_,b4,b5,b6⟩;cases q:H bm with
   |none=>rfl
   |some u=>
    rcases hA bm (by rw[q];simp)with e'|⟨c,e'⟩
    ·subst e';rw[ha]at b3;cases b3;simp at b4
    ·rw[(qx c bm e').2.2]at b3;cases b3;simp at b4⟩
  have e0:sT P w K mg (nZ s₁.heap H) t7 [] s₁ H:=⟨rfl,hM,λb o e=>WI e,oH (LK _ _),trivial,λb hb=>absurd (show b∈([]:List ah)from hb) (by simp),hok,.of_eq hg,hTH⟩
  refine rL ((F _ hKb (nsK mz)).run t7 [] s₁ H ⟨[.ref a],[]⟩ [.ref a] [.ref a] _ _ hr e0 (WY s₁ (.ref a)) (.cons rfl .nil) (jW H hO hS)) λr s' h=>?_;cases r with
  |error e=>exact(hCX H e s' h).elim
  |ok fl=>
   cases fl with
   |next=>exact iJ h
   |brk=>exact iJ h
   |cont=>exact iJ h
   |ret u=>
    obtain⟨v,H',os,bare,un,Ln,r',q⟩:=h;have q':v=.bl ai:=q;subst q';obtain rfl:u=Value.bool ai:=r';refine⟨rfl,⟨λb o e=>?_,λb o e=>un.there b o e (by simp)⟩,os,bare⟩;cases q:H b with
    |none=>exact .inl (un.keep b o e q (by intro z;exact absurd (show b∈([]:List ah)from z) (by simp)) (by simp))
    |some u=>
     rcases hO b with z|⟨ob,xs,z⟩|⟨qn,z⟩
     ·rw[q]at z;cases z
     ·have z2:=un.frzs b ob _ z;obtain⟨e1,_⟩:=hok b _ z;obtain⟨e2,_⟩:=Ln b _ z2;rw[e]at e1;cases e1;exact .inl e2
     ·rcases hA b (by rw[q];simp)with e'|⟨c,e'⟩
      ·subst e';obtain⟨ps,e1,_⟩:=hok b _ z;rw[ha]at e1;cases e1
      ·obtain⟨k1,k2,k3⟩:=qx c b e';rw[k3]at e;cases e;obtain⟨oc,vs',_,_,_,_,_,_,_,f1,f2,f3,f4,_⟩:=PySem.W.codeHd_of_K KX k1;obtain⟨ps,e1,_⟩:=Ln b _ (un.tbls b _ z);exact .inr (.inl ⟨⟨c,oc,vs',f1,f2,f3,f4⟩,rfl,#[],ps,rfl,by rw[e1];simp⟩)
 cases hk:K.lookup a with
 |some o=>
  have e:=KX a o hk;rw[ha]at e;cases e;have tH:∀b u,kA K b=aa u->dS P w (kA K) s₁.heap b u:=λb u z=>by
   obtain⟨rfl,c,e⟩:=qZ z;exact⟨#[],(qx c b e).2.2,trivial,λpos cv h=>by cases h⟩
  refine core (kA K) (λb=>?_) (.inr ⟨_,vs.toArray,_,hk,rfl,rfl,rfl,by rw[cU,lenV];exact hl,by simpa using rv⟩) tH (λb z=>?_) (λz=>?_) λx hx c P e=>?_
  ·cases q:kA K b with
   |none=>exact .inl rfl
   |some u=>exact .inr (.inr ⟨_,congrArg aa (qZ q).1⟩)
  ·cases q:kA K b with
   |none=>exact absurd q z
   |some u=>exact .inr (qZ q).2
  ·cases q:kA K a with
   |none=>exact absurd q z
   |some u=>
    obtain⟨_,c,e'⟩:=qZ q;rw[(qx c a e').2.2]at ha;cases ha
  ·obtain rfl:x = "road":=by simpa[vT]using hx
   exact Gb e
 |none=>
  have ta:∀c P,l_ K "road" = aa (c,P)->P≠a:=λc P e z=>by subst z;rw[(qx c P e).2.2]at ha;cases ha
  refine core (λb=>if b=a then aa (.frz {cls:=.type "list",data:=.seq vs.toArray} (.lst (ns.map V.int)))else kA K b) (λb=>?_) (.inl (.inr ⟨{cls:=.type "list",data:=.seq vs.toArray},if_pos rfl⟩)) (λb u z=>?_) (λb z=>?_) (λ_=>hk) λx hx c P e=>?_
  ·by_cases hb:b=a
   ·exact .inr (.inl ⟨_,_,if_pos hb⟩)
   ·cases q:kA K b with
    |none=>exact .inl ((if_neg hb).trans q)
    |some u=>exact .inr (.inr ⟨_,(if_neg hb).trans (q.trans (congrArg aa (qZ q).1))⟩)
  ·by_cases hb:b=a
   ·have z':=(if_pos hb).symm.trans z;cases z';subst hb;exact⟨ha,by rw[dw];exact hl,vs,_,rv,ha⟩
   ·obtain⟨rfl,c,e⟩:=qZ ((if_neg hb).symm.trans z);exact⟨#[],(qx c b e).2.2,trivial,λpos cv h=>by cases h⟩
  ·by_cases hb:b=a
   ·exact .inl hb
   ·cases q:kA K b with
    |none=>exact absurd ((if_neg hb).trans q) z
    |some u=>exact .inr (qZ q).2
  ·obtain rfl:x = "road":=by simpa[vT]using hx
   exact(if_neg (ta c P e)).trans (Gb e)
theorem Xy{l:D3}{n k:Nat}{q:aZ}{XJ:List Str}{XP:(Str->Option ak)->aI->Prop}{YP:aT->aI->Prop}{d:DefRec}{K:Params->aC}{CX:aT->gc}{sp:aT->Sp}{x:Str}(hn:l.most=aa n) (hn2:n<=bw) (r_:d.params.defaults=[]) (hr:Room k t7)(hY:∀(w:aT) (h:aI),YP w h->(K w.params).In h/\FG (K w.params) h)(F:∀(w:aT) (mg:Str->Option ak) (fa:ah) (h:aI),(K w.params).In h->h.Ns cf mg->mg d.name=aa (.ref fa) -> ∃fd:gD,(∀(s:aq) (u:ak),BindsTo s fd ⟨[u],[]⟩ [(x,u)]) /\ ∀base:aI,(K w.params).In base->base.Ns cf mg->j5 l.prog w (K w.params) mg base (CX w) k fa fd [x] (sp w))(jW:∀(w:aT) (H:Hp) (a:ah) (ns:List Int),ns.length<=n->CU H->cC (K w.params) H a (ns.map V.int)->sp w [.ref a] H (λv _=>v=.bl ai) λ_ _ _=>False)(hCX:∀(w:aT) (H:Hp) (s:aq) (e:ak) (s':aq),CX w [] H s (λ_ _ _=>False) e s'->False):PySem.W.WalkO q XJ XP YP l.row.toRowW d [] (λf vs=>PySem.call f vs):=by refine Att.attach_call hn r_ λw tM s₁ mg mb fa o pm cd X9 a vs ns G ld ho hd bL wU ES EN cg hg=>?_;have KX:=(hY w _ ld).1;obtain⟨fd,hb,hF⟩:=F w mg fa _ KX G.T.g wU;exact Rc KX G.T.g G.T.b G.T.builtins G.T.nolimit G.T.bmain (hY w _ ld).2 hg ES EN (dj cg hn2) hr hF hb (λH hO hS=>jW w H a ns cg hO hS) λH e s'=>hCX w H s₁ e s'
def j7(s:ba):rM:=match s with
 |.FunctionDef _ a _ _ _ _ _ _ _ _=>a
 |_=>{posonlyargs:=[],args:=[],vararg:=ae,kwonlyargs:=[],kw_defaults:=[],kwarg:=ae,defaults:=[]}
def fX(s:ba):List ba:=match s with
 |.FunctionDef _ _ b _ _ _ _ _ _ _=>b
 |_=>[]
def a8(s:ba):d8:=match s with
 |.FunctionDef _ _ _ _ _ _ sc _ _ _=>sc
 |_=>{kind:=.function,names:=[],isGenerator:=am,isCoroutine:=am}
abbrev BG:gc:=λ_ _ _ _ _ _=>False
abbrev E0:XK:=λ_ _ _=>False
structure qP(K:aC)(x qual:Str)(st:ba)(f:ah)(fd:gD):Prop where
 ex:∃(oc:ak) (od:Option ah) (kV X9 pm:ak) (an:Option ah) (aN ct:ak) (osl:Array (Option ak)),
  fd=i4 x qual (j7 st) (fX st) (a8 st) .none kV X9 pm an aN ct/\K.lookup f=aa ⟨oc,od,.func fd,osl⟩/\wd K aN qual=ai
 kp:oC K (.ref f)=ai
section
variable{P:aZ}{w:aT}{K:aC}{mg:Str->Option ak}{base:aI}
theorem qP.binds{x qual:Str}{st:ba}{f:ah}{fd:gD}{ps:List Str}(F:qP K x qual st f fd)(h:∀(kV X9 pm:ak) (an:Option ah) (aN ct:ak) (us:List ak),us.length=ps.length->fZ (i4 x qual (j7 st) (fX st) (a8 st) .none kV X9 pm an aN ct) ⟨us,[]⟩=pure (ps.zip us)):Binds K fd ps []:=by obtain⟨oc,od,kV,X9,pm,an,aN,ct,osl,rfl,lk,bL⟩:=F.ex;exact .all (h kV X9 pm an aN ct)
theorem IV{x qual:Str}{st:ba}{f:ah}{oc:ak}{od an:Option ah}{osl:Array (Option ak)}{kV X9 pm aN ct:ak}(l:K.lookup f=aa ⟨oc,od,.func (i4 x qual (j7 st) (fX st) (a8 st) .none kV X9 pm an aN ct),osl⟩)(c:wd K aN qual=ai) (k:oC K (.ref f)=ai):qP K x qual st f (i4 x qual (j7 st) (fX st) (a8 st) .none kV X9 pm an aN ct):=⟨⟨oc,od,kV,X9,pm,an,aN,ct,osl,rfl,l,c⟩,k⟩
end
theorem Ts{n:Nat}(h:n<=1000):n<bw:=t8 h (by decide)
section
variable{X:Cx}
theorem pv(i:Nat){x:Str}{pos:Pos}(hN:X.N[i]?=aa x:=by rfl)(hv:fP X.env.scope x:=by first|exact Or.inl rfl|exact Or.inr (Or.inl rfl)|exact Or.inr (Or.inr rfl))(hd:(x == ("__debug__" : Str))=am:=by decide)(bL:(x == ("__classdict__" : Str))=am:=by decide):PE X (.Name x pos) (Jx i):=gL hN hv hd bL
theorem OA:fD X (.builtin "len") (λxs H Q=>∃a XN,xs=[V.ref a]/\H a=aa (.dK XN)/\Q (.int XN.length) H):=by
 intro af s Y H xs us Q I r h;obtain⟨a,XN,rfl,ha,q⟩:=h;obtain⟨u,rfl,ru⟩:=vals1 r;cases ru;exact UZ I (.inl ha) λt s' I'=>⟨.int XN.length,H,I',⟨t,rfl⟩,q⟩
end
theorem pD{A B:Prop}(h:B):if am=ai then A else B:=by rw[if_neg gz];exact h
theorem pN{A B:Prop}(h:A):if ai=ai then A else B:=by rw[if_pos rfl];exact h
def Same(H H':Hp):Prop:=∀b o,H b=aa o->H' b=aa o
theorem Same.refl(H:Hp):Same H H:=λ_ _ h=>h
theorem Same.trans{H H1 H2:Hp}(a:Same H H1)(b:Same H1 H2):Same H H2:=λc o h=>b c o (a c o h)
theorem Same.free{H H':Hp}(e:Same H H'){l:ah}(h:H' l=Option.none):H l=Option.none:=by
 cases q:H l with
 |none=>rfl
 |some o=>
  rw[e l o q]at h;cases h
end L2
set_option maxHeartbeats 4000000
namespace L2
def iT(env:Env):List (Str×io)->List (Str×ah)->List (Str×ah)
 |[],cs=>cs
 | (n,k)::r,cs=>if k == .free then iT env r ((n,(env.cells.lookup n).getD 0)::cs)else iT env r cs
theorem Vj{env:Env}{y:Str}{c:ah}(names:List (Str×io))(cs:List (Str×ah))(hh:∀x∈names,x.2=.free->∃c,env.cells.lookup x.1=aa c)(h:(iT env names cs).lookup y=aa c):cs.lookup y=aa c\/env.cells.lookup y=aa c:=by
 induction names generalizing cs with
 |nil=>exact .inl h
 |cons a r ih=>
  obtain⟨n,k⟩:=a;unfold iT at h;have hr:∀x∈r,x.2=.free->∃c,env.cells.lookup x.1=aa c:=λx hx=>hh x (me _ hx);split at h
  ·rename_i hk;obtain⟨c',iN⟩:=hh (n,k) (oy ..) (by simpa using hk);rcases ih _ hr h with q|q
   ·rw[lq]at q;split at q
    ·rename_i hb;have e:y=n:=by simpa using hb
     subst e;rw[iN]at q;exact .inr (by rw[iN];exact q)
    ·exact .inl q
   ·exact .inr q
  ·exact ih _ hr h
theorem IM{α:Type}{n:Str}{v:α}{l:List (Str×α)}:((n,v)::l).lookup n=aa v:=by rw[lq];simp
theorem HS{α:Type}{n y:Str}{v:α}{l:List (Str×α)}(h:∃c,l.lookup y=aa c):∃c,((n,v)::l).lookup y=aa c:=by
 rw[lq];split
 ·exact⟨_,rfl⟩
 ·exact h
theorem Cy{env:Env}{y:Str}:∀(names:List (Str×io)) (cs:List (Str×ah)),(∃c,cs.lookup y=aa c)->∃c,(iT env names cs).lookup y=aa c
 |[],cs,h=>h
 | (n,k)::r,cs,h=>by
  unfold iT;split
  ·exact Cy r _ (HS h)
  ·exact Cy r _ h
theorem AH{env:Env}{y:Str}:∀(names:List (Str×io)) (cs:List (Str×ah)),(∃x∈names,x.1=y/\x.2=.free)->∃c,(iT env names cs).lookup y=aa c
 |[],cs,⟨_,h,_⟩=>by simp at h
 | (n,k)::r,cs,⟨x,hx,e1,e2⟩=>by
  unfold iT;rcases b8.mp hx with e|hx
  ·subst e;simp only at e1 e2;subst e1 e2;simp only[beq_self_eq_true,if_true];exact Cy r _ ⟨_,IM⟩
  ·split
   ·exact AH r _ ⟨x,hx,e1,e2⟩
   ·exact AH r _ ⟨x,hx,e1,e2⟩
theorem CS{env:Env}:∀(names:List (Str×io)) (cs:List (Str×ah)),(∀x∈names,x.2=.free->∃c,env.cells.lookup x.1=aa c) -> (forIn (m:=Sem) names cs λx r=>match x with | (name,kind)=>if(kind == NameKind.free)=ai then do let c ←cellOf env name;pure (ForInStep.yield ((name,c)::r))else pure (ForInStep.yield r))=pure (iT env names cs)
 |[],cs,_=>rfl
 | (n,k)::r,cs,h=>by
  have hr:∀x∈r,x.2=.free->∃c,env.cells.lookup x.1=aa c:=λx hx=>h x (me _ hx);rw[List.forIn_cons];unfold iT;by_cases hk:(k == NameKind.free)=ai
  ·obtain⟨c,hc⟩:=h (n,k) (oy ..) (by simpa using hk);simp only[hk,if_true];have e:cellOf env n=pure c:=by unfold cellOf;rw[hc]
   rw[e];simp only[pure_bind];rw[CS r _ hr,hc];rfl
  ·simp only[hk,if_false,pure_bind];exact CS r _ hr
theorem VG{scope:d8}{env:Env}(h:∀x∈scope.names,x.2=.free->∃c,env.cells.lookup x.1=aa c):zY scope env=pure (iT env scope.names []):=by unfold zY;have q:=CS scope.names [] h;simp only[bind_pure_comp]at q ⊢;rw[q];rfl
theorem zu{n c:Nat}(h1:n+1<=c)(h2:c<n):False:=∅
theorem AT:∀(names:List (Str×io)) (n:Nat) (a b:List (Str×ah)),f6 n names (a++b)=f6 n names a++b
 |[],_,_,_=>rfl
 | (x,k)::r,n,a,b=>by
  unfold f6;split
  ·exact AT r (n+1) ((x,n)::a) b
  ·exact AT r n a b
theorem xP{y:Str}{c:ah}:∀(names:List (Str×io)) (n:Nat) (a:List (Str×ah)),(y,c)∈f6 n names a->(y,c)∈a\/(y,.cell)∈names
 |[],_,_,h=>.inl h
 | (x,k)::r,n,a,h=>by
  unfold f6 at h;split at h
  ·rename_i hk;rcases xP r _ _ h with z|z
   ·rcases b8.mp z with z|z
    ·cases z;have e:k=.cell:=by simpa using hk
     subst e;exact .inr (oy ..)
    ·exact .inl z
   ·exact .inr (me _ z)
  ·rcases xP r _ _ h with z|z
   ·exact .inl z
   ·exact .inr (me _ z)
theorem Dd{y:Str}:∀(names:List (Str×io)) (n:Nat) (a:List (Str×ah)),(∃c,a.lookup y=aa c)->∃c,(f6 n names a).lookup y=aa c
 |[],_,_,h=>h
 | (x,k)::r,n,a,h=>by
  unfold f6;split
  ·exact Dd r _ _ (HS h)
  ·exact Dd r _ _ h
theorem zK{y:Str}:∀(names:List (Str×io)) (n:Nat) (a:List (Str×ah)),(y,.cell)∈names->∃c,(f6 n names a).lookup y=aa c
 | (x,k)::r,n,a,h=>by
  unfold f6;rcases b8.mp h with e|h
  ·cases e;exact Dd r _ _ ⟨_,IM⟩
  ·split
   ·exact zK r _ _ h
   ·exact zK r _ _ h
def mP(X:Cx)(scope:d8)(C:ah):List (Str×ah):=f6 (C+1) scope.names (iT X.env scope.names [])
theorem Cm(X:Cx)(scope:d8)(C:ah):mP X scope C=f6 (C+1) scope.names []++iT X.env scope.names []:=AT scope.names (C+1) [] _
theorem QO{M:Model}{A:bd}{E:ak->aq->Prop}{s:aq}{scope:d8}{globals:ah}{cl:List (Str×ah)}{qual:Str}{env:Env}{Q:Env->aq->Prop}(hQ:Q (newEnv scope s.heap.objs.size globals (f6 (s.heap.objs.size+1) scope.names cl) qual ae .none (aa env) rJ) {s with heap:=pushCells (s.heap.push {cls:=.type "dict",data:=.dict #[]}) scope.names}):aA M A (newFunctionEnv scope globals cl [] qual ae .none (aa env)) Q E s:=by
 simp only[newFunctionEnv,Option.isSome_some,if_true];refine au (D4 ?_);refine au (wpAny_layCells _ (λname kind cells=>by cases hkc:kind == NameKind.cell <;> simp[hkc]) _ _ _ _ ?_);rw[show({s with heap:=s.heap.push {cls:=.type "dict",data:=.dict #[]}}:aq).heap.objs.size=s.heap.objs.size+1 from D5 ..];refine au ?_;rw[List.forIn_nil];exact aF (aF hQ)
theorem GF{s:aq}{names:List (Str×io)}{y:Str}{c:ah}(h:(y,c)∈f6 (s.heap.objs.size+1) names []):(pushCells (s.heap.push {cls:=.type "dict",data:=.dict #[]}) names).IsCell c ae/\s.heap.objs.size+1<=c/\∀z,(z,c)∈f6 (s.heap.objs.size+1) names []->y=z:=by have ok:=cellsFrom_ok names (s.heap.push {cls:=.type "dict",data:=.dict #[]}) (s.heap.objs.size+1) [] ⟨λ_ _ hm=>(nomatch hm),List.Pairwise.nil⟩ (by rw[D5];exact bn _);rw[D5]at ok;exact⟨(ok.empty y c h).1,(ok.empty y c h).2,λz hz=>name_of_addr ok.apart h hz⟩
def dP(X:Cx)(scope:d8)(N':List Str)(C:ah)(tM:aq)(uM:Hp)(ex:List ah)(pn:List (ah×Obj)):Cx where
 prog:=X.prog
 w:=X.w
 K:=X.K
 mg:=X.mg
 base:=X.base
 A:=X.A
 N:=N'
 tM:=tM
 uM:=uM
 env:=compEnvC scope (mP X scope C) C X.env
 outer:=X.stack
 stack:=X.stack
 ex:=ex
 fn:=λy=>scope.names.lookup y == aa .cell
 calm:=X.calm
 pn:=X.pn++pn
 xe:=λ_ _=>False
def j6(Y:St)(XM:List Nat):St:=XM.map λi=>(Y[i]?).join
structure lN(X:Cx)(scope:d8)(x:Str)(N':List Str)(XM:List Nat):Prop where
 kind:scope.kind=.function
 cells:∀y∈scope.names,y.2=.cell->scope.names.lookup y.1=aa .cell
 names:∀y∈scope.names,y.2=.local->scope.names.lookup y.1=aa .local
 loc:scope.names.lookup x=aa .local\/scope.names.lookup x=aa .cell
 free:∀y∈scope.names,y.2=.free->X.env.kindOf y.1=aa .cell\/X.env.kindOf y.1=aa .free
 nd:N'.Nodup
 hd:N'.head?=aa x
 len:N'.length=XM.length+1
 caps:∀i j y,N'[i+1]?=aa y->XM[i]?=aa j->X.N[j]?=aa y/\scope.names.lookup y=aa .free
theorem RI{names:List (Str×io)}{y:Str}{k:io}(h:names.lookup y=aa k):∃x∈names,x.1=y/\x.2=k:=⟨(y,k),mi h,rfl,rfl⟩
theorem BS{env:Env}{x:Str}:∀{names:List (Str×io)}{k:io}, (names.map λ(n,k)=>if(k == NameKind.free&&env.scope.kind == .function&&env.kindOf n == aa .cell)then(n,NameKind.cell)else(n,k)).lookup x=aa k -> ∃k',names.lookup x=aa k'/\(k=k'\/(k'=.free/\k=.cell))
 |[],_,h=>by simp at h
 | (n,k0)::r,k,h=>by
  change zZ x ((if(k0 == NameKind.free&&env.scope.kind == .function&&env.kindOf n == aa .cell)=ai then(n,NameKind.cell)else(n,k0))::_)=_ at h;rw[lq];by_cases hc:(k0 == NameKind.free&&env.scope.kind == .function&&env.kindOf n == aa .cell)=ai
  ·rw[if_pos hc,lq]at h;split at h
   ·rename_i hb;cases h;have:k0=.free:=by simp at hc;exact hc.1.1
    exact⟨k0,rfl,.inr ⟨this,rfl⟩⟩
   ·exact BS h
  ·rw[if_neg hc,lq]at h;split at h
   ·rename_i hb;cases h;exact⟨k0,rfl,.inl rfl⟩
   ·exact BS h
theorem Dg{env:Env}{x:Str}:∀{names:List (Str×io)},names.lookup x=aa .free -> let q:=(names.map λ(n,k)=>if(k == NameKind.free&&env.scope.kind == .function&&env.kindOf n == aa .cell)then(n,NameKind.cell)else(n,k)).lookup x
  q=aa .cell\/q=aa .free
 |[],h=>by simp at h
 | (n,k0)::r,h=>by
  show zZ x ((if(k0 == NameKind.free&&env.scope.kind == .function&&env.kindOf n == aa .cell)=ai then(n,NameKind.cell)else(n,k0))::_)=_\/zZ x ((if(k0 == NameKind.free&&env.scope.kind == .function&&env.kindOf n == aa .cell)=ai then(n,NameKind.cell)else(n,k0))::_)=_;rw[lq]at h;by_cases hc:(k0 == NameKind.free&&env.scope.kind == .function&&env.kindOf n == aa .cell)=ai
  ·rw[if_pos hc,lq];cases hb:x == n with
   |true=>exact .inl rfl
   |false=>rw[hb]at h;exact Dg h
  ·rw[if_neg hc,lq];cases hb:x == n with
   |true=>rw[hb]at h;cases h;exact .inr rfl
   |false=>rw[hb]at h;exact Dg h
theorem BV{env:Env}{x:Str}:∀{names:List (Str×io)},names.lookup x=aa .cell -> (names.map λ(n,k)=>if(k == NameKind.free&&env.scope.kind == .function&&env.kindOf n == aa .cell)then(n,NameKind.cell)else(n,k)).lookup x=aa .cell
 |[],h=>by simp at h
 | (n,k0)::r,h=>by
  show zZ x ((if(k0 == NameKind.free&&env.scope.kind == .function&&env.kindOf n == aa .cell)=ai then(n,NameKind.cell)else(n,k0))::_)=_;rw[lq]at h;by_cases hc:(k0 == NameKind.free&&env.scope.kind == .function&&env.kindOf n == aa .cell)=ai
  ·rw[if_pos hc,lq];cases hb:x == n with
   |true=>rfl
   |false=>rw[hb]at h;exact BV h
  ·rw[if_neg hc,lq];cases hb:x == n with
   |true=>rw[hb]at h;cases h;rfl
   |false=>rw[hb]at h;exact BV h
section
variable{X:Cx}{af:List (ah×Obj)}{Y:St}{H:Hp}{s:aq}{scope:d8}{x:Str}{N':List Str}{XM:List Nat}
theorem Inv.freeHas(I:Inv X af Y H s)(B:lN X scope x N' XM):∀y∈scope.names,y.2=.free->∃c,X.env.cells.lookup y.1=aa c:=λy hy e=>I.ok.has y.1 (B.free y hy e)
theorem Inv.clIn(I:Inv X af Y H s)(B:lN X scope x N' XM){y:Str}{c:ah}(h:(iT X.env scope.names []).lookup y=aa c):X.env.cells.lookup y=aa c:=by
 rcases Vj scope.names [] (I.freeHas B) h with q|q
 ·simp at q
 ·exact q
theorem Inv.cbIn(I:Inv X af Y H s)(B:lN X scope x N' XM){C:ah}{y:Str}{c:ah}(h:(mP X scope C).lookup y=aa c):((y,c)∈f6 (C+1) scope.names []/\scope.names.lookup y=aa .cell)\/((iT X.env scope.names []).lookup y=aa c/\X.env.cells.lookup y=aa c):=by
 rw[Cm,KF]at h;cases e:(f6 (C+1) scope.names []).lookup y with
 |none=>rw[e]at h;exact .inr ⟨h,I.clIn B h⟩
 |some c'=>
  rw[e]at h;cases h;have m:=mi e;rcases xP _ _ _ m with z|z
  ·cases z
  ·exact .inl ⟨m,B.cells _ z rfl⟩
theorem Inv.cbOld(I:Inv X af Y H s)(B:lN X scope x N' XM){C:ah}{y:Str}{c:ah}(h:(iT X.env scope.names []).lookup y=aa c)(hk:scope.names.lookup y=aa .free):(mP X scope C).lookup y=aa c:=by
 rw[Cm,KF];cases e:(f6 (C+1) scope.names []).lookup y with
 |none=>exact h
 |some c'=>
  rcases xP _ _ _ (mi e)with z|z
  ·cases z
  ·have:=B.cells _ z rfl;rw[hk]at this;cases this
theorem Inv.block{fp:List ah}{h₁:aI}{m:Str->Option ak}{t':Nat}(hh:h₁=pushCells (s.heap.push {cls:=.type "dict",data:=.dict #[]}) scope.names)(I:Inv X af Y H s)(B:lN X scope x N' XM)(wV:∀b∈fp,l9 X af H b)(hfo:∀b∈fp,∃o,s.heap.get? b=aa o)(mz:h₁.Ns s.heap.objs.size m)(old:∀b o,s.heap.get? b=aa o->h₁.get? b=aa o):Inv (dP X scope N' s.heap.objs.size s H fp af) [] (ae::j6 Y XM) H {s with heap:=h₁,toks:=t'}:=by
 have ltC:∀x c,X.env.cells.lookup x=aa c->c<s.heap.objs.size:=λx c e=>(I.cell x c e).elim λv q=>q.lt;have ncell:∀{y:Str}{c:ah},(y,c)∈f6 (s.heap.objs.size+1) scope.names []->h₁.IsCell c ae/\s.heap.objs.size+1<=c/\∀z,(z,c)∈f6 (s.heap.objs.size+1) scope.names []->y=z:=λh=>by rw[hh];exact GF h
 have lk:∀y k,(compEnvC scope (mP X scope s.heap.objs.size) s.heap.objs.size X.env).kindOf y=aa k->∃k',scope.names.lookup y=aa k'/\(k=k'\/(k'=.free/\k=.cell)):=λy k h=>BS h;have fhas:∀y,scope.names.lookup y=aa .free->∃c,(iT X.env scope.names []).lookup y=aa c:=λy h=>AH scope.names [] (RI h);have nfs:∀b∈fV X.stack,b≠s.heap.objs.size:=λb hb e=>by
  rcases b8.mp (I.stkSub b hb)with z|z
  ·exact absurd I.lt (by rw[←z,e];exact fu _)
  ·exact I.nofs (oH e.symm) z
 refine⟨⟨I.ok.mod,B.kind,I.ok.glob,I.ok.blt,bn _,λy z c h1 h2=>?_,λy hy=>?_,λy c h jX=>?_,I.ok.hd,I.ok.frames,.inl rfl,λb hb=>?_,λb o e=>I.bs b o e,dj I.ok.bsz I.sz,λb o e hb=>?_,λb hb hf=>?_,I.stack,(λb hb=>I.stkFree b hb),I.tab⟩,rfl,I.bare,Un.kept old,⟨m,mz,λi y v e1 e2 e3=>?_⟩,λy c h=>?_,I.hok.fresh (bn _),λy c h=>?_,λp hp=>?_,I.hok.kept old,?_⟩
 ·-- inj
  rcases I.cbIn B h1 with⟨a1,a2⟩|⟨a1,a2⟩ <;> rcases I.cbIn B h2 with⟨b1,b2⟩|⟨b1,b2⟩
  ·exact(ncell a1).2.2 z b1
  ·exact(zu (ncell a1).2.1 (ltC _ _ b2)).elim
  ·exact(zu (ncell b1).2.1 (ltC _ _ a2)).elim
  ·exact I.ok.inj y z c a2 b2
 ·-- has
  show ∃c,(mP X scope s.heap.objs.size).lookup y=aa c;have kK:scope.names.lookup y=aa .free->∃c,(mP X scope s.heap.objs.size).lookup y=aa c:=λq=>(fhas y q).imp λc hc=>I.cbOld B hc q;rcases hy with hy|hy
  ·obtain⟨k',q,z|⟨z,_⟩⟩:=lk y _ hy
   ·subst z;exact zK _ _ _ (mi q)
   ·subst z;exact kK q
  ·obtain⟨k',q,z|⟨_,z⟩⟩:=lk y _ hy
   ·subst z;exact kK q
   ·cases z
 ·-- cab
  have hk:scope.names.lookup y=aa .cell:=by simpa using(show(scope.names.lookup y == aa .cell)=ai from h)
  show s.heap.objs.size<=c;rcases I.cbIn B jX with⟨a1,a2⟩|⟨a1,a2⟩
  ·have:=(ncell a1).2.1;lia
  ·obtain⟨c',iN⟩:=zK (n:=s.heap.objs.size+1) (a:=[]) _ (mi hk);have e:(mP X scope s.heap.objs.size).lookup y=aa c':=by rw[Cm,KF,iN];rfl
   have e2:(mP X scope s.heap.objs.size).lookup y=aa c:=jX;rw[e]at e2;cases e2;have:=(ncell (mi iN)).2.1;lia
 ·-- exf
  obtain⟨f0,f1,f2,f3,f4,f5⟩:=wV b hb;obtain⟨o,ho⟩:=hfo b hb;refine⟨λe=>absurd (bD ho) (by rw[e];exact fu _),λy c h=>?_⟩;rcases I.cbIn B h with⟨a1,a2⟩|⟨a1,a2⟩
  ·rintro rfl;exact zu (ncell a1).2.1 (bD ho)
  ·exact f4 y c a2
 ·-- noex
  obtain⟨f0,f1,f2,f3,f4,f5⟩:=wV b hb;rcases f3 with z|z
  ·exact I.ok.noex b o e z
  ·exact absurd (fI (bD e) (dj I.ok.bsz z)) (fu _)
 ·-- exfs
  obtain⟨f0,f1,f2,f3,f4,f5⟩:=wV b hb;rcases b8.mp (I.stkSub b hf)with z|z
  ·exact f1 z
  ·exact f2 z
 ·-- loc
  cases i with
  |zero=>simp at e2
  |succ i=>
   have mB:(j6 Y XM)[i]?=aa (aa v):=by simpa using e2
   unfold j6 at mB;rw[jP]at mB;cases hj:XM[i]? with
   |none=>rw[hj]at mB;cases mB
   |some j=>
    rw[hj]at mB;have e4:(Y[j]?).join=aa v:=eV mB;have e5:Y[j]?=aa (aa v):=by
     cases hq:Y[j]? with
     |none=>rw[hq]at e4;cases e4
     |some o=>rw[hq]at e4;exact congrArg aa e4
    obtain⟨b1,b2⟩:=B.caps i j y e1 hj;obtain⟨mm,hn,hl⟩:=I.loc;have wF:=B.free _ (mi b2) rfl;have vis:fP X.env.scope y:=by
     rcases wF with z|z
     ·exact .inr (.inl z)
     ·exact .inr (.inr z)
    obtain⟨u,r,l⟩:=hl j y v b1 e5 vis;refine⟨u,r,.inr ⟨Dg b2,?_⟩⟩;rcases l with⟨l,_⟩|⟨_,c,hc,mw⟩
    ·rcases wF with z|z
     ·rw[l]at z;cases z
     ·rw[l]at z;cases z
    ·obtain⟨c',iN⟩:=fhas y b2;have e6:=I.clIn B iN;rw[hc]at e6;cases e6;obtain⟨oo,ho,hd⟩:=mw;exact⟨c,I.cbOld B iN b2,oo,old c oo ho,hd⟩
 ·rcases I.cbIn B h with⟨a1,a2⟩|⟨a1,a2⟩
  ·exact⟨ae,(ncell a1).1⟩
  ·obtain⟨v,oo,ho,hd⟩:=I.cell y c a2;exact⟨v,oo,old c oo ho,hd⟩
 ·rcases I.cbIn B h with⟨a1,a2⟩|⟨a1,a2⟩
  ·exact I.hok.fresh (dj (z0 _) (ncell a1).2.1)
  ·exact I.freeC y c a2
 ·have iO:p∈X.pn++af:=by simpa[dP]using hp
  obtain⟨e,n,ne,nf,d⟩:=I.pin p iO;refine⟨old _ _ e,n,cX (bD e),λhf=>?_,d⟩;rcases b8.mp (I.stkSub p.1 hf)with z|z
  ·exact ne z
  ·exact nf z
 ·show(ae::j6 Y XM).length=N'.length;rw[B.len];simp[j6]
end
def vC(X:Cx)(XF:List aE)(t:TT):Prop :=
 ∀(af:List (ah×Obj)) (s:aq) (Y:St) (H:Hp) (Q:Bool->Hp->Prop),Inv X af Y H s->t Y H Q ->
  aA (aB X.prog X.w) X.A (forIn XF ai λc r=>if r=ai then do let ok ←oz c X.env (bf c X.env);pure (ForInStep.yield ok)else pure (ForInStep.yield r)) (TP X af Y Q) X.xe s
theorem OJ{P:aZ}{w:aT}{A:bd}{R:Result->aq->Prop}{s:aq}{XH tg X5:aE}{XF:List aE}{scope:d8}{pos:Pos}{it aK:ak}{env:Env}(J:Nat->aq->Prop)(turn:∀k s1,J k s1->aA (aB P w) A (pyNext it) (λr s2=>match r with
   |none=>R (.ok .next) s2
   |some v=>aA (aB P w) A (DH tg it v) (λ_ s3=>aA (aB P w) A (assign tg env v) (λ_ s4=>aA (aB P w) A (forIn XF ai λc r=>if r=ai then do let ok ←oz c env (bf c env);pure (ForInStep.yield ok)else pure (ForInStep.yield r)) (λb s5=>if b=ai then aA (aB P w) A (bf XH env) (λy s6=>aA (aB P w) A (call (.builtin "list.append") [aK,y]) (λ_ s7=>∃j,j<k/\J j s7) (λ_ _=>False) s6) (λ_ _=>False) s5 else ∃j,j<k/\J j s5) (λ_ _=>False) s4) (λ_ _=>False) s3) (λ_ _=>False) s2) (λ_ _=>False) s1) (k:Nat) (h:J k s) :
  nz (aB P w) A (.compLoop (.ListComp XH [⟨tg,X5,XF,0⟩] scope pos) 0 it aK env) R s:=by
 refine codeAny_loop rfl J (λj s1 hJ=>?_) k h;show aA _ A (Sem.onRaise (compTurn (.ListComp XH [⟨tg,X5,XF,0⟩] scope pos) 0 it aK env) (λx=>do noteFrame x env;theTreesLotGoes x)) _ _ s1;refine wpAny_noted ?_;rw[compTurn_list];have no:∀(E':ak->aq->Prop) (a:ak) (b:aq),False->E' a b:=λ_ _ _ f=>f.elim;refine au (wpAny_standAt (au (dr (turn j s1 hJ) (λr s2 h2=>?_) (no _))));cases r with
 |none=>exact aF h2
 |some v=>
  refine au (dr h2 (λ_ s3 h3=>au (dr h3 (λ_ s4 h4=>au (dr h4 (λb s5 h5=>?_) (no _))) (no _))) (no _));cases b with
  |true=>exact au (au (dr h5 (λy s6 h6=>au (dr h6 (λ_ s7 h7=>aF (aF ⟨rfl,h7⟩)) (no _))) (no _)))
  |false=>exact aF ⟨rfl,h5⟩
def N8:TT:=λ_ H Q=>Q ai H
theorem Pt{X:Cx}:vC X [] N8:=λ_ _ _ H _ I h=>wpAny_tests_nil ⟨H,I,h⟩
theorem Wx{X:Cx}{c:aE}{t:TT}(h:PT X c t):vC X [c] t:=λaf s Y H Q I hw=>wpAny_tests_one (h af s Y H Q I hw)
def zD(wi:TI)(ts:TT)(te:TE)(XM:List Nat):TE:=λY H Q=>wi Y H λJ H1=>∀l,H1 l=ae->∃W:Nat->Nat->List V->Hp->Prop,(∃m,W 0 m [] (upd H1 l (.lst [])))/\∀i m ys H,W i m ys H ->
 (J.stop i H/\Q (.ref l) H)\/(J.go i H/\∀v H',J.yld i H v H'->ts (aa v::j6 Y XM) H' λb H2=>if b=ai then te (aa v::j6 Y XM) H2 λy H3=>H3 l=aa (.lst ys)/\ys.length<bw/\∃m',m'<m/\W (i+1) m' (ys++[y]) (upd H3 l (.lst (ys++[y]))) else ∃m',m'<m/\W (i+1) m' ys H2)
section
variable{X:Cx}{af:List (ah×Obj)}{Y:St}{H:Hp}{s:aq}{scope:d8}{x:Str}{N':List Str}{XM:List Nat}
theorem Inv.unblock{fp:List ah}{H':Hp}{Y':St}{s':aq}{iz:aI}(I:Inv X af Y H s)(wV:∀b∈fp,l9 X af H b)(I':Inv (dP X scope N' s.heap.objs.size s H fp af) [] Y' H' s') (sb:jq s.heap.objs.size s'.heap iz):Inv X af Y H' {s' with heap:=iz}:=by
 have k:∀b o,b≠s.heap.objs.size->s'.heap.get? b=aa o->iz.get? b=aa o:=λb o hb e=>(sb.2 b hb).trans e;have nC:∀b o,s.heap.get? b=aa o->b≠s.heap.objs.size:=λb o e=>cX (bD e);have un:Un (fV X.stack) fp H H' s.heap iz:=by
  refine⟨λb o e n hb hx=>k b o (nC b o e) (I'.base.keep b o e n hb hx),λb o e n hb hx=>?_,λb o e n hx=>I'.base.free b o e n hx,λb o e hx=>?_,I'.base.tups,I'.base.frzs,I'.base.tbls⟩
  ·obtain⟨sl,q⟩:=I'.base.slot b o e n hb hx;exact⟨sl,k b _ (nC b o e) q⟩
  ·obtain⟨o',q⟩:=I'.base.there b o e hx;exact⟨o',k b o' (nC b o e) q⟩
 have hok:dO X.prog X.w H' iz:=λb u e=>by
  have hCn:H' s.heap.objs.size=ae:=I'.free;refine(I'.hok b u e).stay (λc v hc q=>k c v ?_ q) (λ_ q=>q) λ_ _ q=>q;rintro rfl;rcases hc with z|z
  ·rw[←z,hCn]at e;cases e
  ·rw[hCn]at z;cases z
 refine I.call' (s':={s' with heap:=iz}) (ch:=fp) I'.os un hok I'.bare λb hb=>?_;obtain⟨f0,f1,f2,f3,f4,f5⟩:=wV b hb;exact⟨f3,f1,f4,f5⟩
theorem Jd{XH X5:aE}{px pos XG:Pos}{XF:List aE}{wi:TI}{ts:TT}{te:TE}{use:Option (ak->Sem Unit)}{Q:ak->aq->Prop}{Qp:VK}(B:lN X scope x N' XM)(hc:X.calm=ai)(hi:PI X (.Name x px) X5 wi)(ht:∀C tM uM ex pn,vC (dP X scope N' C tM uM ex pn) XF ts) (he:∀C tM uM ex pn,PE (dP X scope N' C tM uM ex pn) XH te) (hs:∀x,tW X5 X.env x=pure x) (I:Inv X af Y H s) (h:zD wi ts te XM Y H Qp)(fin:∀{s3 s6:aq}{H3 H5:Hp}{fp Y5 a f},Inv X af Y H3 s3->(∀b∈fp,l9 X af H3 b)->Inv (dP X scope N' s3.heap.objs.size s3 H3 fp af) [] Y5 H5 s6->Qp (.ref a) H5->compPost (aB X.prog X.w) X.A X.xe use Q (.ref a) s3.heap.objs.size (.ok f) s6):aA (aB X.prog X.w) X.A (comprehension (.ListComp XH [⟨.Name x px,X5,XF,0⟩] scope pos) scope X.env XG (newList []) am (bf X5 X.env) use) Q X.xe s:=by
 refine wpAny_comprehension_free (use:=use) rfl hs (VG (I.freeHas B)) B.kind B.names (a_ (hi af s Y H _ I h) λv s1 h1=>a_ h1 λitv s2 h2=>?_);obtain⟨it,fp,tn,J,H2,e,I2,T,bi,f2,h2⟩:=h2;subst e;refine oE ?_;have I3:Inv X af Y (upd H2 s2.heap.objs.size (.lst [])) {s2 with heap:=s2.heap.push {cls:=.type "list",data:=.seq ([]:List ak).toArray},toks:=s2.toks}:=I2.lnew (its:=[]) (t':=s2.toks) .nil (nB _);obtain⟨W,⟨m0,w0⟩,turn⟩:=h2 s2.heap.objs.size I2.fresh;generalize qy:({s2 with heap:=s2.heap.push {cls:=.type "list",data:=.seq ([]:List ak).toArray},toks:=s2.toks}:aq)=s3 at I3;have hs3':({s2 with heap:=s2.heap.push {cls:=.type "list",data:=.seq ([]:List ak).toArray}}:aq)=s3:=qy;generalize hH3:upd H2 s2.heap.objs.size (.lst [])=H3 at I3 w0;have nl:∀b∈fp,b≠s2.heap.objs.size:=λb hb e=>by obtain⟨o,ho,_⟩:=T.obj _ _ bi b hb;exact absurd (bD ho) (by rw[e];exact fu _)
 have k3:∀b o,s2.heap.get? b=aa o->s3.heap.get? b=aa o:=λb o e=>by rw[←qy];exact bH _ e
 have f3:∀b∈fp,l9 X af H3 b:=λb hb=>⟨by rw[←hH3,cp (nl b hb)];exact(f2 b hb).1,(f2 b hb).2⟩
 have bP:tn 0 s3.heap:=T.keep _ _ _ bi λb _ o e=>k3 b o e;have fo3:∀b∈fp,∃o,s3.heap.get? b=aa o:=λb hb=>(T.obj _ _ bP b hb).imp λo q=>q.1;refine QO ?_;generalize hh:pushCells (s3.heap.push {cls:=.type "dict",data:=.dict #[]}) scope.names=h₁;have old:∀b o,s3.heap.get? b=aa o->h₁.get? b=aa o:=λb o e=>hh ▸ pushCells_keeps _ _ b o (bH _ e);have mz:h₁.Ns s3.heap.objs.size (λ_=>ae):=hh ▸ (Heap.Ns.new s3.heap (.type "dict")).keeps (pushCells_keeps _ _);have I4:=Inv.block (t':=s3.toks) hh.symm I3 B f3 fo3 mz old;have cm:tn 0 h₁:=T.keep _ _ _ bP λb _ o e=>old b o e;have statB:∀{H':Hp},(∀b∈fp,H' b=ae)->∀b∈fp,l9 (dP X scope N' s3.heap.objs.size s3 H3 fp af) [] H' b:=λhn b hb=>by
  obtain⟨f0,f1,f2',f3',f4,f5⟩:=f3 b hb;refine⟨hn b hb,λe=>?_,λhf=>?_,.inl hb,λy c h=>?_,λp hp=>f5 p (by simpa[dP]using hp)⟩
  ·obtain⟨o,ho⟩:=fo3 b hb;exact absurd (bD ho) (by rw[show b=s3.heap.objs.size from e];exact fu _)
  ·rcases b8.mp (I3.stkSub b hf)with z|z
   ·exact f1 z
   ·exact f2' z
  ·rcases I3.cbIn B h with⟨a1,a2⟩|⟨a1,a2⟩
   ·rintro rfl;obtain⟨o,ho⟩:=fo3 _ hb;exact zu (GF a1).2.1 (bD ho)
   ·exact f4 y c a2
 have WZ:Loc (dP X scope N' s3.heap.objs.size s3 H3 fp af).env.scope x:=B.loc.elim (λh=>.inl (lookup_relabel_local h)) (λh=>.inr (BV h));have hfnx:(dP X scope N' s3.heap.objs.size s3 H3 fp af).fn x=ai\/(dP X scope N' s3.heap.objs.size s3 H3 fp af).env.scope.names.lookup x=aa .local:=B.loc.elim (λh=>.inr (lookup_relabel_local h)) (λh=>.inl (by show(scope.names.lookup x == aa .cell)=ai;rw[h];rfl));have hN0:(dP X scope N' s3.heap.objs.size s3 H3 fp af).N[0]?=aa x:=by show N'[0]?=aa x;rw[←List.head?_eq_getElem?];exact B.hd
 have loop:nz (aB X.prog X.w) X.A (.compLoop (.ListComp XH [⟨.Name x px,X5,XF,0⟩] scope pos) 0 (.ref it) (.ref s2.heap.objs.size) (compEnvC scope (mP X scope s3.heap.objs.size) s3.heap.objs.size X.env))
   (compPost (aB X.prog X.w) X.A X.xe use Q (.ref s2.heap.objs.size) s3.heap.objs.size) {s3 with heap:=h₁,toks:=s3.toks}:=by
  refine OJ (λn s'=>∃i ys Y' H',(∃v0,Y'=v0::j6 Y XM)/\Inv (dP X scope N' s3.heap.objs.size s3 H3 fp af) [] Y' H' s'/\tn i s'.heap/\(∀b∈fp,H' b=ae)/\W i n ys H') ?_ m0
   ⟨0,[],_,H3,⟨ae,rfl⟩,I4,cm,λb hb=>(f3 b hb).1,w0⟩
  rintro n s5 ⟨i,ys,Y5,H5,⟨v0,rfl⟩,I5,cG,fr5,w5⟩;rcases turn i n ys H5 w5 with⟨stop,q⟩|⟨go,step⟩
  ·refine dr (T.done (dP X scope N' s3.heap.objs.size s3 H3 fp af) rfl rfl rfl hc i [] s5 _ H5 (λ_ _=>False) I5 (statB fr5) cG stop) (λr s6 ⟨hr,I6⟩=>?_) (λ_ _ f=>f.elim);subst hr;exact fin I3 f3 I6 q
  ·refine dr (T.item (dP X scope N' s3.heap.objs.size s3 H3 fp af) rfl rfl rfl hc i [] s5 _ H5 (λ_ _=>False) I5 (statB fr5) cG go) (λr s6 ⟨u,hr,h6⟩=>?_) (λ_ _ f=>f.elim);subst hr;refine dr h6 (λ_ s7 ⟨v,H7,I7,r7,y7,st7,fr7⟩=>?_) (λ_ _ f=>f.elim);have I7':=I7.pinned (statB fr7) (T.obj _ _ st7);have back:∀{Y8:St}{H8:Hp}{s8:aq},Inv (dP X scope N' s3.heap.objs.size s3 H3 fp af) ([]++vM fp s7.heap) Y8 H8 s8->tn (i+1) s8.heap/\(∀b∈fp,H8 b=ae):=λ{Y8 H8 s8} I8=>⟨T.keep _ _ _ st7 λb hb o e=>(I8.pin (b,o) (ny _ (ny _ (y9 hb e)))).1,λb hb=>by obtain⟨o,e,d⟩:=T.obj _ _ st7 b hb;exact(I8.pin (b,o) (ny _ (ny _ (y9 hb e)))).2.1⟩
   refine Ko (vE (v:=v) I7' B.nd hN0 WZ r7 (λs8 I8=>?_) hfnx);refine a_ (ht _ _ _ _ _ _ s8 _ H7 _ I8 (step v H7 y7)) λb s9 ⟨H9,I9,q9⟩=>?_;cases b with
   |false=>
    obtain⟨m',hm,w9⟩:=(show ∃m',m'<n/\W (i+1) m' ys H9 from q9)
    exact⟨m',hm,i+1,ys,_,H9,⟨aa v,rfl⟩,I9.unpinned,(back I9).1,(back I9).2,w9⟩
   |true=>refine a_ (he _ _ _ _ _ _ s9 _ H9 _ I9 q9) λu10 s10 ⟨y,H10,I10,r10,hl10,hz10,m',hm,w10⟩=>?_;refine a_ (HV _ s10 _ H10 (.ref s2.heap.objs.size) [y] _ [u10] (λz H11=>H11=upd H10 s2.heap.objs.size (.lst (ys++[y]))) I10 rfl (.cons r10 .nil) ⟨_,ys,y,rfl,rfl,hl10,hz10,rfl⟩) λ_ s11 ⟨_,H11,I11,_,e11⟩=>?_;subst e11;exact⟨m',hm,i+1,ys++[y],_,_,⟨aa v,rfl⟩,I11.unpinned,(back I11).1,(back I11).2,w10⟩
 exact codeAny_compStart_list loop (T.self _ 0 _ _ _ cm loop)
theorem Qq{XH X5:aE}{px pos:Pos}{XF:List aE}{wi:TI}{ts:TT}{te:TE}(B:lN X scope x N' XM)(hc:X.calm=ai)(hi:PI X (.Name x px) X5 wi)(ht:∀C tM uM ex pn,vC (dP X scope N' C tM uM ex pn) XF ts) (he:∀C tM uM ex pn,PE (dP X scope N' C tM uM ex pn) XH te) (hs:∀x,tW X5 X.env x=pure x:=by intro _;rfl):PE X (.ListComp XH [⟨.Name x px,X5,XF,0⟩] scope pos) (zD wi ts te XM):=by intro af s Y H Q I h;rw[eval_ListComp];exact Jd (use:=ae) B hc hi ht he hs I h λI3 f3 I6 q=>by obtain⟨mm,hn6,_⟩:=I6.loc;exact⟨mm,hn6,λiz sb=>⟨.ref _,_,I3.unblock f3 I6 sb,rfl,q⟩⟩
end
def Walk(J:It)(xs:List V)(R:Hp->Prop):Prop :=
 ∀H,R H->∀i,(∀x,xs[i]?=aa x->J.go i H/\∀y H',J.yld i H y H'->H'=H/\y=x)/\(i=xs.length->J.stop i H)
theorem Rq{K:aC}{a:ah}{xs:List V}:Walk (Bd K a) xs (λH=>cC K H a xs):=λH h i=>⟨λx hx=>⟨⟨xs,x,h,hx⟩,λy H' z=>⟨z.1,by have:=z.2 xs h;rw[hx]at this;exact(eV this).symm⟩⟩,λhi=>⟨xs,h,oH hi.symm⟩⟩
theorem Mr{K:aC}{a:ah}{xs:List V}:Walk (CB K a) xs (λH=>d7 K H a xs):=λH h i=>⟨λx hx=>⟨⟨xs,x,h,hx⟩,λy H' z=>⟨z.1,by have:=z.2 xs h;rw[hx]at this;exact(eV this).symm⟩⟩,λhi=>⟨xs,h,oH hi.symm⟩⟩
def sV(lo:Int)(n:Nat):List V:=(bF n).map λi=>V.int (lo+(i:Nat))
theorem yb(lo:Int)(n:Nat):(sV lo n).length=n:=by simp[sV]
theorem G6{lo:Int}{n:Nat}:Walk (vo lo n) (sV lo n) (λ_=>True):=λH _ i=>by
 refine⟨λx hx=>?_,λhi=>by rw[yb]at hi;exact oH hi.symm⟩;have bI:i<n:=by have:=(d9.mp hx).1;rw[yb]at this;exact this
 refine⟨bI,λy H' z=>⟨z.1,?_⟩⟩;unfold sV at hx;rw[jP,D6 bI]at hx;have wW:V.int (lo+(i:Nat))=x:=eV hx;rw[z.2,←wW]
def sg(c:Nat):V:=.str ⟨#[c]⟩
def vV(z:Str):It:=⟨λi _=>i<z.cps.size,λi H x H'=>H'=H/\∃c,z.cps[i]?=aa c/\x=sg c,λi _=>i=z.cps.size⟩
theorem So{z:Str}:Walk (vV z) (z.cps.toList.map sg) (λ_=>True):=λH _ i=>by
 refine⟨λx hx=>?_,λhi=>by show i=z.cps.size;simpa using hi⟩;rw[jP]at hx;cases e:z.cps.toList[i]? with
 |none=>rw[e]at hx;cases hx
 |some c=>
  rw[e]at hx;have bI:i<z.cps.size:=by have:=(d9.mp e).1;simpa using this
  refine⟨bI,λy H' w=>⟨w.1,?_⟩⟩;obtain⟨c',e',rfl⟩:=w.2;have:z.cps[i]?=aa c:=by simpa using e
  rw[this]at e';cases e';exact(eV hx)
section
variable{X:Cx}{tg:aE}
theorem Ui{P:aZ}{w:aT}{K:aC}{z:Str}{it:ah}{St':Nat->aI->Prop} (uu:∀i h,St' i h->∃o n vs,h.get? it=aa o/\o.cls=.type n/\o.data=.fields vs /\ ["enumerate","zip","dict_itemiterator","dict_reverseitemiterator","odict_iterator","itertools.zip_longest","itertools.pairwise"].contains n=am)(W0:∀(A:bd) (i:Nat) (s:aq) (Q:ak->aq->Prop) (E:ak->aq->Prop),St' i s.heap->Q (.ref it) s->aA (aB P w) A (p7 (.ref it)) Q E s)(hW:∀A:bd,A.handled=ae->Walks P w A it [it] [it] z.cps.size (SignAt z) St'):u8 P w K tg (vV z) [it] it St' where
 mem:=by simp
 obj:=λi h st b hb=>by
  have e:b=it:=by simpa using hb
  subst e;obtain⟨o,n,vs,h1,_,h3,_⟩:=uu i h st;exact⟨o,h1,λv q=>by rw[h3]at q;cases q⟩
 keep:=λi h h' st k=>by exact(hW ({}:bd) rfl).frame i h h' st k
 item:=by intro X hP hw hK hc i af s Y H E I hf st hg;subst hP hw hK;obtain⟨f0,f1,f2,f3,f4,f5⟩:=hf it (by simp);refine(hW X.A (I.ok.hd hc)).item i s _ _ hg st λv h' tk hv aG k=>?_;have I1:Inv X af Y H {s with heap:=h',toks:=tk}:=I.turned (t':=tk) (λb o hb e=>k b o (by simpa using hb) e) f0 f1 f3 f4 f5;obtain⟨o,n,vs,h1,h2,h3,h4⟩:=uu _ _ aG;obtain⟨c,u,e1,rfl⟩:=hv;exact⟨_,rfl,xI (s:={s with heap:=h',toks:=tk}) h1 h2 h3 h4 ⟨sg c,H,I1,⟨u,rfl⟩,⟨rfl,c,e1,rfl⟩,aG,λb hb=>(hf b hb).1⟩⟩
 done:=by intro X hP hw hK hc i af s Y H E I hf st hg;subst hP hw hK;obtain⟨f0,f1,f2,f3,f4,f5⟩:=hf it (by simp);have mC:i=z.cps.size:=hg;subst mC;exact(hW X.A (I.ok.hd hc)).done s _ _ st λh' tk k=>⟨rfl,I.turned (t':=tk) (λb o hb e=>k b o (by simpa using hb) e) f0 f1 f3 f4 f5⟩
 self:=W0
theorem Tg{J:It}{xs:List V}{R:Hp->Prop}{g:TG}{tb:TS}{D:lT}{Y:St}{H:Hp}(hJ:Walk J xs R)(Pv:Nat->St->Hp->Prop)(h0:Pv 0 Y H)(hl:∀i Y H,i<=xs.length->Pv i Y H->R H)(hs:∀i x Y H,xs[i]?=aa x->Pv i Y H->g x Y H λlE H2=>tb {D with nx:=Pv (i+1),ct:=Pv (i+1),bk:=D.nx} lE H2) (hd:∀Y H,Pv xs.length Y H->D.nx Y H):∃W:Nat->Nat->St->Hp->Prop,(∃m,W 0 m Y H)/\∀i m Y H,W i m Y H -> (J.stop i H/\D.nx Y H)\/(J.go i H/\∃N:St->Hp->Prop,(∀Y' H',N Y' H'->∃m',m'<m/\W (i+1) m' Y' H')/\∀x H',J.yld i H x H'->g x Y H' λlE H2=>tb {D with nx:=N,ct:=N,bk:=D.nx} lE H2):=by
 refine⟨λi m Y H=>m=xs.length-i/\i<=xs.length/\Pv i Y H,⟨xs.length,by simp,nB _,h0⟩,?_⟩;rintro i m Y H ⟨rfl,hi,p⟩;have q:=hJ H (hl i Y H hi p) i;by_cases bI:i<xs.length
 ·have hx:xs[i]?=aa xs[i]:=by simp[bI]
  obtain⟨go,yl⟩:=q.1 xs[i] hx;refine .inr ⟨go,Pv (i+1),λY' H' p'=>⟨xs.length-(i+1),∅,rfl,bI,p'⟩,λx H' y=>?_⟩;obtain⟨rfl,rfl⟩:=yl x H' y;exact hs i _ Y _ hx p
 ·have e:i=xs.length:=∅
  subst e;exact .inl ⟨q.2 rfl,hd Y H p⟩
theorem VZ{α:Type}(l:List α)(f:α->Bool)(d:Nat->Bool)(hd:∀i x,l[i]?=aa x->d i=f x):(bF l.length).all d=l.all f:=by
 induction l generalizing d with
 |nil=>rfl
 |cons x r ih=>rw[fi,rR,tZ,D7,tZ,hd 0 x rfl];congr 1;exact ih _ λi y h=>hd (i+1) y (by simpa using h)
theorem J_{bs:List Bool}{us:List ak}(r:bX (bs.map V.bl) us){i:Nat}{v:ak}(h:us.toArray[i]?=aa v):v=.bool (bs.getD i am):=by
 have hl:=r.length;rw[dw]at hl;have hi:i<us.length:=by have:=(qf.mp h).1;simpa using this
 have e:(bs.map V.bl)[i]?=aa (.bl (bs.getD i am)):=by rw[jP,f9 ∅];simp[z5,f9 (show i<bs.length by lia)]
 obtain⟨u,e1,e2⟩:=r.get e;have:us[i]?=aa v:=by simpa using h
 rw[this]at e1;cases e1;exact e2
theorem uH{A:bd}(h:A.handled=ae):A.in1.handled=ae:=h
theorem Jv(hc:X.calm=ai):fD X (.builtin "all") (λxs H Q=>∃(p:ah) (bs:List Bool),xs=[.ref p]/\cC X.K H p (bs.map V.bl)/\Q (.bl (bs.all id)) H):=by
 intro af s Y H xs us Q I r h;obtain⟨p,bs,rfl,hq,q⟩:=h;obtain⟨u,rfl,ru⟩:=vals1 r;cases ru;obtain⟨its,rv,pl,hz⟩:=I.list hq;have hl:=rv.length;rw[dw]at hl;refine call_all_walk (z6 pl.isList ?_);have cQ:p≠s.heap.objs.size:=by obtain⟨o,ho,_⟩:=pl.isList;exact cX (bD ho)
 refine⟨s.heap.objs.size,_,_,_,_,_,λi=>bs.getD i am,rfl,Walks.list (uH (I.ok.hd hc)) s.heap.objs.size p cQ its.toArray,⟨⟨_,df _ rfl,rfl,rfl⟩,?_⟩,λi v s' Q' E' hv hQ=>?_,λh' tk k=>?_⟩
 ·obtain⟨o,ho,hc,hd⟩:=pl.isList;exact⟨o,bH _ ho,hc,hd⟩
 ·rw[J_ rv hv];exact oA hQ
 ·have e:(bF its.toArray.size).all (λi=>bs.getD i am)=bs.all id:=by
   rw[cU,←hl];exact VZ bs id _ λi x hx=>by simp[z5,hx]
  rw[e];have I1:Inv X af Y H {s with heap:=s.heap.push {cls:=.type "list_iterator",data:=.fields #[.ref p,.int 0 0]},toks:=s.toks}:=I.kept (t':=s.toks) λb o e=>bH _ e;exact⟨.bl _,H,Inv.turned (t':=tk) I1 (it:=s.heap.objs.size) (λb o hb e=>k b o (by simpa using hb) e) I.fresh (mf I.lt) (.inr I.sz) (λx c e z=>by obtain⟨v,qq⟩:=I.cell x c e;exact absurd qq.lt (by rw[z];exact fu _)) (λpp hp z=>absurd (bD (I.pin pp hp).1) (by rw[z];exact fu _)),rfl,q⟩
end
section
variable{X:Cx}
def mS(z:Str)(lo hi:Option Int):Str:=⟨((z.cps.toList.drop (HT.sIx z.length 0 lo)).take (HT.sIx z.length z.length hi-HT.sIx z.length 0 lo)).toArray⟩
theorem Td(a b:Nat):sliceRange (a:Int) (b:Int) 1=(bF (b-a)).map λk=>a+k:=by
 unfold sliceRange;have e:(if(1:Int) > 0 then(if(a:Int)<(b:Int)then((b:Int)-a+1-1) / 1 else 0)else(if(a:Int) > b then((a:Int)-b-1-1) / (-1)else 0)).toNat=b-a:=by
  rw[if_pos (by decide)];split
  ·rw[Int.ediv_one];lia
  ·have:b-a=0:=∅
   rw[this];rfl
 show(bF (if(1:Int) > 0 then(if(a:Int)<(b:Int)then((b:Int)-a+1-1) / 1 else 0)else(if(a:Int) > b then((a:Int)-b-1-1) / (-1)else 0)).toNat).map _=_;rw[e];refine iK λk _=>?_;lia
theorem Np(lo hi:Option Int)(n:Nat):KG lo hi 1 n=(bF (HT.sIx n n hi-HT.sIx n 0 lo)).map λk=>HT.sIx n 0 lo+k:=by
 rw[←Td];have p:(1:Int) > 0:=by decide
 cases lo <;> cases hi <;> (unfold KG HT.sIx;simp only[p,if_true];congr 1 <;> (try split) <;> lia)
theorem GJ{α:Type}(l:List α)(a k:Nat):((bF k).map λj=>a+j).filterMap (λi=>l[i]?)=(l.drop a).take k:=by
 induction k with
 |zero=>simp
 |succ k ih=>
  rw[t9,qg,List.filterMap_append,ih,List.take_succ];congr 1;simp[ma];cases l[a+k]? <;> rfl
theorem OW(z:Str)(t:Tok)(l u:Option (Int×Tok)):∃m,sliceMade z t l u ae=m/\(m=.val (.str z t)/\mS z (l.map (·.1)) (u.map (·.1))=z\/m=.str (mS z (l.map (·.1)) (u.map (·.1)))):=by
 refine⟨_,rfl,?_⟩;unfold sliceMade slicePicked;have e:=Np (l.map (·.1)) (u.map (·.1)) z.length;simp only[D8,KA];rw[e];have pk:=GJ z.cps.toList (HT.sIx z.length 0 (l.map (·.1))) (HT.sIx z.length z.length (u.map (·.1))-HT.sIx z.length 0 (l.map (·.1)));have pk':(((bF (HT.sIx z.length z.length (u.map (·.1))-HT.sIx z.length 0 (l.map (·.1)))).map λk=>HT.sIx z.length 0 (l.map (·.1))+k).filterMap (z.cps[·]?)).toArray=(mS z (l.map (·.1)) (u.map (·.1))).cps:=by unfold mS;rw[←pk];simp
 split
 ·rename_i h;left;refine⟨rfl,?_⟩;simp only[beq_self_eq_true,D9,dw,List.length_range,beq_iff_eq]at h;have h0:HT.sIx z.length z.length (u.map (·.1))<=z.length:=HT.sIx_le _ _ (bn _) _;have hl:z.cps.toList.length=z.length:=by simp[wg]
  have h1:HT.sIx z.length 0 (l.map (·.1))=0\/z.length=0:=∅
  unfold mS;rw[h];rcases h1 with h1|h1
  ·rw[h1,z7,mn ∅]
  ·have:z.cps.toList=[]:=wo ∅;rw[this];cases z;rename_i c;simp at this;subst this;simp
 ·right;rw[show(⟨(((bF (HT.sIx z.length z.length (u.map (·.1))-HT.sIx z.length 0 (l.map (·.1)))).map λk=>HT.sIx z.length 0 (l.map (·.1))+k).filterMap (z.cps[·]?)).toArray⟩:Str)=mS z (l.map (·.1)) (u.map (·.1))from by rw[pk']]
def HH:V->Option Int->Option Int->Hp->VK->Prop:=λx lo hi H Q=>∃z,x=.str z/\z.length<=bw/\Q (.str (mS z lo hi)) H
theorem Vv(z:Str)(lo hi:Option Int):(mS z lo hi).length<=z.length:=by unfold mS wg;simp;lia
theorem part_of{v:ak}{o:Option Int}(p:oD v o):∃q:Option (Int×Tok),v=z8 q/\q.map (·.1)=o:=by
 cases p with
 |none=>exact⟨ae,rfl,rfl⟩
 |int i t=>exact⟨aa (i,t),rfl,rfl⟩
theorem W9:nX X HH:=by
 intro af s Y H x v vl vu lo hi sl Q I rx hs pl pu h;obtain⟨z,rfl,hz,q⟩:=h;obtain⟨t,rfl⟩:=rx;obtain⟨l,rfl,rfl⟩:=part_of pl;obtain⟨u,rfl,rfl⟩:=part_of pu;refine⟨"str",_,F.slot_str_getitem.lookup,wj s z t,?_⟩;obtain⟨m,em,hm⟩:=OW z t l u;refine getItem_meets (wj s z t) (by decide) WP F.entry_str_getitem (F.args_str_getitem_2 _ _) (meets_str_getitem_slice z t sl l u ae (by decide)) ⟨hs,?_⟩;rw[em];rcases hm with⟨rfl,e⟩|rfl
 ·exact⟨.str z,H,I,⟨t,rfl⟩,by rw[e]at q;exact q⟩
 ·exact⟨dj (Vv z _ _) hz,⟨.str _,H,I.tok _,⟨_,rfl⟩,q⟩⟩
def jc(K:aC)(H:Hp)(d:Nat)(x y:V)(k:Bool):Prop :=
 ∀(X:Cx),X.K=K->∀(af:List (ah×Obj)) (Y:St) (s:aq) (u v:ak) (A:bd),Inv X af Y H s->RelV x u->RelV y v->A.units+d<cLine->zT A s u v k
theorem Nr{K:aC}{H:Hp}{d:Nat}{x y:V}(fx:g7 x=ai)(fy:g7 y=ai):jc K H d x y (fW x y):=λ_ _ _ _ _ _ _ _ _ rx ry _=>He rx ry fx fy
def gK(e:Nat->Bool)(n m:Nat):Bool:=(bF (min n m)).all e&&n == m
theorem Kd{A:bd}:A.in1.units=A.units+1:=rfl
theorem B4{H:Hp}{d:Nat}{a b:ah}{xs ys:List V}{e:Nat->Bool}{af:List (ah×Obj)}{Y:St}{s:aq}{A:bd}(I:Inv X af Y H s)(ha:cC X.K H a xs)(hb:cC X.K H b ys)(he:∀(j:Nat) x y,xs[j]?=aa x->ys[j]?=aa y->jc X.K H d x y (e j)) (hu:A.units+(d+1)<cLine):SeqAt.RcAt A s (.ref a) (.ref b) (gK e xs.length ys.length)/\SeqAt.RcNeAt A s (.ref a) (.ref b) (!gK e xs.length ys.length):=by
 obtain⟨us,ru,pu,_⟩:=I.list ha;obtain⟨vs,rv,pv',_⟩:=I.list hb;have wX:=ru.length;have kL:=rv.length;have hE:∀j (h1:j<us.toArray.size) (h2:j<vs.toArray.size),zT A.in1 s us.toArray[j] vs.toArray[j] (e j):=λj h1 h2=>by
  have i6:j<us.length:=by simpa using h1
  have i7:j<vs.length:=by simpa using h2
  have e1:xs[j]?=aa xs[j]:=f9 ∅;have e2:ys[j]?=aa ys[j]:=f9 ∅;obtain⟨u,q1,r1⟩:=ru.get e1;obtain⟨v,q2,r2⟩:=rv.get e2;have f1:us[j]=u:=by rw[f9 i6]at q1;exact eV q1
  have f2:vs[j]=v:=by rw[f9 i7]at q2;exact eV q2
  have:=he j xs[j] ys[j] e1 e2 X rfl af Y s u v A.in1 I r1 r2 (by rw[Kd];lia);simpa[f1,f2]using this
 by_cases hsz:xs.length=ys.length
 ·have hs:us.toArray.size=vs.toArray.size:=by simp;lia
  have e1:gK e xs.length ys.length=(bF us.toArray.size).all e:=by unfold gK;rw[hsz,Nat.min_self,beq_self_eq_true,Bool.and_true,cU,←wX,hsz]
  rw[e1];exact⟨.lists pu.isList pv'.isList hs ∅ hE,.lists pu.isList pv'.isList hs ∅ hE⟩
 ·have e1:gK e xs.length ys.length=am:=by
   unfold gK;rw[beq_false_of_ne hsz,D_]
  have hs:(us.toArray.size != vs.toArray.size)=ai:=by simp;lia
  rw[e1];exact⟨.lists_lengths pu.isList pv'.isList hs ∅,.lists_lengths pu.isList pv'.isList hs ∅⟩
theorem Dh{H:Hp}{d:Nat}{a b:ah}{xs ys:List V}{e:Nat->Bool}{af:List (ah×Obj)}{Y:St}{s:aq}{A:bd}(I:Inv X af Y H s)(ha:d7 X.K H a xs)(hb:d7 X.K H b ys)(he:∀(j:Nat) x y,xs[j]?=aa x->ys[j]?=aa y->jc X.K H d x y (e j)) (hu:A.units+(d+1)<cLine):SeqAt.RcAt A s (.ref a) (.ref b) (gK e xs.length ys.length)/\SeqAt.RcNeAt A s (.ref a) (.ref b) (!gK e xs.length ys.length):=by
 obtain⟨us,ru,pu,_⟩:=I.tuple ha;obtain⟨vs,rv,pv',_⟩:=I.tuple hb;have wX:=ru.length;have kL:=rv.length;have hE:∀j (h1:j<us.toArray.size) (h2:j<vs.toArray.size),zT A.in1 s us.toArray[j] vs.toArray[j] (e j):=λj h1 h2=>by
  have i6:j<us.length:=by simpa using h1
  have i7:j<vs.length:=by simpa using h2
  have e1:xs[j]?=aa xs[j]:=f9 ∅;have e2:ys[j]?=aa ys[j]:=f9 ∅;obtain⟨u,q1,r1⟩:=ru.get e1;obtain⟨v,q2,r2⟩:=rv.get e2;have f1:us[j]=u:=by rw[f9 i6]at q1;exact eV q1
  have f2:vs[j]=v:=by rw[f9 i7]at q2;exact eV q2
  have:=he j xs[j] ys[j] e1 e2 X rfl af Y s u v A.in1 I r1 r2 (by rw[Kd];lia);simpa[f1,f2]using this
 have e1:gK e xs.length ys.length=((bF (min us.toArray.size vs.toArray.size)).all e&&us.toArray.size == vs.toArray.size):=by unfold gK;rw[cU,cU,←wX,←kL]
 rw[e1];exact⟨.tuples pu pv' ∅ hE,.tuples pu pv' ∅ hE⟩
theorem L4{K:aC}{H:Hp}{d:Nat}{a b:ah}{xs ys:List V}{e:Nat->Bool}(ha:cC K H a xs)(hb:cC K H b ys)(cQ:a≠b)(he:∀(j:Nat) x y,xs[j]?=aa x->ys[j]?=aa y->jc K H d x y (e j)):jc K H (d+1) (.ref a) (.ref b) (gK e xs.length ys.length):=λX hK af Y s u v A I ru rv hu=>by
 subst hK;cases ru;cases rv;exact .of_refs cQ (B4 I ha hb he hu).1
theorem On{K:aC}{H:Hp}{d:Nat}{a b:ah}{xs ys:List V}{e:Nat->Bool}(ha:d7 K H a xs)(hb:d7 K H b ys)(cQ:a≠b)(he:∀(j:Nat) x y,xs[j]?=aa x->ys[j]?=aa y->jc K H d x y (e j)):jc K H (d+1) (.ref a) (.ref b) (gK e xs.length ys.length):=λX hK af Y s u v A I ru rv hu=>by
 subst hK;cases ru;cases rv;exact .of_refs cQ (Dh I ha hb he hu).1
theorem FH{K:aC}{H:Hp}{d:Nat}{a:ah}:jc K H d (.ref a) (.ref a) ai:=λX hK af Y s u v A I ru rv hu=>by
 cases ru;cases rv;exact .same _
def u5(K:aC)(neg:Bool):R2:=λx y H Q=>∃a b xs ys d e,x=.ref a/\y=.ref b/\((cC K H a xs/\cC K H b ys)\/(d7 K H a xs/\d7 K H b ys))/\d<=8 /\
 (∀(j:Nat) x y,xs[j]?=aa x->ys[j]?=aa y->jc K H d x y (e j))/\Q (.bl (if neg then !gK e xs.length ys.length else gK e xs.length ys.length)) H
theorem Mm(hu:X.A.units+64<cLine):cr X (eW .Eq) (u5 X.K am):=by
 intro af s Y H x y v u Q I rx ry h;obtain⟨a,b,xs,ys,d,e,rfl,rfl,hs,hd,he,q⟩:=h;cases rx;cases ry;rcases hs with⟨h1,h2⟩|⟨h1,h2⟩
 ·exact(B4 I h1 h2 he ∅).1 _ _ _ _ ⟨.bl _,H,I,rfl,q⟩
 ·exact(Dh I h1 h2 he ∅).1 _ _ _ _ ⟨.bl _,H,I,rfl,q⟩
theorem SS(hu:X.A.units+64<cLine):cr X (eW .NotEq) (u5 X.K ai):=by
 intro af s Y H x y v u Q I rx ry h;obtain⟨a,b,xs,ys,d,e,rfl,rfl,hs,hd,he,q⟩:=h;cases rx;cases ry;rcases hs with⟨h1,h2⟩|⟨h1,h2⟩
 ·exact(B4 I h1 h2 he ∅).2 _ _ _ _ ⟨.bl _,H,I,rfl,q⟩
 ·exact(Dh I h1 h2 he ∅).2 _ _ _ _ ⟨.bl _,H,I,rfl,q⟩
def Pf(K:aC):V->List V->Hp->VK->Prop:=λx vs H Q=>∃(p:ah) (xs:List V) (y:V),x=.ref p/\vs=[y]/\H p=aa (.lst xs)/\g7 y=ai/\xs.all g7=ai/\Q (.int ((xs.countP λz=>fW z y:Nat):Int)) H
theorem Ji{y:V}:∀{xs:List V}{us:List ak},bX xs us->xs.all g7=ai->us.countP (kF y)=xs.countP λz=>fW z y
 |_,_,.nil,_=>rfl
 |z::xs,u::us,.cons r t,f=>by rw[tZ,f7]at f;rw[List.countP_cons,List.countP_cons,x_ r f.1,Ji t f.2]
theorem OH:zI X "list.count" (Pf X.K):=by
 intro af s Y H x vs v us Q I rx rv h;obtain⟨p,xs,y,rfl,rfl,hH,fy,fx,q⟩:=h;cases rx;obtain⟨u,rfl,ru⟩:=rv.one;obtain⟨z,its,n,r,hl,e⟩:=I.lstM hH;refine wl F.slot_list_count ⟨_,e,rfl⟩ F.entry_list_count (F.args_list_count_2 _ _) (SeqAt.list_countAt p its.toArray n ae #[] u (kF y)) ⟨e,λw hw=>uS ru fy r fx w (by simpa using hw),?_⟩;exact⟨.int _,H,I.tok _,⟨_,by rw[Ea,Ji r fx]⟩,q⟩
def Q_:V->List V->Hp->VK->Prop:=λx vs H Q=>∃(p:ah) (xs:List V) (y:V) (j:Nat),x=.ref p/\vs=[y]/\H p=aa (.lst xs)/\g7 y=ai/\xs.all g7=ai/\j<xs.length /\
 (∀z,xs[j]?=aa z->fW z y=ai)/\(∀(i:Nat) z,i<j->xs[i]?=aa z->fW z y=am)/\Q (.int j) H
theorem Sd:zI X "list.index" Q_:=by
 intro af s Y H x vs v us Q I rx rv h;obtain⟨p,xs,y,j,rfl,rfl,hH,fy,fx,hj,h1,h2,q⟩:=h;cases rx;obtain⟨u,rfl,ru⟩:=rv.one;obtain⟨z,its,n,r,hl,e⟩:=I.lstM hH;have hz:=u_;have at':∀(i:Nat) (hi:i<its.toArray.size),∃w,xs[i]?=aa w/\kF y its.toArray[i]=fW w y:=λi hi=>by
  have hi':i<its.length:=by simpa using hi
  have e1:xs[i]?=aa xs[i]:=f9 ∅;obtain⟨w,q1,r1⟩:=r.get e1;have f1:its[i]=w:=by rw[f9 hi']at q1;exact eV q1
  refine⟨_,e1,?_⟩;have fl:g7 xs[i]=ai:=t_.mp fx _ (Eb _);rw[←x_ r1 fl];simp[f1]
 refine wl F.slot_list_index ⟨_,e,rfl⟩ F.entry_list_index (F.args_list_index_2 _ _) (SeqAt.list_indexAt p its.toArray n ae #[] u (kF y) j (by simp;lia) ∅ ?_ ?_) ⟨e,λw hw=>uS ru fy r fx w (by simpa using hw),?_⟩
 ·obtain⟨w,q1,q2⟩:=at' j (by simp;lia);rw[q2];exact h1 w q1
 ·intro m hm hmj;obtain⟨w,q1,q2⟩:=at' m hm;rw[q2];exact h2 m w hmj q1
 ·exact⟨.int _,H,I.tok _,⟨_,rfl⟩,q⟩
end
abbrev Tx:=List Nat
def tS(l:Tx):Str:=⟨l.toArray⟩
def tV(l:Tx):V:=.str (tS l)
def c9(ls:List Tx):List V:=ls.map tV
theorem n9(l:Tx):(tS l).cps.toList=l:=by simp[tS]
theorem lO(l:Tx):(tS l).length=l.length:=by simp[tS,wg]
theorem B6(z:Str):tS z.cps.toList=z:=by cases z;simp[tS]
theorem qR{a b:Tx}(h:tS a=tS b):a=b:=by rw[←n9 a,h,n9]
theorem Po{a b:Tx}(h:tV a=tV b):a=b:=qR (V.str.inj h)
theorem vL(ls:List Tx):(c9 ls).length=ls.length:=dw _
def ft(a b:Tx):Bool:=decide (a<=b)
def bp(ls:List Tx):List Tx:=ls.mergeSort ft
theorem GY(a b c:Tx)(h1:ft a b=ai)(h2:ft b c=ai):ft a c=ai:=by simp only[ft,decide_eq_true_eq]at *;exact List.le_trans h1 h2
theorem OU(a b:Tx):(ft a b||ft b a)=ai:=by simp only[ft,z9,decide_eq_true_eq];exact List.le_total a b
theorem S7{a b:Tx}(h1:ft a b=ai)(h2:ft b a=ai):a=b:=by simp only[ft,decide_eq_true_eq]at *;exact List.le_antisymm h1 h2
theorem j2(ls:List Tx):(bp ls).Perm ls:=List.mergeSort_perm _ _
theorem zf(ls:List Tx):(bp ls).Pairwise (λa b=>ft a b=ai):=List.pairwise_mergeSort GY OU _
theorem To(ls:List Tx):(bp ls).length=ls.length:=(j2 ls).length_eq
theorem vK{ls ms:List Tx}(hp:ms.Perm ls)(hs:ms.Pairwise (λa b=>ft a b=ai)):ms=bp ls :=List.Perm.eq_of_pairwise (le:=λa b=>ft a b=ai) (λ_ _ _ _ h1 h2=>S7 h1 h2) hs (zf ls) (hp.trans (j2 ls).symm)
theorem Uc{ls:List Tx}(hs:ls.Pairwise (λa b=>ft a b=ai)):bp ls=ls:=(vK (nD ls) hs).symm
theorem GS:∀(p:Str) (l:List Str),risingS p l=ai->(p::l).Pairwise (λa b=>ft a.cps.toList b.cps.toList=ai)
 |p,[],_=>List.pairwise_singleton _ _
 |p,x::r,h=>by
  have h':(!ltCps x.cps.toList p.cps.toList&&risingS x r)=ai:=h;rw[f7,ltCps_eq]at h';have q:=GS x r h'.2;have px:ft p.cps.toList x.cps.toList=ai:=by simp only[ft,decide_eq_true_eq];intro bI;simp[bI]at h'
  refine List.pairwise_cons.mpr ⟨λy hy=>?_,q⟩;rcases b8.mp hy with rfl|hy
  ·exact px
  ·exact GY _ _ _ px (List.rel_of_pairwise_cons q hy)
theorem V3{ss:List Str}(h:sortedS ss=ai):(ss.map λz=>z.cps.toList).Pairwise (λa b=>ft a b=ai):=by
 rw[Ec];cases ss with
 |nil=>exact List.Pairwise.nil
 |cons x r=>exact GS x r h
theorem AI:∀{ls:List Tx}{us:List ak},bX (c9 ls) us->e_ us (ls.map tS)
 |[],_,.nil=>.nil
 |l::ls,_::_,.cons ⟨t,e⟩ r=>by subst e;exact .cons _ t (AI (ls:=ls) r)
theorem Ij:∀{ss:List Str}{us:List ak},e_ us ss->bX (c9 (ss.map λz=>z.cps.toList)) us
 |_,_,.nil=>.nil
 |_,_,.cons y t h=>.cons ⟨t,by rw[B6]⟩ (Ij h)
section
variable{X:Cx}
theorem Qa(z:Tx)(n:Nat):Txt.mul (tS z) (n:Int)=tS (bK n z).flatten:=by
 unfold Txt.mul;cases n with
 |zero=>simp[tS,p9]
 |succ n=>
  rw[if_neg ∅];split
  ·rename_i h;simp only[z9,beq_iff_eq]at h;rcases h with h|h
   ·have:n=0:=∅
    subst this;simp
   ·rw[lO]at h;have:z=[]:=wo h;subst this;simp
  ·unfold tS;congr 1;have gen:∀(k:Nat) (aK:Array Nat),(bK k z.toArray).foldl (·++·) aK=aK++(bK k z).flatten.toArray:=by
    intro k
    induction k with
    |zero=>intro aK;simp
    |succ k ih=>intro aK;rw[ml,jt,ih,ml,qb];simp[Array.append_assoc]
   have e:=gen (n+1) #[];simp only[nA];simpa using e
theorem RZ:cr X (jr .Mult) (λx y H Q=>∃(z:Tx) (n:Nat),x=tV z/\y=.int n/\n<=100/\z.length<=100/\Q (tV (bK n z).flatten) H):=by
 intro af s Y H x y v u Q I rx ry h;obtain⟨z,n,rfl,rfl,hn,hz,q⟩:=h;obtain⟨t,rfl⟩:=rx;obtain⟨t',rfl⟩:=ry;refine SB.mul ?_ λt2 k=>?_
 ·have hp:z.length*n<=10000:=dj (z_ hz hn) (by decide);refine⟨by rw[Bool.or_eq_false_iff];constructor <;> (apply decide_eq_false;lia),λh1 _=>?_,λh1 _=>?_⟩
  ·rw[lO];intro hgt;have h2:(2^63-1:Int) / n ≥ (2^63-1) / 100:=by
    have hn0:(0:Int)<n:=∅
    apply (Int.le_ediv_iff_mul_le hn0).mpr;have:((2^63-1:Int) / 100)*n<=((2^63-1) / 100)*100:=Int.mul_le_mul_of_nonneg_left ∅ (by decide);refine Int.le_trans this (by decide)
   have h3:((2^63-1:Int) / 100) > 1000:=by decide
   lia
  ·rw[lO,nA];unfold Builtin.Str.tooLong;apply decide_eq_false;have:10000<bw:=by rw[oB];decide
   lia
 ·rw[Qa];exact⟨tV _,H,I.tok _,⟨_,rfl⟩,q⟩
end
theorem Qg(t:gU)(j:Nat):(t.put j).1.led=t.led/\(t.put j).1.plain=t.plain:=⟨rfl,rfl⟩
theorem L_(t:gU)(n:Nat):(t.orStandIn n).led=t.led/\((t.orStandIn n).plain=t.plain\/(t.orStandIn n).plain=am):=by
 unfold SetTable.orStandIn;split
 ·exact⟨rfl,.inl rfl⟩
 ·exact⟨rfl,.inr rfl⟩
theorem Nk(t:gU)(es:Array (Int×ak))(h:Int)(x:ak):(layNew t es h x).2.1.led=t.led/\((layNew t es h x).2.1.plain=t.plain\/(layNew t es h x).2.1.plain=am):=by
 unfold layNew;split
 ·rename_i slot wasDummy _;have h1:=Qg t slot;have h2:=L_ (t.put slot).1 (KH es (t.put slot).2 (h,x)).size;exact⟨h2.1.trans h1.1,by rw[←h1.2];exact h2.2⟩
 ·exact⟨rfl,.inr rfl⟩
theorem RE(t:gU)(es:Array (Int×ak))(wanted:Nat)(hp:t.plain=am):(ua t es wanted).2.1.led=t.led/\(ua t es wanted).2.1.plain=am:=by
 unfold ua;split
 ·rename_i t' X8 e;have q:t'.led=t.led/\t'.plain=t.plain:=by
   unfold SetTable.relaid SetTable.laid at e;cases q:KI (oI wanted-1) (es.map (·.1))with
   |none=>rw[q]at e;cases e
   |some ow=>rw[q]at e;cases e;exact⟨rfl,rfl⟩
  dsimp only;split
  ·exact⟨q.1,q.2.trans hp⟩
  ·exact⟨rfl,rfl⟩
 ·exact⟨rfl,rfl⟩
def cZ(w:aT):Bool:=w.params.followText "set-order"
structure b_(P:aZ)(w:aT)(h:aI)(a:ah)(ks:List Str):Prop where
 ex:∃(es:Array (Int×ak)) (ep:Nat) (t:gU) (ss:List Str),h.get? a=aa {cls:=.type "set",dict:=ae,data:=.set es ep t}/\e_ (es.toList.map (·.2)) ss/\ss.Perm ks/\ElemsOf (dE P w) es.toList /\
  es.size<4090/\t.fits es.size=ai/\t.led=(!cZ w)/\(ks≠[]->t.plain=am)
theorem b_.at{P:aZ}{w:aT}{h h':aI}{a:ah}{ks:List Str}(S:b_ P w h a ks)(k:∀o,h.get? a=aa o->h'.get? a=aa o):b_ P w h' a ks:=by obtain⟨es,ep,t,ss,e,r⟩:=S.ex;exact⟨es,ep,t,ss,k _ e,r⟩
theorem y0:∀{vs:List ak}{ss:List Str},e_ vs ss->∀x,x∈ss↔∃t,Value.str x t∈vs
 |_,_,.nil,x=>by simp
 |_,_,.cons y t h,x=>by
  rw[b8,y0 h x];constructor
  ·rintro(rfl|⟨t',q⟩)
   ·exact⟨t,oy ..⟩
   ·exact⟨t',me _ q⟩
  ·rintro⟨t',q⟩;rcases b8.mp q with q|q
   ·cases q;exact .inl rfl
   ·exact .inr ⟨t',q⟩
theorem u7:∀{us vs:List ak},us.Perm vs->∀{ss:List Str},e_ vs ss->∃aP,e_ us aP/\aP.Perm ss:=by intro us vs p ss h;refine⟨us.map strOf,strsAre_map us λv hv=>h.all v (p.mem_iff.mp hv),?_⟩;have:=p.map strOf;rwa[h.strs]at this
section
variable{P:aZ}{w:aT}{A:bd}{E:ak->aq->Prop}{s:aq}
def jG(ks:List Str)(x:Str):List Str:=if x∈ks then ks else ks++[x]
theorem b_.put{h:aI}{a:ah}{es es':Array (Int×ak)}{ep:Nat}{t t':gU}(e:h.get? a=aa {cls:=.type "set",dict:=ae,data:=.set es ep t}):(h.update a (Obj.putSet es' t')).get? a=aa {cls:=.type "set",dict:=ae,data:=.set es' (ep+1) t'}:=by have:=rS (Obj.putSet es' t') e (by rw[putSet_of es' t' rfl];rfl);rw[putSet_of es' t' rfl]at this;exact this
theorem FX{a:ah}{ks:List Str}{x:Str}{tk:Tok}{Q:Bool->aq->Prop}(S:b_ P w s.heap a ks)(hn:ks.length<4000)(h:∀h' b,jq a s.heap h'->b_ P w h' a (jG ks x)->Q b {s with heap:=h'}):aA (aB P w) A (setAddHashed a (.str x tk) ((dE P w).hash x)) Q E s:=by
 obtain⟨es,ep,t,ss,ho,hS,hp,fS,hsz,hf,ix,cV⟩:=S.ex;have isD:∀y t',(dE P w).is x (.str y t')=decide (y=x):=λy t'=>by
  show rH x (.str y t')=_;rw[p8];simp[rH]
  try exact eq_comm
 have jv:(dE P w).is x (.str x tk)=ai:=by rw[isD];simp
 have hb:es.size<scanBound:=oG hsz (by decide);unfold setAddHashed setAddHashedIn;refine kH (au (iL ho rfl hf ?_));dsimp only;rw[byScan_of (knd:=dE P w) (x:=.str x tk) rfl hb fS];simp only[if_true];unfold setAddByScan;refine au (au (lr (au (KJ jv ho rfl hf fS ?_))));have memx:x∈ks↔∃e∈es.toList,(dE P w).is x e.2=ai:=by
  rw[←hp.mem_iff,y0 hS x];constructor
  ·rintro⟨t',q⟩;obtain⟨e,he,ee⟩:=dG.mp q;exact⟨e,he,by rw[ee,isD];simp⟩
  ·rintro⟨e,he,q⟩;obtain⟨y,t',ey⟩:=hS.all e.2 (dG.mpr ⟨e,he,rfl⟩);rw[ey,isD]at q;have:y=x:=of_decide_eq_true q;subst this;exact⟨t',dG.mpr ⟨e,he,ey⟩⟩
 have klen:ks.length=es.size:=by
  have e1:=hp.length_eq;have e2:ss.length=es.size:=by rw[←hS.strs];simp
  lia
 cases hr:List.findIdx? (λe=>(dE P w).is x e.2) es.toList with
 |some j=>dsimp only;obtain⟨hj,wY,_⟩:=Ed.mp hr;have hx:x∈ks:=memx.mpr ⟨_,Eb hj,wY⟩;refine aF (aF ?_);exact h s.heap _ (wp a s.heap) (by unfold jG;rw[if_pos hx];exact S)
 |none=>
  dsimp only;have hx:¬x∈ks:=λhm=>by obtain⟨e,he,q⟩:=memx.mp hm;have:=KL.mp hr e he;rw[q]at this;exact Bool.noConfusion this
  have hgw:∀(b:Bool) {s₁:aq}{Q':Unit->aq->Prop},Q' () s₁->aA (aB P w) A (match b with|ai=>rule "set.scan.the-table-gave-way" |am=>pure ()) Q' E s₁ :=
   λb s₁ Q' hq=>by cases b <;> first|exact aF hq|exact lr hq
  have Ay:=layNew_perm t es ((dE P w).hash x) (.str x tk);have Az:=layNew_fits t es ((dE P w).hash x) (.str x tk);have hmk:=Nk t es ((dE P w).hash x) (.str x tk);generalize hL:layNew t es ((dE P w).hash x) (.str x tk)=L at Ay Az hmk ⊢;obtain⟨es1,t1,wasDummy,gave⟩:=L;dsimp only at Ay Az hmk ⊢;rw[wq]at Ay;have hel1:ElemsOf (dE P w) es1.toList:=(fS.push jv rfl).perm Ay;have hsz1:es1.size=es.size+1:=by have:=Ay.length_eq;simpa using this
  have hS1:∃jw,e_ (es1.toList.map (·.2)) jw/\jw.Perm (jG ks x):=by
   have p1:=Ay.map (λe:Int×ak=>e.2);rw[qg]at p1;have q1:e_ (es.toList.map (·.2)++[Value.str x tk]) (ss++[x]):=by
    have gen:∀{vs:List ak}{zs:List Str},e_ vs zs->e_ (vs++[Value.str x tk]) (zs++[x]):=by
     intro vs zs hh
     induction hh with
     |nil=>exact .cons x tk .nil
     |cons y t _ ih=>exact .cons y t ih
    exact gen hS
   obtain⟨jw,r1,r2⟩:=u7 p1 q1;refine⟨jw,r1,r2.trans ?_⟩;unfold jG;rw[if_neg hx];exact hp.append_right _
  obtain⟨jw,r1,r2⟩:=hS1;have cQ:jG ks x≠[]:=by unfold jG;rw[if_neg hx];simp
  have tail:∀t2:gU,t2.fits es1.size=ai->t2.led=(!cZ w)->t2.plain=am->aA (aB P w) A (do
    storeSet a es1 t2
    if(!wasDummy&&t2.tooFull)=ai then do
      (match (ua t2 es1 (ub es1.size)).2.2 with|ai=>rule "set.scan.the-table-gave-way" |am=>pure ())
      storeSet a (ua t2 es1 (ub es1.size)).1 (ua t2 es1 (ub es1.size)).2.1
      pure (aa ai)
     else pure (aa ai)) (λr s'=>∃h',r=aa ai/\s'={s with heap:=h'}/\jq a s.heap h'/\b_ P w h' a (jG ks x)) E s:=by
   intro t2 wZ kL fR;refine au (uc ho rfl ?_ (wu (oG (show es1.size<4090 by lia) (by decide))));have o1:=b_.put (es':=es1) (t':=t2) ho;have jY:=oJ s.heap a (Obj.putSet es1 t2);split
   ·have gG:=relayAll_perm t2 es1 (ub es1.size);have hf3:=relayAll_fits t2 es1 (ub es1.size);have hm3:=RE t2 es1 (ub es1.size) fR;generalize hRl:ua t2 es1 (ub es1.size)=Rl at gG hf3 hm3 ⊢;obtain⟨es2,t3,gave2⟩:=Rl;dsimp only at gG hf3 hm3 ⊢;have hsz2:es2.size=es1.size:=by have:=gG.length_eq;simpa using this
    refine au (hgw _ ?_);refine au (uc o1 rfl ?_ (wu (oG (show es2.size<4090 by lia) (by decide))));obtain⟨kl,u1,u2⟩:=u7 (gG.map (λe:Int×ak=>e.2)) r1;refine aF ⟨_,rfl,rfl,jY.trans (oJ _ a _),⟨es2,_,t3,kl,b_.put o1,u1,u2.trans r2,hel1.perm gG,∅,hf3,hm3.1.trans kL,λ_=>hm3.2⟩⟩
   ·exact aF ⟨_,rfl,rfl,jY,⟨es1,_,t2,jw,o1,r1,r2,hel1,∅,wZ,kL,λ_=>fR⟩⟩
  have Lj:t1.led=(!cZ w):=hmk.1.trans ix;refine au (hgw _ ?_);split
  ·refine au ?_;rw[hashByValue_scannable 8 (x:=.str x tk) rfl];refine aF ?_;have hk:plainKind (.str x tk)=am:=rfl;rw[hk];simp only[qh,if_false];refine a_ (tail {t1 with plain:=am} (SetTable.fits_plain_off Az) Lj rfl) λr s' ⟨h',e1,e2,e3,e4⟩=>?_;subst e1 e2;exact aF (h h' _ e3 e4)
  ·rename_i hpl1;refine au (aF ?_);simp only[if_true];refine a_ (tail t1 Az Lj (by simpa using hpl1)) λr s' ⟨h',e1,e2,e3,e4⟩=>?_;subst e1 e2;exact aF (h h' _ e3 e4)
end
def met(val:Nat->Str)(i:Nat):List Str:=((bF i).map val).foldl jG []
theorem IF(val:Nat->Str)(i:Nat):met val (i+1)=jG (met val i) (val i):=by unfold met;rw[t9,qg,KM];rfl
theorem Hj(val:Nat->Str){i:Nat}:∀{j:Nat},i<=j->(met val i).length<=(met val j).length
 |0,h=>by rw[show i=0 by lia];exact bn _
 |j+1,h=>by
  by_cases e:i=j+1
  ·subst e;exact bn _
  ·refine dj (Hj val (j:=j) ∅) ?_;rw[IF];unfold jG;split
   ·exact bn _
   ·simp
section
variable{P:aZ}{w:aT}{A:bd}{R:Result->aq->Prop}{I:ah}{fp wr:List ah}{G:Array GenState->Array GenState->Prop}{n:Nat}{Pv:Nat->ak->Prop}{St:Nat->aq->Prop}
theorem N5(W:WalksS P w A.in1 I fp wr G n Pv St)(S:ah)(hSf:S∉fp)(val:Nat->Str)(ET:∀i v,Pv i v->∃t,v=.str (val i) t)(hb:∀i,i<=n->(met val i).length<4000):∀(k i:Nat) (s:aq),n-i=k->i<=n->St i s->b_ P w s.heap S (met val i) -> (∀s',Moved (S::wr) G s s'->b_ P w s'.heap S (met val n)->R (.ok (.ret .none)) s')->nz (aB P w) A (.builtin "set.update.loop" ⟨[.ref S,.ref I],[]⟩) R s:=by
 have hSw:S∉wr:=λh=>hSf (W.sub _ h);have qr:∀b∈wr,b∈S::wr:=λb hb=>me _ hb;intro k
 induction k with
 |zero=>
  intro i s hk hi i8 hS hR;obtain rfl:i=n:=∅
  refine wv WQ ?_;rw[Aa KN _];show aA _ A.in1 (pyNext (.ref I) >>= _) _ _ s;refine au (W.done s _ _ i8 λs' hm=>?_);show aA _ A.in1 (ret Value.none) _ _ s';exact aF (hR s' (hm.mono qr) (hS.at λo e=>hm.heap S o hSw e))
 |succ k ih=>
  intro i s hk hi i8 hS hR;have bI:i<n:=∅
  refine wv WQ ?_;rw[Aa KN _];show aA _ A.in1 (pyNext (.ref I) >>= _) _ _ s;refine au (W.item i s _ _ bI i8 λv s' hP hst' hm=>?_);obtain⟨t,rfl⟩:=ET i v hP;have w6:b_ P w s'.heap S (met val i):=hS.at λo e=>hm.heap S o hSw e;show aA _ A.in1 (holding [Value.str (val i) t] (setAdd S (.str (val i) t)) >>= _) _ _ s';refine au (kH ?_);unfold setAdd;refine kH ?_;have jv:(dE P w).is (val i) (.str (val i) t)=ai:=by show rH (val i) (.str (val i) t)=ai;simp[rH]
  refine au ((dE P w).pyHash (k:=val i) jv ?_);have wI:(met val i).length<4000:=hb i (nt bI);refine FX (s:={s' with toks:=s'.toks+1}) w6 wI λh' b jx uv=>?_;rw[←IF]at uv;refine aF ⟨Ee KN _,ih (i+1) _ ∅ bI (W.frame _ s' _ _ hst' (z0 _) λb hb o e=>?_) uv λs'' hm'' hS''=>?_⟩
  ·rw[jx.2 b (λh:b=S=>hSf (by rw[←h];exact hb))];exact e
  ·refine hR s'' (Moved.trans W.gtrans ((hm.mono qr).then_heap (z0 _) λb o hb e=>?_) hm'') hS'';rw[jx.2 b (λh:b=S=>hb (by rw[h];exact oy))];exact e
end
section
variable{P:aZ}{w:aT}{A:bd}{E:ak->aq->Prop}{s:aq}
theorem PB(a:ak){Q:ak->aq->Prop} (h:b_ P w (s.heap.push {cls:=.type "set",dict:=ae,data:=.set #[] 0 (.fresh 0 0 (!cZ w))}) s.heap.objs.size [] -> Q (.ref s.heap.objs.size) {s with heap:=s.heap.push {cls:=.type "set",dict:=ae,data:=.set #[] 0 (.fresh 0 0 (!cZ w))}}):nz (aB P w) A (.call (.builtin "set.__new__") ⟨[.type "set",a],[]⟩) (wants Q E) s:=by
 refine codeAny_of_tree ?_;show aA _ A.in1 (do KO "set.__new__" ⟨[.type "set",a],[]⟩;again (.builtin "set.__new__" ⟨[.type "set",a],[]⟩)) _ _ s;refine au (wpAny_of_eq (PySem.F.newCall_set_1 a) (aF ⟨Ee F.plain_set_new _,wv F.entry_set_new ?_⟩));rw[Aa F.plain_set_new _];unfold Builtin.«set.__new__» Builtin.Frozenset.newClass;have qr:=Ef;obtain⟨hp,g,d,tk,os⟩:=s;dsimp only
 wp_walk
 refine lu (aF ?_);dsimp only;simp only[newObj];refine au (D4 (aF ?_));refine aF (h ⟨#[],0,_,[],df _ rfl,.nil,nD _,λe he=>by simp at he,by decide,rfl,rfl,λh=>absurd rfl h⟩)
end
end L2
set_option maxHeartbeats 8000000
namespace L2
theorem L6:entryFor table "set.__iter__" = aa Builtin.«frozenset.__iter__»:=entryFor_alias (id':="frozenset.__iter__") (by kernel_rfl) rfl (by decide +kernel) (by kernel_rfl)
theorem Gx:Slot "set_iterator" "__next__" "set_iterator.__next__" :=
 .of (owner:="set_iterator") (n:="__next__") (by rw[typeLookup_type,builtinLookup_eq_fast];kernel_rfl) (by decide +kernel) (by decide +kernel) (by decide +kernel) (by first|exact .inl (by decide +kernel)|exact .inr (by decide +kernel)) (by rw[isSubtype_type];kernel_rfl)
theorem P6:entryFor table "set_iterator.__next__" = aa Builtin.«set_iterator.__next__»:=entryFor_of_fast (by kernel_rfl)
theorem Q4(a:ak):argsOk "set_iterator.__next__" ⟨[a],[]⟩:=by unfold argsOk;kernel_rfl
theorem Fb:Slot "set_iterator" "__iter__" "set_iterator.__iter__" :=
 .of (owner:="set_iterator") (n:="__iter__") (by rw[typeLookup_type,builtinLookup_eq_fast];kernel_rfl) (by decide +kernel) (by decide +kernel) (by decide +kernel) (by first|exact .inl (by decide +kernel)|exact .inr (by decide +kernel)) (by rw[isSubtype_type];kernel_rfl)
theorem Q2:entryFor table "set_iterator.__iter__" = aa Builtin.«dict_keyiterator.__iter__»:=entryFor_alias (id':="dict_keyiterator.__iter__") (by kernel_rfl) rfl (by decide +kernel) (by kernel_rfl)
theorem LG(a:ak):argsOk "set_iterator.__iter__" ⟨[a],[]⟩:=by unfold argsOk;kernel_rfl
def jD(first:ak)(i:Nat)(a:ah)(n ep:Nat):Obj:={cls:=.type "set_iterator",data:=.fields #[first,.int i 0,.ref a,.int n 0,.int ep 0]}
section
variable{P:aZ}{w:aT}{A:bd}{E:ak->aq->Prop}{s:aq}
theorem xA{I a:ah}{first:ak}{i n ep:Nat}{Q:ak->aq->Prop}(h:s.heap.get? I=aa (jD first i a n ep))(hQ:Q (.ref I) s):aA (aB P w) A (p7 (.ref I)) Q E s:=by
 have hT:s.TypeIs (.ref I) "set_iterator":=⟨_,h,rfl⟩
 refine wpAny_pyIter_slot hT Fb (we Fb hT Q2 ?_ (LG _));show aA _ _ (ret (.ref I)) _ _ s;exact aF ⟨_,rfl,"set_iterator",_,hT,Gx.lookup,hQ⟩
theorem qS{I a:ah}{first:ak}{i:Nat}{es:Array (Int×ak)}{ep:Nat}{t:gU}{Q:Option ak->aq->Prop}(ha:s.heap.get? a=aa {cls:=.type "set",dict:=ae,data:=.set es ep t})(hf:t.fits es.size=ai)(hI:s.heap.get? I=aa (jD first i a es.size ep))(h:aA (aB P w) A.in1 (if let .int slot _:=first then do
    match ←oK a slot.toNat (i:Int).toNat (ep:Int).toNat with
    |some (x,next)=>do
     oM (.ref I) 0 (eJ next)
     oM (.ref I) 1 (eJ ((i:Int)+1))
     ret x
    |none=>do oM (.ref I) 2 .none;raiseNew (←newExc (.type "StopIteration") [])
   else do
    let aa places ←seqItems? first|unsupported "internal:set_iterator"
    match places[(i:Int).toNat]? with
    |some (.int place _)=>do
     let x ←setNextDrawn a place.toNat (ep:Int).toNat
     oM (.ref I) 1 (eJ ((i:Int)+1))
     ret x
    |some _=>unsupported "internal:set_iterator"
    |none=>do oM (.ref I) 0 (eJ 0);oM (.ref I) 2 .none;raiseNew (←newExc (.type "StopIteration") []))
   (λfin s'=>∃r,fin=.done (.ret r)/\Q (aa r) s') (λe s'=>aA (aB P w) A (do if ←isInstance e (.type "StopIteration")then pure ae else throw e) Q E s') s) :
  aA (aB P w) A (pyNext (.ref I)) Q E s:=by
 have hT:s.TypeIs (.ref I) "set_iterator":=⟨_,hI,rfl⟩
 unfold pyNext;refine au (wpAny_attempt (wpAny_callSpecial?_slot (name:=DU "__next__") hT Gx (we Gx hT P6 ?_ (Q4 _))));unfold Builtin.«set_iterator.__next__» slotArgs;refine au (aF ?_);refine au (wpAny_fieldsOf hI rfl ?_);show aA _ _ (setEntries a >>= _) _ _ s;refine au (Eg ha rfl hf ?_);have e0:(((es.size:Nat):Int) != ((es.size:Nat):Int))=am:=by simp
 rw[e0];simp only[qh,if_false];refine dr ?_ (λfin s' q=>?_) (λe s' q=>q) (Q:=λfin s'=>∃r,fin=.done (.ret r)/\Q (aa r) s') (E:=λe s'=>aA (aB P w) A (do if ←isInstance e (.type "StopIteration")then pure ae else throw e) Q E s')
 ·exact h
 ·obtain⟨r,e1,e2⟩:=q;exact⟨r,e1,aF e2⟩
end
theorem Da{α:Type}:∀{l:List α}{i:Nat} (h:i<l.length),(l[i]::l.eraseIdx i).Perm l
 |[],i,h=>by simp at h
 |x::r,0,h=>by simp
 |x::r,i+1,h=>by have q:=Da (l:=r) (i:=i) (by simpa using h);simp only[List.getElem_cons_succ,List.eraseIdx_cons_succ];exact(List.Perm.swap x _ _).trans (List.Perm.cons x q)
theorem GZ{α:Type}(next:Nat->Nat):∀(bN k:Nat) (left:List α) (out:Array α),bN=left.length->(pickOrder.go next bN k left out).toList.Perm (out.toList++left)
 |0,k,left,out,h=>by have:left=[]:=wo h.symm;subst this;simp[pickOrder.go]
 |bN+1,k,left,out,h=>by
  have bI:next k % left.length<left.length:=rT _ ∅
  unfold pickOrder.go;rw[f9 bI];dsimp only;have ih:=GZ next bN (k+1) (left.eraseIdx (next k % left.length)) (out.push left[next k % left.length]) (by rw[Eh,if_pos bI];lia)
  refine ih.trans ?_;rw[wq,kI];exact KP _ (Da bI)
theorem Bv{α:Type}(next:Nat->Nat)(xs:Array α):(ww next xs).toList.Perm xs.toList:=by
 have:=GZ next xs.size 0 xs.toList #[] (by simp)
 simpa[ww]using this
section
variable{P:aZ}{w:aT}{A:bd}{E:ak->aq->Prop}{s:aq}
theorem SK{XL:Source}{n:Nat}{Q:Nat->aq->Prop}(hn:n≠0)(h:∀k d,k<n->Q k {s with drawn:=d}):aA (aB P w) A (choose XL n) Q E s:=λΓ p hΓ=>by unfold choose;rw[Sem.wp_choose];refine⟨hn,?_⟩;exact h _ _ (rT _ (Nat.pos_of_ne_zero hn))
theorem GP{α:Type}:∀(n:Nat) (xs:List α) (s:aq) (Q:List α->aq->Prop),n=xs.length->(∀ys d,ys.Perm xs->Q ys {s with drawn:=d})->aA (aB P w) A (drawOrder n xs) Q E s
 |0,[],s,Q,_,h=>by unfold drawOrder;exact aF (h [] s.drawn (nD _))
 |0,x::xs,s,Q,hn,h=>by simp at hn
 |n+1,[],s,Q,hn,h=>by simp at hn
 |n+1,x::xs,s,Q,hn,h=>by unfold drawOrder;refine au (SK (by simp) λk d hk=>?_);rw[f9 hk];dsimp only;refine au (GP n ((x::xs).eraseIdx k) _ _ (by rw[Eh,if_pos hk];lia) λys d' hy=>?_);refine aF (h _ d' ?_);exact(List.Perm.cons _ hy).trans (Da hk)
theorem xJ{Q:Option ak->aq->Prop}{R:Fin->aq->Prop}(hh:A.handled=ae)(hQ:∀h',(∀b o,s.heap.get? b=aa o->h'.get? b=aa o)->Q ae {s with heap:=h'}):aA (aB P w) A.in1 (do raiseNew (←newExc (.type "StopIteration") [])) R (λe s'=>aA (aB P w) A (do if ←isInstance e (.type "StopIteration")then pure ae else throw e) Q E s') s:=by
 refine au ?_;simp only[newExc,newTuple];refine au (oE ?_ (by size_fits));refine au (m:=firstArgMember _ _) (wpAny_of_eq (a:=Value.none) (by first|rfl | (simp only[firstArgMember];rfl)) ?_);refine oE ?_ (by size_fits);simp only[raiseNew];refine au (wpAny_handled ?_);rw[show A.in1.handled=ae from hh];refine au (aF (wpAny_throw ?_));refine au (Ab (T:="StopIteration") (b:=ai) ⟨_,df _ rfl,rfl⟩ isSubtype_stop ?_);exact aF (hQ _ λb o e=>bH _ (bH _ e))
theorem CD{I a:ah}{first f':ak}{i n ep:Nat}{Q:Unit->aq->Prop}(hI:s.heap.get? I=aa (jD first i a n ep))(h:∀h',jq I s.heap h'->h'.get? I=aa (jD f' i a n ep)->Q () {s with heap:=h'}):aA (aB P w) A (oM (.ref I) 0 f') Q E s:=by refine ud hI rfl (by simp[jD]) (h _ (oJ ..) ?_);rw[rS _ hI (by rfl)];rfl
theorem Bu{I a:ah}{first:ak}{i n ep:Nat}{Q:Unit->aq->Prop}(hI:s.heap.get? I=aa (jD first i a n ep))(h:∀h',jq I s.heap h'->h'.get? I=aa (jD first (i+1) a n ep)->Q () {s with heap:=h'}):aA (aB P w) A (oM (.ref I) 1 (eJ ((i:Int)+1))) Q E s:=by refine ud hI rfl (by simp[jD]) (h _ (oJ ..) ?_);rw[rS _ hI (by rfl)];rfl
theorem yr{I a:ah}{first:ak}{i n ep:Nat}{Q:Unit->aq->Prop}(hI:s.heap.get? I=aa (jD first i a n ep))(h:∀h',jq I s.heap h'->(∃o,h'.get? I=aa o)->Q () {s with heap:=h'}):aA (aB P w) A (oM (.ref I) 2 .none) Q E s:=by refine ud hI rfl (by simp[jD]) (h _ (oJ ..) ⟨_,rS _ hI (by rfl)⟩)
abbrev rh(es:Array (Int×ak))(ep:Nat)(t:gU):Obj:={cls:=.type "set",dict:=ae,data:=.set es ep t}
theorem R5{I a:ah}{es:Array (Int×ak)}{ep:Nat}{t:gU}(cQ:a≠I)(hf:t.fits es.size=ai)(hb:cZ w=ai)(hh:A.handled=ae):Walks P w A I [I,a] [I] es.size (λi v=>((ww (w.params.setOrder a ep) es).toList.map (·.2))[i]?=aa v) (λi h=>h.get? I=aa (jD (eJ 0) i a es.size ep)/\h.get? a=aa (rh es ep t)):=by
 have hsz:(ww (w.params.setOrder a ep) es).size=es.size:=by have:=(Bv (w.params.setOrder a ep) es).length_eq;simpa using this
 have body:∀(s:aq) (i:Nat) (Q:Option (ak×Nat)->aq->Prop) (E:ak->aq->Prop),s.heap.get? a=aa (rh es ep t) ->
   Q (((ww (w.params.setOrder a ep) es)[i]?).map λe=>(e.2,0)) s->aA (aB P w) A.in1 (oK a (0:Int).toNat (i:Int).toNat (ep:Int).toNat) Q E s:=λs i Q E ha hq=>by
  unfold oK;refine au (iL ha rfl hf ?_);unfold oN;refine au (au (lu (aF ?_)));show aA _ _ (if cZ w=ai then _ else _) _ _ s;rw[if_pos hb];simp only[nA,bne_self_eq_false,qh,if_false];unfold setWalk;refine au (au (iL ha rfl hf ?_));unfold oN;refine au (au (lu (aF ?_)));show aA _ _ (if cZ w=ai then _ else _) _ _ s;rw[if_pos hb];refine au (lu (aF (aF ?_)));exact hq
 refine⟨λb hb=>by simp at hb;simp[hb],λi h h' st k=>⟨k I (by simp) _ st.1,k a (by simp) _ st.2⟩,λi s Q E hi st hQ=>?_,λs Q E st hQ=>?_,λi s Q E st hQ=>xA st.1 hQ⟩
 ·refine qS st.2 hf st.1 ?_;refine au (body s i _ _ st.2 ?_);have bI:i<(ww (w.params.setOrder a ep) es).size:=∅
  rw[Ac bI];dsimp only[nE];refine au (CD st.1 λh1 jY e1=>?_);refine au (Bu (s:={s with heap:=h1}) e1 λh2 fL e2=>?_);refine aF ⟨_,rfl,hQ _ h2 s.toks ?_ ⟨e2,?_⟩ λb o hb e=>?_⟩
  ·rw[jP];simp[Ac bI]
  ·exact(fL.2 a cQ).trans ((jY.2 a cQ).trans st.2)
  ·exact(fL.2 b (by simpa using hb)).trans ((jY.2 b (by simpa using hb)).trans e)
 ·refine qS st.2 hf st.1 ?_;refine au (body s es.size _ _ st.2 ?_);rw[Array.getElem?_eq_none ∅];dsimp only[D8];refine au (yr st.1 λh1 jY _=>?_);exact xJ (s:={s with heap:=h1}) hh λh2 k2=>hQ h2 s.toks λb o hb e=>k2 b o ((jY.2 b (by simpa using hb)).trans e)
theorem Wv{I a T:ah}{es:Array (Int×ak)}{ep:Nat}{t:gU}{ord:List Nat}(cQ:a≠I)(hT:T≠I)(hf:t.fits es.size=ai)(hp:ord.Perm (bF es.size))(hh:A.handled=ae):Walks P w A I [I,a,T] [I] es.size (λi v=>(ord.filterMap λj=>(es[j]?).map (·.2))[i]?=aa v) (λi h=>h.get? I=aa (jD (.ref T) i a es.size ep)/\h.get? a=aa (rh es ep t)/\h.get? T=aa {cls:=.type "tuple",data:=.seq (ord.map λ(k:Nat)=>eJ k).toArray}):=by
 have uw:ord.length=es.size:=by simpa using hp.length_eq
 have qt:∀j∈ord,j<es.size:=λj hj=>by simpa using hp.mem_iff.mp hj
 have fm:∀(l:List Nat),(∀j∈l,j<es.size)->∀(i j:Nat),l[i]?=aa j->∃e:Int×ak,es[j]?=aa e/\(l.filterMap λj=>(es[j]?).map (·.2))[i]?=aa e.2:=by
  intro l
  induction l with
  |nil=>intro _ i j h;simp at h
  |cons x r ih=>
   intro hl i j h;have hx:x<es.size:=hl x (oy ..);have ex:es[x]?=aa es[x]:=Ac hx;cases i with
   |zero=>simp at h;subst h;exact⟨_,ex,by rw[ma,ex];rfl⟩
   |succ i=>obtain⟨e,q1,q2⟩:=ih (λj hj=>hl j (me _ hj)) i j (by simpa using h);exact⟨e,q1,by rw[ma,ex];simpa using q2⟩
 have tupR:∀(s:aq) (Q:Option (Array ak)->aq->Prop) (E:ak->aq->Prop),s.heap.get? T=aa {cls:=.type "tuple",data:=.seq (ord.map λ(k:Nat)=>eJ k).toArray}->Q (aa (ord.map λ(k:Nat)=>eJ k).toArray) s->aA (aB P w) A.in1 (seqItems? (.ref T)) Q E s:=λs Q E ht hq=>by exact wpAny_seqItems ht rfl hq
 refine⟨λb hb=>by simp at hb;simp[hb],λi h h' st k=>⟨k I (by simp) _ st.1,k a (by simp) _ st.2.1,k T (by simp) _ st.2.2⟩,λi s Q E hi st hQ=>?_,λs Q E st hQ=>?_,λi s Q E st hQ=>xA st.1 hQ⟩
 ·refine qS st.2.1 hf st.1 ?_;refine au (tupR s _ _ st.2.2 ?_);have bI:i<ord.length:=∅
  have e1:((ord.map λ(k:Nat)=>eJ k).toArray)[(i:Int).toNat]?=aa (eJ (ord[i]:Nat)):=by simp[bI]
  dsimp only;rw[e1];obtain⟨e,q1,q2⟩:=fm ord qt i ord[i] (f9 bI);show aA _ _ (setNextDrawn a _ _ >>= _) _ _ s;refine au ?_;unfold setNextDrawn;refine au (iL st.2.1 rfl hf ?_);simp only[nA,bne_self_eq_false,qh,if_false];rw[q1];refine aF ?_;refine au (Bu st.1 λh2 fL e2=>?_);refine aF ⟨_,rfl,hQ _ h2 s.toks q2 ⟨e2,(fL.2 a cQ).trans st.2.1,(fL.2 T hT).trans st.2.2⟩ λb o hb e=>(fL.2 b (by simpa using hb)).trans e⟩
 ·refine qS st.2.1 hf st.1 ?_;refine au (tupR s _ _ st.2.2 ?_);have e1:((ord.map λ(k:Nat)=>eJ k).toArray)[(es.size:Int).toNat]?=ae:=by simp[uw]
  dsimp only;rw[e1];refine au (CD st.1 λh1 jY e1=>?_);refine au (yr (s:={s with heap:=h1}) e1 λh2 fL _=>?_);exact xJ (s:={s with heap:=h2}) hh λh3 k3=>hQ h3 s.toks λb o hb e=>k3 b o ((fL.2 b (by simpa using hb)).trans ((jY.2 b (by simpa using hb)).trans e))
theorem MX(j k:Nat):KQ #[j] k=if j<k then 1 else 0:=by
 unfold KQ;simp only[cU,fi,rQ];unfold KR;simp;split
 ·rename_i h;unfold KR;simp
 ·unfold KR;simp
theorem Nn{I a:ah}{es:Array (Int×ak)}{ep:Nat}{t:gU}(cQ:a≠I)(hf:t.fits es.size=ai)(hb:cZ w=am)(ix:t.led=ai)(h1:es.size=1)(hh:A.handled=ae):Walks P w A I [I,a] [I] 1 (λi v=>(es.toList.map (·.2))[i]?=aa v) (λi h=>h.get? I=aa (jD (eJ (if i=0 then 0 else((t.place.getD 0 0:Nat):Int)+1)) i a es.size ep)/\h.get? a=aa (rh es ep t)):=by
 have qz:t.place.size=1:=by simp only[ue,f7,beq_iff_eq]at hf;lia
 obtain⟨j,hj⟩:∃j,t.place=#[j]:=by
  match hq:t.place,qz with
  |⟨[j]⟩,_=>exact⟨j,rfl⟩
 have gj:((t.place.getD 0 0:Nat):Int)=(j:Int):=by rw[hj];rfl
 obtain⟨e,he⟩:∃e,es=#[e]:=by
  match hq:es,h1 with
  |⟨[e]⟩,_=>exact⟨e,rfl⟩
 have body:∀(s:aq) (slot:Nat) (i:Nat) (Q:Option (ak×Nat)->aq->Prop) (E:ak->aq->Prop),s.heap.get? a=aa (rh es ep t) ->
   Q (if j<slot then ae else aa (e.2,j+1)) s->aA (aB P w) A.in1 (oK a slot i ep) Q E s:=λs slot i Q E ha hq=>by
  unfold oK;refine au (iL ha rfl hf ?_);unfold oN;refine au (au (lu (aF ?_)));show aA _ _ (if cZ w=ai then _ else _) _ _ s;rw[if_neg (by rw[hb];decide)];refine gE (λhc=>absurd (show(!t.plain&&decide (es.size > 1))=ai from hc) (by rw[h1];simp)) (λ_=>?_);refine au ?_;refine dr (Q:=λ_ s'=>s'=s) (E:=E) ?_ (λ_ s' w8=>?_) (λ_ _ x=>x)
  ·refine gE (λhc=>absurd (show(!t.led&&!es.isEmpty)=ai from hc) (by rw[ix];simp)) (λ_=>aF rfl)
  ·subst w8;rw[hj,MX,he];by_cases bI:j<slot
   ·rw[if_pos bI]at hq ⊢;exact aF hq
   ·rw[if_neg bI]at hq ⊢;exact aF hq
 refine⟨λb hb=>by simp at hb;simp[hb],λi h h' st k=>⟨k I (by simp) _ st.1,k a (by simp) _ st.2⟩,λi s Q E hi st hQ=>?_,λs Q E st hQ=>?_,λi s Q E st hQ=>xA st.1 hQ⟩
 ·obtain rfl:i=0:=∅
  refine qS st.2 hf st.1 ?_;show aA _ _ (oK a (0:Int).toNat ((0:Nat):Int).toNat (ep:Int).toNat >>= _) _ _ s;simp only[nA,Int.toNat_zero];refine au (body s 0 0 _ _ st.2 ?_);rw[if_neg (zW j)];dsimp only;refine au (CD st.1 λh1 jY e1=>?_);refine au (Bu (s:={s with heap:=h1}) e1 λh2 fL e2=>?_);refine aF ⟨_,rfl,hQ _ h2 s.toks ?_ ⟨?_,?_⟩ λb o hb e=>?_⟩
  ·rw[he];rfl
  ·rw[e2,if_neg (by decide),gj];rfl
  ·exact(fL.2 a cQ).trans ((jY.2 a cQ).trans st.2)
  ·exact(fL.2 b (by simpa using hb)).trans ((jY.2 b (by simpa using hb)).trans e)
 ·refine qS st.2 hf st.1 ?_;rw[if_neg (by decide),gj];show aA _ _ (oK a ((j:Int)+1).toNat ((1:Nat):Int).toNat (ep:Int).toNat >>= _) _ _ s;have e1:((j:Int)+1).toNat=j+1:=∅
  rw[e1,nA,nA];refine au (body s (j+1) 1 _ _ st.2 ?_);rw[if_pos (nG j)];dsimp only;refine au (yr st.1 λh1 jY _=>?_);exact xJ (s:={s with heap:=h1}) hh λh2 k2=>hQ h2 s.toks λb o hb e=>k2 b o ((jY.2 b (by simpa using hb)).trans e)
theorem Il:∀{vs:List ak}{ss:List Str} (i:Nat) (v:ak),e_ vs ss->vs[i]?=aa v->∃t,v=.str (ss.getD i p9) t
 |_,_,i,v,.nil,h=>by simp at h
 |_,_,0,v,.cons y t _,h=>by simp at h;exact⟨t,by rw[←h];rfl⟩
 |_,_,i+1,v,.cons y t hr,h=>by simp only[List.getElem?_cons_succ]at h;obtain⟨t',e⟩:=Il i v hr h;exact⟨t',by rw[e];rfl⟩
set_option maxRecDepth 100000 in
theorem QA{l:ah}{X4:Array ak}{ss:List Str}{Q:ak->aq->Prop}(hh:A.handled=ae)(hl:s.heap.IsList l X4)(hi:e_ X4.toList ss)(hb:(met (λi=>ss.getD i p9) X4.size).length<4000)(h:∀(h':aI) (tk:Nat),b_ P w h' s.heap.objs.size (met (λi=>ss.getD i p9) X4.size)->(∀b o,b<s.heap.objs.size->s.heap.get? b=aa o->h'.get? b=aa o)->Q (.ref s.heap.objs.size) {s with heap:=h',toks:=tk}):aA (aB P w) A (call (.type "set") [.ref l]) Q E s:=by
 obtain⟨c,tl,hmro⟩:=F.called_set.mro;have hmade:=F.called_set.made;have qr:=F.called_set.sub;refine wb (codeAny_of_tree ?_);show aA _ _ (callAny (.type "set") _) _ _ _;refine aF ⟨Code.quiet_builtin _ (by decide +kernel),wv F.entry_type_call ?_⟩;rw[Around.under_plain (weight_type_call_type "set" [.ref l] []) rfl];have h1:=F.called_set.notType;have h2:=F.called_set.canCreate;have hct:=PySem.F.typeCall_set_1 (.ref l)
 repeat any_goals (first|assumption|wp_step)
 refine rL (PB (P:=P) (w:=w) (.ref l) (E:=E) (Q:=λobj s1=>obj=.ref s.heap.objs.size/\s1={s with heap:=s.heap.push {cls:=.type "set",dict:=ae,data:=.set #[] 0 (.fresh 0 0 (!cZ w))}}/\b_ P w s1.heap s.heap.objs.size []) λS0=>⟨rfl,rfl,S0⟩) λr s1 hr=>?_;cases r with
 |error e=>exact hr
 |ok fl=>
  cases fl with
  |ret obj=>
   obtain⟨rfl,rfl,S0⟩:=hr;have hS:=df (h:=s.heap) (o:=({cls:=.type "set",dict:=ae,data:=.set #[] 0 (.fresh 0 0 (!cZ w))}:Obj));have w6:(s.heap.push {cls:=.type "set",dict:=ae,data:=.set #[] 0 (.fresh 0 0 (!cZ w))}).get? s.heap.objs.size=aa {cls:=.type "set",dict:=ae,data:=.set #[] 0 (.fresh 0 0 (!cZ w))}:=df _ rfl;have hT:Shared.TypeIs {s with heap:=s.heap.push {cls:=.type "set",dict:=ae,data:=.set #[] 0 (.fresh 0 0 (!cZ w))}} (.ref s.heap.objs.size) "set":=⟨_,w6,rfl⟩
   have hli:=F.called_set.init.lookup;have hbi:=F.called_set.init.bind (.ref s.heap.objs.size)
   repeat any_goals (first|assumption|wp_step)
   refine rL (codeAny_call_builtin (R:=wants (λr s2=>r=.none/\∃h' tk,s2={s with heap:=h',toks:=tk}/\b_ P w h' s.heap.objs.size (met (λi=>ss.getD i p9) X4.size) /\ (∀b o,b<s.heap.objs.size->s.heap.get? b=aa o->h'.get? b=aa o)) E) F.called_set.init.plain F.entry_set_init (check_set_init_1 hT ?_)) λr2 s2 oX=>?_
   ·obtain⟨⟨ocls,odict,odata,oslots⟩,uw,jX,nl,ux⟩:=hl;simp only at jX ux;subst jX;subst ux;have hol':(s.heap.push {cls:=.type "set",dict:=ae,data:=.set #[] 0 (.fresh 0 0 (!cZ w))}).get? l=aa {cls:=.type "list",dict:=odict,data:=.seq X4 nl,slots:=oslots}:=bH _ uw;have hsls:=PySem.F.sub_list_set;have hslf:=PySem.F.sub_list_frozenset;have cQ:(Value.type "list" == Value.type "dict")=am:=by decide
    have wX:(s.heap.push {cls:=.type "set",dict:=ae,data:=.set #[] 0 (.fresh 0 0 (!cZ w))}).IsList l X4:=⟨_,hol',rfl,nl,rfl⟩
    unfold Builtin.«set.__init__» noKeywords Builtin.Frozenset.updateFrom;generalize hPI:p7=PI
    wp_walk
    subst hPI;refine z6 wX (au (wpAny_runValue ?_));have hlS:l<s.heap.objs.size:=bD uw;have hh3:A.in1.in1.in1.handled=ae:=by simp[hh]
    have hsz:(s.heap.push {cls:=.type "set",dict:=ae,data:=.set #[] 0 (.fresh 0 0 (!cZ w))}).objs.size=s.heap.objs.size+1:=D5 ..;have hneI:l≠(s.heap.push {cls:=.type "set",dict:=ae,data:=.set #[] 0 (.fresh 0 0 (!cZ w))}).objs.size:=by rw[hsz];exact cX (mo hlS)
    have hSf:s.heap.objs.size∉[(s.heap.push {cls:=.type "set",dict:=ae,data:=.set #[] 0 (.fresh 0 0 (!cZ w))}).objs.size,l]:=by rw[hsz];simp only[b8,iq,ju,or_false,not_or];exact⟨cX (nG _),mf hlS⟩
    refine N5 ((Walks.list hh3 _ l hneI X4).toS) s.heap.objs.size hSf (λi=>ss.getD i p9) (λi v hv=>Il i v hi (by rw[Ei];exact hv)) (λi hi=>t8 (Hj _ hi) hb) (X4.size-0) 0 _ ∅ (nB _)
     ⟨⟨_,df _ rfl,rfl,rfl⟩,(wX.push _)⟩ (S0.at λo e=>bH _ e) ?_
    intro s' hm uv;obtain⟨h',g',d',tk',os'⟩:=s';obtain rfl:g'=s.gens:=hm.gens;obtain rfl:d'=s.drawn:=hm.drawn;obtain rfl:os'=s.os:=hm.os;show aA _ _ _ _ _ _;refine aF ?_;show aA _ _ (ret Value.none) _ _ _;refine aF ⟨rfl,h',tk',rfl,uv,λb o hb e=>hm.heap b o ?_ (bH _ (bH _ e))⟩;rw[hsz];simp only[b8,iq,ju,or_false,not_or];exact⟨cX hb,cX (mo hb)⟩
   ·cases r2 with
    |error e=>exact oX
    |ok fl2=>
     cases fl2 with
     |ret r=>
      obtain⟨rfl,h',tk,rfl,uv,w_⟩:=oX
      repeat any_goals (first|assumption|wp_step)
      exact h _ _ uv w_
     |_=>exact oX.elim
  |_=>exact hr.elim
end
theorem Jw{n:Nat}(h:n<=4096):n<bw:=t8 h (by decide)
theorem Tt:typeLookup (.type "set") "__len__" = pure (aa (.builtin "set.__len__")):=F.slot_set_len.lookup
section
variable{P:aZ}{w:aT}{A:bd}{E:ak->aq->Prop}{s:aq}
structure Ih(P:aZ)(w:aT)(s s':aq)(a I:ah)(ks:List Str)(fp:List ah)(n:Nat)(Pv:Nat->ak->Prop)(St:Nat->aI->Prop):Prop where
 wk:∀A:bd,A.handled=ae->Walks P w A I fp [I] n Pv St
 st:St 0 s'.heap
 old:∀b o,s.heap.get? b=aa o->s'.heap.get? b=aa o
 new:s.heap.objs.size<=I
 lt:∀b∈fp,b<s'.heap.objs.size
 rest:s'={s with heap:=s'.heap,drawn:=s'.drawn}
 ord:∀aK:Array ak,ItemsOf Pv aK n->∃ss,e_ aK.toList ss/\ss.Perm ks
 len:n<4090
 fps:∀b∈fp,b=a\/s.heap.objs.size<=b
theorem yN{l:List ak}{aK:Array ak}{n:Nat}(hl:l.length=n)(h:ItemsOf (λi v=>l[i]?=aa v) aK n):aK.toList=l:=by
 refine lv λi=>?_;by_cases hi:i<n
 ·have:i<aK.size:=by rw[h.1];exact hi
  have q:=h.2 i aK[i] (Ac this);rw[q];simp[this]
 ·rw[jQ (by rw[iI,h.1];lia),jQ ∅]
end
def cS(ls:List Tx):List Tx:=ls.foldl (λks x=>if x∈ks then ks else ks++[x]) []
theorem FR(ls:List Tx):met (λi=>(ls.map tS).getD i p9) ls.length=(cS ls).map tS:=by
 have gen:∀(l:List Tx) (aK:List Tx),(l.map tS).foldl jG (aK.map tS)=(l.foldl (λks x=>if x∈ks then ks else ks++[x]) aK).map tS:=by
  intro l
  induction l with
  |nil=>intro aK;rfl
  |cons x r ih=>
   intro aK;rw[eZ,jt,jt];have:jG (aK.map tS) (tS x)=(if x∈aK then aK else aK++[x]).map tS:=by
    unfold jG;have hm:tS x∈aK.map tS↔x∈aK:=by rw[dG];exact⟨λ⟨y,hy,e⟩=>by rw[←qR e];exact hy,λh=>⟨x,h,rfl⟩⟩
    by_cases h:x∈aK
    ·rw[if_pos h,if_pos (hm.mpr h)]
    ·rw[if_neg h,if_neg (λz=>h (hm.mp z)),qg];rfl
   rw[this,ih]
 have e:(bF ls.length).map (λi=>(ls.map tS).getD i p9)=ls.map tS:=by
  refine lv λi=>?_;rw[jP];by_cases hi:i<ls.length
  ·rw[D6 hi];simp[hi]
  ·rw[jQ (by simpa using hi),jQ (by simpa using hi)];rfl
 unfold met;rw[e];exact gen ls []
theorem HU(l aK:List Tx):(aK.Nodup->(l.foldl (λks x=>if x∈ks then ks else ks++[x]) aK).Nodup)/\∀x,x∈l.foldl (λks x=>if x∈ks then ks else ks++[x]) aK↔x∈aK\/x∈l:=by
 induction l generalizing aK with
 |nil=>exact⟨λh=>h,λx=>by simp⟩
 |cons y r ih=>
  rw[jt];obtain⟨h1,h2⟩:=ih (if y∈aK then aK else aK++[y]);refine⟨λh=>h1 ?_,λx=>?_⟩
  ·split
   ·exact h
   ·rename_i hy;rw[Ae];exact⟨h,by simp,λa ha b hb=>by simp at hb;subst hb;exact λe=>hy (e ▸ ha)⟩
  ·rw[h2 x,b8];split
   ·rename_i hy;constructor
    ·rintro(h|h)
     ·exact .inl h
     ·exact .inr (.inr h)
    ·rintro(h|rfl|h)
     ·exact .inl h
     ·exact .inl hy
     ·exact .inr h
   ·rw[gy,iq,or_assoc]
theorem V5(l:List Tx):(cS l).Nodup:=(HU l []).1 List.nodup_nil
theorem sW(l:List Tx)(x:Tx):x∈cS l↔x∈l:=by rw[cS,(HU l []).2 x];simp
theorem IH(l:List Tx):(cS l).length<=l.length:=by
 have gen:∀(l aK:List Tx),(l.foldl (λks x=>if x∈ks then ks else ks++[x]) aK).length<=aK.length+l.length:=by
  intro l
  induction l with
  |nil=>intro aK;simp
  |cons x r ih=>intro aK;rw[jt];refine dj (ih _) ?_;split <;> simp <;> lia
 simpa[cS]using gen l []
section
variable{X:Cx}
def iQ(X:Cx)(a:ah)(ls:List Tx):HO:=.ext λh=>b_ X.prog X.w h a (ls.map tS)
theorem BE(hc:X.calm=ai):fD X (.type "set") (λxs H Q=>∃(p:ah) (ls:List Tx),xs=[.ref p]/\cC X.K H p (c9 ls)/\(cS ls).length<4000/\∀a,H a=ae->Q (.ref a) (upd H a (iQ X a (cS ls)))):=by
 intro af s Y H xs us Q I r h;obtain⟨p,ls,rfl,hq,h60,q⟩:=h;obtain⟨u,rfl,ru⟩:=vals1 r;cases ru;obtain⟨its,rv,pl,hz⟩:=I.list hq;have hl:=rv.length;rw[vL]at hl;refine QA (P:=X.prog) (w:=X.w) (I.ok.hd hc) pl.isList (by simpa using AI rv) (by rw[cU,show its.length=ls.length by lia,FR,dw];exact h60) λh' tk S k=>?_;have S':b_ X.prog X.w h' s.heap.objs.size ((cS ls).map tS):=by
  have e:its.toArray.size=ls.length:=by rw[cU];lia
  rw[e,FR]at S;exact S
 refine⟨.ref s.heap.objs.size,_,I.laid (t':=tk) (o:=iQ X s.heap.objs.size (cS ls)) (λb o e=>k b o (bD e) e) (bn _) ?_,rfl,q _ I.fresh⟩;obtain⟨es,ep,t,ss,e,_⟩:=S'.ex;exact⟨S',⟨_,e⟩,λh1 h2 q1 q2=>q1.at q2⟩
end
structure cz(K:aC)(mg:Str->Option ak)(x:Str)(st:ba):Prop where
 ex:∃f fd,mg x=aa (.ref f)/\qP K x x st f fd
theorem IC{H:Hp}{p:ah}{o:HO}(h:H p=ae):Same H (upd H p o):=λb u q=>by rw[cp (mT q h)];exact q
theorem IE{α:Type}{xs:List α}{k:Int}(h0:0<=k)(h:k.toNat<xs.length):fF xs k=aa xs[k.toNat]:=by
 have e:((k.toNat:Nat):Int)=k:=∅
 have q:=Tz (xs:=xs) (j:=k.toNat) (v:=xs[k.toNat]) (by simp[h]);rwa[e]at q
def GE(N:List Str)(sc scope:d8)(x:Str)(N':List Str)(XM:List Nat):Bool :=
 decide (scope.kind=.function)&&scope.names.all (λy=>(decide (y.2≠.cell)||decide (scope.names.lookup y.1=aa .cell))&&(decide (y.2≠.local)||decide (scope.names.lookup y.1=aa .local))&&(decide (y.2≠.free)||decide (sc.names.lookup y.1=aa .cell)||decide (sc.names.lookup y.1=aa .free)))
 && (decide (scope.names.lookup x=aa .local)||decide (scope.names.lookup x=aa .cell))&&decide N'.Nodup&&decide (N'.head?=aa x)&&decide (N'.length=XM.length+1)&&(XM.zip N'.tail).all λp=>decide (N[p.1]?=aa p.2)&&decide (scope.names.lookup p.2=aa .free)
theorem lN.of{X:Cx}{scope:d8}{x:Str}{N':List Str}{XM:List Nat}(N:List Str)(sc:d8)(hN:X.N=N)(xf:X.env.scope=sc)(h:GE N sc scope x N' XM=ai):lN X scope x N' XM:=by
 subst hN xf;simp only[GE,f7,decide_eq_true_eq,t_,z9]at h;obtain⟨⟨⟨⟨⟨⟨h1,h2⟩,h3⟩,h4⟩,h5⟩,h6⟩,h7⟩:=h;refine⟨h1,λy hy e=>(h2 y hy).1.1.elim (λz=>absurd e z) λz=>z,λy hy e=>?_,h3,λy hy e=>?_,h4,h5,h6,λi j y e1 e2=>?_⟩
 ·rcases(h2 y hy).1.2 with z|z
  ·exact absurd e z
  ·exact z
 ·rcases(h2 y hy).2 with(z|z)|z
  ·exact absurd e z
  ·exact .inl z
  ·exact .inr z
 ·have hm:(j,y)∈XM.zip N'.tail:=by
   refine List.mem_iff_getElem?.mpr ⟨i,?_⟩;rw[List.getElem?_zip_eq_some];refine⟨e2,?_⟩;rw[←List.drop_one,kJ,Nat.add_comm];exact e1
  exact h7 _ hm
end L2
namespace Pu
open L2
abbrev St:=L2.St
inductive PV where
 |non|bl (b:Bool)|int (i:Int)|str (x:Tx)|tup (xs:List PV)|lst (xs:List PV)|raw (v:V)|exc (c:ak)
def nV(a:ah)(c:ak):HO:=.ext λh=>∃o vs,h.get? a=aa o/\o.cls=c/\o.data=.fields vs/\o.dict=ae
def ce:Nat:=1000000
theorem mV:ce<=bw:=by rw[oB];decide
def ez:HO->Prop
 |.lst _=>True
 |.dK _=>True
 |.dT _=>True
 |.ins _ _ _=>True
 |.own _=>True
 |_=>False
mutual
def bh(K:aC)(H:Hp)(F:ah->Prop):PV->V->Prop
 |.non,v=>v=.non
 |.bl b,v=>v=.bl b
 |.int i,v=>v=.int i
 |.str x,v=>v=tV x/\x.length<=ce
 |.tup xs,v=>∃a vs,v=.ref a/\H a=aa (.tup vs)/\Reps K H F xs vs
 |.lst xs,v=>∃a vs,v=.ref a/\Rd H a (.lst vs)/\F a/\Reps K H F xs vs
 |.raw u,v=>v=u
 |.exc c,v=>∃a,v=.ref a/\H a=aa (nV a c)
def Reps(K:aC)(H:Hp)(F:ah->Prop):List PV->List V->Prop
 |[],vs=>vs=[]
 |x::xs,vs=>∃v r,vs=v::r/\bh K H F x v/\Reps K H F xs r
end
section
variable{K:aC}{H H':Hp}{F F':ah->Prop}
mutual
theorem bh.mono(hF:∀a,F a->F' a)(hL:∀a xs,F a->Rd H a (.lst xs)->Rd H' a (.lst xs))(hT:∀a o,H a=aa o->¬ez o->H' a=aa o):∀(x:PV) (v:V),bh K H F x v->bh K H' F' x v
 |.non,_,h=>h
 |.bl _,_,h=>h
 |.int _,_,h=>h
 |.str _,_,h=>h
 |.raw _,_,h=>h
 |.exc _,_,⟨a,e,h⟩=>⟨a,e,hT a _ h id⟩
 |.tup xs,_,⟨a,vs,e,h1,h2⟩=>⟨a,vs,e,hT a _ h1 id,Reps.mono hF hL hT xs vs h2⟩
 |.lst xs,_,⟨a,vs,e,h1,h0,h2⟩=>⟨a,vs,e,hL a vs h0 h1,hF a h0,Reps.mono hF hL hT xs vs h2⟩
theorem Reps.mono(hF:∀a,F a->F' a)(hL:∀a xs,F a->Rd H a (.lst xs)->Rd H' a (.lst xs))(hT:∀a o,H a=aa o->¬ez o->H' a=aa o):∀(xs:List PV) (vs:List V),Reps K H F xs vs->Reps K H' F' xs vs
 |[],_,h=>h
 |x::xs,_,⟨v,r,e,h1,h2⟩=>⟨v,r,e,bh.mono hF hL hT x v h1,Reps.mono hF hL hT xs r h2⟩
end
theorem Reps.len:∀{xs:List PV}{vs:List V},Reps K H F xs vs->vs.length=xs.length
 |[],_,h=>by rw[show _=[] from h];rfl
 |_::_,_,⟨_,_,e,_,h2⟩=>by rw[e,fi,fi,Reps.len h2]
theorem Reps.get:∀{xs:List PV}{vs:List V}{i:Nat}{x:PV},Reps K H F xs vs->xs[i]?=aa x->∃v,vs[i]?=aa v/\bh K H F x v
 |[],_,_,_,_,e=>by simp at e
 |x::xs,_,0,y,⟨v,r,e,h1,_⟩,q=>by simp at q;subst q;subst e;exact⟨v,rfl,h1⟩
 |x::xs,_,i+1,y,⟨v,r,e,_,h2⟩,q=>by obtain⟨w,a,b⟩:=Reps.get (i:=i) (x:=y) h2 (by simpa using q);subst e;exact⟨w,by simpa using a,b⟩
theorem Reps.back:∀{xs:List PV}{vs:List V}{i:Nat}{v:V},Reps K H F xs vs->vs[i]?=aa v->∃x,xs[i]?=aa x/\bh K H F x v
 |[],_,_,_,h,e=>by rw[show _=[] from h]at e;simp at e
 |x::xs,_,0,y,⟨v,r,e,h1,_⟩,q=>by subst e;simp at q;subst q;exact⟨x,rfl,h1⟩
 |x::xs,_,i+1,y,⟨v,r,e,_,h2⟩,q=>by subst e;obtain⟨w,a,b⟩:=Reps.back (i:=i) (v:=y) h2 (by simpa using q);exact⟨w,by simpa using a,b⟩
theorem Reps.app:∀{xs ys:List PV}{vs ws:List V},Reps K H F xs vs->Reps K H F ys ws->Reps K H F (xs++ys) (vs++ws)
 |[],_,_,_,h,g=>by rw[show _=[] from h];exact g
 |x::xs,_,_,_,⟨v,r,e,h1,h2⟩,g=>by subst e;exact⟨v,_,rfl,h1,Reps.app h2 g⟩
theorem Reps.one{x:PV}{v:V}(h:bh K H F x v):Reps K H F [x] [v]:=⟨v,[],rfl,h,rfl⟩
theorem Reps.drop:∀(n:Nat) {xs:List PV}{vs:List V},Reps K H F xs vs->Reps K H F (xs.drop n) (vs.drop n)
 |0,_,_,h=>h
 |_+1,[],_,h=>by rw[show _=[] from h];rfl
 |n+1,_::_,_,⟨_,_,e,_,h2⟩=>by subst e;exact Reps.drop n h2
theorem Reps.take:∀(n:Nat) {xs:List PV}{vs:List V},Reps K H F xs vs->Reps K H F (xs.take n) (vs.take n)
 |0,_,_,_=>by rw[Ej,Ej];rfl
 |_+1,[],_,h=>by rw[show _=[] from h];rfl
 |n+1,_::_,_,⟨v,_,e,h1,h2⟩=>by subst e;exact⟨v,_,rfl,h1,Reps.take n h2⟩
end
structure bM(O O' F F':ah->Prop)(H H':Hp):Prop where
 fro:∀a,F a->F' a
 keep:∀b o,H b=aa o->¬O b->H' b=aa o
 there:∀b o,H b=aa o->∃o',H' b=aa o'
 fnew:∀a,F' a->F a\/H a=ae\/O a
 onew:∀a,O' a->O a\/H a=ae
theorem bM.refl(O F:ah->Prop)(H:Hp):bM O O F F H H:=⟨λ_ h=>h,λ_ _ h _=>h,λ_ o h=>⟨o,h⟩,λ_ h=>.inl h,λ_ h=>.inl h⟩
theorem bM.trans{O O1 O2 F F1 F2:ah->Prop}{H H1 H2:Hp}(g:bM O O1 F F1 H H1)(k:bM O1 O2 F1 F2 H1 H2):bM O O2 F F2 H H2 where
 fro:=λa h=>k.fro a (g.fro a h)
 keep:=λb o h n=>k.keep b o (g.keep b o h n) λz=>(g.onew b z).elim n λq=>by rw[q]at h;cases h
 there:=λb o h=>let ⟨o',h'⟩:=g.there b o h;k.there b o' h'
 fnew:=λa h=>by
  have back:H1 a=ae->H a=ae\/O a:=λz=>by
   cases q:H a with
   |none=>exact .inl rfl
   |some o=>obtain⟨o',h'⟩:=g.there a o q;rw[z]at h';cases h'
  rcases k.fnew a h with z|z|z
  ·exact g.fnew a z
  ·exact .inr (back z)
  ·exact .inr ((g.onew a z).symm)
 onew:=λa h=>by
  rcases k.onew a h with z|z
  ·exact g.onew a z
  ·cases q:H a with
   |none=>exact .inr rfl
   |some o=>obtain⟨o',h'⟩:=g.there a o q;rw[z]at h';cases h'
def pE(O F:ah->Prop)(H:Hp):Prop:=∀b,O b->¬F b/\∃o,H b=aa o/\ez o
section
variable{K:aC}{O O' F F':ah->Prop}{H H':Hp}
theorem bM.imm(g:bM O O' F F' H H')(f:pE O F H){a:ah}{o:HO}(h:H a=aa o)(n:¬ez o):H' a=aa o :=
 g.keep _ _ h λz=>by
  obtain⟨_,o',e',n'⟩:=f a z;rw[h]at e';cases e';exact n n'
theorem bM.lst(g:bM O O' F F' H H')(f:pE O F H){a:ah}{xs:List V}(hF:F a)(h:Rd H a (.lst xs)):Rd H' a (.lst xs):=by
 have no:¬O a:=λz=>(f a z).1 hF;rcases h with h|⟨o,h⟩
 ·exact .inl (g.keep _ _ h no)
 ·exact .inr ⟨o,g.keep _ _ h no⟩
theorem bh.grow(g:bM O O' F F' H H')(f:pE O F H){x:PV}{v:V}(h:bh K H F x v):bh K H' F' x v:=bh.mono g.fro (λ_ _ hF q=>g.lst f hF q) (λ_ _ q n=>g.imm f q n) x v h
theorem Reps.grow(g:bM O O' F F' H H')(f:pE O F H){x:List PV}{v:List V}(h:Reps K H F x v):Reps K H' F' x v:=Reps.mono g.fro (λ_ _ hF q=>g.lst f hF q) (λ_ _ q n=>g.imm f q n) x v h
end
theorem _root_.L2.Same.rd{H H':Hp}{a:ah}{u:HO}(e:Same H H')(h:Rd H a u):Rd H' a u:=h.elim (λz=>.inl (e _ _ z)) λ⟨o,z⟩=>.inr ⟨o,e _ _ z⟩
structure Al(F F':ah->Prop)(H H':Hp):Prop where
 fro:∀a,F a->F' a
 same:Same H H'
 fnew:∀a,F' a->F a\/(H a=ae/\∃o,H' a=aa o)
theorem Al.refl(F:ah->Prop)(H:Hp):Al F F H H:=⟨λ_ h=>h,Same.refl H,λ_ h=>.inl h⟩
theorem Al.grow{F F' O:ah->Prop}{H H':Hp}(a:Al F F' H H'):bM O O F F' H H' :=⟨a.fro,λb o h _=>a.same b o h,λb o h=>⟨o,a.same b o h⟩,λb h=>(a.fnew b h).imp id λz=>.inl z.1,λ_ h=>.inl h⟩
theorem Al.rep{K:aC}{F F':ah->Prop}{H H':Hp}(a:Al F F' H H'){x:PV}{v:V}(h:bh K H F x v):bh K H' F' x v:=bh.mono a.fro (λ_ _ _ q=>a.same.rd q) (λ_ _ q _=>a.same _ _ q) x v h
theorem Al.reps{K:aC}{F F':ah->Prop}{H H':Hp}(a:Al F F' H H'){x:List PV}{v:List V}(h:Reps K H F x v):Reps K H' F' x v:=Reps.mono a.fro (λ_ _ _ q=>a.same.rd q) (λ_ _ q _=>a.same _ _ q) x v h
theorem Al.trans{F F1 F2:ah->Prop}{H H1 H2:Hp}(a:Al F F1 H H1)(b:Al F1 F2 H1 H2):Al F F2 H H2 :=
 ⟨λc h=>b.fro c (a.fro c h),a.same.trans b.same,λc h=>by
  rcases b.fnew c h with z|⟨z,w⟩
  ·rcases a.fnew c z with y|⟨y,o,q⟩
   ·exact .inl y
   ·exact .inr ⟨y,o,b.same _ _ q⟩
  ·exact .inr ⟨a.same.free z,w⟩⟩
theorem Al.new{F:ah->Prop}{H:Hp}{l:ah}{o:HO}(h:H l=ae):Al F (λa=>F a\/a=l) H (upd H l o) :=⟨λ_ h=>.inl h,IC h,λa z=>z.imp id λe=>by subst e;exact⟨h,o,cF⟩⟩
theorem Al.new0{F:ah->Prop}{H:Hp}{l:ah}{o:HO}(h:H l=ae):Al F F H (upd H l o):=⟨λ_ h=>h,IC h,λa z=>.inl z⟩
inductive PO where
 |lst (xs:List PV)|dK (XN:List (aS×PV))|lls (kM:List (List PV))|ins (C:ah) (fs:List (Str×PV))|dT (XN:List (List aS×PV))|inl (C:ah) (fs:List (Str×PV)) (y:Str) (xs:List PV)
def je:PO->Bool
 |.lls _=>am
 |.inl ..=>am
 |_=>ai
inductive Slot where
 |none|val (v:PV)|own (o:PO)
abbrev aj:=List Slot
def ij(K:aC)(H:Hp)(F:ah->Prop)(XN:List (aS×PV))(ws:List (aS×V)):Prop:=nj (λ(p:aS×PV) (q:aS×V)=>p.1=q.1/\bh K H F p.2 q.2) XN ws
def vd(K:aC)(H:Hp)(F:ah->Prop)(fs:List (Str×PV))(ws:List (Str×V)):Prop:=nj (λ(p:Str×PV) (q:Str×V)=>p.1=q.1/\bh K H F p.2 q.2) fs ws
def zm(K:aC)(H:Hp)(F:ah->Prop)(XN:List (List aS×PV))(ws:List (List aS×V)):Prop:=nj (λ(p:List aS×PV) (q:List aS×V)=>p.1=q.1/\bh K H F p.2 q.2) XN ws
def zA(K:aC)(H:Hp)(F:ah->Prop)(kM:List (List PV))(as:List ah):Prop:=nj (λ(xs:List PV) (b:ah)=>∃vs,H b=aa (.lst vs)/\Reps K H F xs vs) kM as
def gh(K:aC)(H:Hp)(F:ah->Prop)(po:PO)(a:ah)(S:ah->Prop):Prop :=
 match po with
 |.lst xs=>(∃vs,H a=aa (.lst vs)/\Reps K H F xs vs)/\∀b,S b↔b=a
 |.dK XN=>(∃ws,H a=aa (.dK ws)/\ij K H F XN ws)/\∀b,S b↔b=a
 |.lls kM=>∃as,H a=aa (.lst (as.map .ref))/\zA K H F kM as/\as.Nodup/\a∉as/\∀b,S b↔b=a\/b∈as
 |.ins C fs=>(∃dx ws,H a=aa (.ins C dx ws)/\vd K H F fs ws)/\∀b,S b↔b=a
 |.dT XN=>(∃ws,H a=aa (.dT ws)/\zm K H F XN ws)/\∀b,S b↔b=a
 |.inl C fs y xs=>∃dx ws b vs,H a=aa (.ins C dx (ws++[(y,.ref b)]))/\vd K H F fs ws/\fs.lookup y=ae/\H b=aa (.lst vs)/\Reps K H F xs vs/\a≠b/\∀c,S c↔c=a\/c=b
structure aX(K:aC)(F:ah->Prop)(S:Nat->ah->Prop)(Z:aj)(Y:St)(H:Hp):Prop where
 len:Z.length=Y.length
 ex:∀a,F a->∃o,H a=aa o
 val:∀(i:Nat) (pv:PV),Z[i]?=aa (.val pv)->∃v,Y[i]?=aa (aa v)/\bh K H F pv v
 own:∀(i:Nat) (po:PO),Z[i]?=aa (.own po)->∃a,Y[i]?=aa (aa (.ref a))/\gh K H F po a (S i)
 foot:∀(i:Nat) (b:ah),S i b->(∃po,Z[i]?=aa (.own po))/\¬F b/\∃o,H b=aa o/\ez o
 dist:∀(i j:Nat) (b:ah),S i b->S j b->i=j
def U(S:Nat->ah->Prop)(b:ah):Prop:=∃i,S i b
section
variable{K:aC}{F F':ah->Prop}{S:Nat->ah->Prop}{Z:aj}{Y:St}{H H':Hp}
theorem aX.fit(r:aX K F S Z Y H):pE (U S) F H:=λb ⟨i,h⟩=>(r.foot i b h).2
theorem ij.mono{XN:List (aS×PV)}{ws:List (aS×V)}(hF:∀x v,bh K H F x v->bh K H' F' x v)(h:ij K H F XN ws):ij K H' F' XN ws:=by
 unfold ij at h ⊢
 induction h with
 |nil=>exact .nil
 |cons r _ ih=>exact .cons ⟨r.1,hF _ _ r.2⟩ ih
theorem vd.mono{fs:List (Str×PV)}{ws:List (Str×V)}(hF:∀x v,bh K H F x v->bh K H' F' x v)(h:vd K H F fs ws):vd K H' F' fs ws:=by
 unfold vd at h ⊢
 induction h with
 |nil=>exact .nil
 |cons r _ ih=>exact .cons ⟨r.1,hF _ _ r.2⟩ ih
theorem zm.mono{XN:List (List aS×PV)}{ws:List (List aS×V)}(hF:∀x v,bh K H F x v->bh K H' F' x v)(h:zm K H F XN ws):zm K H' F' XN ws:=by
 unfold zm at h ⊢
 induction h with
 |nil=>exact .nil
 |cons r _ ih=>exact .cons ⟨r.1,hF _ _ r.2⟩ ih
theorem zA.mono{kM:List (List PV)}{as:List ah}(xg:∀x v,Reps K H F x v->Reps K H' F' x v)(ha:∀b o,b∈as->H b=aa o->H' b=aa o)(h:zA K H F kM as):zA K H' F' kM as:=by
 unfold zA at h ⊢
 induction h with
 |nil=>exact .nil
 |cons r _ ih=>obtain⟨vs,h1,h2⟩:=r;exact .cons ⟨vs,ha _ _ (by simp) h1,xg _ _ h2⟩ (ih λb o hb=>ha b o (by simp[hb]))
theorem gh.mono{po:PO}{a:ah}{Sa:ah->Prop}(hF:∀x v,bh K H F x v->bh K H' F' x v)(xg:∀x v,Reps K H F x v->Reps K H' F' x v)(ha:∀b o,Sa b->H b=aa o->H' b=aa o)(h:gh K H F po a Sa):gh K H' F' po a Sa:=by
 cases po with
 |lst xs=>obtain⟨⟨vs,e,q⟩,w⟩:=h;exact⟨⟨vs,ha a _ ((w a).mpr rfl) e,xg _ _ q⟩,w⟩
 |dK XN=>obtain⟨⟨ws,e,q⟩,w⟩:=h;exact⟨⟨ws,ha a _ ((w a).mpr rfl) e,q.mono hF⟩,w⟩
 |lls kM=>obtain⟨as,e,q,n1,n2,w⟩:=h;exact⟨as,ha a _ ((w a).mpr (.inl rfl)) e,q.mono xg λb o hb=>ha b o ((w b).mpr (.inr hb)),n1,n2,w⟩
 |ins C fs=>obtain⟨⟨dx,ws,e,q⟩,w⟩:=h;exact⟨⟨dx,ws,ha a _ ((w a).mpr rfl) e,q.mono hF⟩,w⟩
 |dT XN=>obtain⟨⟨ws,e,q⟩,w⟩:=h;exact⟨⟨ws,ha a _ ((w a).mpr rfl) e,q.mono hF⟩,w⟩
 |inl C fs y xs=>obtain⟨dx,ws,b,vs,e,q,n,e2,q2,ne,w⟩:=h;exact⟨dx,ws,b,vs,ha a _ ((w a).mpr (.inl rfl)) e,q.mono hF,n,ha b _ ((w b).mpr (.inr rfl)) e2,xg _ _ q2,ne,w⟩
theorem aX.al(r:aX K F S Z Y H)(a:Al F F' H H'):aX K F' S Z Y H' where
 len:=r.len
 ex:=λb h=>(a.fnew b h).elim (λz=>let ⟨o,q⟩:=r.ex b z;⟨o,a.same _ _ q⟩) λz=>z.2
 val:=λi pv e=>let ⟨v,h1,h2⟩:=r.val i pv e;⟨v,h1,a.rep h2⟩
 own:=λi po e=>let ⟨b,h1,h2⟩:=r.own i po e;⟨b,h1,h2.mono (λ_ _ q=>a.rep q) (λ_ _ q=>a.reps q) λc o _ q=>a.same _ _ q⟩
 foot:=λi b h=>by
  obtain⟨h1,h2,o,h3,h4⟩:=r.foot i b h;refine⟨h1,λz=>?_,o,a.same _ _ h3,h4⟩;rcases a.fnew b z with y|⟨y,_⟩
  ·exact h2 y
  ·rw[h3]at y;cases y
 dist:=r.dist
end
inductive R(α:Type) where
 |ok (a:α) (Z:aj)|er (c:ak) (Z:aj)|no
def R.bind{α β:Type}(r:R α)(k:α->aj->R β):R β:=match r with
 |.ok a Z=>k a Z
 |.er c Z=>.er c Z
 |.no=>.no
def aV{α:Type}(o:Option α)(Z:aj):R α:=match o with
 |some a=>.ok a Z
 |none=>.no
@[simp] theorem R.bind_ok{α β:Type}(a:α)(Z:aj)(k:α->aj->R β):(R.ok a Z).bind k=k a Z:=rfl
@[simp] theorem R.bind_er{α β:Type}(c:ak)(Z:aj)(k:α->aj->R β):(R.er c Z:R α).bind k=.er c Z:=rfl
@[simp] theorem R.bind_no{α β:Type}(k:α->aj->R β):(R.no:R α).bind k=.no:=rfl
@[simp] theorem c8{α:Type}(a:α)(Z:aj):aV (aa a) Z=.ok a Z:=rfl
@[simp] theorem Xo{α:Type}(Z:aj):aV (ae:Option α) Z=.no:=rfl
def Ok(K:aC)(E:XK)(Y:St)(F:ah->Prop)(S:Nat->ah->Prop)(H:Hp){α:Type}(r:R α)(C:α->aj->(ah->Prop)->(Nat->ah->Prop)->Hp->Prop):Prop:=match r with
 |.ok a Z'=>∀F' S' H',aX K F' S' Z' Y H'->bM (U S) (U S') F F' H H'->C a Z' F' S' H'
 |.er c Z'=>∀x F' S' H',aX K F' S' Z' Y H'->bM (U S) (U S') F F' H H'->E c x H'
 |.no=>False
section
variable{K:aC}{E:XK}{Y:St}{F:ah->Prop}{S:Nat->ah->Prop}{H:Hp}{α β:Type}{C C':α->aj->(ah->Prop)->(Nat->ah->Prop)->Hp->Prop}{D:β->aj->(ah->Prop)->(Nat->ah->Prop)->Hp->Prop}
theorem Ok.imp{r:R α}(h:Ok K E Y F S H r C)(f:∀a Z' F' S' H',aX K F' S' Z' Y H'->bM (U S) (U S') F F' H H'->C a Z' F' S' H'->C' a Z' F' S' H'):Ok K E Y F S H r C':=by
 cases r with
 |ok a Z'=>exact λF' S' H' r g=>f a Z' F' S' H' r g (h F' S' H' r g)
 |er c Z'=>exact h
 |no=>exact h
theorem Ok.from{r:R β}{F1:ah->Prop}{S1:Nat->ah->Prop}{H1:Hp}(h:Ok K E Y F S H r D)(g:bM (U S) (U S1) F F1 H H1):Ok K E Y F1 S1 H1 r D:=by
 cases r with
 |ok a Z'=>exact λF' S' H' r' g'=>h F' S' H' r' (g.trans g')
 |er c Z'=>exact λx F' S' H' r' g'=>h x F' S' H' r' (g.trans g')
 |no=>exact h
theorem Ok.bind{r:R α}{k:α->aj->R β}(h:Ok K E Y F S H (r.bind k) D):Ok K E Y F S H r (λa dM F1 S1 H1=>Ok K E Y F1 S1 H1 (k a dM) D):=by
 cases r with
 |ok a Z'=>exact λF' S' H' r g=>Ok.from h g
 |er c Z'=>exact h
 |no=>exact h
end
structure Bx(p:Prop):Prop where
 run:p
def ja(X:Cx)(e:aE):TE:=λY H Q=>Bx (∀af s,Inv X af Y H s->aA (aB X.prog X.w) X.A (bf e X.env) (EP X af Y Q) X.xe s)
def AS(X:Cx)(e:aE):TT:=λY H Q=>Bx (∀af s,Inv X af Y H s->aA (aB X.prog X.w) X.A (oz e X.env (bf e X.env)) (TP X af Y Q) X.xe s)
def wpS(X:Cx)(st:ba):TS:=λD Y H=>Bx (∀af s,Inv X af Y H s->aA (aB X.prog X.w) X.A (exec st X.env) (SP X af D) X.xe s)
def qW(X:Cx)(st:List ba):TS:=λD Y H=>Bx (∀af s,Inv X af Y H s->aA (aB X.prog X.w) X.A (execs st X.env) (SP X af D) X.xe s)
section
variable{X:Cx}{e:aE}{st:ba}{sts:List ba}
theorem cn:PE X e (ja X e):=λaf s _ _ _ I h=>h.run af s I
theorem n6:PT X e (AS X e):=λaf s _ _ _ I h=>h.run af s I
theorem GH:PS X st (wpS X st):=λaf s _ _ _ I h=>h.run af s I
theorem tF:lY X sts (qW X sts):=λaf s _ _ _ I h=>h.run af s I
theorem cB{t:TE}(h:PE X e t){Y:St}{H:Hp}{Q:VK}(q:t Y H Q):ja X e Y H Q:=⟨λaf s I=>h af s Y H Q I q⟩
theorem tP{t:TT}(h:PT X e t){Y:St}{H:Hp}{Q:Bool->Hp->Prop}(q:t Y H Q):AS X e Y H Q:=⟨λaf s I=>h af s Y H Q I q⟩
theorem jH{t:TS}(h:PS X st t){Y:St}{H:Hp}{D:lT}(q:t D Y H):wpS X st D Y H:=⟨λaf s I=>h af s Y H D I q⟩
theorem CO{t:TS}(h:lY X sts t){Y:St}{H:Hp}{D:lT}(q:t D Y H):qW X sts D Y H:=⟨λaf s I=>h af s Y H D I q⟩
end
def DE(X:Cx)(E:XK)(e:aE)(d:aj->R PV):Prop :=
 ∀F S Z Y H Q,aX X.K F S Z Y H->Ok X.K E Y F S H (d Z) (λpv _ F' _ H'=>∀v,bh X.K H' F' pv v->Q v H')->ja X e Y H Q
def DN(X:Cx)(E:XK)(e:aE)(d:aj->R PO):Prop :=
 ∀F S Z Y H Q,aX X.K F S Z Y H->Ok X.K E Y F S H (d Z) (λpo _ F' S' H'=>∀a Sa,gh X.K H' F' po a Sa->(∀b,Sa b->H b=ae/\¬F' b/\¬U S' b/\∃o,H' b=aa o/\ez o)->Q (.ref a) H')->ja X e Y H Q
def DT(X:Cx)(E:XK)(e:aE)(d:aj->R Bool):Prop :=
 ∀F S Z Y H Q,aX X.K F S Z Y H->Ok X.K E Y F S H (d Z) (λb _ _ _ H'=>Q b H')->AS X e Y H Q
end Pu
namespace Pu
open L2
section
variable{X:Cx}{E:XK}{a b c:aE}{da db dc:aj->R PV}{pos:Pos}
def dC(pv:PV):aj->R PV:=λZ=>.ok pv Z
theorem aU{i j pos}:DE X E (.Constant (.int i) j pos) (dC (.int i)):=λF S Z Y H Q r h=>cB JJ (h F S H r (bM.refl ..) _ rfl)
theorem pI{i j pos}:DE X E (.Constant (.bool i) j pos) (dC (.bl i)):=λF S Z Y H Q r h=>cB RS (h F S H r (bM.refl ..) _ rfl)
theorem Fh{j pos}:DE X E (.Constant .none j pos) (dC .non):=λF S Z Y H Q r h=>cB R8 (h F S H r (bM.refl ..) _ rfl)
theorem ic(l:Tx){x:Str}{j pos}(hx:x=tS l:=by decide +kernel)(hl:l.length<=ce:=by decide):DE X E (.Constant (.str x) j pos) (dC (.str l)):=λF S Z Y H Q r h=>cB Qy (h F S H r (bM.refl ..) _ (by rw[hx];exact⟨rfl,hl⟩))
def dV(i:Nat):aj->R PV:=λZ=>match Z[i]? with
 |some (.val pv)=>.ok pv Z
 |_=>.no
theorem ar(i:Nat){x:Str}{pos:Pos}(hN:X.N[i]?=aa x:=by rfl)(hv:fP X.env.scope x:=by first|exact Or.inl rfl|exact Or.inr (Or.inl rfl)|exact Or.inr (Or.inr rfl))(hd:(x == ("__debug__" : Str))=am:=by decide)(bL:(x == ("__classdict__" : Str))=am:=by decide):DE X E (.Name x pos) (dV i):=λF S Z Y H Q r h=>by
 unfold dV at h;split at h
 ·rename_i p e;obtain⟨v,e1,e2⟩:=r.val i p e;exact cB (gL hN hv hd bL) ⟨v,e1,h F S H r (bM.refl ..) v e2⟩
 ·exact h.elim
theorem zn{x:Str}{i:Int}{pos:Pos}(h:∃t,X.mg x=aa (.int i t))(hg:Gl X x:=by rfl)(hd:(x == ("__debug__" : Str))=am:=by decide):DE X E (.Name x pos) (dC (.int i)):=λF S Z Y H Q r q=>by obtain⟨t,e⟩:=h;exact cB (Cr (v:=.int i) hg e ⟨t,rfl⟩ hd) (q F S H r (bM.refl ..) _ rfl)
theorem C9{x:Str}{l:Tx}{pos:Pos}(h:∃t,X.mg x=aa (.str (tS l) t))(hg:Gl X x:=by rfl)(hl:l.length<=ce:=by decide)(hd:(x == ("__debug__" : Str))=am:=by decide):DE X E (.Name x pos) (dC (.str l)):=λF S Z Y H Q r q=>by obtain⟨t,e⟩:=h;exact cB (Cr (v:=tV l) hg e ⟨t,rfl⟩ hd) (q F S H r (bM.refl ..) _ ⟨rfl,hl⟩)
def P2(K:aC)(r:R2)(f:PV->PV->Option PV):Prop:=∀(F:ah->Prop) (H:Hp) (x y:PV) (v u:V) (Q:VK) (pv:PV),bh K H F x v->bh K H F y u->f x y=aa pv->(∀w F' H',Al F F' H H'->bh K H' F' pv w->Q w H')->r v u H Q
def d2(f:PV->PV->Option PV)(da db:aj->R PV):aj->R PV:=λZ=>(da Z).bind λx dM=>(db dM).bind λy Z2=>aV (f x y) Z2
theorem zo{r:R2}{f:PV->PV->Option PV}(hp:P2 X.K r f)(ha:DE X E a da)(hb:DE X E b db){F:ah->Prop}{S:Nat->ah->Prop}{Z:aj}{Y:St}{H:Hp}{Q:VK}(rl:aX X.K F S Z Y H)(h:Ok X.K E Y F S H (d2 f da db Z) (λpv _ F' _ H'=>∀v,bh X.K H' F' pv v->Q v H')):ja X a Y H λx H1=>ja X b Y H1 λy H2=>r x y H2 Q:=by
 refine ha F S Z Y H _ rl ((Ok.bind h).imp λx dM F1 S1 H1 r1 g1 h1 v rv=>?_);refine hb F1 S1 dM Y H1 _ r1 ((Ok.bind h1).imp λy Z2 F2 S2 H2 r2 g2 h2 u ru=>?_);cases e:f x y with
 |none=>rw[e]at h2;exact h2.elim
 |some pv=>rw[e]at h2;exact hp F2 H2 x y v u Q pv (rv.grow g2 r1.fit) ru e λw F' H' al rw'=>h2 F' S2 H' (r2.al al) al.grow w rw'
theorem bR{op:Operator}{r:R2}{f:PV->PV->Option PV}(ho:cr X (jr op) r)(hp:P2 X.K r f)(ha:DE X E a da)(hb:DE X E b db):DE X E (.BinOp a op b pos) (d2 f da db):=λF S Z Y H Q rl h=>cB (E7 ho cn cn) (zo hp ha hb rl h)
theorem pW{op:CmpOp}{r:R2}{f:PV->PV->Option PV}(ho:cr X (eW op) r)(hp:P2 X.K r f)(ha:DE X E a da)(hb:DE X E b db)(hm:nu op b=am):DE X E (.Compare a [op] [b] pos) (d2 f da db):=λF S Z Y H Q rl h=>cB (TH ho cn cn hm) (zo hp ha hb rl h)
def sB:PV->Option Bool
 |.bl b=>aa b
 |_=>ae
def dB(d:aj->R PV):aj->R Bool:=λZ=>(d Z).bind λx dM=>aV (sB x) dM
theorem JB{K:aC}{H:Hp}{F:ah->Prop}{x:PV}{v:V}{k:Bool}(h:bh K H F x v)(e:sB x=aa k):v=.bl k:=by
 cases x <;> simp[sB]at e;subst e;exact h
theorem sG{F:ah->Prop}{S:Nat->ah->Prop}{Z:aj}{Y:St}{H:Hp}{Q:Bool->Hp->Prop}{d:aj->R PV}(h:Ok X.K E Y F S H (dB d Z) (λk _ _ _ H'=>Q k H')):Ok X.K E Y F S H (d Z) (λpv _ F' _ H'=>∀v,bh X.K H' F' pv v->∃k,v=.bl k/\Q k H'):=by
 refine(Ok.bind h).imp λx dM F1 S1 H1 r1 g1 h1 v rv=>?_;cases e:sB x with
 |none=>rw[e]at h1;exact h1.elim
 |some k=>rw[e]at h1;exact⟨k,JB rv e,h1 F1 S1 H1 r1 (bM.refl ..)⟩
theorem iD{op:CmpOp}{r:R2}{f:PV->PV->Option PV}(ho:cr X (eW op) r)(hp:P2 X.K r f)(ha:DE X E a da)(hb:DE X E b db)(hm:nu op b=am):DT X E (.Compare a [op] [b] pos) (dB (d2 f da db)):=λF S Z Y H Q rl h=>tP (Pi ho cn cn hm) (zo (Q:=λx H'=>∃k,x=.bl k/\Q k H') hp ha hb rl (sG h))
theorem ni{e:aE}{d:aj->R PV}(hd:DE X E e d)(he:∀gF,oz e X.env gF=(do let v ←gF;standAt e.pos;holding [v] (truthy v)):=by intro _;rfl):DT X E e (dB d):=λF S Z Y H Q rl h=>tP (TX cn he) (hd F S Z Y H _ rl (sG h))
def qV(f g:PV->PV->Option PV)(da db dc:aj->R PV):aj->R PV:=λZ=>(da Z).bind λx dM=>(db dM).bind λy Z2=>(aV ((f x y).bind sB) Z2).bind λk Z2=>
 match k with
 |true=>(dc Z2).bind λz Z3=>aV (g y z) Z3
 |false=>.ok (.bl am) Z2
theorem Jn{r r':R2}{f g:PV->PV->Option PV}(hp:P2 X.K r f)(iO:P2 X.K r' g)(ha:DE X E a da)(hb:DE X E b db)(hc:DE X E c dc){F:ah->Prop}{S:Nat->ah->Prop}{Z:aj}{Y:St}{H:Hp}{Q:VK}(rl:aX X.K F S Z Y H)(h:Ok X.K E Y F S H (qV f g da db dc Z) (λpv _ F' _ H'=>∀v,bh X.K H' F' pv v->Q v H')):Bg r r' (ja X a) (ja X b) (ja X c) Y H Q:=by
 refine ha F S Z Y H _ rl ((Ok.bind h).imp λx dM F1 S1 H1 r1 g1 h1 v rv=>?_);refine hb F1 S1 dM Y H1 _ r1 ((Ok.bind h1).imp λy Z2 F2 S2 H2 r2 g2 h2 u ru=>?_);cases e:f x y with
 |none=>rw[e]at h2;exact h2.elim
 |some pv=>
  rw[e]at h2;refine hp F2 H2 x y v u _ pv (rv.grow g2 r1.fit) ru e λw F' H' al rw'=>?_;cases e2:sB pv with
  |none=>rw[gW,e2]at h2;exact h2.elim
  |some k=>
   rw[gW,e2]at h2;refine⟨k,JB rw' e2,?_⟩;have r3:=r2.al al;cases k with
   |false=>exact pD (Ok.from h2 al.grow F' S2 H' r3 (bM.refl ..) _ rfl)
   |true=>
    have h3:Ok X.K E Y F2 S2 H2 ((dc Z2).bind λz Z3=>aV (g y z) Z3) (λpv _ F' _ H'=>∀v,bh X.K H' F' pv v->Q v H'):=h2;refine pN (hc F' S2 Z2 Y H' _ r3 ((Ok.bind (Ok.from h3 al.grow)).imp λz Z4 F4 S4 H4 r4 g4 h4 u4 ru4=>?_));cases e4:g y z with
    |none=>rw[e4]at h4;exact h4.elim
    |some pz=>rw[e4]at h4;exact iO F4 H4 y z u u4 Q pz ((al.rep ru).grow g4 r3.fit) ru4 e4 λw5 F5 H5 al5 rw5=>h4 F5 S4 H5 (r4.al al5) al5.grow w5 rw5
theorem JP{op op':CmpOp}{r r':R2}{f g:PV->PV->Option PV}(ho:cr X (eW op) r)(jU:cr X (eW op') r')(hp:P2 X.K r f)(iO:P2 X.K r' g)(ha:DE X E a da)(hb:DE X E b db)(hc:DE X E c dc)(hm:lastMarks [op,op'] [b,c]=am:=by with_unfolding_all rfl):DE X E (.Compare a [op,op'] [b,c] pos) (qV f g da db dc):=λF S Z Y H Q rl h=>cB (R4 ho jU cn cn cn hm) (Jn hp iO ha hb hc rl h)
theorem F6{op op':CmpOp}{r r':R2}{f g:PV->PV->Option PV}(ho:cr X (eW op) r)(jU:cr X (eW op') r')(hp:P2 X.K r f)(iO:P2 X.K r' g)(ha:DE X E a da)(hb:DE X E b db)(hc:DE X E c dc)(hm:lastMarks [op,op'] [b,c]=am:=by with_unfolding_all rfl):DT X E (.Compare a [op,op'] [b,c] pos) (dB (qV f g da db dc)):=λF S Z Y H Q rl h=>tP (SW ho jU cn cn cn hm) (Jn (Q:=λx H'=>∃k,x=.bl k/\Q k H') hp iO ha hb hc rl (sG h))
variable{ta tb:aj->R Bool}{rest:List aE}
def DW(X:Cx)(E:XK)(e:aE)(d:aj->R Bool):Prop:=∀F S Z Y H Q,aX X.K F S Z Y H->Ok X.K E Y F S H (d Z) (λb _ _ _ H'=>Q b H')->∀(gF:Sem ak) af s,Inv X af Y H s->aA (aB X.prog X.w) X.A (oz e X.env gF) (TP X af Y Q) X.xe s
def Os(X:Cx)(e:aE):TT:=λY H Q=>∀(gF:Sem ak) af s,Inv X af Y H s->aA (aB X.prog X.w) X.A (oz e X.env gF) (TP X af Y Q) X.xe s
theorem Js{e:aE}:PW X e (Os X e):=λgF af s _ _ _ I h=>h gF af s I
theorem DW.dt{e:aE}{d:aj->R Bool}(h:DW X E e d):DT X E e d:=λF S Z Y H Q rl q=>⟨λaf s I=>h F S Z Y H Q rl q _ af s I⟩
def uU(ta tb:aj->R Bool):aj->R Bool:=λZ=>(ta Z).bind λk dM=>match k with
 |true=>tb dM
 |false=>.ok am dM
def xC(ta tb:aj->R Bool):aj->R Bool:=λZ=>(ta Z).bind λk dM=>match k with
 |true=>.ok ai dM
 |false=>tb dM
def j0(ta:aj->R Bool):aj->R Bool:=λZ=>(ta Z).bind λk dM=>.ok (!k) dM
theorem Mh(h:DT X E a ta):DW X E (.BoolOp .And [a] pos) ta:=λF S Z Y H Q rl q gF af s I=>RQ n6 gF af s Y H Q I (h F S Z Y H Q rl q)
theorem A7(h:DT X E a ta):DW X E (.BoolOp .Or [a] pos) ta:=λF S Z Y H Q rl q gF af s I=>Qi n6 gF af s Y H Q I (h F S Z Y H Q rl q)
theorem PH(ha:DT X E a ta)(hb:DW X E (.BoolOp .And (b::rest) pos) tb):DW X E (.BoolOp .And (a::b::rest) pos) (uU ta tb):=λF S Z Y H Q rl q gF af s I=>by
 refine P9 n6 Js gF af s Y H Q I (ha F S Z Y H _ rl ((Ok.bind q).imp λk dM F1 S1 H1 r1 g1 h1=>?_));cases k with
 |true=>exact pN (hb F1 S1 dM Y H1 Q r1 h1)
 |false=>exact pD (h1 F1 S1 H1 r1 (bM.refl ..))
theorem Bb(ha:DT X E a ta)(hb:DW X E (.BoolOp .Or (b::rest) pos) tb):DW X E (.BoolOp .Or (a::b::rest) pos) (xC ta tb):=λF S Z Y H Q rl q gF af s I=>by
 refine R0 n6 Js gF af s Y H Q I (ha F S Z Y H _ rl ((Ok.bind q).imp λk dM F1 S1 H1 r1 g1 h1=>?_));cases k with
 |true=>exact pN (h1 F1 S1 H1 r1 (bM.refl ..))
 |false=>exact pD (hb F1 S1 dM Y H1 Q r1 h1)
theorem lI(ha:DT X E a ta):DT X E (.UnaryOp .Not a pos) (j0 ta):=λF S Z Y H Q rl q=>tP (N0 n6) (ha F S Z Y H _ rl ((Ok.bind q).imp λk dM F1 S1 H1 r1 g1 h1=>h1 F1 S1 H1 r1 (bM.refl ..)))
def j1(da db:aj->R PV):aj->R PV:=λZ=>(dB da Z).bind λk dM=>match k with
 |true=>db dM
 |false=>.ok (.bl am) dM
def Xq(da db:aj->R PV):aj->R PV:=λZ=>(dB da Z).bind λk dM=>match k with
 |true=>.ok (.bl ai) dM
 |false=>db dM
def Jo(da:aj->R PV):aj->R PV:=λZ=>(dB da Z).bind λk dM=>.ok (.bl (!k)) dM
theorem Jp{d:aj->R PV}{β:Type}{D:β->aj->(ah->Prop)->(Nat->ah->Prop)->Hp->Prop}{k:Bool->aj->R β}{F:ah->Prop}{S:Nat->ah->Prop}{Z:aj}{Y:St}{H:Hp}{P:Bool->Hp->Prop}(h:Ok X.K E Y F S H ((dB d Z).bind k) D) (f:∀c dM F1 S1 H1,aX X.K F1 S1 dM Y H1->bM (U S) (U S1) F F1 H H1->Ok X.K E Y F1 S1 H1 (k c dM) D->P c H1):Ok X.K E Y F S H (d Z) (λpv _ F' _ H'=>∀v,bh X.K H' F' pv v->∃c,v=.bl c/\P c H'):=by have h2:=(Ok.bind h).imp (C':=λc dM F1 S1 H1=>P c H1) λc dM F1 S1 H1 r1 g1 h1=>f c dM F1 S1 H1 r1 g1 h1;exact sG h2
theorem qG{op}{d:aj->R PV}(h:DE X E a d):DE X E (.BoolOp op [a] pos) d:=λF S Z Y H Q rl q=>cB (O6 cn) (h F S Z Y H Q rl q)
theorem n_(ha:DE X E a da)(hb:DE X E (.BoolOp .And (b::rest) pos) db):DE X E (.BoolOp .And (a::b::rest) pos) (j1 da db):=λF S Z Y H Q rl q=>by
 refine cB (L5 cn cn) (ha F S Z Y H _ rl (Jp q λk dM F1 S1 H1 r1 g1 h1=>?_));cases k with
 |true=>exact pN (hb F1 S1 dM Y H1 Q r1 h1)
 |false=>exact pD (h1 F1 S1 H1 r1 (bM.refl ..) _ rfl)
theorem TR(ha:DE X E a da):DE X E (.UnaryOp .Not a pos) (Jo da):=λF S Z Y H Q rl q=>cB (UE cn) (ha F S Z Y H _ rl (Jp q λk dM F1 S1 H1 r1 g1 h1=>h1 F1 S1 H1 r1 (bM.refl ..) _ rfl))
def cN{α:Type}(t:aj->R Bool)(da db:aj->R α):aj->R α:=λZ=>(t Z).bind λk dM=>match k with
 |true=>da dM
 |false=>db dM
theorem Ig(hc:DT X E c ta)(ha:DE X E a da)(hb:DE X E b db):DE X E (.IfExp c a b pos) (cN ta da db):=λF S Z Y H Q rl q=>by
 refine cB (Qb n6 cn cn) (hc F S Z Y H _ rl ((Ok.bind q).imp λk dM F1 S1 H1 r1 g1 h1=>?_));cases k with
 |true=>exact pN (ha F1 S1 dM Y H1 Q r1 h1)
 |false=>exact pD (hb F1 S1 dM Y H1 Q r1 h1)
def P1(K:aC)(r:V->Hp->VK->Prop)(f:PV->Option PV):Prop:=∀(F:ah->Prop) (H:Hp) (x:PV) (v:V) (Q:VK) (pv:PV),bh K H F x v->f x=aa pv->(∀w F' H',Al F F' H H'->bh K H' F' pv w->Q w H')->r v H Q
def d1(f:PV->Option PV)(da:aj->R PV):aj->R PV:=λZ=>(da Z).bind λx dM=>aV (f x) dM
theorem Sm{r:V->Hp->VK->Prop}{f:PV->Option PV}(hp:P1 X.K r f)(ha:DE X E a da){F:ah->Prop}{S:Nat->ah->Prop}{Z:aj}{Y:St}{H:Hp}{Q:VK}(rl:aX X.K F S Z Y H)(h:Ok X.K E Y F S H (d1 f da Z) (λpv _ F' _ H'=>∀v,bh X.K H' F' pv v->Q v H')):ja X a Y H λx H1=>r x H1 Q:=by
 refine ha F S Z Y H _ rl ((Ok.bind h).imp λx dM F1 S1 H1 r1 g1 h1 v rv=>?_);cases e:f x with
 |none=>rw[e]at h1;exact h1.elim
 |some pv=>rw[e]at h1;exact hp F1 H1 x v Q pv rv e λw F' H' al rw'=>h1 F' S1 H' (r1.al al) al.grow w rw'
theorem tj{op:UnaryOp}{r:V->Hp->VK->Prop}{f:PV->Option PV}(ho:zH X (unaryOp op) r)(hp:P1 X.K r f)(ha:DE X E a da):DE X E (.UnaryOp op a pos) (d1 f da):=λF S Z Y H Q rl h=>cB (Um ho cn) (Sm hp ha rl h)
end
def qI(X:Cx)(es:List aE):TA:=λY H Q=>Bx (∀pos af s,Inv X af Y H s->aA (aB X.prog X.w) X.A (spliced (dR pos (aW es X.env))) (AP X af Y Q) X.xe s)
def DA(X:Cx)(E:XK)(es:List aE)(d:aj->R (List PV)):Prop :=
 ∀F S Z Y H Q,aX X.K F S Z Y H->Ok X.K E Y F S H (d Z) (λpvs _ F' _ H'=>∀vs,Reps X.K H' F' pvs vs->Q vs H')->qI X es Y H Q
section
variable{X:Cx}{E:XK}{a b c e:aE}{es:List aE}{da db dc d:aj->R PV}{ds:aj->R (List PV)}{pos:Pos}
theorem g9{es:List aE}:PA X es (qI X es):=λpos af s _ _ _ I h=>h.run pos af s I
theorem qO{t:TA}(h:PA X es t){Y:St}{H:Hp}{Q:List V->Hp->Prop}(q:t Y H Q):qI X es Y H Q:=⟨λpos af s I=>h pos af s Y H Q I q⟩
def aH:aj->R (List PV):=λZ=>.ok [] Z
def aw(d:aj->R PV)(ds:aj->R (List PV)):aj->R (List PV):=λZ=>(d Z).bind λx dM=>(ds dM).bind λxs Z2=>.ok (x::xs) Z2
theorem a9:DA X E [] aH:=λF S Z Y H Q rl h=>qO k_ (h F S H rl (bM.refl ..) _ rfl)
theorem Qx(ha:DE X E e d)(hr:DA X E es ds)(hs:aW (e::es) X.env=(am,bf e X.env)::aW es X.env:=by rfl):DA X E (e::es) (aw d ds):=λF S Z Y H Q rl h=>by refine qO (jE cn g9 hs) (ha F S Z Y H _ rl ((Ok.bind h).imp λx dM F1 S1 H1 r1 g1 h1 v rv=>?_));refine hr F1 S1 dM Y H1 _ r1 ((Ok.bind h1).imp λxs Z2 F2 S2 H2 r2 g2 h2 vs jZ=>?_);exact h2 F2 S2 H2 r2 (bM.refl ..) _ ⟨v,vs,rfl,rv.grow g2 r1.fit,jZ⟩
theorem aX.more{K:aC}{F N:ah->Prop}{S:Nat->ah->Prop}{Z:aj}{Y:St}{H:Hp}(r:aX K F S Z Y H)(hn:∀b,N b->¬U S b/\∃o,H b=aa o):aX K (λb=>F b\/N b) S Z Y H:=by
 have mono:∀x v,bh K H F x v->bh K H (λb=>F b\/N b) x v:=bh.mono (λ_ h=>.inl h) (λ_ _ _ q=>q) (λ_ _ q _=>q);have monos:∀x v,Reps K H F x v->Reps K H (λb=>F b\/N b) x v:=Reps.mono (λ_ h=>.inl h) (λ_ _ _ q=>q) (λ_ _ q _=>q);refine⟨r.len,λb h=>h.elim (r.ex b) λz=>(hn b z).2,λi pv e=>?_,λi po e=>?_,λi b h=>?_,r.dist⟩
 ·obtain⟨v,h1,h2⟩:=r.val i pv e;exact⟨v,h1,mono _ _ h2⟩
 ·obtain⟨v,h1,h2⟩:=r.own i po e;exact⟨v,h1,h2.mono mono monos λ_ _ _ z=>z⟩
 ·obtain⟨h1,h2,h3⟩:=r.foot i b h;exact⟨h1,λz=>z.elim h2 λw=>(hn b w).1 ⟨i,h⟩,h3⟩
def NT:PO->Option PV
 |.lst xs=>aa (.lst xs)
 |_=>ae
def dF(d:aj->R PO):aj->R PV:=λZ=>(d Z).bind λpo dM=>aV (NT po) dM
theorem DN.de{d:aj->R PO}(h:DN X E e d):DE X E e (dF d):=λF S Z Y H Q rl q=>by
 unfold dF at q;refine h F S Z Y H Q rl ?_;cases e0:d Z with
 |no=>rw[e0]at q;exact q.elim
 |er c Z'=>rw[e0]at q;exact q
 |ok po dM=>
  rw[e0]at q;intro F1 S1 H1 r1 g1 a Sa ow fr;cases po with
  |dK XN=>exact q.elim
  |lls kM=>exact q.elim
  |ins C fs=>exact q.elim
  |dT XN=>exact q.elim
  |inl C fs y xs=>exact q.elim
  |lst xs=>
   have hN:∀b,Sa b->¬U S1 b/\∃o,H1 b=aa o:=λb z=>let ⟨_,_,x3,o,x4,_⟩:=fr b z;⟨x3,o,x4⟩
   obtain⟨⟨vs,ha,hr⟩,hS⟩:=ow;have g2:bM (U S) (U S1) F (λb=>F1 b\/Sa b) H H1:=⟨λb z=>.inl (g1.fro b z),g1.keep,g1.there,λb z=>z.elim (g1.fnew b) λw=>.inr (.inl (fr b w).1),g1.onew⟩
   exact q _ S1 H1 (r1.more hN) g2 _ ⟨a,vs,rfl,.inl ha,.inr ((hS a).mpr rfl),Reps.mono (λ_ z=>.inl z) (λ_ _ _ z=>z) (λ_ _ z _=>z) _ _ hr⟩
def jj(xs:List PV):Option PV:=if xs.length<=1000 then aa (.tup xs)else ae
def bV(xs:List PV):Option PO:=if xs.length<=1000 then aa (.lst xs)else ae
def dL{α:Type}(f:List PV->Option α)(ds:aj->R (List PV)):aj->R α:=λZ=>(ds Z).bind λxs dM=>aV (f xs) dM
def PL(K:aC)(r:List V->Hp->VK->Prop)(f:List PV->Option PV):Prop:=∀(F:ah->Prop) (H:Hp) (xs:List PV) (vs:List V) (Q:VK) (pv:PV),Reps K H F xs vs->f xs=aa pv->(∀w F' H',Al F F' H H'->bh K H' F' pv w->Q w H')->r vs H Q
def qN(K:aC)(r:List V->Hp->VK->Prop)(f:List PV->Option PO):Prop:=∀(F:ah->Prop) (H:Hp) (xs:List PV) (vs:List V) (Q:VK) (po:PO),(∀a,F a->∃o,H a=aa o)->Reps K H F xs vs->f xs=aa po ->
 (∀a F' H' Sa,Al F F' H H'->gh K H' F' po a Sa->(∀b,Sa b->H b=ae/\¬F' b/\∃o,H' b=aa o/\ez o)->Q (.ref a) H')->r vs H Q
theorem Cz{r:List V->Hp->VK->Prop}{f:List PV->Option PV}(hp:PL X.K r f)(hd:DA X E es ds){F:ah->Prop}{S:Nat->ah->Prop}{Z:aj}{Y:St}{H:Hp}{Q:VK}(rl:aX X.K F S Z Y H)(h:Ok X.K E Y F S H (dL f ds Z) (λpv _ F' _ H'=>∀v,bh X.K H' F' pv v->Q v H')):qI X es Y H λxs H1=>r xs H1 Q:=by
 refine hd F S Z Y H _ rl ((Ok.bind h).imp λxs dM F1 S1 H1 r1 g1 h1 vs jZ=>?_);cases e:f xs with
 |none=>rw[e]at h1;exact h1.elim
 |some pv=>rw[e]at h1;exact hp F1 H1 xs vs Q pv jZ e λw F' H' al rw'=>h1 F' S1 H' (r1.al al) al.grow w rw'
theorem lL{O O' F F':ah->Prop}{H H':Hp}(g:bM O O' F F' H H'){b:ah}(h:H' b=ae):H b=ae:=by
 cases q:H b with
 |none=>rfl
 |some o=>obtain⟨o',e⟩:=g.there b o q;rw[h]at e;cases e
theorem yG{r:List V->Hp->VK->Prop}{f:List PV->Option PO}(hp:qN X.K r f)(hd:DA X E es ds){F:ah->Prop}{S:Nat->ah->Prop}{Z:aj}{Y:St}{H:Hp}{Q:VK}(rl:aX X.K F S Z Y H)(h:Ok X.K E Y F S H (dL f ds Z) (λpo _ F' S' H'=>∀a Sa,gh X.K H' F' po a Sa->(∀b,Sa b->H b=ae/\¬F' b/\¬U S' b/\∃o,H' b=aa o/\ez o)->Q (.ref a) H')):qI X es Y H λxs H1=>r xs H1 Q:=by
 refine hd F S Z Y H _ rl ((Ok.bind h).imp λxs dM F1 S1 H1 r1 g1 h1 vs jZ=>?_);cases e:f xs with
 |none=>rw[e]at h1;exact h1.elim
 |some po=>
  rw[e]at h1;refine hp F1 H1 xs vs Q po r1.ex jZ e λa F' H' Sa al ow fr=>h1 F' S1 H' (r1.al al) al.grow a Sa ow λb z=>?_;obtain⟨z1,z2,o,z3,z4⟩:=fr b z;refine⟨lL g1 z1,z2,λ⟨i,w⟩=>?_,o,z3,z4⟩;obtain⟨_,_,o',w1,_⟩:=r1.foot i b w;rw[z1]at w1;cases w1
theorem BL{n:Nat}(h:n<=1000):n<=bw:=nt (Ts h)
theorem Pw{K:aC}:PL K (λxs H Q=>xs.length<=bw/\∀p,H p=ae->Q (.ref p) (upd H p (.tup xs))) jj:=λF H xs vs Q pv rs e q=>by
 unfold jj at e;split at e
 ·cases e;refine⟨by rw[rs.len];exact BL (by assumption),λp hp=>q _ F _ (Al.new0 hp) ⟨p,vs,rfl,cF,(Al.new0 hp).reps rs⟩⟩
 ·cases e
theorem ym{K:aC}{F:ah->Prop}{H:Hp}{l:ah}{xs:List PV}{vs:List V}(hl:H l=ae)(rs:Reps K H F xs vs):gh K (upd H l (.lst vs)) F (.lst xs) l (λb=>b=l):=⟨⟨vs,cF,(Al.new0 hl).reps rs⟩,λb=>Iff.rfl⟩
theorem yC{F:ah->Prop}{H:Hp}{l:ah}{o:HO}(hl:H l=ae)(hF:∀a,F a->∃o,H a=aa o)(hn:ez o):∀b,b=l->H b=ae/\¬F b/\∃o',(upd H l o) b=aa o'/\ez o':=λb z=>by
 subst z;exact⟨hl,(λw=>by obtain⟨o,q⟩:=hF b w;rw[hl]at q;cases q),o,cF,hn⟩
theorem Vb{K:aC}:qN K (λxs H Q=>xs.length<=bw/\∀p,H p=ae->Q (.ref p) (upd H p (.lst xs))) bV:=λF H xs vs Q po hF rs e q=>by
 unfold bV at e;split at e
 ·cases e;exact⟨by rw[rs.len];exact BL (by assumption),λp hp=>q p F _ _ (Al.new0 hp) (ym hp rs) (yC hp hF trivial)⟩
 ·cases e
theorem sN{x1}(h:DA X E es ds):DE X E (.Tuple es x1 pos) (dL jj ds):=λF S Z Y H Q rl q=>cB (NP g9) (Cz Pw h rl q)
theorem nU(h:DA X E es ds):DN X E (.List es pos) (dL bV ds):=λF S Z Y H Q rl q=>cB (Vz g9) (yG Vb h rl q)
theorem ka(h:DA X E es ds):DE X E (.List es pos) (dF (dL bV ds)):=(nU h).de
variable{x:Str}{p:Pos}{id T:String}{r:List V->Hp->VK->Prop}{f:List PV->Option PV}{fn:List PV->Option PO}
theorem cE(hc:fD X (.builtin id) r)(hp:PL X.K r f)(hm:X.mg x=ae)(hv:fz x=aa (.builtin id))(ha:DA X E (e::es) ds)(hg:Gl X x:=by rfl)(hn:x≠"__name__":=by decide)(jV:(x == ("__debug__" : Str))=am:=by decide)(he:aW (e::es) X.env=(am,bf e X.env)::aW es X.env:=by rfl) (cV:(dR pos (aW es X.env)).any (·.1)=am:=by rfl):DE X E (.Call (.Name x p) (e::es) [] pos) (dL f ds):=λF S Z Y H Q rl q=>cB (rA hc hg hm hv g9 hn jV he cV) (Cz hp ha rl q)
theorem FZ(hc:fD X (.builtin id) r)(hp:qN X.K r fn)(hm:X.mg x=ae)(hv:fz x=aa (.builtin id))(ha:DA X E (e::es) ds)(hg:Gl X x:=by rfl)(hn:x≠"__name__":=by decide)(jV:(x == ("__debug__" : Str))=am:=by decide)(he:aW (e::es) X.env=(am,bf e X.env)::aW es X.env:=by rfl) (cV:(dR pos (aW es X.env)).any (·.1)=am:=by rfl):DN X E (.Call (.Name x p) (e::es) [] pos) (dL fn ds):=λF S Z Y H Q rl q=>cB (rA hc hg hm hv g9 hn jV he cV) (yG hp ha rl q)
theorem Wl(hc:fD X (.type T) r)(hp:PL X.K r f)(hm:X.mg x=ae)(hv:fz x=aa (.type T))(ha:DA X E (e::es) ds)(hg:Gl X x:=by rfl)(hn:x≠"__name__":=by decide)(jV:(x == ("__debug__" : Str))=am:=by decide)(he:aW (e::es) X.env=(am,bf e X.env)::aW es X.env:=by rfl) (cV:(dR pos (aW es X.env)).any (·.1)=am:=by rfl):DE X E (.Call (.Name x p) (e::es) [] pos) (dL f ds):=λF S Z Y H Q rl q=>cB (vJ hc hg hm hv g9 hn jV he cV) (Cz hp ha rl q)
theorem Qj(hc:fD X (.type T) r)(hp:qN X.K r fn)(hm:X.mg x=ae)(hv:fz x=aa (.type T))(ha:DA X E (e::es) ds)(hg:Gl X x:=by rfl)(hn:x≠"__name__":=by decide)(jV:(x == ("__debug__" : Str))=am:=by decide)(he:aW (e::es) X.env=(am,bf e X.env)::aW es X.env:=by rfl) (cV:(dR pos (aW es X.env)).any (·.1)=am:=by rfl):DN X E (.Call (.Name x p) (e::es) [] pos) (dL fn ds):=λF S Z Y H Q rl q=>cB (vJ hc hg hm hv g9 hn jV he cV) (yG hp ha rl q)
theorem eM{r:R2}{f:PV->PV->Option PV}(hr:mG X r)(hp:P2 X.K r f)(ha:DE X E a da)(hb:DE X E b db)(hs:yL b:=by exact λ_ _=>rfl):DE X E (.Subscript a b pos) (d2 f da db):=λF S Z Y H Q rl h=>cB (Hh hr cn cn hs) (zo hp ha hb rl h)
def Cv(X:Cx)(e:Option aE):TO:=λY H Q=>Bx (∀af s,Inv X af Y H s->aA (aB X.prog X.w) X.A (evalPart e X.env) (λu s'=>∃o H',Inv X af Y H' s'/\oD u o/\Q o H') X.xe s)
theorem AR{o:Option aE}:L2.PO X o (Cv X o):=λaf s _ _ _ I h=>h.run af s I
theorem JS{o:Option aE}{t:TO}(h:L2.PO X o t){Y:St}{H:Hp}{Q:Option Int->Hp->Prop}(q:t Y H Q):Cv X o Y H Q:=⟨λaf s I=>h af s Y H Q I q⟩
def DO(X:Cx)(E:XK)(e:Option aE)(d:aj->R (Option Int)):Prop:=∀F S Z Y H Q,aX X.K F S Z Y H->Ok X.K E Y F S H (d Z) (λo _ _ _ H'=>Q o H')->Cv X e Y H Q
def dU:aj->R (Option Int):=λZ=>.ok ae Z
def Ur:PV->Option Int
 |.int i=>aa i
 |_=>ae
def bB(d:aj->R PV):aj->R (Option Int):=λZ=>(d Z).bind λx dM=>aV ((Ur x).map aa) dM
theorem mY:DO X E ae dU:=λF S Z Y H Q rl h=>JS PD (h F S H rl (bM.refl ..))
theorem fO(he:DE X E e d):DO X E (aa e) (bB d):=λF S Z Y H Q rl h=>by
 refine JS (RK cn) (he F S Z Y H _ rl ((Ok.bind h).imp λx dM F1 S1 H1 r1 g1 h1 v rv=>?_));cases x <;> first|exact(show False from h1).elim|skip
 rename_i i;exact⟨i,rv,h1 F1 S1 H1 r1 (bM.refl ..)⟩
def cx{α:Type}(f:PV->Option Int->Option Int->Option α)(d:aj->R PV)(dl du:aj->R (Option Int)):aj->R α:=λZ=>(d Z).bind λx dM=>(dl dM).bind λl Z2=>(du Z2).bind λu Z3=>aV (f x l u) Z3
def HM(K:aC)(r:V->Option Int->Option Int->Hp->VK->Prop)(f:PV->Option Int->Option Int->Option PV):Prop:=∀(F:ah->Prop) (H:Hp) (x:PV) (lo hi:Option Int) (v:V) (Q:VK) (pv:PV),bh K H F x v->f x lo hi=aa pv->(∀w F' H',Al F F' H H'->bh K H' F' pv w->Q w H')->r v lo hi H Q
theorem jk{r:V->Option Int->Option Int->Hp->VK->Prop}{f:PV->Option Int->Option Int->Option PV}{lo hi:Option aE}{dl du:aj->R (Option Int)}{p2:Pos}(hr:nX X r)(hp:HM X.K r f)(he:DE X E e d)(hl:DO X E lo dl)(hu:DO X E hi du):DE X E (.Subscript e (.Slice lo hi ae p2) pos) (cx f d dl du):=λF S Z Y H Q rl h=>by
 refine cB (QH hr cn AR AR) (he F S Z Y H _ rl ((Ok.bind h).imp λx dM F1 S1 H1 r1 g1 h1 v rv=>?_));refine hl F1 S1 dM Y H1 _ r1 ((Ok.bind h1).imp λl Z2 F2 S2 H2 r2 g2 h2=>?_);refine hu F2 S2 Z2 Y H2 _ r2 ((Ok.bind h2).imp λu Z3 F3 S3 H3 r3 g3 h3=>?_);cases e3:f x l u with
 |none=>rw[e3]at h3;exact h3.elim
 |some pv=>rw[e3]at h3;exact hp F3 H3 x l u v Q pv ((rv.grow g2 r1.fit).grow g3 r2.fit) e3 λw F' H' al rw'=>h3 F' S3 H' (r3.al al) al.grow w rw'
end
inductive aO where
 |next|ret (s:Slot)|brk|cont
def j9(K:aC)(H:Hp)(F:ah->Prop)(s:Slot)(v:V)(Sr:ah->Prop):Prop:=match s with
 |.val pv=>bh K H F pv v/\∀b,¬Sr b
 |.own po=>∃a,v=.ref a/\gh K H F po a Sr
 |.none=>False
def jA(pin:List Nat)(Y Y':St):Prop:=∀i∈pin,Y'[i]?=Y[i]?
theorem jA.refl(pin:List Nat)(Y:St):jA pin Y Y:=λ_ _=>rfl
theorem jA.trans{pin:List Nat}{Y lB lE:St}(a:jA pin Y lB)(b:jA pin lB lE):jA pin Y lE:=λi h=>(b i h).trans (a i h)
theorem jA.set{pin:List Nat}{Y:St}{i:Nat}{x:Option V}(h:i∉pin):jA pin Y (Y.set i x):=λj hj=>by rw[fA (by rintro rfl;exact h hj)]
def zq(F':ah->Prop)(S':Nat->ah->Prop)(H':Hp)(Sr:ah->Prop):Prop:=∀b,Sr b->¬F' b/\¬U S' b/\∃o,H' b=aa o/\ez o
def iG(K:aC)(E:XK)(pin:List Nat)(Y:St)(F:ah->Prop)(S:Nat->ah->Prop)(H:Hp)(r:R aO)(D:lT):Prop:=match r with
 |.ok .next Z'=>∀F' S' Y' H',aX K F' S' Z' Y' H'->bM (U S) (U S') F F' H H'->jA pin Y Y'->D.nx Y' H'
 |.ok .brk Z'=>∀F' S' Y' H',aX K F' S' Z' Y' H'->bM (U S) (U S') F F' H H'->jA pin Y Y'->D.bk Y' H'
 |.ok .cont Z'=>∀F' S' Y' H',aX K F' S' Z' Y' H'->bM (U S) (U S') F F' H H'->jA pin Y Y'->D.ct Y' H'
 |.ok (.ret s) Z'=>∀v F' S' Y' H' Sr,aX K F' S' Z' Y' H'->bM (U S) (λb=>U S' b\/Sr b) F F' H H'->jA pin Y Y'->j9 K H' F' s v Sr->zq F' S' H' Sr->D.rt v H'
 |.er c Z'=>∀x F' S' Y' H',aX K F' S' Z' Y' H'->bM (U S) (U S') F F' H H'->jA pin Y Y'->E c x H'
 |.no=>False
def DS(X:Cx)(E:XK)(pin:List Nat)(st:ba)(d:aj->R aO):Prop:=∀F S Z Y H D,aX X.K F S Z Y H->iG X.K E pin Y F S H (d Z) D->wpS X st D Y H
def gY(X:Cx)(E:XK)(pin:List Nat)(st:List ba)(d:aj->R aO):Prop:=∀F S Z Y H D,aX X.K F S Z Y H->iG X.K E pin Y F S H (d Z) D->qW X st D Y H
section
variable{K:aC}{E:XK}{pin:List Nat}{Y lB:St}{F F1:ah->Prop}{S S1:Nat->ah->Prop}{H H1:Hp}{D:lT}
theorem iG.from{r:R aO}(h:iG K E pin Y F S H r D)(g:bM (U S) (U S1) F F1 H H1)(p:jA pin Y lB):iG K E pin lB F1 S1 H1 r D:=by
 cases r with
 |no=>exact h
 |er c Z'=>exact λx F' S' Y' H' r' g' p'=>h x F' S' Y' H' r' (g.trans g') (p.trans p')
 |ok f Z'=>
  cases f with
  |next=>exact λF' S' Y' H' r' g' p'=>h F' S' Y' H' r' (g.trans g') (p.trans p')
  |brk=>exact λF' S' Y' H' r' g' p'=>h F' S' Y' H' r' (g.trans g') (p.trans p')
  |cont=>exact λF' S' Y' H' r' g' p'=>h F' S' Y' H' r' (g.trans g') (p.trans p')
  |ret s=>exact λv F' S' Y' H' Sr r' g' p'=>h v F' S' Y' H' Sr r' (g.trans g') (p.trans p')
theorem iG.bindE{α:Type}{r:R α}{k:α->aj->R aO}(h:iG K E pin Y F S H (r.bind k) D):Ok K E Y F S H r (λa dM F1 S1 H1=>iG K E pin Y F1 S1 H1 (k a dM) D):=by
 cases r with
 |no=>exact h
 |er c Z'=>exact λx F' S' H' r' g'=>h x F' S' Y H' r' g' (jA.refl _ _)
 |ok a Z'=>exact λF' S' H' r' g'=>h.from g' (jA.refl _ _)
end
section
variable{X:Cx}{E:XK}{pin:List Nat}{st:ba}{rest:List ba}{d d1 d2:aj->R aO}{e:aE}{de:aj->R PV}{pos:Pos}
def d4:aj->R aO:=λZ=>.ok .next Z
theorem gd:gY X E pin [] d4:=λF S Z Y H D rl h=>CO Nx (h F S Y H rl (bM.refl ..) (jA.refl _ _))
def aJ(d1 d2:aj->R aO):aj->R aO:=λZ=>match d1 Z with
 |.ok .next dM=>d2 dM
 |r=>r
theorem bo(h1:DS X E pin st d1)(h2:gY X E pin rest d2):gY X E pin (st::rest) (aJ d1 d2):=λF S Z Y H D rl h=>by
 refine CO (Mf GH tF) (h1 F S Z Y H {D with nx:=qW X rest D} rl ?_);unfold aJ at h;split at h
 ·rename_i dM e1;rw[e1];exact λF' S' Y' H' r' g' p'=>h2 F' S' dM Y' H' D r' (h.from g' p')
 ·rename_i r cQ;generalize d1 Z=r1 at h cQ;cases r1 with
  |no=>exact h
  |er c Z'=>exact h
  |ok f Z'=>
   cases f with
   |next=>exact absurd rfl (cQ Z')
   |brk=>exact h
   |cont=>exact h
   |ret s=>exact h
theorem bj(h1:DS X E pin st d1):gY X E pin [st] d1:=λF S Z Y H D rl h=>CO (Nt GH) (h1 F S Z Y H D rl h)
def JN(f:aO):aj->R aO:=λZ=>.ok f Z
def Xw(d:aj->R PV):aj->R aO:=λZ=>(d Z).bind λ_ dM=>.ok .next dM
def cP(d:aj->R PV):aj->R aO:=λZ=>(d Z).bind λx dM=>.ok (.ret (.val x)) dM
theorem bM.cup{O O' F F':ah->Prop}{H H':Hp}(g:bM O O' F F' H H'):bM O (λb=>O' b\/False) F F' H H':=⟨g.fro,g.keep,g.there,g.fnew,λa h=>h.elim (g.onew a) iJ⟩
theorem eU(he:DE X E e de):DS X E pin (.Return (aa e) pos) (cP de):=λF S Z Y H D rl h=>jH (xX cn) (he F S Z Y H _ rl (h.bindE.imp λx dM F1 S1 H1 r1 g1 h1 v rv=>h1 v F1 S1 Y H1 (λ_=>False) r1 (bM.refl ..).cup (jA.refl _ _) ⟨rv,λ_ z=>z⟩ λ_ z=>z.elim))
theorem VB:DS X E pin (.Return ae pos) (JN (.ret (.val .non))):=λF S Z Y H D rl h=>jH V_ (h _ F S Y H (λ_=>False) rl (bM.refl ..).cup (jA.refl _ _) ⟨rfl,λ_ z=>z⟩ λ_ z=>z.elim)
def lD(d:aj->R PO):aj->R aO:=λZ=>(d Z).bind λx dM=>.ok (.ret (.own x)) dM
theorem yw{dn:aj->R PO}(he:DN X E e dn):DS X E pin (.Return (aa e) pos) (lD dn):=λF S Z Y H D rl h=>by
 refine jH (xX cn) (he F S Z Y H _ rl ?_);unfold lD at h;cases e0:dn Z with
 |no=>rw[e0]at h;exact h.elim
 |er c Z'=>rw[e0]at h;exact λx F' S' H' r' g'=>h x F' S' Y H' r' g' (jA.refl _ _)
 |ok po dM=>rw[e0]at h;intro F1 S1 H1 r1 g1 a Sa ow fr;exact h _ F1 S1 Y H1 Sa r1 ⟨g1.fro,g1.keep,g1.there,g1.fnew,λb z=>z.elim (g1.onew b) λw=>.inr (fr b w).1⟩ (jA.refl _ _) ⟨a,rfl,ow⟩ λb z=>let ⟨_,x2,x3,x4⟩:=fr b z;⟨x2,x3,x4⟩
def gv(i:Nat):aj->R aO:=λZ=>match Z[i]? with
 |some (.own po)=>.ok (.ret (.own po)) (Z.set i .none)
 |_=>.no
theorem aX.drop{K:aC}{F:ah->Prop}{S:Nat->ah->Prop}{Z:aj}{Y:St}{H:Hp}(r:aX K F S Z Y H)(i:Nat):aX K F (λj b=>S j b/\j≠i) (Z.set i .none) Y H:=by
 have no:∀{j s},(Z.set i .none)[j]?=aa s->s≠.none->j≠i/\Z[j]?=aa s:=λ{j s} e hs=>by
  by_cases hj:i=j
  ·subst hj;by_cases hi:i<Z.length
   ·rw[im hi]at e;exact absurd (eV e).symm hs
   ·rw[jQ (by rw[jR];lia)]at e;cases e
  ·rw[fA hj]at e;exact⟨fY hj,e⟩
 refine⟨by rw[jR];exact r.len,r.ex,λj pv e=>r.val j pv (no e (by intro z;cases z)).2,λj po e=>?_,λj b h=>?_,λj k b h1 h2=>r.dist j k b h1.1 h2.1⟩
 ·obtain⟨hj,e⟩:=no e (by intro z;cases z);obtain⟨a,h1,h2⟩:=r.own j po e;have eS:(λb=>S j b/\j≠i)=S j:=by funext b;simp[hj]
  exact⟨a,h1,by rw[eS];exact h2⟩
 ·obtain⟨⟨po,q1⟩,q2⟩:=r.foot j b h.1;exact⟨⟨po,by rw[fA (fY h.2)];exact q1⟩,q2⟩
theorem pO(i:Nat){x:Str}{p:Pos}(hN:X.N[i]?=aa x:=by rfl)(hv:fP X.env.scope x:=by first|exact Or.inl rfl|exact Or.inr (Or.inl rfl)|exact Or.inr (Or.inr rfl))(hd:(x == ("__debug__" : Str))=am:=by decide)(bL:(x == ("__classdict__" : Str))=am:=by decide):DS X E pin (.Return (aa (.Name x p)) pos) (gv i):=λF S Z Y H D rl h=>by
 unfold gv at h;split at h
 ·rename_i po e;obtain⟨a,e1,ow⟩:=rl.own i po e;refine jH (xX (gL hN hv hd bL)) ⟨_,e1,h _ F (λj b=>S j b/\j≠i) Y H (S i) (rl.drop i) ⟨λ_ z=>z,λ_ _ z _=>z,λ_ o z=>⟨o,z⟩,λ_ z=>.inl z,λb z=>?_⟩ (jA.refl _ _) ⟨a,rfl,ow⟩ λb z=>?_⟩
  ·rcases z with⟨j,z,_⟩|z
   ·exact .inl ⟨j,z⟩
   ·exact .inl ⟨i,z⟩
  ·exact⟨(rl.foot i b z).2.1,λ⟨j,w,hj⟩=>hj (rl.dist j i b w z),(rl.foot i b z).2.2⟩
 ·exact h.elim
theorem aX.set{K:aC}{F:ah->Prop}{S:Nat->ah->Prop}{Z:aj}{Y:St}{H:Hp}{i:Nat}{pv:PV}{v:V}(r:aX K F S Z Y H)(h:bh K H F pv v):aX K F (λj b=>S j b/\j≠i) (Z.set i (.val pv)) (Y.set i (aa v)) H:=by
 have r0:=r.drop i;have len:(Z.set i (.val pv)).length=(Y.set i (aa v)).length:=by rw[jR,jR];exact r.len
 refine⟨len,r.ex,λj p e=>?_,λj po e=>?_,λj b h=>?_,r0.dist⟩
 ·by_cases hj:i=j
  ·subst hj;have hi:i<Z.length:=by have:=(d9.mp e).1;rw[jR]at this;exact this
   rw[im hi]at e;cases e;exact⟨v,im (by rw[←r.len];exact hi),h⟩
  ·rw[fA hj]at e;obtain⟨w,h1,h2⟩:=r.val j p e;exact⟨w,by rw[fA hj];exact h1,h2⟩
 ·have hj:i≠j:=by
   rintro rfl;have hi:i<Z.length:=by have:=(d9.mp e).1;rw[jR]at this;exact this
   rw[im hi]at e;cases e
  rw[fA hj]at e;obtain⟨a,h1,h2⟩:=r.own j po e;have eS:(λb=>S j b/\j≠i)=S j:=by funext b;simp[fY hj]
  exact⟨a,by rw[fA hj];exact h1,by rw[eS];exact h2⟩
 ·obtain⟨⟨po,q1⟩,q2⟩:=r0.foot j b h;refine⟨⟨po,?_⟩,q2⟩;rw[fA (fY h.2)]at q1 ⊢;exact q1
theorem bM.less{S:Nat->ah->Prop}{F:ah->Prop}{H:Hp}(i:Nat):bM (U S) (U λj b=>S j b/\j≠i) F F H H:=⟨λ_ z=>z,λ_ _ z _=>z,λ_ o z=>⟨o,z⟩,λ_ z=>.inl z,λb ⟨j,z⟩=>.inl ⟨j,z.1⟩⟩
theorem aX.setOwn{K:aC}{F:ah->Prop}{S:Nat->ah->Prop}{Z:aj}{Y:St}{H:Hp}{i:Nat}{po:PO}{a:ah}{Sa:ah->Prop}(r:aX K F S Z Y H)(hi:i<Z.length)(h:gh K H F po a Sa)(fr:zq F S H Sa):aX K F (λj b=>(S j b/\j≠i)\/(j=i/\Sa b)) (Z.set i (.own po)) (Y.set i (aa (.ref a))) H:=by
 have r0:=r.drop i;refine⟨by rw[jR,jR];exact r.len,r.ex,λj p e=>?_,λj po' e=>?_,λj b h=>?_,λj k b h1 h2=>?_⟩
 ·have hj:i≠j:=by rintro rfl;rw[im hi]at e;cases e
  rw[fA hj]at e;obtain⟨w,h1,h2⟩:=r.val j p e;exact⟨w,by rw[fA hj];exact h1,h2⟩
 ·by_cases hj:i=j
  ·subst hj;rw[im hi]at e;cases e;have eS:(λb=>(S i b/\i≠i)\/(i=i/\Sa b))=Sa:=by funext b;simp
   exact⟨a,im (by rw[←r.len];exact hi),by rw[eS];exact h⟩
  ·rw[fA hj]at e;obtain⟨a',h1,h2⟩:=r.own j po' e;have eS:(λb=>(S j b/\j≠i)\/(j=i/\Sa b))=S j:=by funext b;simp[fY hj]
   exact⟨a',by rw[fA hj];exact h1,by rw[eS];exact h2⟩
 ·rcases h with h|⟨rfl,h⟩
  ·obtain⟨⟨po',q1⟩,q2⟩:=r0.foot j b h;refine⟨⟨po',?_⟩,q2⟩;rw[fA (fY h.2)]at q1 ⊢;exact q1
  ·obtain⟨x1,x2,x3⟩:=fr b h;exact⟨⟨po,im hi⟩,x1,x3⟩
 ·rcases h1 with h1|⟨rfl,h1⟩ <;> rcases h2 with h2|⟨rfl,h2⟩
  ·exact r.dist j k b h1.1 h2.1
  ·exact absurd ⟨j,h1.1⟩ (fr b h2).2.1
  ·exact absurd ⟨k,h2.1⟩ (fr b h1).2.1
  ·rfl
def bv(i:Nat)(d:aj->R PV):aj->R aO:=λZ=>(d Z).bind λx dM=>.ok .next (dM.set i (.val x))
theorem eO(i:Nat){x:Str}{p:Pos}(hN:X.N.Nodup)(he:DE X E e de)(hp:i∉pin:=by decide)(hi:X.N[i]?=aa x:=by rfl)(hx:Loc X.env.scope x:=by first|exact Or.inl rfl|exact Or.inr rfl)(hs:nv e (aa (.Name x p)) pos.line X.env=pure am:=by rfl)(hf:X.fn x=ai\/X.env.scope.names.lookup x=aa .local:=by first|exact .inl rfl|exact .inr rfl):DS X E pin (.Assign [.Name x p] e pos) (bv i de):=λF S Z Y H D rl h=>jH (JF hN hi hx cn hs hf) (he F S Z Y H _ rl (h.bindE.imp λx dM F1 S1 H1 r1 g1 h1 v rv=>h1 F1 _ _ H1 (r1.set rv) (bM.less i) (jA.set hp)))
def eI(i:Nat)(d:aj->R PO):aj->R aO:=λZ=>(d Z).bind λx dM=>if i<dM.length then .ok .next (dM.set i (.own x))else .no
theorem lW(i:Nat){x:Str}{p:Pos}{dn:aj->R PO}(hN:X.N.Nodup)(he:DN X E e dn)(hp:i∉pin:=by decide)(hi:X.N[i]?=aa x:=by rfl)(hx:Loc X.env.scope x:=by first|exact Or.inl rfl|exact Or.inr rfl)(hs:nv e (aa (.Name x p)) pos.line X.env=pure am:=by rfl)(hf:X.fn x=ai\/X.env.scope.names.lookup x=aa .local:=by first|exact .inl rfl|exact .inr rfl):DS X E pin (.Assign [.Name x p] e pos) (eI i dn):=λF S Z Y H D rl h=>by
 refine jH (JF hN hi hx cn hs hf) (he F S Z Y H _ rl ?_);unfold eI at h;cases e0:dn Z with
 |no=>rw[e0]at h;exact h.elim
 |er c Z'=>rw[e0]at h;exact λx F' S' H' r' g'=>h x F' S' Y H' r' g' (jA.refl _ _)
 |ok po dM=>
  rw[e0]at h;simp only[R.bind_ok]at h;intro F1 S1 H1 r1 g1 a Sa ow fr;by_cases hl:i<dM.length
  ·rw[if_pos hl]at h;refine h F1 _ _ H1 (r1.setOwn hl ow λb z=>(fr b z).2) ⟨g1.fro,g1.keep,g1.there,g1.fnew,λb ⟨j,z⟩=>?_⟩ (jA.set hp);rcases z with z|⟨_,z⟩
   ·exact g1.onew b ⟨j,z.1⟩
   ·exact .inr (fr b z).1
  ·rw[if_neg hl]at h;exact h.elim
theorem gq{c:aE}{a b:List ba}{t:aj->R Bool}(hc:DT X E c t)(ha:gY X E pin a d1)(hb:gY X E pin b d2):DS X E pin (.If c a b pos) (cN t d1 d2):=λF S Z Y H D rl h=>by
 refine jH (VJ n6 tF tF) (hc F S Z Y H _ rl (h.bindE.imp λk dM F1 S1 H1 r1 g1 h1=>?_));cases k with
 |true=>exact pN (ha F1 S1 dM Y H1 D r1 h1)
 |false=>exact pD (hb F1 S1 dM Y H1 D r1 h1)
def Hi:aj->R aO:=λ_=>.no
theorem VF{sts:List ba}:gY X E pin sts Hi:=λ_ _ _ _ _ _ _ h=>h.elim
def dN(r:R aO):R aO:=match r with
 |.er _ _=>.no
 |r=>r
theorem mR(h:DS X.nox E0 pin st d):DS X E pin st (λZ=>dN (d Z)):=λF S Z Y H D rl q=>Bx.mk λaf s I=>by
 have q:iG X.K E pin Y F S H (dN (d Z)) D:=q;have q':iG X.K E0 pin Y F S H (d Z) D:=by
  cases e:d Z with
  |no=>rw[e]at q;exact q
  |er c Z'=>rw[e]at q;exact q.elim
  |ok f Z'=>rw[e]at q;cases f <;> exact q
 exact dr ((h F S Z Y H D rl q').run af s (I.wish _)) (λ_ _ z=>z.unwish) λ_ _ z=>z.elim
def tR(X:Cx)(tg X5:aE):TI:=λY H Rr=>Bx (∀af s,Inv X af Y H s->aA (aB X.prog X.w) X.A (bf X5 X.env) (λv s1=>aA (aB X.prog X.w) X.A (p7 v) (xO X af Y tg Rr) X.xe s1) X.xe s)
theorem Dq{tg X5:aE}:PI X tg X5 (tR X tg X5):=λaf s _ _ _ I h=>h.run af s I
theorem GI{tg X5:aE}{t:TI}(h:PI X tg X5 t){Y:St}{H:Hp}{Rr:It->Hp->Prop}(q:t Y H Rr):tR X tg X5 Y H Rr:=⟨λaf s I=>h af s Y H Rr I q⟩
def DI(X:Cx)(E:XK)(tg X5:aE)(d:aj->R (List PV)):Prop:=∀F S Z Y H Rr,aX X.K F S Z Y H ->
 Ok X.K E Y F S H (d Z) (λpvs _ F' S' H'=>∀J vs RR,Reps X.K H' F' pvs vs->vs.length<=bw->Walk J vs RR->(∀S'' F'' H'',bM (U S') (U S'') F' F'' H' H''->RR H'')->Rr J H')->tR X tg X5 Y H Rr
def gx(i:Nat)(db:aj->R aO):List PV->aj->R aO
 |[],Z=>.ok .next Z
 |x::xs,Z=>match db (Z.set i (.val x))with
  |.ok .next Z'=>gx i db xs Z'
  |.ok .cont Z'=>gx i db xs Z'
  |.ok .brk Z'=>.ok .next Z'
  |r=>r
def fg(i:Nat)(di:aj->R (List PV))(db:aj->R aO):aj->R aO:=λZ=>(di Z).bind λxs dM=>gx i db xs dM
theorem mU(i:Nat){x:Str}{p:Pos}{X5:aE}{body:List ba}{di:aj->R (List PV)}{db:aj->R aO}(uy:DC (aB X.prog X.w) X.A X.env X.xe)(hc:X.calm=ai)(hN:X.N.Nodup)(hi:DI X E (.Name x p) X5 di)(hb:gY X E pin body db)(hp:i∉pin:=by decide) (hx:X.N[i]?=aa x:=by rfl) (hl:Loc X.env.scope x:=by first|exact Or.inl rfl|exact Or.inr rfl) (hs:∀x,tW X5 X.env x=pure x:=by intro _;rfl)(hf:X.fn x=ai\/X.env.scope.names.lookup x=aa .local:=by first|exact .inl rfl|exact .inr rfl):DS X E pin (.For (.Name x p) X5 body [] pos) (fg i di db):=λF S Z Y H D rl h=>by
 refine jH (QK uy hc Dq (WE hN hx hl hf) tF hs) (hi F S Z Y H _ rl (h.bindE.imp λxs dM F1 S1 H1 r1 g1 h1 J vs RR rs hz hw keep=>?_));refine Tg hw (λk Y' H'=>∃F' S' Z',aX X.K F' S' Z' Y' H'/\bM (U S1) (U S') F1 F' H1 H'/\iG X.K E pin Y' F' S' H' (gx i db (xs.drop k) Z') D) ⟨F1,S1,dM,r1,bM.refl ..,h1⟩ (λk Y' H' _ ⟨F',S',Z',_,g,_⟩=>keep S' F' H' g) ?_ ?_
 ·rintro k v Y' H' hv ⟨F',S',Z',r',g',q⟩;obtain⟨x,hx,rx⟩:=rs.back hv;have hk:k<xs.length:=(d9.mp hx).1;have ed:xs.drop k=x::xs.drop (k+1):=by rw[Af hk];congr 1;exact(d9.mp hx).2
  rw[ed]at q;have rx':=rx.grow g' r1.fit;have r2:=r'.set (i:=i) rx';have gl:bM (U S') (U λj b=>S' j b/\j≠i) F' F' H' H':=bM.less i;show qW X body _ (Y'.set i (aa v)) H';refine hb F' _ _ _ H' _ r2 ?_;unfold gx at q;have q:=q.from gl (jA.set (x:=aa v) hp);cases e:db (Z'.set i (.val x))with
  |no=>rw[e]at q;exact q
  |er c Z3=>rw[e]at q;exact q
  |ok f Z3=>
   rw[e]at q;cases f with
   |next=>exact λF3 S3 lC H3 r3 g3 p3=>⟨F3,S3,Z3,r3,(g'.trans gl).trans g3,q.from g3 p3⟩
   |cont=>exact λF3 S3 lC H3 r3 g3 p3=>⟨F3,S3,Z3,r3,(g'.trans gl).trans g3,q.from g3 p3⟩
   |brk=>exact q
   |ret s=>exact q
 ·rintro Y' H' ⟨F',S',Z',r',g',q⟩;have hl:vs.length=xs.length:=rs.len;rw[hl,KS]at q;exact q F' S' Y' H' r' (bM.refl ..) (jA.refl _ _)
def fH(t:aj->R Bool)(db:aj->R aO):Nat->aj->R aO
 |0,_=>.no
 |n+1,Z=>(t Z).bind λk dM=>match k with
  |false=>.ok .next dM
  |true=>match db dM with
   |.ok .next Z'=>fH t db n Z'
   |.ok .cont Z'=>fH t db n Z'
   |.ok .brk Z'=>.ok .next Z'
   |r=>r
theorem BY{c:aE}{body:List ba}{t:aj->R Bool}{db:aj->R aO}(bN:aj->Nat)(uy:DC (aB X.prog X.w) X.A X.env X.xe)(hc:DT X E c t)(hb:gY X E pin body db):DS X E pin (.While c body [] pos) (λZ=>fH t db (bN Z) Z):=λF S Z Y H D rl h=>by
 refine jH (Ve uy n6 tF) ⟨λm Y' H'=>∃F' S' Z',aX X.K F' S' Z' Y' H'/\iG X.K E pin Y' F' S' H' (fH t db m Z') D,⟨bN Z,F,S,Z,rl,h⟩,?_⟩;rintro m lB H1 ⟨F1,S1,dM,r1,q⟩;cases m with
 |zero=>exact q.elim
 |succ m=>
  refine hc F1 S1 dM lB H1 _ r1 (q.bindE.imp λk Z2 F2 S2 H2 r2 g2 q2=>?_);cases k with
  |false=>exact pD (q2 F2 S2 lB H2 r2 (bM.refl ..) (jA.refl _ _))
  |true=>
   refine pN ⟨λY' H'=>∃F' S' Z',aX X.K F' S' Z' Y' H'/\iG X.K E pin Y' F' S' H' (fH t db m Z') D,λY' H' w=>⟨m,nG m,w⟩,hb F2 S2 Z2 lB H2 _ r2 ?_⟩;have q2:iG X.K E pin lB F2 S2 H2 (match db Z2 with
    |.ok .next Z'=>fH t db m Z'
    |.ok .cont Z'=>fH t db m Z'
    |.ok .brk Z'=>.ok .next Z'
    |r=>r) D:=q2
   cases e:db Z2 with
   |no=>rw[e]at q2;exact q2
   |er c Z3=>rw[e]at q2;exact q2
   |ok f Z3=>
    rw[e]at q2;cases f with
    |next=>exact λF3 S3 lC H3 r3 g3 p3=>⟨F3,S3,Z3,r3,q2.from g3 p3⟩
    |cont=>exact λF3 S3 lC H3 r3 g3 p3=>⟨F3,S3,Z3,r3,q2.from g3 p3⟩
    |brk=>exact q2
    |ret s=>exact q2
end
def zi(K:aC)(E:XK)(vs:List V)(F:ah->Prop)(S:Nat->ah->Prop)(H:Hp)(r:R Slot)(Q:VK):Prop:=match r with
 |.ok s aP=>∀v F' S' H' Sr,aX K F' S' aP (vs.map aa) H'->bM (U S) (λb=>U S' b\/Sr b) F F' H H'->j9 K H' F' s v Sr->zq F' S' H' Sr->(∀b,Sr b->H b=ae)->Q v H'
 |.er c aP=>∀x F' S' H',aX K F' S' aP (vs.map aa) H'->bM (U S) (U S') F F' H H'->E c x H'
 |.no=>False
def bz(K:aC)(g:aj->R Slot):Sp:=λvs H Q E=>∃F S ss,aX K F S ss (vs.map aa) H/\zi K E vs F S H (g ss) Q
structure cA(CX:gc)(P:aZ)(w:aT)(K:aC)(mg:Str->Option ak)(base:aI)(x:Str)(k:Nat)(ps:List Str)(sp:Sp):Prop where
 ex:∃f fd,mg x=aa (.ref f)/\j5 P w K mg base CX k f fd ps sp/\Binds K fd ps []/\oC K (.ref f)=ai
def back:aj->aj->Option aj
 |[],_=>aa []
 |.own _::ss,.own po::es=>(back ss es).map (.own po::·)
 |.own _::_,_=>ae
 |s::ss,_::es=>(back ss es).map (s::·)
 |_::_,[]=>ae
theorem yA:∀{ss es aP:aj},back ss es=aa aP->aP.length=ss.length/\∀(i:Nat) (s:Slot),aP[i]?=aa s->(∃po po',ss[i]?=aa (.own po)/\es[i]?=aa (.own po')/\s=.own po')\/(ss[i]?=aa s/\∀po,s≠.own po)
 |[],_,aP,h=>by cases h;exact⟨rfl,λi s e=>by simp at e⟩
 |.own po::ss,.own po'::es,aP,h=>by
  unfold back at h;cases e:back ss es with
  |none=>rw[e]at h;cases h
  |some r=>
   rw[e]at h;cases h;obtain⟨l,q⟩:=yA e;refine⟨by simp[l],λi s hi=>?_⟩;cases i with
   |zero=>simp at hi;subst hi;exact .inl ⟨po,po',rfl,rfl,rfl⟩
   |succ i=>simpa using q i s (by simpa using hi)
 |.own po::ss,.none::es,aP,h=>by cases h
 |.own po::ss,.val _::es,aP,h=>by cases h
 |.own po::ss,[],aP,h=>by cases h
 |.none::ss,[],aP,h=>by cases h
 |.val _::ss,[],aP,h=>by cases h
 |.none::ss,x::es,aP,h=>by
  have h:(back ss es).map (Slot.none::·)=aa aP:=by unfold back at h;cases x <;> exact h
  cases e:back ss es with
  |none=>rw[e]at h;cases h
  |some r=>
   rw[e]at h;cases h;obtain⟨l,q⟩:=yA e;refine⟨by simp[l],λi s hi=>?_⟩;cases i with
   |zero=>simp at hi;subst hi;exact .inr ⟨rfl,λ_ z=>by cases z⟩
   |succ i=>simpa using q i s (by simpa using hi)
 |.val pv::ss,x::es,aP,h=>by
  have h:(back ss es).map (Slot.val pv::·)=aa aP:=by unfold back at h;cases x <;> exact h
  cases e:back ss es with
  |none=>rw[e]at h;cases h
  |some r=>
   rw[e]at h;cases h;obtain⟨l,q⟩:=yA e;refine⟨by simp[l],λi s hi=>?_⟩;cases i with
   |zero=>simp at hi;subst hi;exact .inr ⟨rfl,λ_ z=>by cases z⟩
   |succ i=>simpa using q i s (by simpa using hi)
def bu(n:Nat)(d:aj->R aO):aj->R Slot:=λss=>match d (ss++bK n .none)with
 |.ok (.ret r) Z'=>(aV (back ss Z') []).bind λaP _=>.ok r aP
 |.ok .next Z'=>(aV (back ss Z') []).bind λaP _=>.ok (.val .non) aP
 |.er c Z'=>(aV (back ss Z') []).bind λaP _=>.er c aP
 |_=>.no
section
variable{K:aC}{F F':ah->Prop}{S S':Nat->ah->Prop}{ss Z' aP:aj}{Y':St}{H H':Hp}{vs:List V}
theorem aX.start(r:aX K F S ss (vs.map aa) H)(n:Nat):aX K F S (ss++bK n .none) (vs.map aa++bK n ae) H:=by
 have hl:ss.length=(vs.map aa).length:=r.len;have no:∀{j:Nat}{s:Slot},(ss++bK n Slot.none)[j]?=aa s->s≠.none->ss[j]?=aa s:=λ{j s} e hs=>by
  by_cases hj:j<ss.length
  ·rw[fJ hj]at e;exact e
  ·rw[jO ∅,List.getElem?_replicate]at e;split at e
   ·exact absurd (eV e).symm hs
   ·cases e
 have up:∀{j:Nat}{v:Option V},(vs.map aa)[j]?=aa v->(vs.map aa++bK n ae)[j]?=aa v:=λ{j v} e=>by rw[fJ (d9.mp e).1];exact e
 refine⟨by simp[hl],r.ex,λj pv e=>?_,λj po e=>?_,λj b h=>?_,r.dist⟩
 ·obtain⟨v,h1,h2⟩:=r.val j pv (no e (by intro z;cases z));exact⟨v,up h1,h2⟩
 ·obtain⟨v,h1,h2⟩:=r.own j po (no e (by intro z;cases z));exact⟨v,up h1,h2⟩
 ·obtain⟨⟨po,q⟩,q2⟩:=r.foot j b h;exact⟨⟨po,by rw[fJ (d9.mp q).1];exact q⟩,q2⟩
theorem GK{po:PO}{a:ah}{Sa:ah->Prop}(h:gh K H F po a Sa)(hf:je po=ai):∀b,Sa b↔b=a:=by
 cases po with
 |lst xs=>exact h.2
 |dK XN=>exact h.2
 |lls kM=>cases hf
 |ins C fs=>exact h.2
 |dT XN=>exact h.2
 |inl C fs y xs=>cases hf
theorem PJ{po:PO}{a:ah}{Sa:ah->Prop}(h:gh K H F po a Sa):Sa a:=by
 cases po with
 |lst xs=>exact(h.2 a).mpr rfl
 |dK XN=>exact(h.2 a).mpr rfl
 |lls kM=>obtain⟨as,_,_,_,_,w⟩:=h;exact(w a).mpr (.inl rfl)
 |ins C fs=>exact(h.2 a).mpr rfl
 |dT XN=>exact(h.2 a).mpr rfl
 |inl C fs y xs=>obtain⟨_,_,_,_,_,_,_,_,_,_,w⟩:=h;exact(w a).mpr (.inl rfl)
theorem aX.back{O':ah->Prop}{pin:List Nat}{n:Nat}(r0:aX K F S ss (vs.map aa) H)(r:aX K F' S' Z' Y' H')(g:bM (U S) O' F F' H H')(p:jA pin (vs.map aa++bK n ae) Y')(jT:∀(i:Nat) (po:PO),ss[i]?=aa (.own po)->i∈pin)(hb:back ss Z'=aa aP):∃S'',aX K F' S'' aP (vs.map aa) H'/\(∀b,U S'' b->U S' b)/\((∀(i:Nat) (po:PO),ss[i]?=aa (.own po)->je po=ai)->∀b,U S b->U S'' b):=by
 obtain⟨hl,hg⟩:=yA hb;have inj:∀(i:Nat) (po:PO),ss[i]?=aa (.own po)->∃a,(vs.map aa)[i]?=aa (aa (.ref a))/\Y'[i]?=aa (aa (.ref a))/\gh K H F po a (S i):=λi po e=>by obtain⟨a,h1,h2⟩:=r0.own i po e;refine⟨a,h1,?_,h2⟩;rw[p i (jT i po e),fJ (d9.mp h1).1];exact h1
 have bk:∀(i:Nat) (po:PO),ss[i]?=aa (.own po)->∃po',aP[i]?=aa (.own po')/\Z'[i]?=aa (.own po'):=λi po e=>by
  have hi:i<aP.length:=by rw[hl];exact(d9.mp e).1
  rcases hg i aP[i] (by simp[hi])with⟨p1,p2,q1,q2,q3⟩|⟨q1,q2⟩
  ·exact⟨p2,by rw[f9 hi,q3],q2⟩
  ·rw[e]at q1;exact absurd (eV q1).symm (q2 po)
 refine⟨λi b=>S' i b/\∃po,ss[i]?=aa (.own po),⟨by rw[hl];exact r0.len,r.ex,λi pv e=>?_,λi po e=>?_,λi b h=>?_,λi j b h1 h2=>r.dist i j b h1.1 h2.1⟩,λb ⟨i,h⟩=>⟨i,h.1⟩,λnJ b ⟨i,h⟩=>?_⟩
 ·rcases hg i _ e with⟨_,_,_,_,z⟩|⟨q1,_⟩
  ·cases z
  ·obtain⟨v,h1,h2⟩:=r0.val i pv q1;exact⟨v,h1,h2.grow g r0.fit⟩
 ·rcases hg i _ e with⟨p1,p2,q1,q2,q3⟩|⟨_,q2⟩
  ·cases q3;obtain⟨a,h1,h2,h3⟩:=inj i p1 q1;obtain⟨a',h4,h5⟩:=r.own i po q2;rw[h2]at h4;cases h4;refine⟨a,h1,?_⟩;have eS:(λb=>S' i b/\∃po,ss[i]?=aa (.own po))=S' i:=by funext b;exact propext ⟨λz=>z.1,λz=>⟨z,p1,q1⟩⟩
   rw[eS];exact h5
  ·exact absurd rfl (q2 po)
 ·obtain⟨po,q⟩:=h.2;obtain⟨po',z1,z2⟩:=bk i po q;exact⟨⟨po',z1⟩,(r.foot i b h.1).2⟩
 ·obtain⟨⟨po,q⟩,_⟩:=r0.foot i b h;obtain⟨a,h1,h2,h3⟩:=inj i po q;obtain⟨po',z1,z2⟩:=bk i po q;obtain⟨a',h4,h5⟩:=r.own i po' z2;rw[h2]at h4;cases h4;have e:b=a:=(GK h3 (nJ i po q) b).mp h;exact⟨i,e ▸ PJ h5,po,q⟩
end
theorem zb{K:aC}{E:XK}{vs:List V}{F:ah->Prop}{S:Nat->ah->Prop}{H:Hp}{r:R Slot}{Q:VK}(h:zi K E vs F S H r Q):r≠.no:=λz=>by rw[z]at h;exact h
theorem FI{K:aC}{g:aj->R Slot}{m:Nat}(cg:∀ss,g ss≠.no->ss.length=m):∀vs H Q E,bz K g vs H Q E->vs.length=m:=λvs H Q E ⟨F,S,ss,rl,ok⟩=>by have:=cg ss (zb ok);have h2:=rl.len;rw[dw]at h2;lia
theorem J0{X:Cx}{E:XK}{body:List ba}{N ps:List Str}{vs:List V}{H:Hp}{Q:VK}{n:Nat}{g:aj->R Slot}{d:aj->R aO}{pin:List Nat}(hn:N.length=ps.length+n)(cg:∀ss,g ss≠.no->ss.length=ps.length) (jT:∀ss,g ss≠.no->∀(i:Nat) po,ss[i]?=aa (.own po)->i∈pin) (nJ:∀ss rs aP,g ss=.ok rs aP->(∃pv,rs=.val pv)\/∀(i:Nat) po,ss[i]?=aa (.own po)->je po=ai) (hg:∀ss,g ss≠.no->bu n d ss=g ss)(hb:gY X E pin body d) (jW:bz X.K g vs H Q E):qW X body {nx:=λ_ H'=>Q .non H',rt:=Q} (L2.start N vs) H:=by
 obtain⟨F,S,ss,rl,ok⟩:=jW;have hl:=cg ss (zb ok);have h2:=rl.len;rw[dw]at h2;have es:L2.start N vs=vs.map aa++bK n ae:=by unfold L2.start;rw[show N.length-vs.length=n by lia]
 rw[es];refine hb F S _ _ H _ (rl.start n) ?_;have Lk:=jT ss (zb ok);have mC:=hg ss (zb ok);have AB:=nJ ss;rw[←mC]at ok AB;unfold bu at ok AB;generalize d (ss++bK n .none)=r at ok AB ⊢;cases r with
 |no=>exact ok
 |er c Z'=>
  intro x F' S' Y' H' r' g' p';have ok:zi X.K E vs F S H ((aV (back ss Z') []).bind λaP _=>.er c aP) Q:=ok;cases e:back ss Z' with
  |none=>rw[e]at ok;exact ok.elim
  |some aP=>rw[e]at ok;obtain⟨S'',r'',sub,_⟩:=rl.back r' g' p' Lk e;exact ok x F' S'' H' r'' ⟨g'.fro,g'.keep,g'.there,g'.fnew,λb z=>g'.onew b (sub b z)⟩
 |ok fl Z'=>
  have fin:∀(rs:Slot),(∀aP,back ss Z'=aa aP->(∃pv,rs=.val pv)\/∀(i:Nat) po,ss[i]?=aa (.own po)->je po=ai)->zi X.K E vs F S H ((aV (back ss Z') []).bind λaP _=>.ok rs aP) Q->∀(v:V) F' S' Y' H' Sr,aX X.K F' S' Z' Y' H'->bM (U S) (λb=>U S' b\/Sr b) F F' H H'->jA pin (vs.map aa++bK n ae) Y'->j9 X.K H' F' rs v Sr->zq F' S' H' Sr->Q v H':=by
   intro rs hrs ok v F' S' Y' H' Sr r' g' p' hv lo;cases e:back ss Z' with
   |none=>rw[e]at ok;exact ok.elim
   |some aP=>
    rw[e]at ok;obtain⟨S'',r'',sub,up⟩:=rl.back r' g' p' Lk e;refine ok v F' S'' H' Sr r'' ⟨g'.fro,g'.keep,g'.there,g'.fnew,λb z=>g'.onew b (z.imp (sub b) id)⟩ hv (λb z=>⟨(lo b z).1,λw=>(lo b z).2.1 (sub b w),(lo b z).2.2⟩) λb z=>?_;rcases hrs aP e with⟨pv,rfl⟩|hf
    ·exact absurd z (hv.2 b)
    rcases g'.onew b (.inr z)with w|w
    ·exact absurd (sub b (up hf b w)) (lo b z).2.1
    ·exact w
  cases fl with
  |brk=>exact ok.elim
  |cont=>exact ok.elim
  |ret rs=>exact fin rs (λaP e=>AB rs aP (by show(aV (back ss Z') []).bind _=_;rw[e];rfl)) ok
  |next=>exact λF' S' Y' H' r' g' p'=>fin (.val .non) (λ_ _=>.inl ⟨_,rfl⟩) ok .non F' S' Y' H' (λ_=>False) r' ⟨g'.fro,g'.keep,g'.there,g'.fnew,λb z=>z.elim (g'.onew b) iJ⟩ p' ⟨rfl,λ_ z=>z⟩ λ_ z=>z.elim
theorem Fz{f:ah}{fd:gD}{CX:gc}{P:aZ}{w:aT}{K:aC}{mg:Str->Option ak}{base:aI}{x qual:Str}{st:ba}{N ps:List Str}{k n:Nat}{g:aj->R Slot}{d:aj->R aO}{pin:List Nat}(Fn:qP K x qual st f fd)(Sc:b7 N ps (a8 st))(hn:N.length=ps.length+n)(hb:∀(kV X9 pm:ak) (an:Option ah) (aN ct:ak) (us:List ak),us.length=ps.length->fZ (i4 x qual (j7 st) (fX st) (a8 st) .none kV X9 pm an aN ct) ⟨us,[]⟩=pure (ps.zip us))(cg:∀ss,g ss≠.no->ss.length=ps.length) (jT:∀ss,g ss≠.no->∀(i:Nat) po,ss[i]?=aa (.own po)->i∈pin) (nJ:∀ss rs aP,g ss=.ok rs aP->(∃pv,rs=.val pv)\/∀(i:Nat) po,ss[i]?=aa (.own po)->je po=ai) (hg:∀ss,g ss≠.no->bu n d ss=g ss)(iw:∀(A:bd) (outer:List Env) (s:aq) (H:Hp) (E:XK),Room k (A.deeper (js qual (a8 st) s.heap.objs.size f fd.code))->gY (iU CX P w K mg base N qual (a8 st) f fd.code A outer s H E) E pin (fX st) d):j5 P w K mg base CX (k+1) f fd ps (bz K g):=by obtain⟨oc,od,kV,X9,pm,an,aN,ct,osl,rfl,lk,bL⟩:=Fn.ex;exact L7 lk bL Sc (FI cg) λA outer s H vs Q E hr jW=>⟨_,tF,J0 hn cg jT nJ hg (iw A outer s H E hr) jW⟩
theorem HL{f:ah}{fd:gD}{CX:gc}{P:aZ}{w:aT}{K:aC}{mg:Str->Option ak}{base:aI}{x qual:Str}{st:ba}{N ps:List Str}{k n:Nat}{g:aj->R Slot}{d:aj->R aO}{pin:List Nat}(Fn:qP K x qual st f fd)(Sc:b7 N ps (a8 st))(hn:N.length=ps.length+n)(hb:∀(kV X9 pm:ak) (an:Option ah) (aN ct:ak) (us:List ak),us.length=ps.length->fZ (i4 x qual (j7 st) (fX st) (a8 st) .none kV X9 pm an aN ct) ⟨us,[]⟩=pure (ps.zip us))(cg:∀ss,g ss≠.no->ss.length=ps.length) (jT:∀ss,g ss≠.no->∀(i:Nat) po,ss[i]?=aa (.own po)->i∈pin/\je po=ai) (hg:∀ss,g ss≠.no->bu n d ss=g ss)(iw:∀(f:ah) (aN:ak) (A:bd) (outer:List Env) (s:aq) (H:Hp) (E:XK),Room k (A.deeper (js qual (a8 st) s.heap.objs.size f aN))->gY (iU CX P w K mg base N qual (a8 st) f aN A outer s H E) E pin (fX st) d):j5 P w K mg base CX (k+1) f fd ps (bz K g):=Fz Fn Sc hn hb cg (λss h i po e=>(jT ss h i po e).1) (λss rs aP h=>.inr λi po e=>(jT ss (by rw[h];exact nofun) i po e).2) hg λA outer s H E=>iw f fd.code A outer s H E
theorem Wq{CX:gc}{P:aZ}{w:aT}{K:aC}{mg:Str->Option ak}{base:aI}{x:Str}{st:ba}{N ps:List Str}{k n:Nat}{g:aj->R Slot}{d:aj->R aO}{pin:List Nat}(D:cz K mg x st)(Sc:b7 N ps (a8 st))(hn:N.length=ps.length+n)(hb:∀(kV X9 pm:ak) (an:Option ah) (aN ct:ak) (us:List ak),us.length=ps.length->fZ (i4 x x (j7 st) (fX st) (a8 st) .none kV X9 pm an aN ct) ⟨us,[]⟩=pure (ps.zip us))(cg:∀ss,g ss≠.no->ss.length=ps.length) (jT:∀ss,g ss≠.no->∀(i:Nat) po,ss[i]?=aa (.own po)->i∈pin/\je po=ai) (hg:∀ss,g ss≠.no->bu n d ss=g ss)(iw:∀(f:ah) (aN:ak) (A:bd) (outer:List Env) (s:aq) (H:Hp) (E:XK),Room k (A.deeper (js x (a8 st) s.heap.objs.size f aN))->gY (iU CX P w K mg base N x (a8 st) f aN A outer s H E) E pin (fX st) d):cA CX P w K mg base x (k+1) ps (bz K g):=by obtain⟨f,fd,hm,Fn⟩:=D.ex;exact⟨f,fd,hm,HL Fn Sc hn hb cg jT hg iw,Fn.binds hb,Fn.kp⟩
abbrev b0:=Sum PV Nat
def i_(K:aC)(Y:St)(F:ah->Prop)(H:Hp):List b0->List V->Prop
 |[],vs=>vs=[]
 |.inl pv::as,vs=>∃v r,vs=v::r/\bh K H F pv v/\i_ K Y F H as r
 |.inr i::as,vs=>∃v r,vs=v::r/\Y[i]?=aa (aa v)/\i_ K Y F H as r
def DG(X:Cx)(E:XK)(es:List aE)(d:aj->R (List b0)):Prop :=
 ∀F S Z Y H Q,aX X.K F S Z Y H->Ok X.K E Y F S H (d Z) (λas _ F' _ H'=>∀vs,i_ X.K Y F' H' as vs->Q vs H')->qI X es Y H Q
section
variable{X:Cx}{E:XK}{e:aE}{es:List aE}{de:aj->R PV}{dg:aj->R (List b0)}{pos:Pos}
def bG:aj->R (List b0):=λZ=>.ok [] Z
def gV(d:aj->R PV)(dg:aj->R (List b0)):aj->R (List b0):=λZ=>(d Z).bind λx dM=>(dg dM).bind λxs Z2=>.ok (.inl x::xs) Z2
def gO(i:Nat)(dg:aj->R (List b0)):aj->R (List b0):=λZ=>match Z[i]? with
 |some (.own _)=>(dg Z).bind λxs Z2=>.ok (.inr i::xs) Z2
 |_=>.no
theorem bJ:DG X E [] bG:=λF S Z Y H Q rl h=>qO k_ (h F S H rl (bM.refl ..) _ rfl)
theorem NA(ha:DE X E e de)(hr:DG X E es dg)(hs:aW (e::es) X.env=(am,bf e X.env)::aW es X.env:=by rfl):DG X E (e::es) (gV de dg):=λF S Z Y H Q rl h=>by refine qO (jE cn g9 hs) (ha F S Z Y H _ rl ((Ok.bind h).imp λx dM F1 S1 H1 r1 g1 h1 v rv=>?_));refine hr F1 S1 dM Y H1 _ r1 ((Ok.bind h1).imp λxs Z2 F2 S2 H2 r2 g2 h2 vs jZ=>?_);exact h2 F2 S2 H2 r2 (bM.refl ..) _ ⟨v,vs,rfl,rv.grow g2 r1.fit,jZ⟩
theorem jC(i:Nat){x:Str}{p:Pos}(hr:DG X E es dg)(hN:X.N[i]?=aa x:=by rfl)(hv:fP X.env.scope x:=by first|exact Or.inl rfl|exact Or.inr (Or.inl rfl)|exact Or.inr (Or.inr rfl))(hd:(x == ("__debug__" : Str))=am:=by decide)(bL:(x == ("__classdict__" : Str))=am:=by decide) (hs:aW (.Name x p::es) X.env=(am,bf (.Name x p) X.env)::aW es X.env:=by rfl):DG X E (.Name x p::es) (gO i dg):=λF S Z Y H Q rl h=>by
 unfold gO at h;split at h
 ·rename_i po e;obtain⟨a,e1,_⟩:=rl.own i po e;refine qO (jE (gL hN hv hd bL) g9 hs) ⟨_,e1,hr F S Z Y H _ rl ((Ok.bind h).imp λxs Z2 F2 S2 H2 r2 g2 h2 vs jZ=>?_)⟩;exact h2 F2 S2 H2 r2 (bM.refl ..) _ ⟨_,vs,rfl,e1,jZ⟩
 ·exact h.elim
end
def c_(Z:aj):List b0->Option aj
 |[]=>aa []
 |.inl pv::as=>(c_ Z as).map (.val pv::·)
 |.inr i::as=>match Z[i]? with
  |some (.own po)=>(c_ Z as).map (.own po::·)
  |_=>ae
def eh:aj->List b0->aj->aj
 |Z,.inl _::as,_::ss=>eh Z as ss
 |Z,.inr i::as,s::ss=>eh (Z.set i s) as ss
 |Z,_,_=>Z
def cu:List b0->List Nat
 |[]=>[]
 |.inl _::as=>cu as
 |.inr i::as=>i::cu as
theorem Hl:∀{as:List b0}{i:Nat},i∈cu as↔∃k:Nat,as[k]?=aa (.inr i)
 |[],i=>by simp[cu]
 |.inl _::as,i=>by
  unfold cu;rw[Hl];constructor
  ·rintro⟨k,h⟩;exact⟨k+1,by simpa using h⟩
  ·rintro⟨k,h⟩;cases k with
   |zero=>simp at h
   |succ k=>exact⟨k,by simpa using h⟩
 |.inr j::as,i=>by
  unfold cu;rw[b8,Hl];constructor
  ·rintro(rfl|⟨k,h⟩)
   ·exact⟨0,rfl⟩
   ·exact⟨k+1,by simpa using h⟩
  ·rintro⟨k,h⟩;cases k with
   |zero=>simp at h;exact .inl h.symm
   |succ k=>exact .inr ⟨k,by simpa using h⟩
theorem yX{Z:aj}:∀{as:List b0}{ss:aj},c_ Z as=aa ss->ss.length=as.length/\∀(k:Nat) (s:Slot),ss[k]?=aa s->(∃pv,as[k]?=aa (.inl pv)/\s=.val pv)\/∃i po,as[k]?=aa (.inr i)/\Z[i]?=aa (.own po)/\s=.own po
 |[],ss,h=>by cases h;exact⟨rfl,λk s e=>by simp at e⟩
 |.inl pv::as,ss,h=>by
  unfold c_ at h;cases e:c_ Z as with
  |none=>rw[e]at h;cases h
  |some r=>
   rw[e]at h;cases h;obtain⟨l,q⟩:=yX e;refine⟨by simp[l],λk s hk=>?_⟩;cases k with
   |zero=>simp at hk;exact .inl ⟨pv,rfl,hk.symm⟩
   |succ k=>simpa using q k s (by simpa using hk)
 |.inr i::as,ss,h=>by
  unfold c_ at h;split at h
  ·rename_i po ei;cases e:c_ Z as with
   |none=>rw[e]at h;cases h
   |some r=>
    rw[e]at h;cases h;obtain⟨l,q⟩:=yX e;refine⟨by simp[l],λk s hk=>?_⟩;cases k with
    |zero=>simp at hk;exact .inr ⟨i,po,rfl,ei,hk.symm⟩
    |succ k=>simpa using q k s (by simpa using hk)
  ·cases h
theorem xV:∀(as:List b0) (Z ss:aj),(eh Z as ss).length=Z.length
 |[],Z,ss=>by cases ss <;> rfl
 |.inl _::as,Z,[]=>rfl
 |.inr _::as,Z,[]=>rfl
 |.inl _::as,Z,s::ss=>xV as Z ss
 |.inr i::as,Z,s::ss=>by show(eh (Z.set i s) as ss).length=_;rw[xV,jR]
theorem tL:∀(as:List b0) (Z ss:aj) (j:Nat),j∉cu as->(eh Z as ss)[j]?=Z[j]?
 |[],Z,ss,j,_=>by cases ss <;> rfl
 |.inl _::as,Z,[],j,_=>rfl
 |.inr _::as,Z,[],j,_=>rfl
 |.inl _::as,Z,s::ss,j,h=>tL as Z ss j h
 |.inr i::as,Z,s::ss,j,h=>by
  have h1:¬(j=i\/j∈cu as):=by simpa[cu]using h
  show(eh (Z.set i s) as ss)[j]?=_;rw[tL as _ ss j λz=>h1 (.inr z),fA λz=>h1 (.inl z.symm)]
theorem uD:∀(as:List b0) (Z ss:aj) (j k:Nat) (s:Slot),(cu as).Nodup->j<Z.length->as[k]?=aa (.inr j)->ss[k]?=aa s->(eh Z as ss)[j]?=aa s
 |[],Z,ss,j,k,s,_,_,h,_=>by simp at h
 |_::as,Z,[],j,k,s,_,_,_,h=>by simp at h
 |.inl _::as,Z,t::ss,j,0,s,_,_,h,_=>by simp at h
 |.inl _::as,Z,t::ss,j,k+1,s,nd,hj,h,g=>uD as Z ss j k s nd hj (by simpa using h) (by simpa using g)
 |.inr i::as,Z,t::ss,j,0,s,nd,hj,h,g=>by simp at h g;subst h g;have nd':i∉cu as:=(kh.mp nd).1;show(eh (Z.set i t) as ss)[i]?=_;rw[tL as _ ss i nd',im hj]
 |.inr i::as,Z,t::ss,j,k+1,s,nd,hj,h,g=>uD as (Z.set i t) ss j k s (kh.mp nd).2 (by rw[jR];exact hj) (by simpa using h) (by simpa using g)
theorem i_.len{K:aC}{Y:St}{F:ah->Prop}{H:Hp}:∀{as:List b0}{vs:List V},i_ K Y F H as vs->vs.length=as.length
 |[],_,h=>by rw[show _=[] from h];rfl
 |.inl _::as,_,⟨v,r,e,_,h⟩=>by rw[e,fi,fi,i_.len h]
 |.inr _::as,_,⟨v,r,e,_,h⟩=>by rw[e,fi,fi,i_.len h]
theorem i_.val{K:aC}{Y:St}{F:ah->Prop}{H:Hp}:∀{as:List b0}{vs:List V}{k:Nat}{pv:PV},i_ K Y F H as vs->as[k]?=aa (.inl pv)->∃v,vs[k]?=aa v/\bh K H F pv v
 |[],_,k,_,_,e=>by simp at e
 |.inl x::as,_,0,pv,⟨v,r,e,h,_⟩,q=>by simp at q;subst q e;exact⟨v,rfl,h⟩
 |.inr _::as,_,0,pv,_,q=>by simp at q
 |.inl x::as,_,k+1,pv,⟨v,r,e,_,h⟩,q=>by obtain⟨w,a,b⟩:=i_.val (k:=k) h (by simpa using q);subst e;exact⟨w,by simpa using a,b⟩
 |.inr x::as,_,k+1,pv,⟨v,r,e,_,h⟩,q=>by obtain⟨w,a,b⟩:=i_.val (k:=k) h (by simpa using q);subst e;exact⟨w,by simpa using a,b⟩
theorem i_.own{K:aC}{Y:St}{F:ah->Prop}{H:Hp}:∀{as:List b0}{vs:List V}{k i:Nat},i_ K Y F H as vs->as[k]?=aa (.inr i)->∃v,vs[k]?=aa v/\Y[i]?=aa (aa v)
 |[],_,k,_,_,e=>by simp at e
 |.inr x::as,_,0,pv,⟨v,r,e,h,_⟩,q=>by simp at q;subst q e;exact⟨v,rfl,h⟩
 |.inl _::as,_,0,pv,_,q=>by simp at q
 |.inl x::as,_,k+1,pv,⟨v,r,e,_,h⟩,q=>by obtain⟨w,a,b⟩:=i_.own (k:=k) h (by simpa using q);subst e;exact⟨w,by simpa using a,b⟩
 |.inr x::as,_,k+1,pv,⟨v,r,e,_,h⟩,q=>by obtain⟨w,a,b⟩:=i_.own (k:=k) h (by simpa using q);subst e;exact⟨w,by simpa using a,b⟩
section
variable{K:aC}{F F':ah->Prop}{S S':Nat->ah->Prop}{Z ss aP:aj}{Y:St}{H H':Hp}{as:List b0}{vs:List V}
def mZ(as:List b0)(S:Nat->ah->Prop)(k:Nat)(b:ah):Prop:=∃i,as[k]?=aa (.inr i)/\S i b
theorem yJ(b:ah)(h:U (mZ as S) b):U S b:=let ⟨_,i,_,h⟩:=h;⟨i,h⟩
theorem zE:∀{as:List b0}{i k l:Nat},(cu as).Nodup->as[k]?=aa (.inr i)->as[l]?=aa (.inr i)->k=l
 |[],_,_,_,_,h,_=>by simp at h
 |.inl _::as,i,0,_,_,h,_=>by simp at h
 |.inl _::as,i,_,0,_,_,h=>by simp at h
 |.inl _::as,i,k+1,l+1,nd,h1,h2=>by rw[zE (as:=as) (i:=i) (k:=k) (l:=l) nd (by simpa using h1) (by simpa using h2)]
 |.inr j::as,i,0,0,_,_,_=>rfl
 |.inr j::as,i,0,l+1,nd,h1,h2=>by simp at h1;subst h1;exact absurd (Hl.mpr ⟨l,by simpa using h2⟩) (kh.mp nd).1
 |.inr j::as,i,k+1,0,nd,h1,h2=>by simp at h2;subst h2;exact absurd (Hl.mpr ⟨k,by simpa using h1⟩) (kh.mp nd).1
 |.inr j::as,i,k+1,l+1,nd,h1,h2=>by rw[zE (as:=as) (i:=i) (k:=k) (l:=l) (kh.mp nd).2 (by simpa using h1) (by simpa using h2)]
theorem aX.cal(r:aX K F S Z Y H)(ha:i_ K Y F H as vs)(hs:c_ Z as=aa ss)(nd:(cu as).Nodup):aX K F (mZ as S) ss (vs.map aa) H:=by
 obtain⟨hl,hg⟩:=yX hs;have up:∀{k:Nat}{v:V},vs[k]?=aa v->(vs.map aa)[k]?=aa (aa v):=λ{k v} e=>by rw[jP,e];rfl
 refine⟨by rw[hl,dw,ha.len],r.ex,λk pv e=>?_,λk po e=>?_,λk b h=>?_,λk l b h1 h2=>?_⟩
 ·rcases hg k _ e with⟨p,q1,q2⟩|⟨_,_,_,_,z⟩
  ·cases q2;obtain⟨v,a1,a2⟩:=ha.val q1;exact⟨v,up a1,a2⟩
  ·cases z
 ·rcases hg k _ e with⟨_,_,z⟩|⟨i,p,q1,q2,q3⟩
  ·cases z
  ·cases q3;obtain⟨v,a1,a2⟩:=ha.own q1;obtain⟨a,b1,b2⟩:=r.own i po q2;rw[a2]at b1;cases b1;have eS:mZ as S k=S i:=by
    funext b;exact propext ⟨λ⟨j,h1,h2⟩=>by rw[q1]at h1;cases h1;exact h2,λh=>⟨i,q1,h⟩⟩
   exact⟨a,up a1,by rw[eS];exact b2⟩
 ·obtain⟨i,h1,h2⟩:=h;obtain⟨⟨po,q⟩,q2⟩:=r.foot i b h2;have hk:k<ss.length:=by rw[hl];exact(d9.mp h1).1
  refine⟨?_,q2⟩;rcases hg k ss[k] (by simp[hk])with⟨_,z,_⟩|⟨j,p,z1,z2,z3⟩
  ·rw[h1]at z;cases z
  ·exact⟨p,by rw[f9 hk,z3]⟩
 ·obtain⟨i,a1,a2⟩:=h1;obtain⟨j,b1,b2⟩:=h2;have:=r.dist i j b a2 b2;subst this;exact zE nd a1 b1
theorem aX.called{O':ah->Prop}(r:aX K F S Z Y H)(ha:i_ K Y F H as vs)(hs:c_ Z as=aa ss)(nd:(cu as).Nodup)(r':aX K F' S' aP (vs.map aa) H')(g:bM (U (mZ as S)) O' F F' H H')(hO:∀b,U S' b->O' b)(hso:∀(k:Nat) i,as[k]?=aa (.inr i)->∃po,aP[k]?=aa (.own po)):∃S2,aX K F' S2 (eh Z as aP) Y H'/\bM (U S) (U S2) F F' H H'/\∀b,U S2 b->U S' b\/U S b:=by
 have up:∀{k:Nat}{v:V},(vs.map aa)[k]?=aa (aa v)->vs[k]?=aa v:=λ{k v} e=>by
  rw[jP]at e;cases q:vs[k]? with
  |none=>rw[q]at e;cases e
  |some x=>rw[q]at e;cases e;rfl
 have fit:pE (U (mZ as S)) F H:=λb h=>r.fit b (yJ b h);have slen:∀i po,Z[i]?=aa (.own po)->i<Z.length:=λi po e=>(d9.mp e).1;have lt:∀(k:Nat) i,as[k]?=aa (.inr i)->i<Z.length:=λk i e=>by
  obtain⟨hl,hg⟩:=yX hs;have hk:k<ss.length:=by rw[hl];exact(d9.mp e).1
  rcases hg k ss[k] (by simp[hk])with⟨_,z,_⟩|⟨j,p,z1,z2,z3⟩
  ·rw[e]at z;cases z
  ·rw[e]at z1;cases z1;exact slen _ _ z2
 refine⟨λj b=>(∃k:Nat,as[k]?=aa (.inr j)/\S' k b)\/(j∉cu as/\S j b),⟨by rw[xV];exact r.len,r'.ex,λj pv e=>?_,λj po e=>?_,λj b h=>?_,λi j b h1 h2=>?_⟩,⟨g.fro,λb o e n=>g.keep b o e λz=>n (yJ b z),g.there,λa z=>(g.fnew a z).imp id λw=>w.imp id (yJ a),λb ⟨j,z⟩=>?_⟩,λb ⟨j,z⟩=>?_⟩
 ·by_cases hj:j∈cu as
  ·obtain⟨k,hk⟩:=Hl.mp hj;obtain⟨po,q⟩:=hso k j hk;rw[uD as Z aP j k _ nd (lt k j hk) hk q]at e;cases e
  ·rw[tL as Z aP j hj]at e;obtain⟨v,h1,h2⟩:=r.val j pv e;exact⟨v,h1,h2.grow g fit⟩
 ·by_cases hj:j∈cu as
  ·obtain⟨k,hk⟩:=Hl.mp hj;obtain⟨po',q⟩:=hso k j hk;rw[uD as Z aP j k _ nd (lt k j hk) hk q]at e;cases e;obtain⟨a,h1,h2⟩:=r'.own k po q;obtain⟨v,a1,a2⟩:=ha.own hk;rw[up h1]at a1;cases a1;have eS:(λb=>(∃k:Nat,as[k]?=aa (.inr j)/\S' k b)\/(j∉cu as/\S j b))=S' k:=by
    funext b;refine propext ⟨λz=>?_,λz=>.inl ⟨k,hk,z⟩⟩;rcases z with⟨l,z1,z2⟩|⟨z,_⟩
    ·rw[zE nd hk z1];exact z2
    ·exact absurd hj z
   exact⟨a,a2,by rw[eS];exact h2⟩
  ·rw[tL as Z aP j hj]at e;obtain⟨a,h1,h2⟩:=r.own j po e;have eS:(λb=>(∃k:Nat,as[k]?=aa (.inr j)/\S' k b)\/(j∉cu as/\S j b))=S j:=by
    funext b;refine propext ⟨λz=>?_,λz=>.inr ⟨hj,z⟩⟩;rcases z with⟨l,z1,z2⟩|⟨_,z⟩
    ·exact absurd (Hl.mpr ⟨l,z1⟩) hj
    ·exact z
   have h3:gh K H' F' po a (S j):=by refine h2.mono (λ_ _ q=>q.grow g fit) (λ_ _ q=>q.grow g fit) λb o z q=>g.keep b o q λ⟨l,i,w1,w2⟩=>?_;have:=r.dist i j b w2 z;subst this;exact hj (Hl.mpr ⟨l,w1⟩)
   exact⟨a,h1,by rw[eS];exact h3⟩
 ·rcases h with⟨k,h1,h2⟩|⟨h1,h2⟩
  ·obtain⟨⟨po,q⟩,q2⟩:=r'.foot k b h2;exact⟨⟨po,uD as Z aP j k _ nd (lt k j h1) h1 q⟩,q2⟩
  ·obtain⟨⟨po,q⟩,q2,o,q3,q4⟩:=r.foot j b h2;have no:¬U (mZ as S) b:=λ⟨l,i,w1,w2⟩=>by have:=r.dist i j b w2 h2;subst this;exact h1 (Hl.mpr ⟨l,w1⟩)
   refine⟨⟨po,by rw[tL as Z aP j h1];exact q⟩,λz=>?_,o,g.keep b o q3 no,q4⟩;rcases g.fnew b z with w|w|w
   ·exact q2 w
   ·rw[q3]at w;cases w
   ·exact no w
 ·have cross:∀{i j:Nat}{b:ah},(∃k:Nat,as[k]?=aa (.inr i)/\S' k b)->(j∉cu as/\S j b)->False:=λ{i j b} ⟨k,w1,w2⟩ ⟨w3,w4⟩=>by
   obtain⟨_,_,o,q3,_⟩:=r.foot j b w4;rcases g.onew b (hO b ⟨k,w2⟩)with⟨l,i',z1,z2⟩|z
   ·have:=r.dist i' j b z2 w4;subst this;exact w3 (Hl.mpr ⟨l,z1⟩)
   ·rw[q3]at z;cases z
  rcases h1 with h1|h1 <;> rcases h2 with h2|h2
  ·obtain⟨k,a1,a2⟩:=h1;obtain⟨l,b1,b2⟩:=h2;have:=r'.dist k l b a2 b2;subst this;rw[a1]at b1;cases b1;rfl
  ·exact(cross h1 h2).elim
  ·exact(cross h2 h1).elim
  ·exact r.dist i j b h1.2 h2.2
 ·rcases z with⟨k,_,z⟩|⟨_,z⟩
  ·rcases g.onew b (hO b ⟨k,z⟩)with w|w
   ·exact .inl (yJ b w)
   ·exact .inr w
  ·exact .inl ⟨j,z⟩
 ·rcases z with⟨k,_,z⟩|⟨_,z⟩
  ·exact .inl ⟨k,z⟩
  ·exact .inr ⟨j,z⟩
end
def DR(X:Cx)(E:XK)(e:aE)(d:aj->R Slot):Prop :=
 ∀F S Z Y H Q,aX X.K F S Z Y H->Ok X.K E Y F S H (d Z) (λs _ F' S' H'=>∀v Sr,j9 X.K H' F' s v Sr->(∀b,Sr b->H b=ae/\¬F' b/\¬U S' b/\∃o,H' b=aa o/\ez o)->Q v H')->ja X e Y H Q
def dX:List b0->aj->Bool
 |[],_=>ai
 |.inl _::as,_::ss=>dX as ss
 |.inr _::as,.own _::ss=>dX as ss
 |_,_=>am
theorem n4:∀{as:List b0}{ss:aj},dX as ss=ai->∀(k:Nat) i,as[k]?=aa (.inr i)->∃po,ss[k]?=aa (.own po)
 |[],_,_,k,i,h=>by simp at h
 |.inl _::as,s::ss,q,0,i,h=>by simp at h
 |.inl _::as,s::ss,q,k+1,i,h=>by simpa using n4 (as:=as) (ss:=ss) (by unfold dX at q;exact q) k i (by simpa using h)
 |.inr _::as,.own po::ss,q,0,i,h=>⟨po,rfl⟩
 |.inr _::as,.own po::ss,q,k+1,i,h=>by simpa using n4 (as:=as) (ss:=ss) (by unfold dX at q;exact q) k i (by simpa using h)
 |.inr _::as,.val _::ss,q,k,i,h=>by cases q
 |.inr _::as,.none::ss,q,k,i,h=>by cases q
 |.inl _::as,[],q,k,i,h=>by cases q
 |.inr _::as,[],q,k,i,h=>by cases q
def ef{α:Type}(Z:aj)(as:List b0)(r:R α):R α:=match r with
 |.ok s aP=>if dX as aP then .ok s (eh Z as aP)else .no
 |.er c aP=>if dX as aP then .er c (eh Z as aP)else .no
 |.no=>.no
def aL(g:aj->R Slot)(dg:aj->R (List b0)):aj->R Slot:=λZ=>(dg Z).bind λas dM=>(aV (if(cu as).Nodup then c_ dM as else ae) dM).bind λss dM=>ef dM as (g ss)
section
variable{CX:gc}{X:Cx}{E:XK}{pin:List Nat}{e:aE}{es:List aE}{dg:aj->R (List b0)}{pos:Pos}{x:Str}{k:Nat}{ps:List Str}{g:aj->R Slot}{p:Pos}{d:aj->R Slot}
theorem IS{K:aC}{F0 F1:ah->Prop}{S0 S1:Nat->ah->Prop}{dM:aj}{Y:St}{H H1:Hp}{as:List b0}{vs:List V}{Q:VK}(r1:aX K F1 S1 dM Y H1)(g1:bM (U S0) (U S1) F0 F1 H H1)(av:i_ K Y F1 H1 as vs)(q:Ok K E Y F1 S1 H1 ((aV (if(cu as).Nodup then c_ dM as else ae) dM).bind λss dM=>ef dM as (g ss)) λs _ F' S' H'=>∀v Sr,j9 K H' F' s v Sr->(∀b,Sr b->H b=ae/\¬F' b/\¬U S' b/\∃o,H' b=aa o/\ez o)->Q v H'):bz K g vs H1 Q E:=by
 have q:=Ok.bind q;by_cases nd:(cu as).Nodup
 ·rw[if_pos nd]at q;cases es:c_ dM as with
  |none=>rw[es]at q;exact q.elim
  |some ss=>
   rw[es]at q;have q:=q F1 S1 H1 r1 (bM.refl ..);dsimp only at q;refine⟨F1,mZ as S1,ss,r1.cal av es nd,?_⟩;cases eg:g ss with
   |no=>rw[eg]at q;exact q.elim
   |er cv aP=>
    rw[eg]at q;intro y F' S' H' r' g';unfold ef at q;dsimp only at q;by_cases kp:dX as aP=ai
    ·rw[if_pos kp]at q;obtain⟨S2,r2,g2,_⟩:=r1.called av es nd r' g' (λ_ z=>z) (n4 kp);exact q y F' S2 H' r2 g2
    ·rw[if_neg kp]at q;exact q.elim
   |ok s aP=>
    rw[eg]at q;intro v F' S' H' Sr r' g' rv lo fr;unfold ef at q;dsimp only at q;by_cases kp:dX as aP=ai
    ·rw[if_pos kp]at q;obtain⟨S2,r2,g2,u2⟩:=r1.called av es nd r' g' (λ_ z=>.inl z) (n4 kp);refine q F' S2 H' r2 g2 v Sr rv λb z=>⟨lL g1 (fr b z),(lo b z).1,λw=>?_,(lo b z).2.2⟩
     rcases u2 b w with w|⟨i,w⟩
     ·exact(lo b z).2.1 w
     ·obtain⟨_,_,o,y1,_⟩:=r1.foot i b w;rw[fr b z]at y1;cases y1
    ·rw[if_neg kp]at q;exact q.elim
 ·rw[if_neg nd]at q;exact q.elim
theorem bT(c:cA CX X.prog X.w X.K X.mg X.base x k ps (bz X.K g))(hr:Room k X.A)(hx:tq CX X E)(ha:DG X E (e::es) dg)(hg:Gl X x:=by rfl)(hd:(x == ("__debug__" : Str))=am:=by decide) (h1:aW (e::es) X.env=(am,bf e X.env)::aW es X.env:=by rfl) (h2:(dR pos (aW es X.env)).any (·.1)=am:=by rfl):DR X E (.Call (.Name x p) (e::es) [] pos) (aL g dg):=λF S Z Y H Q rl h=>by obtain⟨f,fd,hm,Fn,hb,hk⟩:=c.ex;refine cB (Go Fn hr hg hm hk hb .nil hx g9 hd h1 h2) (ha F S Z Y H _ rl ((Ok.bind h).imp λas dM F1 S1 H1 r1 g1 q vs av=>?_));rw[iZ];exact IS r1 g1 av q
def m9:Slot->Option PV
 |.val pv=>aa pv
 |.own (.lst xs)=>aa (.lst xs)
 |_=>ae
def a6(d:aj->R Slot):aj->R PV:=λZ=>(d Z).bind λs dM=>aV (m9 s) dM
def SF:Slot->Option PO
 |.own po=>aa po
 |_=>ae
def n5(d:aj->R Slot):aj->R PO:=λZ=>(d Z).bind λs dM=>aV (SF s) dM
theorem DR.dn(h:DR X E e d):DN X E e (n5 d):=λF S Z Y H Q rl q=>by
 unfold n5 at q;refine h F S Z Y H Q rl ?_;cases e0:d Z with
 |no=>rw[e0]at q;exact q.elim
 |er c Z'=>rw[e0]at q;exact q
 |ok s dM=>
  rw[e0]at q;cases s with
  |none=>exact q.elim
  |val pv=>exact q.elim
  |own po=>intro F1 S1 H1 r1 g1 v Sr rv fr;obtain⟨a,rfl,ow⟩:=rv;exact q F1 S1 H1 r1 g1 a Sr ow fr
theorem DR.de(h:DR X E e d):DE X E e (a6 d):=λF S Z Y H Q rl q=>by
 unfold a6 at q;cases e0:d Z with
 |no=>rw[e0]at q;exact q.elim
 |er c Z'=>refine h F S Z Y H Q rl ?_;rw[e0]at q ⊢;exact q
 |ok s dM=>
  cases s with
  |none=>rw[e0]at q;exact q.elim
  |val pv=>refine h F S Z Y H Q rl ?_;rw[e0]at q ⊢;exact λF1 S1 H1 r1 g1 v Sr rv fr=>q F1 S1 H1 r1 g1 v rv.1
  |own po=>
   refine h.dn.de F S Z Y H Q rl ?_;unfold dF n5;rw[e0]at q ⊢;cases po with
   |lst xs=>exact q
   |dK XN=>exact q
   |lls kM=>exact q
   |ins C fs=>exact q
   |dT XN=>exact q
   |inl C fs y xs=>exact q
def pq(d:aj->R Slot):aj->R aO:=λZ=>(d Z).bind λs dM=>.ok (.ret s) dM
theorem sE(he:DR X E e d):DS X E pin (.Return (aa e) pos) (pq d):=λF S Z Y H D rl h=>by
 refine jH (xX cn) (he F S Z Y H _ rl ?_);unfold pq at h;cases e0:d Z with
 |no=>rw[e0]at h;exact h.elim
 |er c Z'=>rw[e0]at h;exact λx F' S' H' r' g'=>h x F' S' Y H' r' g' (jA.refl _ _)
 |ok s dM=>rw[e0]at h;intro F1 S1 H1 r1 g1 v Sr rv fr;exact h v F1 S1 Y H1 Sr r1 ⟨g1.fro,g1.keep,g1.there,g1.fnew,λb z=>z.elim (g1.onew b) λw=>.inr (fr b w).1⟩ (jA.refl _ _) rv λb z=>(fr b z).2
def kg(d:aj->R Slot):aj->R aO:=λZ=>(d Z).bind λ_ dM=>.ok .next dM
theorem qH(he:DR X E e d)(hs:nv e ae pos.line X.env=pure am:=by rfl):DS X E pin (.Expr e pos) (kg d):=λF S Z Y H D rl h=>jH (Ci cn hs) (he F S Z Y H _ rl (h.bindE.imp λx dM F1 S1 H1 r1 g1 h1 v Sr rv fr=>h1 F1 S1 Y H1 r1 (bM.refl ..) (jA.refl _ _)))
end
end Pu
namespace L2
section
variable{X:Cx}{af:List (ah×Obj)}{Y:St}{H:Hp}{s:aq}{scope:d8}{x:Str}{N':List Str}{XM:List Nat}
theorem VM{XH X5:aE}{y:Str}{px py pos spos:Pos}{Mk:Nat}{XF:List aE}{wi:TI}{ts:TT}{te:TE}(B:lN X scope x N' XM)(hc:X.calm=ai)(hi:PI X (.Name x px) X5 wi)(ht:∀C tM uM ex pn,vC (dP X scope N' C tM uM ex pn) XF ts) (he:∀C tM uM ex pn,PE (dP X scope N' C tM uM ex pn) XH te) (hN:X.N.Nodup) (hiy:X.N[Mk]?=aa y) (hxy:Loc X.env.scope y) (hsw:nv (.ListComp XH [⟨.Name x px,X5,XF,0⟩] scope pos) (aa (.Name y py)) spos.line X.env=pure ai) (hf:X.fn y=ai\/X.env.scope.names.lookup y=aa .local) (hs:∀x,tW X5 X.env x=pure x):PS X (.Assign [.Name y py] (.ListComp XH [⟨.Name x px,X5,XF,0⟩] scope pos) spos) (λD Y H=>zD wi ts te XM Y H λv H'=>D.nx (Y.set Mk (aa v)) H'):=by
 intro af s Y H D I h;rw[exec_Assign_Name_used _ _ _ _ hsw];refine au (wpAny_standAt (au ?_));show aA _ X.A (do let _ ←comprehension (.ListComp XH [⟨.Name x px,X5,XF,0⟩] scope pos) scope X.env _ (newList []) am (bf X5 X.env) (aa (assign (.Name y py) X.env))) _ _ s;refine au (dr (?_:aA _ X.A _ (λ_ s'=>SP X af D .next s') X.xe s) (λ_ s' hq=>aF (aF hq)) λ_ _ e=>e);refine Jd (use:=aa (assign (.Name y py) X.env)) B hc hi ht he hs I h λ{s3 s6 H3 H5 fp Y5 a f} I3 f3 I6 q=>?_;obtain⟨mm,hn6,_⟩:=I6.loc;have J6:Inv X af Y _ _:=I3.unblock f3 I6 (wp _ _);have nlc:s3.heap.objs.size≠X.env.locals:=λe=>absurd I3.lt (by rw[←e];exact fu _);have nce:∀z c,X.env.cells.lookup z=aa c->c≠s3.heap.objs.size:=λz c e e2=>by obtain⟨vv,oo,ho,_⟩:=I3.cell z c e;exact absurd (bD ho) (by rw[e2];exact fu _)
 refine Ko (IT (v:=.ref a) J6 hN hiy hxy rfl (λs7 I7 ⟨a7,sb7,ha7⟩=>?_) hf);have na7:s3.heap.objs.size≠a7:=by
  rcases ha7 with z|z
  ·rw[z];exact nlc
  ·exact(nce _ _ z).symm
 refine⟨mm,hn6.sameBut sb7 na7,λiz sb=>⟨_,_,?_,q⟩⟩;have hC5:H5 s3.heap.objs.size=ae:=I6.free;refine I7.call' (s':={s7 with heap:=iz}) (ch:=[s3.heap.objs.size]) rfl ⟨λb o e n hb hx=>?_,λb o e n hb hx=>?_,λb o e n hx=>n,λb o e hx=>?_,λb xs e=>e,λb o u e=>e,λb ps e=>e⟩ ?_ I7.bare λb hb=>?_
 ·exact(sb.2 b (by simpa using hx)).trans e
 ·exact⟨o.slots,(sb.2 b (by simpa using hx)).trans (by simpa using e)⟩
 ·exact⟨o,(sb.2 b (by simpa using hx)).trans e⟩
 ·intro b u e;refine(I7.hok b u e).stay (λc v hc q=>(sb.2 c ?_).trans q) (λ_ q=>q) λ_ _ q=>q;rintro rfl;rcases hc with z|z
  ·rw[←z,hC5]at e;cases e
  ·rw[hC5]at z;cases z
 ·have e:b=s3.heap.objs.size:=by simpa using hb
  subst e;refine⟨.inr I3.sz,nlc,nce,λp hp e2=>?_⟩;obtain⟨e3,_⟩:=I3.pin p hp;exact absurd (bD e3) (by rw[e2];exact fu _)
end
end L2
namespace Pu
open L2
def fE(Z:aj):List Nat->Option (List b0)
 |[]=>aa []
 |j::XM=>match Z[j]? with
  |some (.val pv)=>(fE Z XM).map (.inl pv::·)
  |some (.own _)=>(fE Z XM).map (.inr j::·)
  |_=>ae
def fG{α:Type}(XM:List Nat)(d:aj->R α)(x:PV):aj->R α:=λZ=>(aV (fE Z XM) Z).bind λas _=>(aV (if(cu as).Nodup then c_ Z (.inl x::as)else ae) Z).bind λss _=>ef Z (.inl x::as) (d ss)
def bQ{α:Type}(r:R α):R α:=match r with
 |.er _ _=>.no
 |r=>r
def lV(XM:List Nat)(dt:aj->R Bool)(de:aj->R PV):List PV->List PV->aj->R (List PV)
 |[],aK,Z=>.ok aK Z
 |x::xs,aK,Z=>(bQ (fG XM dt x Z)).bind λk dM=>match k with
  |true=>(bQ (fG XM de x dM)).bind λy Z2=>lV XM dt de xs (aK++[y]) Z2
  |false=>lV XM dt de xs aK dM
def fh(XM:List Nat)(di:aj->R (List PV))(dt:aj->R Bool)(de:aj->R PV):aj->R PO:=λZ=>(di Z).bind λxs dM=>(lV XM dt de xs [] dM).bind λys Z2=>.ok (.lst ys) Z2
theorem AO{K:aC}{F:ah->Prop}{S:Nat->ah->Prop}{Z:aj}{Y:St}{H:Hp}(r:aX K F S Z Y H):∀{XM:List Nat}{as:List b0},fE Z XM=aa as->∃vs,i_ K Y F H as vs/\j6 Y XM=vs.map aa
 |[],as,h=>by cases h;exact⟨[],rfl,rfl⟩
 |j::XM,as,h=>by
  unfold fE at h;split at h
  ·rename_i pv e;cases q:fE Z XM with
   |none=>rw[q]at h;cases h
   |some bs=>
    rw[q]at h;cases h;obtain⟨vs,h1,h2⟩:=AO r q;obtain⟨v,e1,e2⟩:=r.val j pv e;refine⟨v::vs,⟨v,vs,rfl,e2,h1⟩,?_⟩;show(Y[j]?).join::j6 Y XM=_;rw[e1,h2];rfl
  ·rename_i po e;cases q:fE Z XM with
   |none=>rw[q]at h;cases h
   |some bs=>
    rw[q]at h;cases h;obtain⟨vs,h1,h2⟩:=AO r q;obtain⟨a,e1,e2⟩:=r.own j po e;refine⟨.ref a::vs,⟨_,vs,rfl,e1,h1⟩,?_⟩;show(Y[j]?).join::j6 Y XM=_;rw[e1,h2];rfl
  ·cases h
theorem FK{K:aC}{E:XK}{F:ah->Prop}{S:Nat->ah->Prop}{Z:aj}{Y:St}{H:Hp}{α:Type}{XM:List Nat}{d:aj->R α}{x:PV}{v:V}{C:α->aj->(ah->Prop)->(Nat->ah->Prop)->Hp->Prop}(r:aX K F S Z Y H) (rx:bh K H F x v) (h:Ok K E Y F S H (bQ (fG XM d x Z)) C):∃Sb ss,aX K F Sb ss (aa v::j6 Y XM) H/\Ok K E0 (aa v::j6 Y XM) F Sb H (d ss) (λa _ F' _ H'=>∃Z' S',aX K F' S' Z' Y H'/\bM (U S) (U S') F F' H H'/\C a Z' F' S' H'):=by
 unfold fG at h;cases ec:fE Z XM with
 |none=>rw[ec]at h;exact h.elim
 |some as=>
  rw[ec]at h;simp only[c8,R.bind_ok]at h;by_cases nd:(cu as).Nodup
  ·rw[if_pos nd]at h;cases es:c_ Z (.inl x::as)with
   |none=>rw[es]at h;exact h.elim
   |some ss=>
    rw[es]at h;simp only[c8,R.bind_ok]at h;obtain⟨vs,av,ev⟩:=AO r ec;have av':i_ K Y F H (.inl x::as) (v::vs):=⟨v,vs,rfl,rx,av⟩
    have eσ:aa v::j6 Y XM=(v::vs).map aa:=by rw[ev];rfl
    have nd':(cu (.inl x::as)).Nodup:=nd;refine⟨mZ (.inl x::as) S,ss,by rw[eσ];exact r.cal av' es nd',?_⟩;rw[eσ];cases ed:d ss with
    |no=>rw[ed]at h;exact h.elim
    |er c aP=>
     rw[ed]at h;unfold ef at h;dsimp only at h;by_cases kp:dX (.inl x::as) aP=ai
     ·rw[if_pos kp]at h;exact h.elim
     ·rw[if_neg kp]at h;exact h.elim
    |ok a aP=>
     rw[ed]at h;intro F' S' H' r' g';unfold ef at h;dsimp only at h;by_cases kp:dX (.inl x::as) aP=ai
     ·rw[if_pos kp]at h;obtain⟨S2,r2,g2,_⟩:=r.called av' es nd' r' g' (λ_ z=>z) (n4 kp);exact⟨_,S2,r2,g2,h F' S2 H' r2 g2⟩
     ·rw[if_neg kp]at h;exact h.elim
  ·rw[if_neg nd]at h;exact h.elim
def yK(X:Cx)(XF:List aE):TT:=λY H Q=>Bx (∀af s,Inv X af Y H s->aA (aB X.prog X.w) X.A (forIn XF ai λc r=>if r=ai then do let ok ←oz c X.env (bf c X.env);pure (ForInStep.yield ok)else pure (ForInStep.yield r)) (TP X af Y Q) X.xe s)
def DF(X:Cx)(E:XK)(XF:List aE)(d:aj->R Bool):Prop:=∀F S Z Y H Q,aX X.K F S Z Y H->Ok X.K E Y F S H (d Z) (λb _ _ _ H'=>Q b H')->yK X XF Y H Q
def eQ:aj->R Bool:=λZ=>.ok ai Z
theorem qK{X:Cx}{E:XK}:DF X E [] eQ:=λF S Z Y H Q rl h=>⟨λaf s I=>Pt af s Y H Q I (h F S H rl (bM.refl ..))⟩
theorem Re{X:Cx}{E:XK}{c:aE}{d:aj->R Bool}(h:DT X E c d):DF X E [c] d:=λF S Z Y H Q rl q=>⟨λaf s I=>Wx n6 af s Y H Q I (h F S Z Y H Q rl q)⟩
theorem Ok.bindB{K:aC}{E:XK}{Y:St}{F F1:ah->Prop}{S S1:Nat->ah->Prop}{H H1:Hp}{α β:Type}{D:β->aj->(ah->Prop)->(Nat->ah->Prop)->Hp->Prop}{r:R α}{k:α->aj->R β}(h:Ok K E Y F S H (r.bind k) D)(g:bM (U S) (U S1) F F1 H H1):Ok K E Y F1 S1 H1 r (λa dM _ _ _=>Ok K E Y F S H (k a dM) D):=by
 cases r with
 |no=>exact h
 |er c Z'=>exact λx F' S' H' r' g'=>h x F' S' H' r' (g.trans g')
 |ok a Z'=>exact λF' S' H' r' g'=>h
section
variable{X:Cx}{E:XK}{scope:d8}{x:Str}{N':List Str}{XM:List Nat}
theorem bM.stay{O O' F F':ah->Prop}{H H':Hp}(g:bM O O' F F' H H'){l:ah}{o:HO}(e:H l=aa o)(n:¬O l)(nF:¬F l):H' l=aa o/\¬F' l/\¬O' l :=
 ⟨g.keep l o e n,λz=>(g.fnew l z).elim nF λw=>w.elim (λq=>by rw[e]at q;cases q) n,λz=>(g.onew l z).elim n λq=>by rw[e]at q;cases q⟩
theorem Hz{XH X5:aE}{px:Pos}{XF:List aE}{di:aj->R (List PV)}{dt:aj->R Bool}{de:aj->R PV}(hi:DI X E (.Name x px) X5 di)(ht:∀C tM uM ex pn,DF (dP X scope N' C tM uM ex pn) E0 XF dt) (he:∀C tM uM ex pn,DE (dP X scope N' C tM uM ex pn) E0 XH de){F:ah->Prop}{S:Nat->ah->Prop}{Z:aj}{Y:St}{H:Hp}{Q:VK} (rl:aX X.K F S Z Y H) (h:Ok X.K E Y F S H (fh XM di dt de Z) (λpo _ F' S' H'=>∀a Sa,gh X.K H' F' po a Sa->(∀b,Sa b->H b=ae/\¬F' b/\¬U S' b/\∃o,H' b=aa o/\ez o)->Q (.ref a) H')):zD (tR X (.Name x px) X5) (λY H Q=>∀C tM uM ex pn,yK (dP X scope N' C tM uM ex pn) XF Y H Q) (λY H Q=>∀C tM uM ex pn,ja (dP X scope N' C tM uM ex pn) XH Y H Q) XM Y H Q:=by
 refine hi F S Z Y H _ rl ((Ok.bind h).imp λxs dM F1 S1 H1 r1 g1 h1 J vs RR rs hz hw keep l hl=>?_);have h1:=h1.bind;have hvl:vs.length=xs.length:=rs.len;have a0:Al F1 F1 H1 (upd H1 l (.lst [])):=Al.new0 hl;have nF1:¬F1 l:=λz=>by obtain⟨o,q⟩:=r1.ex l z;rw[hl]at q;cases q
 have nS1:¬U S1 l:=λ⟨i,z⟩=>by obtain⟨_,_,o,q,_⟩:=r1.foot i l z;rw[hl]at q;cases q
 have hH:H l=ae:=lL g1 hl;refine⟨λi m ys H'=>m=xs.length-i/\i<=xs.length/\∃F' S' Z' aK,aX X.K F' S' Z' Y H'/\bM (U S1) (U S') F1 F' H1 H'/\H' l=aa (.lst ys)/\¬F' l/\¬U S' l/\Reps X.K H' F' aK ys/\ys.length<=i /\ Ok X.K E Y F1 S1 H1 (lV XM dt de (xs.drop i) aK Z') (λys' Z2 F2 S2 H2=>Ok X.K E Y F2 S2 H2 (R.ok (PO.lst ys') Z2) (λpo _ F' S' H'=>∀a Sa,gh X.K H' F' po a Sa->(∀b,Sa b->H b=ae/\¬F' b/\¬U S' b/\∃o,H' b=aa o/\ez o)->Q (.ref a) H')),⟨_,rfl,nB _,F1,S1,dM,[],r1.al a0,a0.grow,cF,nF1,nS1,rfl,bn _,h1⟩,?_⟩;rintro i m ys H2 ⟨rfl,hi,F2,S2,Z2,aK,r2,g2,el,nF2,nS2,racc,hyl,q2⟩;have RH:=keep S2 F2 H2 g2;by_cases bI:i<xs.length
 ·obtain⟨v,hv⟩:∃v,vs[i]?=aa v:=⟨_,f9 ∅⟩
  obtain⟨go,yl⟩:=(hw H2 RH i).1 v hv;refine .inr ⟨go,λv' H' y=>?_⟩;obtain⟨e1,e2⟩:=yl v' H' y;subst e1 e2;obtain⟨px',hx,rx⟩:=rs.back hv;have ed:xs.drop i=px'::xs.drop (i+1):=by rw[Af bI];congr 1;exact(d9.mp hx).2
  rw[ed]at q2;have rx2:=rx.grow g2 r1.fit;have q3:=Ok.bindB q2 g2;obtain⟨Sb,ss,rb,okb⟩:=FK r2 rx2 q3;intro C tM uM ex pn;refine ht C tM uM ex pn F2 Sb ss _ H' _ rb (okb.imp λb _ F3 _ H3 _ _ ⟨Z3,S3,r3,g3,q4⟩=>?_);obtain⟨el3,nF3,nS3⟩:=g3.stay el nS2 nF2;cases b with
  |false=>exact pD ⟨_,∅,rfl,bI,F3,S3,Z3,aK,r3,g2.trans g3,el3,nF3,nS3,racc.grow g3 r2.fit,∅,q4⟩
  |true=>
   refine pN ?_;have q5:Ok X.K E Y F1 S1 H1 ((bQ (fG XM de px' Z3)).bind λy Z2=>lV XM dt de (xs.drop (i+1)) (aK++[y]) Z2) _:=q4;obtain⟨Sc,sc,rc,okc⟩:=FK r3 (rx2.grow g3 r2.fit) (Ok.bindB q5 (g2.trans g3));intro C tM uM ex pn;refine he C tM uM ex pn F3 Sc sc _ H3 _ rc (okc.imp λy _ F4 _ H4 _ _ ⟨Z4,S4,r4,g4,q6⟩ u ru=>?_);obtain⟨el4,nF4,nS4⟩:=g4.stay el3 nS3 nF3;have racc4:=(racc.grow g3 r2.fit).grow g4 r3.fit;have gl:bM (λb=>U S4 b\/b=l) (U S4) F4 F4 H4 (upd H4 l (.lst (ys++[u]))):=⟨λ_ z=>z,λb o e n=>by rw[cp λz=>n (.inr z)];exact e,λb o e=>by
    by_cases hb:b=l
    ·subst hb;exact⟨_,cF⟩
    ·exact⟨o,by rw[cp hb];exact e⟩,λ_ z=>.inl z,λ_ z=>.inl (.inl z)⟩
   have fit4:pE (λb=>U S4 b\/b=l) F4 H4:=λb z=>by
    rcases z with z|rfl
    ·exact r4.fit b z
    ·exact⟨nF4,_,el4,trivial⟩
   have r5:aX X.K F4 S4 Z4 Y (upd H4 l (.lst (ys++[u]))):=by
    refine⟨r4.len,λb z=>let ⟨o,q⟩:=r4.ex b z;gl.there b o q,λj pv e=>?_,λj po e=>?_,λj b z=>?_,r4.dist⟩
    ·obtain⟨w,x1,x2⟩:=r4.val j pv e;exact⟨w,x1,x2.grow gl fit4⟩
    ·obtain⟨w,x1,x2⟩:=r4.own j po e;refine⟨w,x1,x2.mono (λ_ _ q=>q.grow gl fit4) (λ_ _ q=>q.grow gl fit4) λb o z q=>?_⟩;rw[cp (by rintro rfl;exact nS4 ⟨j,z⟩)];exact q
    ·obtain⟨x1,x2,o,x3,x4⟩:=r4.foot j b z;exact⟨x1,x2,o,by rw[cp (by rintro rfl;exact nS4 ⟨j,z⟩)];exact x3,x4⟩
   have g5:bM (U S1) (U S4) F1 F4 H1 (upd H4 l (.lst (ys++[u]))):=by
    have gg:=(g2.trans g3).trans g4;refine⟨gg.fro,λb o e n=>?_,λb o e=>?_,gg.fnew,gg.onew⟩
    ·rw[cp (by rintro rfl;rw[hl]at e;cases e)];exact gg.keep b o e n
    ·obtain⟨o',q⟩:=gg.there b o e;exact gl.there b o' q
   refine⟨el4,?_,_,∅,rfl,bI,F4,S4,Z4,aK++[y],r5,g5,cF,nF4,nS4,(racc4.grow gl fit4).app (.one (ru.grow gl fit4)),by simp;lia,q6⟩;lia
 ·have e:i=xs.length:=∅
  subst e;refine .inl ⟨(hw H2 RH _).2 hvl.symm,?_⟩;rw[KS]at q2;exact q2 F2 S2 H2 r2 g2 F2 S2 H2 r2 (bM.refl ..) l (λb=>b=l) ⟨⟨ys,el,racc⟩,λb=>Iff.rfl⟩ λb z=>by subst z;exact⟨hH,nF2,nS2,_,el,trivial⟩
theorem sy{XH X5:aE}{px pos:Pos}{XF:List aE}{di:aj->R (List PV)}{dt:aj->R Bool}{de:aj->R PV}(B:lN X scope x N' XM)(hc:X.calm=ai)(hi:DI X E (.Name x px) X5 di)(ht:∀C tM uM ex pn,DF (dP X scope N' C tM uM ex pn) E0 XF dt) (he:∀C tM uM ex pn,DE (dP X scope N' C tM uM ex pn) E0 XH de) (hs:∀x,tW X5 X.env x=pure x:=by intro _;rfl):DN X E (.ListComp XH [⟨.Name x px,X5,XF,0⟩] scope pos) (fh XM di dt de):=λF S Z Y H Q rl h=>cB (Qq (wi:=tR X (.Name x px) X5) (ts:=λY H Q=>∀C tM uM ex pn,yK (dP X scope N' C tM uM ex pn) XF Y H Q) (te:=λY H Q=>∀C tM uM ex pn,ja (dP X scope N' C tM uM ex pn) XH Y H Q) (pos:=pos) B hc Dq (λC tM uM ex pn af s Y H Q I h=>(h C tM uM ex pn).run af s I) (λC tM uM ex pn af s Y H Q I h=>(h C tM uM ex pn).run af s I) hs) (Hz hi ht he rl h)
end
theorem N4(x y:Tx):tS x++tS y=tS (x++y):=by
 show(⟨x.toArray++y.toArray⟩:Str)=⟨(x++y).toArray⟩
 simp
def bg:PV->PV->Option PV
 |.int i,.int j=>aa (.int (i+j))
 |.str x,.str y=>if(x++y).length<=ce then aa (.str (x++y))else ae
 |.tup xs,.tup ys=>if xs≠[]/\ys≠[]/\xs.length+ys.length<=1000 then aa (.tup (xs++ys))else ae
 |.lst xs,.lst ys=>if xs.length+ys.length<=ce then aa (.lst (xs++ys))else ae
 |_,_=>ae
def eB:PV->PV->Option PV
 |.int i,.int j=>aa (.int (i-j))
 |_,_=>ae
def vR(i:Int):Bool:=decide (-(2^64)<i/\i<2^64)
def h_:PV->PV->Option PV
 |.int i,.int j=>if vR i||vR j then aa (.int (i*j))else ae
 |.str x,.int j=>if 0<=j/\j<=100/\x.length<=100 then aa (.str (bK j.toNat x).flatten)else ae
 |_,_=>ae
def iR:PV->PV->Option PV
 |.int i,.int j=>if 0<j then aa (.int (i % j))else ae
 |_,_=>ae
def va:PV->PV->Option PV
 |.int i,.int j=>if 0<=j/\j<=1000000/\i.natAbs<2^64 then aa (.int (i^j.toNat))else ae
 |_,_=>ae
def jd:PV->Option PV
 |.int i=>aa (.int (-i))
 |_=>ae
def HX:R2:=λx y H Q=>∃l b xs zs,x=.ref l/\y=.ref b/\Rd H l (.lst xs)/\Rd H b (.lst zs)/\xs.length+zs.length<=bw/\∀p,H p=ae->Q (.ref p) (upd H p (.lst (xs++zs)))
def G3(K:aC):R2:=λx y H Q=>((mK λi j=>V.int (i+j)) x y H Q\/∃i j,x=.str i/\y=.str j/\i.length+j.length<=bw/\Q (.str (i++j)) H)\/(Gs K x y H Q\/HX x y H Q)
def Ik:R2:=λx y H Q=>rI Cw (λi j=>.int (i*j)) x y H Q\/∃(z:Tx) (n:Nat),x=tV z/\y=.int n/\n<=100/\z.length<=100/\Q (tV (bK n z).flatten) H
section
variable{X:Cx}{K:aC}
theorem mI:P2 K (mK λi j=>.int (i-j)) eB:=λF H x y v u Q pv rx ry e q=>by
 unfold eB at e;split at e
 ·cases e;exact⟨_,_,rx,ry,q _ F H (Al.refl ..) rfl⟩
 ·cases e
theorem v6:P2 K (rI (λ_ j=>0<j) λi j=>.int (i % j)) iR:=λF H x y v u Q pv rx ry e q=>by
 unfold iR at e;split at e
 ·split at e
  ·cases e;exact⟨_,_,rx,ry,by assumption,q _ F H (Al.refl ..) rfl⟩
  ·cases e
 ·cases e
theorem WB:P2 K (rI GR λi j=>.int (i^j.toNat)) va:=λF H x y v u Q pv rx ry e q=>by
 unfold va at e;split at e
 ·split at e
  ·cases e;exact⟨_,_,rx,ry,by assumption,q _ F H (Al.refl ..) rfl⟩
  ·cases e
 ·cases e
theorem tO:P1 K (rU λi=>.int (-i)) jd:=λF H x v Q pv rx e q=>by
 unfold jd at e;split at e
 ·cases e;exact⟨_,rx,q _ F H (Al.refl ..) rfl⟩
 ·cases e
theorem CQ{af:List (ah×Obj)}{Y:St}{H:Hp}{s:aq}{l:ah}{xs:List V}(I:Inv X af Y H s)(h:Rd H l (.lst xs)):∃(its:List ak) (n:Nat),bX xs its/\s.heap.get? l=aa {cls:=.type "list",data:=.seq its.toArray n}/\xs.length<=bw:=by obtain⟨z,its,n,r,e⟩:=h.ok I.hok;exact⟨its,n,r,e,z⟩
theorem OY:cr X (jr .Add) HX:=by
 intro af s Y H x y v u Q I rx ry h;obtain⟨l,b,xs,zs,rfl,rfl,hl,hb,hz,q⟩:=h;cases rx;cases ry;obtain⟨its,n,r,e,_⟩:=CQ I hl;obtain⟨its2,n2,r2,e2,_⟩:=CQ I hb;have hl:=r.length;have kL:=r2.length;refine PySem.P.add_list e e2 ?_ (by rw[cU,cU];lia);have ea:its.toArray++its2.toArray=(its++its2).toArray:=by simp
 rw[ea];exact⟨.ref _,_,I.lnew (t':=s.toks) (r.append r2) (by rw[d_];lia),rfl,q _ I.fresh⟩
theorem eT:cr X (jr .Add) (G3 X.K):=(Xn.or OI).or (Xg.or OY)
theorem eK:P2 K (G3 K) bg:=λF H x y v u Q pv rx ry e q=>by
 unfold bg at e;split at e
 ·cases e;exact .inl (.inl ⟨_,_,rx,ry,q _ F H (Al.refl ..) rfl⟩)
 ·rename_i x y;split at e
  ·rename_i hl;cases e;refine .inl (.inr ⟨_,_,rx.1,ry.1,?_,?_⟩)
   ·rw[lO,lO];rw[d_]at hl;exact dj hl mV
   ·exact q _ F H (Al.refl ..) ⟨by rw[N4];rfl,hl⟩
  ·cases e
 ·rename_i xs ys;split at e
  ·rename_i hl;cases e;obtain⟨a,vs,rfl,ha,ra⟩:=rx;obtain⟨b,ws,rfl,hb,rb⟩:=ry;have la:=ra.len;have lb:=rb.len;refine .inr (.inl ⟨a,b,vs,ws,rfl,rfl,d7.of ha,d7.of hb,λz=>hl.1 (by rw[z]at la;exact wo la.symm),by rw[la,lb];exact BL hl.2.2,λz=>absurd (by rw[z]at lb;exact wo lb.symm) hl.2.1,λ_ p hp=>?_⟩);exact q _ F _ (Al.new0 hp) ⟨p,_,rfl,cF,(Al.new0 hp).reps (ra.app rb)⟩
  ·cases e
 ·rename_i xs ys;split at e
  ·rename_i hl;cases e;obtain⟨a,vs,rfl,ha,fa,ra⟩:=rx;obtain⟨b,ws,rfl,hb,fb,rb⟩:=ry;have la:=ra.len;have lb:=rb.len;refine .inr (.inr ⟨a,b,vs,ws,rfl,rfl,ha,hb,by rw[la,lb];exact dj hl mV,λp hp=>?_⟩);exact q _ _ _ (Al.new hp) ⟨p,_,rfl,.inl cF,.inr rfl,(Al.new hp).reps (ra.app rb)⟩
  ·cases e
 ·cases e
theorem qX:cr X (jr .Mult) Ik:=W_.or RZ
theorem qQ:P2 K Ik h_:=λF H x y v u Q pv rx ry e q=>by
 unfold h_ at e;split at e
 ·rename_i i j;split at e
  ·rename_i h;cases e;refine .inl ⟨_,_,rx,ry,?_,q _ F H (Al.refl ..) rfl⟩;rw[z9]at h;exact h.imp of_decide_eq_true of_decide_eq_true
  ·cases e
 ·rename_i x j;split at e
  ·rename_i h;cases e;refine .inr ⟨x,j.toNat,rx.1,?_,∅,h.2.2,q _ F H (Al.refl ..) ⟨rfl,?_⟩⟩
   ·rw[show u=V.int j from ry];congr 1;lia
   ·rw[HI];have h1:j.toNat<=100:=∅
    exact dj (z_ h1 h.2.2) (by decide)
  ·cases e
 ·cases e
def eP(f:Int->Int->Bool):PV->PV->Option PV
 |.int i,.int j=>aa (.bl (f i j))
 |_,_=>ae
theorem lh{f:Int->Int->Bool}:P2 K (mK λi j=>.bl (f i j)) (eP f):=λF H x y v u Q pv rx ry e q=>by
 unfold eP at e;split at e
 ·cases e;exact⟨_,_,rx,ry,q _ F H (Al.refl ..) rfl⟩
 ·cases e
def eN:PV->Option V
 |.non=>aa .non
 |.bl b=>aa (.bl b)
 |.int i=>aa (.int i)
 |.str x=>aa (tV x)
 |_=>ae
theorem kz{H:Hp}{F:ah->Prop}{x:PV}{v w:V}(r:bh K H F x v)(e:eN x=aa w):v=w:=by
 cases x <;> simp[eN]at e <;> subst e
 ·exact r
 ·exact r
 ·exact r
 ·exact r.1
theorem uG{x:PV}{w:V}(e:eN x=aa w):g7 w=ai:=by
 cases x <;> simp[eN]at e <;> subst e <;> rfl
mutual
def cD:PV->PV->Option Bool
 |.tup xs,y=>match y with
  |.tup ys=>gZ xs ys
  |_=>ae
 |.lst xs,y=>match y with
  |.lst ys=>gZ xs ys
  |_=>ae
 |.non,y=>(eN y).map (fW .non)
 |.bl b,y=>(eN y).map (fW (.bl b))
 |.int i,y=>(eN y).map (fW (.int i))
 |.str x,y=>(eN y).map (fW (tV x))
 |.raw _,_=>ae
 |.exc _,_=>ae
def gZ:List PV->List PV->Option Bool
 |[],ys=>aa ys.isEmpty
 |x::xs,ys=>match ys with
  |[]=>aa am
  |y::ys=>(cD x y).bind λa=>(gZ xs ys).map λb=>a&&b
end
mutual
def hZ:PV->Nat
 |.tup xs=>iY xs+1
 |.lst xs=>iY xs+1
 |_=>0
def iY:List PV->Nat
 |[]=>0
 |x::xs=>max (hZ x) (iY xs)
end
theorem Kf{H:Hp}{d d':Nat}{x y:V}{k:Bool}(h:jc K H d x y k)(hd:d<=d'):jc K H d' x y k:=λX hK af Y s u v A I ru rv hu=>h X hK af Y s u v A I ru rv ∅
theorem yM{H:Hp}{F:ah->Prop}{w:V}{y:PV}{u:V}{k:Bool}{d:Nat}(fw:g7 w=ai)(e:(eN y).map (fW w)=aa k)(ry:bh K H F y u):jc K H d w u k:=by
 cases q:eN y with
 |none=>rw[q]at e;cases e
 |some z=>
  rw[q]at e;cases e;rw[kz ry q];exact Nr fw (uG q)
theorem MQ{H:Hp}{a:ah}{xs ys:List V}(h:Rd H a (.lst xs))(g:Rd H a (.lst ys)):xs=ys:=by
 rcases h with h|⟨o,h⟩ <;> rcases g with g|⟨o',g⟩ <;> rw[h]at g <;> cases g <;> rfl
theorem Wf{a:Bool}{e:Nat->Bool}{n m:Nat}:gK (λj=>if j=0 then a else e (j-1)) (n+1) (m+1)=(a&&gK e n m):=by
 unfold gK;rw[show min (n+1) (m+1)=min n m+1 by lia,rR,tZ,D7,if_pos rfl,Bool.and_assoc];congr 1;congr 1
 ·simp
mutual
theorem BI{H:Hp}{F:ah->Prop}:∀(x y:PV) {v:V}{k:Bool},cD x y=aa k->bh K H F x v->bh K H F y v->k=ai
 |.tup xs,y,v,k,e,rx,ry=>by
  unfold cD at e;split at e
  ·obtain⟨a,vs,rfl,ha,ra⟩:=rx;obtain⟨b,ws,eb,hb,rb⟩:=ry;cases eb;rw[ha]at hb;cases hb;exact CH xs _ e ra rb
  ·cases e
 |.lst xs,y,v,k,e,rx,ry=>by
  unfold cD at e;split at e
  ·obtain⟨a,vs,rfl,ha,_,ra⟩:=rx;obtain⟨b,ws,eb,hb,_,rb⟩:=ry;cases eb;rw[MQ ha hb]at ra;exact CH xs _ e ra rb
  ·cases e
 |.non,y,v,k,e,rx,ry=>by
  unfold cD at e;cases q:eN y with
  |none=>rw[q]at e;cases e
  |some z=>rw[q]at e;cases e;rw[←kz ry q,show v=V.non from rx];rfl
 |.bl b,y,v,k,e,rx,ry=>by
  unfold cD at e;cases q:eN y with
  |none=>rw[q]at e;cases e
  |some z=>rw[q]at e;cases e;rw[←kz ry q,show v=V.bl b from rx];exact beq_self_eq_true b
 |.int b,y,v,k,e,rx,ry=>by
  unfold cD at e;cases q:eN y with
  |none=>rw[q]at e;cases e
  |some z=>rw[q]at e;cases e;rw[←kz ry q,show v=V.int b from rx];exact beq_self_eq_true b
 |.str b,y,v,k,e,rx,ry=>by
  unfold cD at e;cases q:eN y with
  |none=>rw[q]at e;cases e
  |some z=>rw[q]at e;cases e;rw[←kz ry q,show v=tV b from rx.1];exact beq_self_eq_true (tS b)
 |.raw _,_,_,_,e,_,_=>by unfold cD at e;cases e
 |.exc _,_,_,_,e,_,_=>by unfold cD at e;cases e
theorem CH{H:Hp}{F:ah->Prop}:∀(xs ys:List PV) {vs:List V}{k:Bool},gZ xs ys=aa k->Reps K H F xs vs->Reps K H F ys vs->k=ai
 |[],ys,vs,k,e,rx,ry=>by
  unfold gZ at e;rw[show vs=[] from rx]at ry;have:=ry.len;cases ys with
  |nil=>cases e;rfl
  |cons=>simp at this
 |x::xs,ys,vs,k,e,rx,ry=>by
  unfold gZ at e;obtain⟨v,r,rfl,h1,h2⟩:=rx;cases ys with
  |nil=>have:=ry.len;simp at this
  |cons y ys=>
   obtain⟨v',r',ev,g1,g2⟩:=ry;cases ev;simp only at e;cases q1:cD x y with
   |none=>rw[q1]at e;cases e
   |some a=>
    cases q2:gZ xs ys with
    |none=>rw[q1,q2]at e;cases e
    |some b=>
     rw[q1,q2]at e;cases e;rw[BI x y q1 h1 g1,CH xs ys q2 h2 g2];rfl
end
mutual
theorem WF{H:Hp}{F:ah->Prop}:∀(x y:PV) {v u:V}{k:Bool},cD x y=aa k->bh K H F x v->bh K H F y u->jc K H (hZ x) v u k
 |.tup xs,y,v,u,k,e,rx,ry=>by
  have e0:=e;unfold cD at e;split at e
  ·rename_i ys;obtain⟨a,vs,rfl,ha,ra⟩:=id rx;obtain⟨b,ws,rfl,hb,rb⟩:=id ry;by_cases oY:a=b
   ·subst oY;rw[BI _ _ e0 rx ry];exact FH
   ·obtain⟨f,hf,rfl⟩:=vy xs ys e ra rb;unfold hZ;exact On (d7.of ha) (d7.of hb) oY hf
  ·cases e
 |.lst xs,y,v,u,k,e,rx,ry=>by
  have e0:=e;unfold cD at e;split at e
  ·rename_i ys;obtain⟨a,vs,rfl,ha,_,ra⟩:=id rx;obtain⟨b,ws,rfl,hb,_,rb⟩:=id ry;by_cases oY:a=b
   ·subst oY;rw[BI _ _ e0 rx ry];exact FH
   ·obtain⟨f,hf,rfl⟩:=vy xs ys e ra rb;unfold hZ;exact L4 (.inl ha) (.inl hb) oY hf
  ·cases e
 |.non,y,v,u,k,e,rx,ry=>by unfold cD at e;rw[show v=V.non from rx];exact yM rfl e ry
 |.bl b,y,v,u,k,e,rx,ry=>by unfold cD at e;rw[show v=V.bl b from rx];exact yM rfl e ry
 |.int b,y,v,u,k,e,rx,ry=>by unfold cD at e;rw[show v=V.int b from rx];exact yM rfl e ry
 |.str b,y,v,u,k,e,rx,ry=>by unfold cD at e;rw[show v=tV b from rx.1];exact yM rfl e ry
 |.raw _,_,_,_,_,e,_,_=>by unfold cD at e;cases e
 |.exc _,_,_,_,_,e,_,_=>by unfold cD at e;cases e
theorem vy{H:Hp}{F:ah->Prop}:∀(xs ys:List PV) {vs us:List V}{k:Bool},gZ xs ys=aa k->Reps K H F xs vs->Reps K H F ys us -> ∃f:Nat->Bool,(∀(j:Nat) x y,vs[j]?=aa x->us[j]?=aa y->jc K H (iY xs) x y (f j))/\k=gK f vs.length us.length
 |[],ys,vs,us,k,e,rx,ry=>by
  unfold gZ at e;rw[show vs=[] from rx];refine⟨λ_=>ai,λj x y h=>by simp at h,?_⟩;have:=ry.len;cases e;unfold gK;cases ys with
  |nil=>simp at this;simp[this]
  |cons=>rw[this];simp
 |x::xs,ys,vs,us,k,e,rx,ry=>by
  unfold gZ at e;obtain⟨v,r,rfl,h1,h2⟩:=rx;cases ys with
  |nil=>
   cases e;rw[show us=[] from ry];exact⟨λ_=>ai,λj x y _ h=>by simp at h,by simp[gK]⟩
  |cons y ys=>
   obtain⟨u,r',rfl,g1,g2⟩:=ry;simp only at e;cases q1:cD x y with
   |none=>rw[q1]at e;cases e
   |some a=>
    cases q2:gZ xs ys with
    |none=>rw[q1,q2]at e;cases e
    |some b=>
     rw[q1,q2]at e;cases e;obtain⟨f,hf,rfl⟩:=vy xs ys q2 h2 g2;refine⟨λj=>if j=0 then a else f (j-1),λj p q hp hq=>?_,by rw[fi,fi,Wf]⟩;cases j with
     |zero=>simp at hp hq;subst hp hq;show jc K H _ _ _ (if(0:Nat)=0 then a else f (0-1));rw[if_pos rfl];exact Kf (WF x y q1 h1 g1) (by unfold iY;exact Nat.le_max_left _ _)
     |succ j=>show jc K H _ _ _ (if j+1=0 then a else f (j+1-1));rw[if_neg ∅];exact Kf (hf j p q (by simpa using hp) (by simpa using hq)) (show iY xs<=max (hZ x) (iY xs)from Nat.le_max_right _ _)
end
def eqT(neg:Bool)(x y:PV):Option PV:=match eN x,eN y with
 |some v,aa u=>if re v u then aa (.bl (neg^^decide (v=u)))else ae
 |none,ae=>if hZ x<=8 then(cD x y).map λk=>.bl (neg^^k)else ae
 |_,_=>ae
def Jk(K:aC):R2:=λx y H Q=>H_ x y H Q\/u5 K am x y H Q
def FD(K:aC):R2:=λx y H Q=>G7 x y H Q\/u5 K ai x y H Q
theorem kc(hu:X.A.units+64<cLine):cr X (eW .Eq) (Jk X.K):=Xi.or (Mm hu)
theorem uV(hu:X.A.units+64<cLine):cr X (eW .NotEq) (FD X.K):=Xx.or (SS hu)
theorem Jm{H:Hp}{F:ah->Prop}{x y:PV}{v u:V}{k:Bool}{Q:VK}{neg:Bool}(hx:eN x=ae)(e:cD x y=aa k)(hd:hZ x<=8)(rx:bh K H F x v)(ry:bh K H F y u)(q:Q (.bl (neg^^k)) H):u5 K neg v u H Q:=by
 have fin:∀{k':Bool},k=k'->Q (.bl (if neg=ai then !k' else k')) H:=λ{k'} z=>by subst z;cases neg <;> simpa using q
 cases x with
 |tup xs=>
  unfold cD at e;split at e
  ·rename_i ys;obtain⟨a,vs,rfl,ha,ra⟩:=rx;obtain⟨b,ws,rfl,hb,rb⟩:=ry;obtain⟨f,hf,ek⟩:=vy xs ys e ra rb;unfold hZ at hd;exact⟨a,b,vs,ws,iY xs,f,rfl,rfl,.inr ⟨d7.of ha,d7.of hb⟩,∅,hf,fin ek⟩
  ·cases e
 |lst xs=>
  unfold cD at e;split at e
  ·rename_i ys;obtain⟨a,vs,rfl,ha,_,ra⟩:=rx;obtain⟨b,ws,rfl,hb,_,rb⟩:=ry;obtain⟨f,hf,ek⟩:=vy xs ys e ra rb;unfold hZ at hd;exact⟨a,b,vs,ws,iY xs,f,rfl,rfl,.inl ⟨.inl ha,.inl hb⟩,∅,hf,fin ek⟩
  ·cases e
 |raw _=>unfold cD at e;cases e
 |exc _=>unfold cD at e;cases e
 |non=>cases hx
 |bl _=>cases hx
 |int _=>cases hx
 |str _=>cases hx
theorem j4:P2 K (Jk K) (eqT am):=λF H x y v u Q pv rx ry e q=>by
 unfold eqT at e;split at e
 ·rename_i a b ea eb;split at e
  ·rename_i hs;cases e;rw[kz rx ea,kz ry eb];refine .inl ⟨hs,?_⟩;have:=q (.bl (decide (a=b))) F H (Al.refl ..) (by simp[bh]);exact this
  ·cases e
 ·rename_i ea eb;split at e
  ·rename_i hd;cases ek:cD x y with
   |none=>rw[ek]at e;cases e
   |some k=>
    rw[ek]at e;cases e;exact .inr (Jm (neg:=am) ea ek hd rx ry (q _ F H (Al.refl ..) rfl))
  ·cases e
 ·cases e
theorem vD:P2 K (FD K) (eqT ai):=λF H x y v u Q pv rx ry e q=>by
 unfold eqT at e;split at e
 ·rename_i a b ea eb;split at e
  ·rename_i hs;cases e;rw[kz rx ea,kz ry eb];refine .inl ⟨hs,?_⟩;have:=q (.bl (!decide (a=b))) F H (Al.refl ..) (by simp[bh]);exact this
  ·cases e
 ·rename_i ea eb;split at e
  ·rename_i hd;cases ek:cD x y with
   |none=>rw[ek]at e;cases e
   |some k=>
    rw[ek]at e;cases e;exact .inr (Jm (neg:=ai) ea ek hd rx ry (q _ F H (Al.refl ..) rfl))
  ·cases e
 ·cases e
end
end Pu
namespace Pu
open L2
section
variable{X:Cx}{K:aC}
def xB(i j:Tx):Bool:=!(Kt (tS j) (tS i) 0 (tS j).length 1).isEmpty
def lf:List PV->Option (List V)
 |[]=>aa []
 |x::xs=>(eN x).bind λv=>(lf xs).map λr=>v::r
theorem xM{H:Hp}{F:ah->Prop}:∀{xs:List PV}{vs ws:List V},Reps K H F xs vs->lf xs=aa ws->vs=ws/\ws.all g7=ai
 |[],_,_,r,e=>by cases e;exact⟨r,rfl⟩
 |x::xs,_,ws,⟨v,r,rfl,h1,h2⟩,e=>by
  unfold lf at e;cases q:eN x with
  |none=>rw[q]at e;cases e
  |some w=>
   cases q2:lf xs with
   |none=>rw[q,q2]at e;cases e
   |some wr=>
    rw[q,q2]at e;cases e;obtain⟨e1,e2⟩:=xM h2 q2;exact⟨by rw[kz h1 q,e1],by rw[tZ,uG q,e2];rfl⟩
def sK(neg:Bool):PV->PV->Option PV
 |.str x,.str y=>aa (.bl (neg^^xB x y))
 |x,.lst ys=>(eN x).bind λv=>(lf ys).map λws=>.bl (neg^^vf v ws)
 |x,.tup ys=>(eN x).bind λv=>(lf ys).map λws=>.bl (neg^^vf v ws)
 |_,_=>ae
def JM(K:aC):R2:=λx y H Q=>(∃i j,x=.str i/\y=.str j/\Q (.bl (!(Kt j i 0 j.length 1).isEmpty)) H)\/BX K am x y H Q
theorem UH:cr X (eW .In) (JM X.K):=Xd.or UV
theorem Gv{H:Hp}{F:ah->Prop}{x:PV}{ys:List PV}{v:V}{p:ah}{us:List V}{Q:VK}{neg:Bool}{pv:PV}(rx:bh K H F x v)(hp:cC K H p us\/d7 K H p us)(ru:Reps K H F ys us)(e:((eN x).bind λv=>(lf ys).map λws=>PV.bl (neg^^vf v ws))=aa pv) (q:∀w,bh K H F pv w->Q w H):BX K neg v (.ref p) H Q:=by
 cases q1:eN x with
 |none=>rw[q1]at e;cases e
 |some w=>
  cases q2:lf ys with
  |none=>rw[q1,q2]at e;cases e
  |some ws=>
   rw[q1,q2]at e;cases e;obtain⟨rfl,hf⟩:=xM ru q2;rw[kz rx q1];refine⟨p,us,rfl,hp,uG q1,hf,?_⟩;have:=q _ rfl;cases neg <;> simpa using this
theorem Ma:P2 K (JM K) (sK am):=λF H x y v u Q pv rx ry e q=>by
 unfold sK at e;split at e
 ·cases e;exact .inl ⟨_,_,rx.1,ry.1,by have:=q _ F H (Al.refl ..) rfl;simpa[xB]using this⟩
 ·obtain⟨a,us,rfl,ha,_,ra⟩:=ry;exact .inr (Gv (neg:=am) rx (.inl (.inl ha)) ra e λw rw'=>q w F H (Al.refl ..) rw')
 ·obtain⟨a,us,rfl,ha,ra⟩:=ry;exact .inr (Gv (neg:=am) rx (.inr (d7.of ha)) ra e λw rw'=>q w F H (Al.refl ..) rw')
 ·cases e
def bO:List PV->Option PV
 |[.str x]=>aa (.int x.length)
 |[.lst xs]=>aa (.int xs.length)
 |[.tup xs]=>aa (.int xs.length)
 |_=>ae
theorem iF{H:Hp}{F:ah->Prop}{x:PV}{vs:List V}(r:Reps K H F [x] vs):∃v,vs=[v]/\bh K H F x v:=by obtain⟨v,r',rfl,h1,h2⟩:=r;rw[show r'=[] from h2];exact⟨v,rfl,h1⟩
theorem gT:PL K (λxs H Q=>∃x n,xs=[x]/\Gf K x H n/\Q (.int n) H) bO:=λF H xs vs Q pv rs e q=>by
 unfold bO at e;split at e
 ·cases e;obtain⟨v,rfl,rv⟩:=iF rs;rw[rv.1];exact⟨_,_,rfl,⟨by rw[lO];exact dj rv.2 mV,rfl⟩,by rw[lO];exact q _ F H (Al.refl ..) rfl⟩
 ·cases e;obtain⟨v,rfl,a,us,rfl,ha,_,ra⟩:=iF rs;exact⟨_,_,rfl,.inl ⟨us,.inl ha,rfl⟩,by rw[ra.len];exact q _ F H (Al.refl ..) rfl⟩
 ·cases e;obtain⟨v,rfl,a,us,rfl,ha,ra⟩:=iF rs;exact⟨_,_,rfl,.inr ⟨us,d7.of ha,rfl⟩,by rw[ra.len];exact q _ F H (Al.refl ..) rfl⟩
 ·cases e
def yQ:List PV->Option PO
 |[.lst xs]=>aa (.lst xs)
 |[.tup xs]=>aa (.lst xs)
 |_=>ae
theorem Ru:qN K (λxs H Q=>∃p ys,xs=[.ref p]/\(cC K H p ys\/d7 K H p ys)/\∀l,H l=ae->Q (.ref l) (upd H l (.lst ys))) yQ:=λF H xs vs Q po hF rs e q=>by
 unfold yQ at e;split at e
 ·cases e;obtain⟨v,rfl,a,us,rfl,ha,_,ra⟩:=iF rs;exact⟨a,us,rfl,.inl (.inl ha),λl hl=>q l F _ _ (Al.new0 hl) (ym hl ra) (yC hl hF trivial)⟩
 ·cases e;obtain⟨v,rfl,a,us,rfl,ha,ra⟩:=iF rs;exact⟨a,us,rfl,.inr (d7.of ha),λl hl=>q l F _ _ (Al.new0 hl) (ym hl ra) (yC hl hF trivial)⟩
 ·cases e
def yF:List PV->Option PV
 |[.lst xs]=>aa (.tup xs)
 |[.tup xs]=>aa (.tup xs)
 |_=>ae
theorem UQ:PL K (λxs H Q=>∃p ys,xs=[.ref p]/\((cC K H p ys/\∀l,H l=ae->Q (.ref l) (upd H l (.tup ys)))\/(d7 K H p ys/\Q (.ref p) H))) yF:=λF H xs vs Q pv rs e q=>by
 unfold yF at e;split at e
 ·cases e;obtain⟨v,rfl,a,us,rfl,ha,_,ra⟩:=iF rs;exact⟨a,us,rfl,.inl ⟨.inl ha,λl hl=>q _ F _ (Al.new0 hl) ⟨l,us,rfl,cF,(Al.new0 hl).reps ra⟩⟩⟩
 ·cases e;obtain⟨v,rfl,a,us,rfl,ha,ra⟩:=iF rs;exact⟨a,us,rfl,.inr ⟨d7.of ha,q _ F H (Al.refl ..) ⟨a,us,rfl,ha,ra⟩⟩⟩
 ·cases e
def g_:List PV->Option (List Tx)
 |[]=>aa []
 |.str x::xs=>(g_ xs).map (x::·)
 |_=>ae
def ap(ls:List Tx):List PV:=ls.map .str
theorem sJ(ls:List Tx):g_ (ap ls)=aa ls:=by
 induction ls with
 |nil=>rfl
 |cons x ls ih=>show(g_ (ap ls)).map (x::·)=_;rw[ih];rfl
theorem sD:∀{xs:List PV}{ls:List Tx},g_ xs=aa ls->xs=ap ls
 |[],ls,e=>by cases e;rfl
 |.str x::xs,ls,e=>by
  unfold g_ at e;cases q:g_ xs with
  |none=>rw[q]at e;cases e
  |some r=>rw[q]at e;cases e;rw[sD q];rfl
 |.non::_,_,e=>by cases e
 |.bl _::_,_,e=>by cases e
 |.int _::_,_,e=>by cases e
 |.tup _::_,_,e=>by cases e
 |.lst _::_,_,e=>by cases e
 |.raw _::_,_,e=>by cases e
 |.exc _::_,_,e=>by cases e
theorem Xa{H:Hp}{F:ah->Prop}:∀{ls:List Tx}{vs:List V},Reps K H F (ap ls) vs↔vs=c9 ls/\∀x∈ls,x.length<=ce
 |[],vs=>by simp[ap,Reps,c9]
 |x::ls,vs=>by
  show(∃v r,vs=v::r/\(v=tV x/\x.length<=ce)/\Reps K H F (ap ls) r)↔_;constructor
  ·rintro⟨v,r,rfl,⟨rfl,h1⟩,h2⟩;obtain⟨rfl,h3⟩:=Xa.mp h2;exact⟨rfl,λy hy=>by
    rcases b8.mp hy with rfl|hy
    ·exact h1
    ·exact h3 y hy⟩
  ·rintro⟨rfl,h⟩;exact⟨tV x,c9 ls,rfl,⟨rfl,h x (by simp)⟩,Xa.mpr ⟨rfl,λy hy=>h y (by simp[hy])⟩⟩
def kQ:List PV->Option (List Bool)
 |[]=>aa []
 |.bl b::xs=>(kQ xs).map (b::·)
 |_=>ae
theorem B2{H:Hp}{F:ah->Prop}:∀{xs:List PV}{vs:List V}{bs:List Bool},Reps K H F xs vs->kQ xs=aa bs->vs=bs.map V.bl
 |[],_,_,r,e=>by cases e;exact r
 |.bl b::xs,_,bs,⟨v,r,rfl,h1,h2⟩,e=>by
  unfold kQ at e;cases q:kQ xs with
  |none=>rw[q]at e;cases e
  |some r'=>rw[q]at e;cases e;rw[B2 h2 q,show v=V.bl b from h1];rfl
 |.non::_,_,_,_,e=>by cases e
 |.str _::_,_,_,_,e=>by cases e
 |.int _::_,_,_,_,e=>by cases e
 |.tup _::_,_,_,_,e=>by cases e
 |.lst _::_,_,_,_,e=>by cases e
 |.raw _::_,_,_,_,e=>by cases e
 |.exc _::_,_,_,_,e=>by cases e
def vB:List PV->Option PV
 |[.lst xs]=>(kQ xs).map λbs=>.bl (bs.all id)
 |_=>ae
theorem Km:PL K (λxs H Q=>∃(p:ah) (bs:List Bool),xs=[.ref p]/\cC K H p (bs.map V.bl)/\Q (.bl (bs.all id)) H) vB:=λF H xs vs Q pv rs e q=>by
 unfold vB at e;split at e
 ·rename_i ys;cases q1:kQ ys with
  |none=>rw[q1]at e;cases e
  |some bs=>
   rw[q1]at e;cases e;obtain⟨v,rfl,a,us,rfl,ha,_,ra⟩:=iF rs;rw[B2 ra q1]at ha;exact⟨a,bs,rfl,.inl ha,q _ F H (Al.refl ..) rfl⟩
 ·cases e
def tQ:PV->Option String
 |.non=>aa "NoneType"
 |.bl _=>aa "bool"
 |.int _=>aa "int"
 |.str _=>aa "str"
 |.tup _=>aa "tuple"
 |.lst _=>aa "list"
 |_=>ae
def dZ:List PV->Option PV
 |[x,.raw (.ty T)]=>(tQ x).bind λt=>(gA [] (.type t) (.type T)).map λb=>.bl b
 |_=>ae
theorem mL:fD X (.builtin "isinstance") (λxs H Q=>∃x t T b,xs=[x,.ty T]/\jo X.K H x (.type t)/\gA X.K (.type t) (.type T)=aa b/\Q (.bl b) H):=by
 intro af s Y H xs us Q I r h;obtain⟨x,t,T,b,rfl,ty,e,q⟩:=h;cases r with
 |cons r1 r2=>
  cases r2 with
  |cons r3 r4=>
   cases r4;cases r3;exact Pm I r1 ty e λtk=>⟨.bl b,H,I.tok _,rfl,q⟩
theorem Qf{H:Hp}{F:ah->Prop}{x:PV}{v:V}{t:String}(r:bh K H F x v)(e:tQ x=aa t):jo K H v (.type t):=by
 cases x with
 |non=>cases e;rw[show v=V.non from r];exact .non
 |bl b=>cases e;rw[show v=V.bl b from r];exact .bl b
 |int b=>cases e;rw[show v=V.int b from r];exact .int b
 |str b=>cases e;rw[show v=tV b from r.1];exact .str _
 |tup xs=>cases e;obtain⟨a,vs,rfl,ha,_⟩:=r;exact .tup ha
 |lst xs=>
  cases e;obtain⟨a,vs,rfl,ha,_⟩:=r;rcases ha with ha|⟨o,ha⟩
  ·exact .lst ha
  ·exact .frz ha
 |raw _=>cases e
 |exc _=>cases e
theorem mW:PL K (λxs H Q=>∃x t T b,xs=[x,.ty T]/\jo K H x (.type t)/\gA K (.type t) (.type T)=aa b/\Q (.bl b) H) dZ:=λF H xs vs Q pv rs e q=>by
 unfold dZ at e;split at e
 ·rename_i x T;cases q1:tQ x with
  |none=>rw[q1]at e;cases e
  |some t=>
   cases q2:gA [] (.type t) (.type T)with
   |none=>rw[q1,gW,q2]at e;cases e
   |some b=>
    rw[q1,gW,q2]at e;cases e;obtain⟨v,r',rfl,h1,h2⟩:=rs;obtain⟨u,rfl,h3⟩:=iF h2;rw[show u=V.ty T from h3];exact⟨v,t,T,b,rfl,Qf h1 q1,q2,q _ F H (Al.refl ..) rfl⟩
 ·cases e
theorem mO{E:XK}{x:Str}{T:String}{pos:Pos}(hm:X.mg x=ae)(hv:fz x=aa (.type T))(hg:Gl X x:=by rfl)(hn:x≠"__name__":=by decide)(hd:(x == ("__debug__" : Str))=am:=by decide):DE X E (.Name x pos) (dC (.raw (.ty T))):=λF S Z Y H Q r q=>cB (P8 (v:=.ty T) hg hm hv rfl hn hd) (q F S H r (bM.refl ..) _ rfl)
def bq:PV->PV->Option PV
 |.lst xs,.int i=>fF xs i
 |.tup xs,.int i=>fF xs i
 |.str x,.int i=>(fF x i).map λc=>.str [c]
 |_,_=>ae
theorem FO{H:Hp}{F:ah->Prop}{xs:List PV}{vs:List V}{i:Int}{x:PV}(r:Reps K H F xs vs)(e:fF xs i=aa x):∃v,fF vs i=aa v/\bh K H F x v:=by
 unfold fF at e ⊢;rw[r.len];cases q:kC xs.length i with
 |none=>rw[q]at e;cases e
 |some j=>rw[q]at e;exact r.get e
theorem eD:P2 K (Jf K) bq:=λF H x y v u Q pv rx ry e q=>by
 unfold bq at e;split at e
 ·rename_i xs i;obtain⟨a,us,rfl,ha,_,ra⟩:=rx;obtain⟨w,e1,e2⟩:=FO ra e;exact .inl ⟨a,us,i,w,rfl,ry,.inl ha,e1,q _ F H (Al.refl ..) e2⟩
 ·rename_i xs i;obtain⟨a,us,rfl,ha,ra⟩:=rx;obtain⟨w,e1,e2⟩:=FO ra e;exact .inr (.inl ⟨a,us,i,w,rfl,ry,d7.of ha,e1,q _ F H (Al.refl ..) e2⟩)
 ·rename_i x i;cases q1:fF x i with
  |none=>rw[q1]at e;cases e
  |some c=>
   rw[q1]at e;cases e;rw[rx.1];exact .inr (.inr ⟨_,i,c,rfl,ry,by rw[lO];exact dj rx.2 mV,by rw[n9];exact q1,q _ F H (Al.refl ..) ⟨rfl,by show 1<=ce;decide⟩⟩)
 ·cases e
def eA{α:Type}(xs:List α)(lo hi:Option Int):List α:=(xs.drop (HT.sIx xs.length 0 lo)).take (HT.sIx xs.length xs.length hi-HT.sIx xs.length 0 lo)
theorem Rw{α:Type}(xs:List α)(lo hi:Option Int):(eA xs lo hi).length<=xs.length:=by unfold eA;rw[jN,ki];lia
def cq:PV->Option Int->Option Int->Option PV
 |.str x,lo,hi=>aa (.str (eA x lo hi))
 |.lst xs,lo,hi=>aa (.lst (eA xs lo hi))
 |.tup xs,lo,hi=>if HT.sIx xs.length 0 lo=0/\HT.sIx xs.length xs.length hi=xs.length then ae else aa (.tup (eA xs lo hi))
 |_,_,_=>ae
def Hk(K:aC):V->Option Int->Option Int->Hp->VK->Prop:=λx lo hi H Q=>HH x lo hi H Q\/(Hb K x lo hi H Q\/IJ K x lo hi H Q)
theorem jn:nX X (Hk X.K):=W9.or (Xb.or Pg)
theorem Gc{H:Hp}{F:ah->Prop}{xs:List PV}{vs:List V}(r:Reps K H F xs vs)(lo hi:Option Int):Reps K H F (eA xs lo hi) (pt vs lo hi):=by unfold eA pt;rw[r.len];exact(r.drop _).take _
theorem jm:HM K (Hk K) cq:=λF H x lo hi v Q pv rx e q=>by
 unfold cq at e;split at e
 ·cases e;rw[rx.1];refine .inl ⟨_,rfl,by rw[lO];exact dj rx.2 mV,?_⟩;refine q _ F H (Al.refl ..) ⟨?_,dj (Rw ..) rx.2⟩;unfold mS eA;rw[lO,n9];rfl
 ·cases e;obtain⟨a,us,rfl,ha,_,ra⟩:=rx;exact .inr (.inl ⟨a,us,rfl,.inl ha,λp hp=>q _ _ _ (Al.new hp) ⟨p,_,rfl,.inl cF,.inr rfl,(Al.new hp).reps (Gc ra lo hi)⟩⟩)
 ·split at e
  ·cases e
  ·rename_i hw;cases e;obtain⟨a,us,rfl,ha,ra⟩:=rx;exact .inr (.inr ⟨a,us,rfl,d7.of ha,by rw[ra.len];exact hw,λp hp=>q _ _ _ (Al.new0 hp) ⟨p,_,rfl,cF,(Al.new0 hp).reps (Gc ra lo hi)⟩⟩)
 ·cases e
variable{E:XK}{tg l a b:aE}{d:aj->R PV}{ds:aj->R (List PV)}{p pos:Pos}
def pU:PV->Option (List PV)
 |.lst xs=>aa xs
 |.tup xs=>aa xs
 |.str x=>aa (x.map λc=>.str [c])
 |_=>ae
def ff(d:aj->R PV):aj->R (List PV):=λZ=>(d Z).bind λx dM=>aV (pU x) dM
theorem GQ{H:Hp}{F:ah->Prop}:∀(x:Tx),Reps K H F (x.map λc=>PV.str [c]) (x.map sg)
 |[]=>rfl
 |c::x=>⟨sg c,x.map sg,rfl,⟨rfl,by show 1<=ce;decide⟩,GQ x⟩
theorem ng(he:DE X E l d):DI X E tg l (ff d):=λF S Z Y H Rr rl h=>Bx.mk λaf s I=>by
 have w:=he F S Z Y H (λv H1=>∃F1 S1 dM x,aX X.K F1 S1 dM Y H1/\bh X.K H1 F1 x v/\Ok X.K E Y F1 S1 H1 (aV (pU x) dM) (λpvs _ F' S' H'=>∀J vs RR,Reps X.K H' F' pvs vs->vs.length<=bw->Walk J vs RR->(∀S'' F'' H'',bM (U S') (U S'') F' F'' H' H''->RR H'')->Rr J H')) rl
  ((Ok.bind h).imp λx dM F1 S1 H1 r1 g1 h1 v rv=>⟨F1,S1,dM,x,r1,rv,h1⟩)
 refine a_ (w.run af s I) λv s1 ⟨x,H1,I1,rx,F1,S1,dM,pv,r1,rv,h1⟩=>?_;cases pv with
 |lst xs=>
  obtain⟨a,us,rfl,ha,hF,ra⟩:=rv;cases rx;obtain⟨its,rr,pp,hz⟩:=I1.list (.inl ha);refine z6 pp.isList ?_;refine⟨s1.heap.objs.size,[s1.heap.objs.size],_,_,H1,rfl,I1.kept (t':=s1.toks) λb o e=>bH _ e,Q6 a _,⟨_,df _ rfl,rfl,rfl⟩,λb hb=>?_,h1 F1 S1 H1 r1 (bM.refl ..) (Bd X.K a) us (λH=>cC X.K H a us) ra hz Rq λS2 F2 H2 g2=>.inl (g2.lst r1.fit hF ha)⟩;have e:b=s1.heap.objs.size:=by simpa using hb
  subst e;exact I1.fpOk (bn _) (I1.hok.fresh (bn _))
 |tup xs=>
  obtain⟨a,us,rfl,ha,ra⟩:=rv;cases rx;obtain⟨its,rr,pp,hz⟩:=I1.tuple (d7.of ha);refine wpAny_pyIter_tuple (show s1.heap.IsTuple a its.toArray from pp) ?_;refine⟨s1.heap.objs.size,[s1.heap.objs.size],_,_,H1,rfl,I1.kept (t':=s1.toks) λb o e=>bH _ e,UN a _,⟨_,df _ rfl,rfl,rfl⟩,λb hb=>?_,h1 F1 S1 H1 r1 (bM.refl ..) (CB X.K a) us (λH=>d7 X.K H a us) ra hz Mr λS2 F2 H2 g2=>d7.of (g2.imm r1.fit ha id)⟩;have e:b=s1.heap.objs.size:=by simpa using hb
  subst e;exact I1.fpOk (bn _) (I1.hok.fresh (bn _))
 |str z=>
  obtain⟨rfl,hz⟩:=rv;obtain⟨t,rfl⟩:=rx;have qq:Rr (vV (tS z)) H1:=h1 F1 S1 H1 r1 (bM.refl ..) (vV (tS z)) (z.map sg) (λ_=>True) (GQ z) (by rw[dw];exact dj hz mV) (by have:=So (z:=tS z);rw[n9]at this;exact this) λ_ _ _ _=>trivial;have fin:∀(n:String) (St':Nat->aI->Prop),(∀i h,St' i h->∃o n vs,h.get? s1.heap.objs.size=aa o/\o.cls=.type n/\o.data=.fields vs /\ ["enumerate","zip","dict_itemiterator","dict_reverseitemiterator","odict_iterator","itertools.zip_longest","itertools.pairwise"].contains n=am) ->
    (∀(A:bd) (i:Nat) (s:aq) (Q:ak->aq->Prop) (E:ak->aq->Prop),St' i s.heap->Q (.ref s1.heap.objs.size) s->aA (aB X.prog X.w) A (p7 (.ref s1.heap.objs.size)) Q E s) ->
    (∀A:bd,A.handled=ae->Walks X.prog X.w A s1.heap.objs.size [s1.heap.objs.size] [s1.heap.objs.size] (tS z).cps.size (SignAt (tS z)) St') ->
    St' 0 (s1.heap.push {cls:=.type n,data:=.fields #[.str (tS z) t,.int 0 0]}) ->
    xO X af Y tg Rr (.ref s1.heap.objs.size) {s1 with heap:=s1.heap.push {cls:=.type n,data:=.fields #[.str (tS z) t,.int 0 0]}}:=λn St' h1 h2 h3 h4=>by
   refine⟨s1.heap.objs.size,[s1.heap.objs.size],St',vV (tS z),H1,rfl,I1.kept (t':=s1.toks) λb o e=>bH _ e,Ui h1 h2 h3,h4,λb hb=>?_,qq⟩;have e:b=s1.heap.objs.size:=by simpa using hb
   subst e;exact I1.fpOk (bn _) (I1.hok.fresh (bn _))
  cases ha:(tS z).cps.all (· < 128)
  ·refine wpAny_pyIter_wide ha (fin "str_iterator" (λi h=>h.IsStrIter s1.heap.objs.size "str_iterator" (tS z) t i) (λi h ⟨o,e1,e2,e3⟩=>⟨o,_,_,e1,e2,e3,by decide⟩) (λA i s Q E st h=>wpAny_pyIter_striter_wide st h) (λA' hA=>Walks.strWide hA _ (tS z) t) ⟨_,df _ rfl,rfl,rfl⟩)
  ·refine wpAny_pyIter_ascii ha (fin "str_ascii_iterator" (λi h=>h.IsStrIter s1.heap.objs.size "str_ascii_iterator" (tS z) t i) (λi h ⟨o,e1,e2,e3⟩=>⟨o,_,_,e1,e2,e3,by decide⟩) (λA i s Q E st h=>wpAny_pyIter_striter_ascii st h) (λA' hA=>Walks.strAscii hA _ (tS z) t) ⟨_,df _ rfl,rfl,rfl⟩)
 |non=>exact(show False from h1).elim
 |bl _=>exact(show False from h1).elim
 |int _=>exact(show False from h1).elim
 |raw _=>exact(show False from h1).elim
 |exc _=>exact(show False from h1).elim
def gb(lo:Int)(n:Nat):List PV:=(bF n).map λi=>PV.int (lo+(i:Nat))
theorem FT{H:Hp}{F:ah->Prop}(lo:Int)(n:Nat):Reps K H F (gb lo n) (sV lo n):=by
 unfold gb sV
 induction (bF n)with
 |nil=>rfl
 |cons x xs ih=>exact⟨_,_,rfl,rfl,ih⟩
def jF:List PV->Option (List PV)
 |[.int j]=>if j<=1000000/\-1000000<=j then aa (gb 0 j.toNat)else ae
 |_=>ae
def lR:List PV->Option (List PV)
 |[.int i,.int j]=>if j<=1000000/\-1000000<=j/\i<=1000000/\-1000000<=i then aa (gb i (j-i).toNat)else ae
 |_=>ae
theorem xQ(hm:X.mg "range" = ae)(ha:DA X E [a] ds)(hg:Gl X "range":=by rfl)(hs:aW [a] X.env=[(am,bf a X.env)]:=by rfl):DI X E tg (.Call (.Name "range" p) [a] [] pos) (dL jF ds):=λF S Z Y H Rr rl h=>by
 refine GI (Wc hg hm g9 hs) (ha F S Z Y H _ rl ((Ok.bind h).imp λxs dM F1 S1 H1 r1 g1 h1 vs jZ=>?_));unfold jF at h1;split at h1
 ·rename_i j;split at h1
  ·rename_i hj;obtain⟨v,rfl,rv⟩:=iF jZ;refine⟨j,by rw[show v=V.int j from rv],∅,∅,h1 F1 S1 H1 r1 (bM.refl ..) _ _ _ (FT 0 j.toNat) (by rw[yb,oB];lia) G6 λ_ _ _ _=>trivial⟩
  ·exact h1.elim
 ·exact h1.elim
theorem yz(hm:X.mg "range" = ae)(ha:DA X E [a,b] ds)(hg:Gl X "range":=by rfl)(hs:aW [a,b] X.env=[(am,bf a X.env),(am,bf b X.env)]:=by rfl)(lz:aW [b] X.env=[(am,bf b X.env)]:=by rfl):DI X E tg (.Call (.Name "range" p) [a,b] [] pos) (dL lR ds):=λF S Z Y H Rr rl h=>by
 refine GI (Pb hg hm g9 hs lz) (ha F S Z Y H _ rl ((Ok.bind h).imp λxs dM F1 S1 H1 r1 g1 h1 vs jZ=>?_));unfold lR at h1;split at h1
 ·rename_i i j;split at h1
  ·rename_i hj;obtain⟨v,r',rfl,h2,h3⟩:=jZ;obtain⟨u,rfl,h4⟩:=iF h3;refine⟨i,j,by rw[show v=V.int i from h2,show u=V.int j from h4],⟨∅,∅,∅,∅⟩,h1 F1 S1 H1 r1 (bM.refl ..) _ _ _ (FT i (j-i).toNat) (by rw[yb,oB];lia) G6 λ_ _ _ _=>trivial⟩
  ·exact h1.elim
 ·exact h1.elim
end
section
variable{K:aC}{F:ah->Prop}{S:Nat->ah->Prop}{Z:aj}{Y:St}{H:Hp}{i:Nat}{xs xs':List PV}{vs':List V}{a:ah}
theorem aX.lstAt(r:aX K F S Z Y H)(e:Z[i]?=aa (.own (.lst xs))):∃a vs,Y[i]?=aa (aa (.ref a))/\H a=aa (.lst vs)/\Reps K H F xs vs/\S i a/\∀b,S i b->b=a:=by obtain⟨a,e1,⟨vs,h1,h2⟩,h3⟩:=r.own i _ e;exact⟨a,vs,e1,h1,h2,(h3 a).mpr rfl,λb h=>(h3 b).mp h⟩
theorem aX.upd(r:aX K F S Z Y H)(e:Z[i]?=aa (.own (.lst xs)))(ea:Y[i]?=aa (aa (.ref a)))(h:Reps K H F xs' vs'):aX K F S (Z.set i (.own (.lst xs'))) Y (upd H a (.lst vs'))/\bM (U S) (U S) F F H (upd H a (.lst vs')):=by
 obtain⟨a',vs,e1,h1,h2,h3,h4⟩:=r.lstAt e;rw[ea]at e1;cases e1;have hi:i<Z.length:=(d9.mp e).1;have g:bM (U S) (U S) F F H (L2.upd H a (.lst vs')):=⟨λ_ z=>z,λb o q n=>by rw[cp (by rintro rfl;exact n ⟨i,h3⟩)];exact q,λb o q=>by
  by_cases hb:b=a
  ·subst hb;exact⟨_,cF⟩
  ·exact⟨o,by rw[cp hb];exact q⟩,λ_ z=>.inl z,λ_ z=>.inl z⟩
 refine⟨⟨by rw[jR];exact r.len,λb z=>let ⟨o,q⟩:=r.ex b z;g.there b o q,λj pv q=>?_,λj po q=>?_,λj b z=>?_,r.dist⟩,g⟩
 ·have hj:i≠j:=by rintro rfl;rw[im hi]at q;cases q
  rw[fA hj]at q;obtain⟨v,q1,q2⟩:=r.val j pv q;exact⟨v,q1,q2.grow g r.fit⟩
 ·by_cases hj:i=j
  ·subst hj;rw[im hi]at q;cases q;exact⟨a,ea,⟨vs',cF,h.grow g r.fit⟩,λb=>⟨h4 b,λz=>by rw[z];exact h3⟩⟩
  ·rw[fA hj]at q;obtain⟨c,q1,q2⟩:=r.own j po q;refine⟨c,q1,q2.mono (λ_ _ z=>z.grow g r.fit) (λ_ _ z=>z.grow g r.fit) λb o z w=>?_⟩;rw[cp (by rintro rfl;exact hj (r.dist i j b h3 z))];exact w
 ·obtain⟨⟨po,q1⟩,q2,o,q3,q4⟩:=r.foot j b z;by_cases hj:i=j
  ·subst hj;rw[h4 b z];exact⟨⟨_,im hi⟩,by rw[←h4 b z];exact q2,_,cF,trivial⟩
  ·exact⟨⟨po,by rw[fA hj];exact q1⟩,q2,o,by rw[cp (by rintro rfl;exact hj (r.dist i j b h3 z))];exact q3,q4⟩
end
section
variable{X:Cx}{E:XK}{pin:List Nat}{e b:aE}{de db:aj->R PV}{pos:Pos}
def eX(Z:aj)(i:Nat):Option (List PV):=match Z[i]? with
 |some (.own (.lst xs))=>aa xs
 |_=>ae
theorem kE{Z:aj}{i:Nat}{xs:List PV}(h:eX Z i=aa xs):Z[i]?=aa (.own (.lst xs)):=by
 unfold eX at h;split at h
 ·cases h;assumption
 ·cases h
def kZ(i:Nat)(de:aj->R PV):aj->R aO:=λZ=>(aV (eX Z i) Z).bind λ_ Z=>(de Z).bind λy dM=>(aV (eX dM i) dM).bind λxs dM=>if xs.length<ce then .ok .next (dM.set i (.own (.lst (xs++[y]))))else .no
theorem vn(i:Nat){x:Str}{p X7 X6:Pos}(he:DE X E e de)(hN:X.N[i]?=aa x:=by rfl)(hv:fP X.env.scope x:=by first|exact Or.inl rfl|exact Or.inr (Or.inl rfl)|exact Or.inr (Or.inr rfl))(hd:(x == ("__debug__" : Str))=am:=by decide)(bL:(x == ("__classdict__" : Str))=am:=by decide) (h1:p_ (.Name x p) "append" X.env (bf (.Name x p) X.env)=bf (.Name x p) X.env:=by rfl)(h2:((dR X6 (aW [e] X.env)).all (λx=>!x.1)&&(t4 X6 (t5 [] X.env)).all (λx=>x.1.isSome)&&decide ([e].length+([]:List mj).length+(if([]:List mj).isEmpty then 0 else 1)<30))=ai:=by rfl)(h3:(X7.endLine == X6.line)=ai:=by rfl) (h4:aW [e] X.env=(am,bf e X.env)::aW [] X.env:=by rfl) (h5:(dR X6 (aW [] X.env)).any (·.1)=am:=by rfl)(hs:nv (.Call (.Attribute (.Name x p) "append" X7) [e] [] X6) ae pos.line X.env=pure am:=by rfl):DS X E pin (.Expr (.Call (.Attribute (.Name x p) "append" X7) [e] [] X6) pos) (kZ i de):=λF S Z Y H D rl h=>by
 unfold kZ at h;cases e0:eX Z i with
 |none=>rw[e0]at h;exact h.elim
 |some xs0=>
  rw[e0]at h;simp only[c8,R.bind_ok]at h;obtain⟨a,vs0,ea,ha,_,_,_⟩:=rl.lstAt (kE e0);refine jH (Ci (zj Ek PySem.F.slot_list_append PySem.F.type_list_append HV (gL hN hv hd bL) (jE cn k_ h4) h1 h2 h3 h4 h5) hs) ⟨.ref a,ea,.inl ⟨rfl,_,cC.of ha⟩,?_⟩;refine he F S Z Y H _ rl (h.bindE.imp λy dM F1 S1 H1 r1 g1 q v rv=>?_);cases e1:eX dM i with
  |none=>rw[e1]at q;exact q.elim
  |some xs=>
   rw[e1]at q;simp only[c8,R.bind_ok]at q;obtain⟨a',vs,ea',sd,ra,_,_⟩:=r1.lstAt (kE e1);rw[ea]at ea';cases ea';split at q
   ·rename_i hl;obtain⟨r2,g2⟩:=r1.upd (kE e1) ea (ra.app (.one rv));exact⟨a,vs,v,rfl,rfl,sd,by rw[ra.len];exact fI hl mV,q F1 S1 Y _ r2 g2 (jA.refl _ _)⟩
   ·exact q.elim
def Q0:V->List V->Hp->VK->Prop:=λx vs H Q=>∃l b xs zs,x=.ref l/\vs=[.ref b]/\H l=aa (.lst xs)/\Rd H b (.lst zs)/\xs.length+zs.length<=bw/\Q .non (L2.upd H l (.lst (xs++zs)))
theorem RM:zI X "list.extend" Q0:=by
 intro af s Y H x vs v us Q I rx rv h;obtain⟨l,b,xs,zs,rfl,rfl,hH,hB,hz,q⟩:=h;cases rx;obtain⟨u,rfl,ru⟩:=rv.one;cases ru;obtain⟨z,its,n,r,hl,e⟩:=I.lstM hH;obtain⟨its2,n2,r2,e2,_⟩:=CQ I hB;have kL:=r2.length;have hsz:its.toArray.size+its2.toArray.size<=bw:=by rw[cU,cU];lia
 have W1:¬(!its.toArray.isEmpty&&zU (its.toArray.size+its2.toArray.size))=ai:=by rw[TW hsz,D_];exact gz
 refine wl F.slot_list_extend ⟨_,e,rfl⟩ F.entry_list_extend (F.args_list_extend_2 _ _)
  (AutoSeq1.list_extend_list_list_0 l its.toArray n b its2.toArray n2 W1 (by rw[cU];lia) ∅) ⟨e,e2,?_⟩
 refine⟨.non,_,I.lset (its':=its++its2) hH e (by simp) (r.append r2) ?_,rfl,q⟩;rw[d_];lia
def pP(i:Nat)(de:aj->R PV):aj->R aO:=λZ=>(aV (eX Z i) Z).bind λ_ Z=>(de Z).bind λy dM=>(aV (eX dM i) dM).bind λxs dM=>match y with
 |.lst ys=>if xs.length+ys.length<=ce then .ok .next (dM.set i (.own (.lst (xs++ys))))else .no
 |_=>.no
theorem BN(i:Nat){x:Str}{p X7 X6:Pos}(he:DE X E e de)(hN:X.N[i]?=aa x:=by rfl)(hv:fP X.env.scope x:=by first|exact Or.inl rfl|exact Or.inr (Or.inl rfl)|exact Or.inr (Or.inr rfl))(hd:(x == ("__debug__" : Str))=am:=by decide)(bL:(x == ("__classdict__" : Str))=am:=by decide) (h1:p_ (.Name x p) "extend" X.env (bf (.Name x p) X.env)=bf (.Name x p) X.env:=by rfl)(h2:((dR X6 (aW [e] X.env)).all (λx=>!x.1)&&(t4 X6 (t5 [] X.env)).all (λx=>x.1.isSome)&&decide ([e].length+([]:List mj).length+(if([]:List mj).isEmpty then 0 else 1)<30))=ai:=by rfl)(h3:(X7.endLine == X6.line)=ai:=by rfl) (h4:aW [e] X.env=(am,bf e X.env)::aW [] X.env:=by rfl) (h5:(dR X6 (aW [] X.env)).any (·.1)=am:=by rfl)(hs:nv (.Call (.Attribute (.Name x p) "extend" X7) [e] [] X6) ae pos.line X.env=pure am:=by rfl):DS X E pin (.Expr (.Call (.Attribute (.Name x p) "extend" X7) [e] [] X6) pos) (pP i de):=λF S Z Y H D rl h=>by
 unfold pP at h;cases e0:eX Z i with
 |none=>rw[e0]at h;exact h.elim
 |some xs0=>
  rw[e0]at h;simp only[c8,R.bind_ok]at h;obtain⟨a,vs0,ea,ha,_,_,_⟩:=rl.lstAt (kE e0);refine jH (Ci (zj Ek PySem.F.slot_list_extend PySem.F.type_list_extend RM (gL hN hv hd bL) (jE cn k_ h4) h1 h2 h3 h4 h5) hs) ⟨.ref a,ea,.inl ⟨rfl,_,cC.of ha⟩,?_⟩;refine he F S Z Y H _ rl (h.bindE.imp λy dM F1 S1 H1 r1 g1 q v rv=>?_);cases e1:eX dM i with
  |none=>rw[e1]at q;exact q.elim
  |some xs=>
   rw[e1]at q;simp only[c8,R.bind_ok]at q;obtain⟨a',vs,ea',sd,ra,_,_⟩:=r1.lstAt (kE e1);rw[ea]at ea';cases ea';split at q
   ·rename_i ys;split at q
    ·rename_i hl;obtain⟨c,us,rfl,hc,_,rc⟩:=rv;obtain⟨r2,g2⟩:=r1.upd (kE e1) ea (ra.app rc);exact⟨a,c,vs,us,rfl,rfl,sd,hc,by rw[ra.len,rc.len];exact dj hl mV,q F1 S1 Y _ r2 g2 (jA.refl _ _)⟩
    ·exact q.elim
   ·exact q.elim
end
mutual
def imm:PV->Bool
 |.lst _=>am
 |.tup xs=>sU xs
 |_=>ai
def sU:List PV->Bool
 |[]=>ai
 |x::xs=>imm x&&sU xs
end
mutual
theorem bh.imm{K:aC}{H:Hp}{F F':ah->Prop}:∀(x:PV) {v:V},imm x=ai->bh K H F x v->bh K H F' x v
 |.non,_,_,h=>h
 |.bl _,_,_,h=>h
 |.int _,_,_,h=>h
 |.str _,_,_,h=>h
 |.raw _,_,_,h=>h
 |.exc _,_,_,h=>h
 |.lst _,_,e,_=>by simp[Pu.imm]at e
 |.tup xs,_,e,⟨a,vs,e1,h1,h2⟩=>⟨a,vs,e1,h1,Reps.imm xs (by simpa[Pu.imm]using e) h2⟩
theorem Reps.imm{K:aC}{H:Hp}{F F':ah->Prop}:∀(xs:List PV) {vs:List V},sU xs=ai->Reps K H F xs vs->Reps K H F' xs vs
 |[],_,_,h=>h
 |x::xs,_,e,⟨v,r,e1,h1,h2⟩=>by
  have e':imm x=ai/\sU xs=ai:=by simpa[sU]using e
  exact⟨v,r,e1,bh.imm x e'.1 h1,Reps.imm xs e'.2 h2⟩
end
section
variable{K:aC}{F:ah->Prop}{S:Nat->ah->Prop}{Z:aj}{Y:St}{H:Hp}{i:Nat}{xs:List PV}
theorem aX.look(r:aX K F S Z Y H)(e:Z[i]?=aa (.own (.lst xs))):∃a,Y[i]?=aa (aa (.ref a))/\¬F a/\bh K H (λb=>F b\/b=a) (.lst xs) (.ref a)/\(∀b,F b\/b=a->∃o,H b=aa o) /\ (∀{F' H'},Al (λb=>F b\/b=a) F' H H'->Al F (λb=>F' b/\b≠a) H H'):=by
 obtain⟨a,vs,e1,h1,h2,h3,h4⟩:=r.lstAt e;have nF:¬F a:=(r.foot i a h3).2.1;refine⟨a,e1,nF,⟨a,vs,rfl,.inl h1,.inr rfl,Reps.mono (λ_ z=>.inl z) (λ_ _ _ z=>z) (λ_ _ z _=>z) _ _ h2⟩,λb z=>z.elim (r.ex b) λz=>by rw[z];exact⟨_,h1⟩,λ{F' H'} al=>⟨λb z=>⟨al.fro b (.inl z),by rintro rfl;exact nF z⟩,al.same,λb z=>?_⟩⟩;rcases al.fnew b z.1 with(w|w)|w
 ·exact .inl w
 ·exact absurd w z.2
 ·exact .inr w
end
section
variable{X:Cx}{E:XK}{e b:aE}{de db:aj->R PV}{pos p:Pos}{x y:Str}{id T:String}{r:List V->Hp->VK->Prop}{f:List PV->Option PV}{fn:List PV->Option PO}
def pF(o:Option PV):Option PV:=o.bind λv=>if imm v then aa v else ae
theorem Fd{o:Option PV}{v:PV}(h:pF o=aa v):o=aa v/\imm v=ai:=by
 cases o with
 |none=>cases h
 |some w=>
  have h:(if imm w then aa w else ae)=aa v:=h;split at h
  ·cases h;exact⟨rfl,by assumption⟩
  ·cases h
def T7:PO->Bool
 |.lst xs=>sU xs
 |_=>am
def yW{α:Type}(f:List PV->Option α)(i:Nat):aj->R α:=λZ=>(aV (eX Z i) Z).bind λxs Z=>aV (f [.lst xs]) Z
theorem Wa{F:ah->Prop}{S:Nat->ah->Prop}{Z:aj}{Y:St}{H:Hp}{Q:VK}{i:Nat}(hp:PL X.K r f)(rl:aX X.K F S Z Y H)(h:Ok X.K E Y F S H (yW (λxs=>pF (f xs)) i Z) (λpv _ F' _ H'=>∀v,bh X.K H' F' pv v->Q v H')):∃a,Y[i]?=aa (aa (.ref a))/\r [.ref a] H Q:=by
 unfold yW at h;cases e0:eX Z i with
 |none=>rw[e0]at h;exact h.elim
 |some xs=>
  rw[e0]at h;simp only[c8,R.bind_ok]at h;obtain⟨a,ea,nF,ra,qA,km⟩:=rl.look (kE e0);refine⟨a,ea,?_⟩;cases e1:pF (f [.lst xs])with
  |none=>rw[e1]at h;exact h.elim
  |some pv=>rw[e1]at h;obtain⟨e2,e3⟩:=Fd e1;exact hp _ H [.lst xs] [.ref a] Q pv (.one ra) e2 λw F' H' al rw'=>h _ S H' (rl.al (km al)) (km al).grow w (bh.imm pv e3 rw')
theorem S9(i:Nat)(hc:fD X (.builtin id) r)(hp:PL X.K r f)(hm:X.mg x=ae)(hv:fz x=aa (.builtin id))(hN:X.N[i]?=aa y:=by rfl)(fU:fP X.env.scope y:=by first|exact Or.inl rfl|exact Or.inr (Or.inl rfl)|exact Or.inr (Or.inr rfl))(hd:(y == ("__debug__" : Str))=am:=by decide) (bL:(y == ("__classdict__" : Str))=am:=by decide) (hg:Gl X x:=by rfl) (hn:x≠"__name__":=by decide) (jV:(x == ("__debug__" : Str))=am:=by decide) {yp:Pos}(he:aW [.Name y yp] X.env=(am,bf (.Name y yp) X.env)::aW [] X.env:=by rfl) (cV:(dR pos (aW [] X.env)).any (·.1)=am:=by rfl):DE X E (.Call (.Name x p) [.Name y yp] [] pos) (yW (λxs=>pF (f xs)) i):=λF S Z Y H Q rl q=>by obtain⟨a,ea,hr⟩:=Wa hp rl q;exact cB (rA hc hg hm hv (jE (gL hN fU hd bL) k_ he) hn jV he cV) ⟨_,ea,hr⟩
def Xu(o:Option PO):Option PO:=o.bind λv=>if T7 v then aa v else ae
def qF(f:PV->PV->Option PV)(i:Nat)(db:aj->R PV):aj->R PV:=λZ=>(aV (eX Z i) Z).bind λ_ Z=>(db Z).bind λk dM=>(aV (eX dM i) dM).bind λxs dM=>aV (pF (f (.lst xs) k)) dM
theorem U3{F:ah->Prop}{S:Nat->ah->Prop}{Z:aj}{Y:St}{H:Hp}{Q:VK}{i:Nat}{r:R2}{f:PV->PV->Option PV}(hp:P2 X.K r f)(hb:DE X E b db)(rl:aX X.K F S Z Y H)(h:Ok X.K E Y F S H (qF f i db Z) (λpv _ F' _ H'=>∀v,bh X.K H' F' pv v->Q v H')):∃a,Y[i]?=aa (aa (.ref a))/\ja X b Y H λu H1=>r (.ref a) u H1 Q:=by
 unfold qF at h;cases e0:eX Z i with
 |none=>rw[e0]at h;exact h.elim
 |some xs0=>
  rw[e0]at h;simp only[c8,R.bind_ok]at h;obtain⟨a,vs,ea,_⟩:=rl.lstAt (kE e0);refine⟨a,ea,hb F S Z Y H _ rl ((Ok.bind h).imp λk dM F1 S1 H1 r1 g1 q u ru=>?_)⟩;cases e1:eX dM i with
  |none=>rw[e1]at q;exact q.elim
  |some xs=>
   rw[e1]at q;simp only[c8,R.bind_ok]at q;obtain⟨a',ea',nF,ra,qA,km⟩:=r1.look (kE e1);rw[ea]at ea';cases ea';cases e2:pF (f (.lst xs) k)with
   |none=>rw[e2]at q;exact q.elim
   |some pv=>rw[e2]at q;obtain⟨e3,e4⟩:=Fd e2;exact hp _ H1 (.lst xs) k (.ref a) u Q pv ra (bh.mono (λ_ z=>.inl z) (λ_ _ _ z=>z) (λ_ _ z _=>z) _ _ ru) e3 λw F' H' al rw'=>q _ S1 H' (r1.al (km al)) (km al).grow w (bh.imm pv e4 rw')
theorem Jq(i:Nat){yp:Pos}{r:R2}{f:PV->PV->Option PV}(hr:mG X r)(hp:P2 X.K r f)(hb:DE X E b db)(hN:X.N[i]?=aa y:=by rfl)(fU:fP X.env.scope y:=by first|exact Or.inl rfl|exact Or.inr (Or.inl rfl)|exact Or.inr (Or.inr rfl))(hd:(y == ("__debug__" : Str))=am:=by decide) (bL:(y == ("__classdict__" : Str))=am:=by decide) (hs:yL b:=by exact λ_ _=>rfl):DE X E (.Subscript (.Name y yp) b pos) (qF f i db):=λF S Z Y H Q rl h=>by obtain⟨a,ea,hw⟩:=U3 hp hb rl h;exact cB (Hh hr (gL hN fU hd bL) cn hs) ⟨_,ea,hw⟩
end
end Pu
namespace Pu
open L2
def lS(h:aI)(e T:ah)(c fl:ak):Prop:=∃oe vs oT ts,h.get? e=aa oe/\oe.cls=c/\(oe.data=.fields vs/\oe.dict=ae)/\vs[1]?=aa (.ref T)/\T≠e/\h.get? T=aa oT/\oT.data=.fields ts/\ts[3]?=aa fl
def Made(h:aI)(e:ah)(c:ak):Prop:=∃oe vs,h.get? e=aa oe/\oe.cls=c/\(oe.data=.fields vs/\oe.dict=ae)/\vs[1]?=aa .none
structure Kp(fs:List ah)(X:ah->Prop)(h h':aI):Prop where
 keep:∀b o,h.get? b=aa o->b∉fs->¬X b->h'.get? b=aa o
 slot:∀b o,h.get? b=aa o->b∈fs->¬X b->∃sl,h'.get? b=aa {o with slots:=sl}
 there:∀b o,h.get? b=aa o->∃o',h'.get? b=aa o'
theorem Kp.trans{fs:List ah}{X ld:ah->Prop}{h h1 h2:aI}(a:Kp fs X h h1)(b:Kp fs ld h1 h2):Kp fs (λc=>X c\/ld c) h h2 where
 keep:=λc o e n x=>b.keep c o (a.keep c o e n λz=>x (.inl z)) n λz=>x (.inr z)
 slot:=λc o e n x=>by obtain⟨sl,e1⟩:=a.slot c o e n λz=>x (.inl z);obtain⟨sl2,e2⟩:=b.slot c _ e1 n λz=>x (.inr z);exact⟨sl2,e2⟩
 there:=λc o e=>let ⟨o',e'⟩:=a.there c o e;b.there c o' e'
theorem Kp.imp{fs fs':List ah}{X ld:ah->Prop}{h h':aI}(a:Kp fs X h h')(hfs:∀b,b∈fs->b∈fs')(hX:∀b o,h.get? b=aa o->X b->ld b):Kp fs' ld h h' where
 keep:=λc o e n x=>a.keep c o e (λz=>n (hfs c z)) λz=>x (hX c o e z)
 slot:=λc o e n x=>by
  by_cases hc:c∈fs
  ·exact a.slot c o e hc λz=>x (hX c o e z)
  ·exact⟨o.slots,a.keep c o e hc λz=>x (hX c o e z)⟩
 there:=a.there
theorem Pk(f:Array ak->Array ak)(o:Obj):(oO f o).dict=o.dict:=by
 obtain⟨c,d,dt,sl⟩:=o;cases dt <;> rfl
section
variable{M:Model}{A:bd}{E:ak->aq->Prop}{s:aq}
theorem GL{base:aI}{env:Env}{outer:List Env}{L e:ah}{oe:Obj}{vs:Array ak}{head:ak}{WT:Bool}{Q:Unit->aq->Prop}(kK:A.frames=aa (env::outer)) (hl:s.heap.FunFrames base (env::outer)) (hf:env.frame=aa L) (he:s.heap.get? e=aa oe) (hd:oe.data=.fields vs) (se:oe.dict=ae) (hsz:1<vs.size)(h:∀h' T,Kp (fV (env::outer)) (λb=>b=e) s.heap h'->lS h' e T oe.cls .none->s.heap.objs.size<=T->Q () {s with heap:=h'}):aA M A (do let a ←frameOf env;let pl ←entryPlaceOf L WT;let b ←EntryCells.newEntry head a .none (eJ L) .none pl;oM (.ref e) 1 b) (λ_ s'=>aA M A (Ag (.ref e) ae) Q E s') E s:=by
 have hene:e∉(env::outer).filterMap (·.frame):=λhm=>by obtain⟨_,o,ho,xh⟩:=hl.mem hm;rw[he]at ho;injection ho with ho;subst ho;exact xh vs hd
 refine au (wpAny_frameOf_fun kK hl hf λh₁ M1=>?_);refine au (wpAny_entryPlaceOf λpl cV=>?_);unfold EntryCells.newEntry newFields;refine au (oE ?_ (cV.sizeOk5 _ _ _ _ _));have PM:h₁.get? e=aa oe:=(M1.2.1 e hene).trans he;have Tm:=bH (h:=h₁) {cls:=.type "traceback",dict:=ae,data:=.fields ([head,.ref L,.none,eJ L,.none]++(if pl.isEmpty then bK 6 Value.none else pl)).toArray} PM;refine ud Tm hd hsz ?_;have oZ:h₁.objs.size≠e:=mf (bD PM);have Ty:=wx hd (·.setIfInBounds 1 (Value.ref h₁.objs.size));have Wn:=rS (oO (·.setIfInBounds 1 (Value.ref h₁.objs.size))) Tm (El Ty);have X0:=(rP (h₁.push {cls:=.type "traceback",dict:=ae,data:=.fields ([head,.ref L,.none,eJ L,.none]++(if pl.isEmpty then bK 6 Value.none else pl)).toArray}) (oO (·.setIfInBounds 1 (Value.ref h₁.objs.size))) (fY oZ)).trans (df h₁ rfl);unfold Ag;refine au (rN Wn Ty (x:=.ref h₁.objs.size) (by simp[hsz]) ?_);rw[if_pos (show(Value.ref h₁.objs.size != Value.none)=ai from by simp)];refine ud X0 rfl (by simp only[cU,d_,fi,rQ] <;> lia) (h _ h₁.objs.size ?_ ?_ ?_)
 ·have keep:∀b o,b≠e->h₁.get? b=aa o ->
    (((h₁.push {cls:=.type "traceback",dict:=ae,data:=.fields ([head,.ref L,.none,eJ L,.none]++(if pl.isEmpty then bK 6 Value.none else pl)).toArray}).update e (oO (·.setIfInBounds 1 (Value.ref h₁.objs.size)))).update h₁.objs.size (oO (·.setIfInBounds 3 ((ae:Option ah).elim Value.none λf=>eJ f)))).get? b=aa o:=λb o my hb=>by
   have hbT:h₁.objs.size≠b:=mf (bD hb);rw[rP _ _ hbT,rP _ _ (fY my)];exact bH _ hb
  refine⟨λb o hb hn hx=>keep b o hx ((M1.2.1 b hn).trans hb),λb o hb hn hx=>?_,λb o hb=>?_⟩
  ·obtain⟨sl,q⟩:=M1.2.2 b o hb;exact⟨sl,keep b _ hx q⟩
  ·by_cases my:b=e
   ·subst my;exact⟨_,(rP _ _ oZ).trans Wn⟩
   ·obtain⟨sl,q⟩:=M1.2.2 b o hb;exact⟨_,keep b _ my q⟩
 ·refine⟨_,_,_,_,(rP _ _ oZ).trans Wn,Obj.cls_mapFields _ _,⟨Ty,by rw[Pk];exact se⟩,by simp[hsz],oZ,rS _ X0 (El (wx rfl _)),wx rfl _,by first | (simp;done) | (rcases cV with rfl|⟨_,_,_,_,_,_,_,rfl⟩ <;> simp)⟩
 ·exact oH M1.1.symm
theorem SC{base:aI}{env:Env}{outer:List Env}{L e:ah}{c:ak}{Q:Unit->aq->Prop}(kK:A.frames=aa (env::outer))(hl:s.heap.FunFrames base (env::outer))(hf:env.frame=aa L)(hm:Made s.heap e c)(h:∀h' T,Kp (fV (env::outer)) (λb=>b=e) s.heap h'->lS h' e T c .none->s.heap.objs.size<=T->Q () {s with heap:=h'}):aA M A (leaving env (.ref e)) Q E s:=by obtain⟨oe,vs,he,hc,⟨hd,se⟩,h1⟩:=hm;subst hc;unfold leaving noteFrame;simp only[hf];refine au (au (rN he hd h1 ?_));rw[if_neg (by decide)];exact GL kK hl hf he hd se (qf.mp h1).1 h
theorem Ii{base:aI}{env:Env}{outer:List Env}{L e T:ah}{c:ak}{Q:Unit->aq->Prop}(kK:A.frames=aa (env::outer))(hl:s.heap.FunFrames base (env::outer))(hf:env.frame=aa L)(ht:lS s.heap e T c .none)(h:∀h' T',Kp (fV (env::outer)) (λb=>b=e\/b=T) s.heap h'->lS h' e T' c .none->s.heap.objs.size<=T'->Q () {s with heap:=h'}):aA M A (noteFrame (.ref e) env) (λ_ s2=>aA M A (Ag (.ref e) ae) Q E s2) E s:=by
 obtain⟨oe,vs,oT,ts,he,oW,⟨hd,se⟩,h1,oZ,hT,qB,h3⟩:=ht;subst oW;unfold noteFrame;simp only[hf];refine au (rN he hd h1 ?_);rw[if_pos (show(Value.ref T != Value.none)=ai from by simp)];refine au (rN hT qB h3 ?_);rw[if_neg (show ¬((Value.none == eJ L)=ai)from by simp[eJ])];refine au (ud hT qB (qf.mp h3).1 ?_);have other:∀b,b≠T->(s.heap.update T (oO (·.setIfInBounds 3 Value.none))).get? b=s.heap.get? b:=λb hb=>rP _ _ (fY hb);have noRecord:∀b o,s.heap.get? b=aa o->(∀vs,o.data≠.fields vs)->b≠T:=λb o hb xh q=>by rw[q,hT]at hb;injection hb with hb;subst hb;exact xh ts qB
 refine GL kK (hl.of_keeps λb o hb xh=>⟨o,(other b (noRecord b o hb xh)).trans hb,rfl⟩) hf ((other e (fY oZ)).trans he) hd se (qf.mp h1).1 λh' T' k fl hn=>?_;have k0:Kp (fV (env::outer)) (λb=>b=T) s.heap (s.heap.update T (oO (·.setIfInBounds 3 Value.none))):=by
  refine⟨λb o hb _ hx=>(other b hx).trans hb,λb o hb _ hx=>⟨o.slots,(other b hx).trans hb⟩,λb o hb=>?_⟩;by_cases hx:b=T
  ·subst hx;exact⟨_,rS _ hT (El (wx qB _))⟩
  ·exact⟨o,(other b hx).trans hb⟩
 refine h h' T' ((k0.trans k).imp (λ_ z=>z) λb o _ z=>z.symm) fl ?_;have e2:(s.heap.update T (oO (·.setIfInBounds 3 Value.none))).objs.size<=T':=hn;rwa[KU]at e2
theorem Va{base:aI}{env:Env}{outer:List Env}{L e T:ah}{c:ak}{Q:Unit->aq->Prop}(kK:A.frames=aa (env::outer))(hl:s.heap.FunFrames base (env::outer))(hf:env.frame=aa L)(ht:lS s.heap e T c .none)(h:∀h' T',Kp (fV (env::outer)) (λb=>b=e\/b=T) s.heap h'->lS h' e T' c .none->s.heap.objs.size<=T'->Q () {s with heap:=h'}):aA M A (leaving env (.ref e)) Q E s:=by unfold leaving;exact au (Ii kK hl hf ht h)
theorem UJ{e T:ah}{c fl:ak}{Q:Unit->aq->Prop}(ht:lS s.heap e T c fl)(h:∀h',Kp [] (λb=>b=T) s.heap h'->lS h' e T c .none->Q () {s with heap:=h'}):aA M A (Ag (.ref e) ae) Q E s:=by
 obtain⟨oe,vs,oT,ts,he,oW,⟨hd,se⟩,h1,oZ,hT,qB,h3⟩:=ht;have Lo:3<ts.size:=(qf.mp h3).1;have other:∀b,b≠T->(s.heap.update T (oO (·.setIfInBounds 3 ((ae:Option ah).elim Value.none λf=>eJ f)))).get? b=s.heap.get? b:=λb hb=>rP _ _ (fY hb);have self:=rS (oO (·.setIfInBounds 3 ((ae:Option ah).elim Value.none λf=>eJ f))) hT (El (wx qB _));unfold Ag;refine au (rN he hd h1 ?_);rw[if_pos (show(Value.ref T != Value.none)=ai from by simp)];refine ud hT qB Lo (h _ ⟨λb o hb _ hx=>(other b hx).trans hb,λb o hb _ hx=>⟨o.slots,(other b hx).trans hb⟩,λb o hb=>?_⟩ ⟨oe,vs,_,_,(other e (fY oZ)).trans he,oW,⟨hd,se⟩,h1,oZ,self,wx qB _,by simp[Lo]⟩);by_cases hx:b=T
 ·subst hx;exact⟨_,self⟩
 ·exact⟨o,(other b hx).trans hb⟩
end
def bU(P:aZ)(w:aT):gc:=λouter H s E e s'=>∃(a T:ah) (c:ak) (H':Hp),e=.ref a/\s'.os=s.os/\ox s'.gens/\Un (fV outer) [] H H' s.heap s'.heap/\dO P w H' s'.heap/\lS s'.heap a T c .none /\
 (s.heap.get? a=ae/\s.heap.get? T=ae/\H' a=ae/\H' T=ae)/\E c ae H'
theorem LZ{P:aZ}{w:aT}{H:Hp}{h:aI}{a:ah}{o:HO}(x:dS P w H h a o):∃u,h.get? a=aa u:=by
 cases o with
 |lst xs=>obtain⟨_,_,_,_,e⟩:=x;exact⟨_,e⟩
 |tup xs=>obtain⟨_,_,_,⟨o,e,_⟩,_⟩:=x;exact⟨_,e⟩
 |dK XN=>obtain⟨_,_,_,_,o,_,_,e,_⟩:=x;exact⟨_,e⟩
 |dT XN=>obtain⟨_,_,_,_,o,_,_,e,_⟩:=x;exact⟨_,e⟩
 |set S n=>obtain⟨o,_,_,_,e,_⟩:=x;exact⟨_,e⟩
 |ins C dx fs=>obtain⟨_,_,_,e,_⟩:=x;exact⟨_,e⟩
 |own y=>exact x
 |xd fs=>obtain⟨_,⟨_,_,_,e,_⟩,_⟩:=x;exact⟨_,e⟩
 |rng lo hi=>obtain⟨_,_,_,e⟩:=x;exact⟨_,e⟩
 |frz ob u=>obtain⟨e,_⟩:=x;exact⟨_,e⟩
 |tbl ps=>obtain⟨_,e,_⟩:=x;exact⟨_,e⟩
 |met f y=>exact⟨_,x⟩
 |ext φ=>obtain⟨_,e,_⟩:=x;exact e
theorem Oy{P:aZ}{w:aT}{H:Hp}{h:aI}{a:ah}(x:dO P w H h)(e:h.get? a=ae):H a=ae:=by
 cases q:H a with
 |none=>rfl
 |some u=>obtain⟨o,z⟩:=LZ (x a u q);rw[e]at z;cases z
theorem tN{fs:List ah}{H H':Hp}{h h':aI}{a:ah}(u:Un fs [] H H' h h')(e:h'.get? a=ae):h.get? a=ae:=by
 cases q:h.get? a with
 |none=>rfl
 |some o=>obtain⟨o',z⟩:=u.there a o q (by simp);rw[e]at z;cases z
theorem C3{fs fs':List ah}{H H':Hp}{h h1 h2:aI}{X:ah->Prop}(u:Un fs [] H H' h h1)(k:Kp fs' X h1 h2)(hf:∀b o,h.get? b=aa o->b∈fs'->b∈fs)(hX:∀b o,h.get? b=aa o->¬X b):Un fs [] H H' h h2 where
 keep:=λb o e n hb hx=>k.keep b o (u.keep b o e n hb hx) (λz=>hb (hf b o e z)) (hX b o e)
 slot:=λb o e n hb hx=>by
  obtain⟨sl,e1⟩:=u.slot b o e n hb hx;by_cases hb':b∈fs'
  ·obtain⟨sl2,e2⟩:=k.slot b _ e1 hb' (hX b o e);exact⟨sl2,e2⟩
  ·exact⟨sl,k.keep b _ e1 hb' (hX b o e)⟩
 free:=u.free
 there:=λb o e hx=>let ⟨o',e'⟩:=u.there b o e hx;k.there b o' e'
 tups:=u.tups
 frzs:=u.frzs
 tbls:=u.tbls
theorem BZ{P:aZ}{w:aT}{fs:List ah}{H:Hp}{h h':aI}{X:ah->Prop}(x:dO P w H h)(k:Kp fs X h h')(hf:∀b∈fs,H b=ae)(hX:∀b,X b->H b=ae):dO P w H h':=λb u e=>
 (x b u e).stay (λc v hc q=>k.keep c v q (λz=>by
   have:=hf c z;rcases hc with rfl|hc
   ·rw[e]at this;cases this
   ·rw[hc]at this;cases this) λz=>by
   have:=hX c z;rcases hc with rfl|hc
   ·rw[e]at this;cases this
   ·rw[hc]at this;cases this) (λ_ q=>q) λ_ _ q=>q
section
variable{P:aZ}{w:aT}{K:aC}{mg:Str->Option ak}{base:aI}{N:List Str}{qual:Str}{scope:d8}{f:ah}{cd:ak}{A:bd}{outer:List Env}{tM:aq}{uM:Hp}{E:XK}
theorem cJ:tq (bU P w) (iU (bU P w) P w K mg base N qual scope f cd A outer tM uM E) E:=λaf Y H s e s' I h=>by
 obtain⟨a,T,c,H',rfl,ho,hg,un,hok,fl,⟨fa,fT,na,nT⟩,hE⟩:=h;have I':=I.call' (s':=s') (ch:=[]) ho un hok hg (λb z=>absurd z (by simp));refine Va (L:=tM.heap.objs.size) I.ok.frames I'.stack rfl fl λiz T' k fl' fT'=>?_;have qU:(iU (bU P w) P w K mg base N qual scope f cd A outer tM uM E).ex=[]:=rfl;have fa0:tM.heap.get? a=ae:=tN I.base fa;have fT0:tM.heap.get? T=ae:=tN I.base fT;have fT0':tM.heap.get? T'=ae:=tN I'.base (Dz fT');have old:∀b o,tM.heap.get? b=aa o->b≠a/\b≠T:=λb o e=>⟨(by rintro rfl;rw[fa0]at e;cases e),(by rintro rfl;rw[fT0]at e;cases e)⟩
 refine⟨a,T',c,H',rfl,I'.os,I'.bare,C3 I'.base k (λb o e z=>?_) (λb o e z=>z.elim (old b o e).1 (old b o e).2),BZ I'.hok k I'.stkFree (λb z=>by rcases z with rfl|rfl <;> assumption),fl',⟨fa0,fT0',na,I'.hok.fresh fT'⟩,hE⟩;rcases b8.mp (I.stkSub b z)with q|q
 ·exact absurd (bD e) (by rw[q];exact fu _)
 ·exact q
end
section
variable{X:Cx}{E:XK}{pin:List Nat}{e:aE}{de:aj->R PV}{x:Str}{C:ah}{bmB:List ak}{XD initId B:String}{np X6 pos:Pos}
def E8(X:Cx)(E:XK):Prop:=∀(af:List (ah×Obj)) (Y:St) (H:Hp) (s:aq) (a:ah) (c:ak) (h':aI),Inv X af Y H s->(∀b o,s.heap.get? b=aa o->h'.get? b=aa o)->Made h' a c->s.heap.get? a=ae->(E c ae H)->X.xe (.ref a) {s with heap:=h'}
def lK(c:ak)(de:aj->R PV):aj->R aO:=λZ=>(de Z).bind λ_ dM=>.er c dM
theorem RD{h h':aI}{e:ah}{cls:ak}{args:List ak}(m:Heap.MadeExcOf h h' e cls args):Made h' e cls:=by obtain⟨t,he,_,_⟩:=m.there;exact⟨_,_,he,rfl,⟨rfl,rfl⟩,rfl⟩
theorem vx(hx:E8 X E)(hc:X.calm=ai)(O:OwnCls x C bmB XD X.mg X.base)(FB:ExcBaseFacts B XD initId bmB)(he:DE X.nox E0 e de)(hg:Gl X x:=by rfl)(hd:(x == ("__debug__" : Str))=am:=by decide)(h1:aW [e] X.env=[(am,bf e X.env)]:=by rfl):DS X E pin (.Raise (aa (.Call (.Name x np) [e] [] X6)) ae pos) (lK (.ref C) (λZ=>bQ (de Z))):=λF S Z Y H D rl q=>Bx.mk λaf s I=>by
 obtain⟨tl,N,nm,qn,bs,hdct,sn,sub,ab,col,dd,k0,k1,k2,k3,k5,mN,hC,hN,hni,T⟩:=O.obj;refine wpAny_Raise_call_subT (C:=C) (nm:=nm) (q:=qn) (N:=N) (bs:=bs) (bm:=tl) (hdct:=hdct) (sn:=sn) (sub:=sub) (ab:=ab) (col:=col) (dd:=dd) (k0:=k0) (k1:=k1) (k2:=k2) (k3:=k3) (k5:=k5)
  FB (mN:=mN) (T.hasType FB.hasBase) (I.ok.hd hc) (by rw[h1];rfl) hni (vZ I hg O.bound ⟨rfl,?_⟩ hd)
 have q2:Ok X.K E0 Y F S H (de Z) (λ_ dM F1 S1 H1=>iG X.K E pin Y F1 S1 H1 (.er (.ref C) dM) D):=by
  have q:iG X.K E pin Y F S H ((bQ (de Z)).bind λ_ dM=>.er (.ref C) dM) D:=q;cases e0:de Z with
  |no=>rw[e0]at q;exact q.elim
  |er c Z'=>rw[e0]at q;exact q.elim
  |ok v Z'=>rw[e0]at q;exact λF' S' H' r' g'=>q.from g' (jA.refl _ _)
 rw[h1];refine KC (dr (DJ (dr ((he F S Z Y H (λv H1=>∃F1 S1 dM,aX X.K F1 S1 dM Y H1/\iG X.K E pin Y F1 S1 H1 (.er (.ref C) dM) D) rl (q2.imp λv dM F1 S1 H1 r1 g1 h v' rv=>⟨F1,S1,dM,r1,h⟩)).run af s (I.wish _)) (λu s1 ⟨v,H1,I1,r1,F1,S1,dM,rl1,ok⟩=>?_) λ_ _ z=>z.elim)) (λ_ _ z=>z) λ_ _ z=>z);have I1:=I1.unwish;refine Kw ⟨rfl,(by show 1<=bw;decide),I1.bk _ _ hC,hN.keeps I1.bk,T.keeps I1.bk,λh' a m=>?_⟩;exact hx af Y H1 s1 a (.ref C) h' I1 m.keeps (RD m) m.new (ok ae F1 S1 Y H1 rl1 (bM.refl ..) (jA.refl _ _))
end
section
variable{P:aZ}{w:aT}{K:aC}{mg:Str->Option ak}{base:aI}{N:List Str}{qual:Str}{scope:d8}{f:ah}{cd:ak}{A:bd}{outer:List Env}{tM:aq}{uM:Hp}{E:XK}
theorem uQ:E8 (iU (bU P w) P w K mg base N qual scope f cd A outer tM uM E) E:=λaf Y H s a c h' I kp md new hE=>by
 have I':Inv _ af Y H {s with heap:=h'}:=I.kept (t':=s.toks) kp;refine SC (s:={s with heap:=h'}) (L:=tM.heap.objs.size) I.ok.frames I'.stack rfl md λiz T' k fl' fT'=>?_;have fa0:tM.heap.get? a=ae:=tN I.base new;have fT0':tM.heap.get? T'=ae:=tN I'.base (Dz fT');have na:H a=ae:=Oy I.hok new;refine⟨a,T',c,H,rfl,I'.os,I'.bare,C3 I'.base k (λb o e z=>?_) (λb o e z=>by rw[show b=a from z,fa0]at e;cases e),BZ I'.hok k I'.stkFree (λb z=>by rw[show b=a from z];exact na),fl',⟨fa0,fT0',na,I'.hok.fresh fT'⟩,hE⟩;rcases b8.mp (I.stkSub b z)with q|q
 ·exact absurd (bD e) (by rw[q];exact fu _)
 ·exact q
end
section
variable{X:Cx}{af:List (ah×Obj)}{Y:St}{H:Hp}{s:aq}
theorem OQ{M:Model}{A:bd}{E:ak->aq->Prop}{i:Nat}{x:Str}{v:V}{Q:Unit->aq->Prop}(I:Inv X af Y H s)(hN:X.N.Nodup)(hi:X.N[i]?=aa x)(hk:X.env.scope.names.lookup x=aa .local)(hv:Y[i]?=aa (aa v))(h:∀s',Inv X af (Y.set i ae) H s'->Q () s'):aA M A (unbindName X.env x) Q E s:=by
 obtain⟨m,hn,hl⟩:=id I.loc;have oW:(X.env.scope.kind == .class||(X.env.scope.kind == .module&&X.env.locals != X.env.globals))=am:=by rw[I.ok.kind];rfl
 have hiσ:i<Y.length:=(d9.mp hv).1;obtain⟨u,_,lk⟩:=hl i x v hi hv (.inl hk);have hm:m x=aa u:=by
  rcases lk with⟨_,z⟩|⟨z,_⟩
  ·exact z
  ·have z:X.env.scope.names.lookup x=aa .cell\/X.env.scope.names.lookup x=aa .free:=z;rcases z with z|z <;> rw[hk]at z <;> cases z
 refine wpAny_unbindName_local hk hn hm oW λh' u' wR hs=>?_;obtain⟨oL,_,_,ur,_⟩:=id hn;have up:∀b o,X.tM.heap.get? b=aa o->h'.get? b=s.heap.get? b:=λb o e=>hs.2 b (cX (fI (bD e) I.ok.above));refine h _ ⟨I.ok,I.os,I.bare,⟨λb o e n hb hx=>(up b o e).trans (I.base.keep b o e n hb hx),λb o e n hb hx=>?_,I.base.free,λb o e hx=>?_,I.base.tups,I.base.frzs,I.base.tbls⟩,⟨_,wR,λj y v' e1 e2 e3=>?_⟩,λy c e=>?_,I.free,I.freeC,λp hp=>?_,λb ob e=>?_,by rw[jR];exact I.len⟩
 ·obtain⟨sl,q⟩:=I.base.slot b o e n hb hx;exact⟨sl,(up b o e).trans q⟩
 ·obtain⟨o',q⟩:=I.base.there b o e hx;exact⟨o',(up b o e).trans q⟩
 ·by_cases hj:j=i
  ·subst hj;rw[im hiσ]at e2;cases e2
  ·rw[fA (fY hj)]at e2;obtain⟨w,r',q⟩:=hl j y v' e1 e2 e3;refine⟨w,r',?_⟩;rcases q with⟨k,e⟩|⟨k,c,e,z⟩
   ·have:y≠x:=λe=>hj (A5 hN e1 (e ▸ hi));exact .inl ⟨k,by simp[this,e]⟩
   ·exact .inr ⟨k,c,e,z.sameBut hs (I.cne y c e)⟩
 ·obtain⟨w',z⟩:=I.cell y c e;exact⟨w',z.sameBut hs (I.cne y c e)⟩
 ·obtain⟨e,n,ne,nf,d⟩:=I.pin p hp;exact⟨(hs.2 p.1 ne).trans e,n,ne,nf,d⟩
 ·refine(I.hok b ob e).stay (λc w' hc q=>(hs.2 c ?_).trans q) (λ_ q=>q) λ_ _ q=>q;rintro rfl;rcases hc with rfl|hc
  ·rw[I.free]at e;cases e
  ·rw[I.free]at hc;cases hc
end
def XP(X:Cx)(af:List (ah×Obj))(Y:St)(XE:ak->Hp->Prop)(e:ak)(s':aq):Prop:=∃s1 H1,Inv X af Y H1 s1/\bU X.prog X.w X.stack H1 s1 (λc _ H'=>XE c H') e s'
def DX(X:Cx)(e:aE)(d:aj->R Slot):Prop :=
 ∀F S Z Y H Q (XE:ak->Hp->Prop),aX X.K F S Z Y H->Ok X.K (λc _ H'=>XE c H') Y F S H (d Z) (λs _ F' S' H'=>∀v Sr,j9 X.K H' F' s v Sr->(∀b,Sr b->H b=ae/\¬F' b/\¬U S' b/\∃o,H' b=aa o/\ez o)->Q v H') ->
  ∀af s,Inv X af Y H s->aA (aB X.prog X.w) X.A (bf e X.env) (EP X af Y Q) (XP X af Y XE) s
section
variable{X:Cx}{e:aE}{es:List aE}{dg:aj->R (List b0)}{pos:Pos}{x:Str}{k:Nat}{ps:List Str}{g:aj->R Slot}{p:Pos}{d:aj->R Slot}
def gu(g:aj->R Slot)(dg:aj->R (List b0)):aj->R Slot:=λZ=>(bQ (dg Z)).bind λas dM=>(aV (if(cu as).Nodup then c_ dM as else ae) dM).bind λss dM=>ef dM as (g ss)
end
abbrev hand(X:Cx)(a:ah):Cx:={X with A:=X.A.mark (aa (.ref a)),calm:=am,xe:=λ_ _=>False}
section
variable{X:Cx}{af:List (ah×Obj)}{Y:St}{H:Hp}{s:aq}{a:ah}
theorem Inv.hand(I:Inv X af Y H s)(hf:(X.A.mark (aa (.ref a))).frames=X.A.frames:=by rfl):Inv (Pu.hand X a) af Y H s :=
 ⟨⟨I.ok.mod,I.ok.kind,I.ok.glob,I.ok.blt,I.ok.above,I.ok.inj,I.ok.has,I.ok.cab,(λz=>by cases z),hf.trans I.ok.frames,I.ok.stk,I.ok.exf,I.ok.bs,I.ok.bsz,I.ok.noex,I.ok.exfs,I.ok.funs,I.ok.frf,I.ok.tab⟩,I.os,I.bare,I.base,I.loc,I.cell,I.free,I.freeC,I.pin,I.hok,I.len⟩
theorem Inv.unhand(I:Inv (Pu.hand X a) af Y H s)(ok:X.Ok):Inv X af Y H s:=⟨ok,I.os,I.bare,I.base,I.loc,I.cell,I.free,I.freeC,I.pin,I.hok,I.len⟩
end
def Under(h:aI)(D:ah)(c:ak):Prop:=∃C bm N nm q bs hdct sn sub ab col dd k0 k1 k2 k3 k5 XD,c=.ref C/\h.get? C=aa (Em nm q C N bs bm hdct sn sub ab col dd k0 k1 k2 k3 k5 XD)/\(Value.ref C::bm).contains (.ref D)=ai
def tI(h:aI)(D:ah):Prop:=∃bm N nm q bs hdct sn sub ab col dd k0 k1 k2 k3 k5 XD,h.get? D=aa (Em nm q D N bs bm hdct sn sub ab col dd k0 k1 k2 k3 k5 XD)/\bm.contains (.type "BaseException")=ai
theorem Under.keeps{h h':aI}{D:ah}{c:ak}(x:Under h D c)(k:∀b o,h.get? b=aa o->h'.get? b=aa o):Under h' D c:=by obtain⟨C,bm,N,nm,q,bs,hdct,sn,sub,ab,col,dd,k0,k1,k2,k3,k5,XD,e,h1,h2⟩:=x;exact⟨C,bm,N,nm,q,bs,hdct,sn,sub,ab,col,dd,k0,k1,k2,k3,k5,XD,e,k _ _ h1,h2⟩
theorem tI.keeps{h h':aI}{D:ah}(x:tI h D)(k:∀b o,h.get? b=aa o->h'.get? b=aa o):tI h' D:=by obtain⟨bm,N,nm,q,bs,hdct,sn,sub,ab,col,dd,k0,k1,k2,k3,k5,XD,h1,h2⟩:=x;exact⟨bm,N,nm,q,bs,hdct,sn,sub,ab,col,dd,k0,k1,k2,k3,k5,XD,k _ _ h1,h2⟩
theorem M3{M:Model}{A:bd}{E:ak->aq->Prop}{s:aq}{e D:ah}{oe:Obj}{c:ak}{Q:Bool->aq->Prop}(hu:Under s.heap D c)(hD:tI s.heap D)(he:s.heap.get? e=aa oe)(oW:oe.cls=c)(hq:Q ai s):aA M A (excMatches (.ref e) (.ref D)) Q E s:=by
 obtain⟨C,bm,N,nm,q,bs,hdct,sn,sub,ab,col,dd,k0,k1,k2,k3,k5,XD,rfl,hC,fM⟩:=hu;obtain⟨bm',N',nm',q',bs',hdct',sn',sub',ab',col',dd',k0',k1',k2',k3',k5',newId',hD,hb⟩:=hD;obtain⟨h,g,d,t,os⟩:=s;have hcB:(Value.ref D::bm').contains (.type "BaseException")=ai:=by rw[List.contains_cons,hb,Bool.or_true]
 have f:=tc_notTuple;unfold excMatches
 repeat (first | (with_reducible refine KW he ?_;rw[oW])|with_reducible refine KW hC ?_|with_reducible refine KW hD ?_ | (with_reducible refine wpAny_isSubtype_exc hC ?_;rw[fM]) | (with_reducible refine wpAny_isSubtype_exc hD ?_;rw[hcB])|wp_step)
 exact hq
def jI(i:Nat)(XI:ak->Bool)(dx:aj->R Slot)(dh:aj->R aO):aj->R aO:=λZ=>match dx Z with
 |.ok s Z'=>.ok (.ret s) Z'
 |.er c Z'=>if XI c=ai/\i<Z'.length then(match dh (Z'.set i (.val (.exc c)))with
  |.ok f Z2=>(match Z2[i]? with
   |some (.val _)=>.ok f (Z2.set i .none)
   |_=>.no)
  |_=>.no)else .no
 |.no=>.no
section
variable{X:Cx}{E:XK}{pin:List Nat}{e:aE}{dx:aj->R Slot}{dh:aj->R aO}{rp np hp pos:Pos}{sx n:Str}{D:ah}{suite:List ba}{X1:ba}{XI:ak->Bool}
theorem aX.unset{K:aC}{F:ah->Prop}{S:Nat->ah->Prop}{Z:aj}{Y:St}{H:Hp}{i:Nat}(r:aX K F S Z Y H):aX K F (λj b=>S j b/\j≠i) (Z.set i .none) (Y.set i ae) H:=by
 have r0:=r.drop i;have ne:∀{j:Nat}{s:Slot},(Z.set i .none)[j]?=aa s->s≠.none->j≠i:=λ{j s} e hs z=>by
  subst z;by_cases hj:j<Z.length
  ·rw[im hj]at e;exact hs (eV e).symm
  ·rw[jQ (by rw[jR];lia)]at e;cases e
 refine⟨by rw[jR,jR];exact r.len,r.ex,λj pv e=>?_,λj po e=>?_,r0.foot,r0.dist⟩
 ·obtain⟨v,h1,h2⟩:=r0.val j pv e;exact⟨v,by rw[fA (fY (ne e (by intro z;cases z)))];exact h1,h2⟩
 ·obtain⟨v,h1,h2⟩:=r0.own j po e;exact⟨v,by rw[fA (fY (ne e (by intro z;cases z)))];exact h1,h2⟩
theorem Vc{P:aZ}{w:aT}{H:Hp}{h:aI}{a T:ah}{c fl:ak}(ok:dO P w H h)(na:H a=ae)(f:lS h a T c fl):dO P w (upd H a (nV a c)) h:=λb u q=>by
 by_cases hb:b=a
 ·subst hb;rw[cF]at q;cases q;obtain⟨oe,vs,_,_,he,hc,hd,_⟩:=f;exact⟨⟨oe,vs,he,hc,hd⟩,⟨oe,he⟩,λh1 h2 ⟨o,ws,e1,e2,e3⟩ k=>⟨o,ws,k o e1,e2,e3⟩⟩
 ·rw[cp hb]at q;exact(ok b u q).stay (λ_ _ _ z=>z) (λd z=>by rw[cp (mT z na)];exact z) λd xs z=>by rw[cp (mT z na)];exact z
def vX(X:Cx)(ss:List ba)(d:aj->R Slot):Prop :=
 ∀F S Z Y H Q (XE:ak->Hp->Prop),aX X.K F S Z Y H->Ok X.K (λc _ H'=>XE c H') Y F S H (d Z) (λs _ F' S' H'=>∀v Sr,j9 X.K H' F' s v Sr->(∀b,Sr b->H b=ae/\¬F' b/\¬U S' b/\∃o,H' b=aa o/\ez o)->Q v H') ->
  ∀af s,Inv X af Y H s->aA (aB X.prog X.w) X.A (execs ss X.env) (λfl s'=>∃u,fl=.ret u/\EP X af Y Q u s') (XP X af Y XE) s
theorem Jl(hx:DX X e dx):vX X [.Return (aa e) rp] dx:=λF S Z Y H Q XE rl h af s I=>DB (wpAny_Return_some (dr (hx F S Z Y H Q XE rl h af s I) (λu s1 q=>⟨u,rfl,q⟩) λ_ _ q=>q))
theorem Of{ss:List ba}(i:Nat)(hN:X.N.Nodup)(hx:vX X ss dx)(hD:X.mg sx=aa (.ref D))(hE:tI X.base D)(hcg:∀c,XI c=ai->Under X.base D c)(hh:∀a,gY (hand X a) E0 pin (X1::suite) dh)(iO:i∉pin:=by decide) (hi:X.N[i]?=aa n:=by rfl) (hl:X.env.scope.names.lookup n=aa .local:=by rfl) (hg:Gl X sx:=by rfl) (hd:(sx == ("__debug__" : Str))=am:=by decide) (i8:X.stack=X.env::X.outer:=by rfl) (hfm:X.env.frame=aa X.env.locals:=by rfl) (hf:X.fn n=ai\/X.env.scope.names.lookup n=aa .local:=by first|exact .inl rfl|exact .inr rfl):DS X E pin (.Try ss [.ExceptHandler (aa (.Name sx np)) (aa n) (X1::suite) hp] [] [] pos) (jI i XI dx dh):=λF S Z Y H Dn rl q=>Bx.mk λaf s I=>by
 refine wpAny_Try_except ?_;have body:=hx F S Z Y H (λv H'=>Dn.rt v H') (λc H'=>∃F' S' Z',aX X.K F' S' Z' Y H'/\bM (U S) (U S') F F' H H'/\XI c=ai/\i<Z'.length/\iG X.K E pin Y F S H (match dh (Z'.set i (.val (.exc c)))with
  |.ok f Z2=>(match Z2[i]? with
   |some (.val _)=>.ok f (Z2.set i .none)
   |_=>.no)
  |_=>.no) Dn) rl (by
  unfold jI at q;cases e0:dx Z with
  |no=>rw[e0]at q;exact q.elim
  |ok sl Z'=>rw[e0]at q;intro F' S' H' r' g' v Sr rv fr;exact q v F' S' Y H' Sr r' ⟨g'.fro,g'.keep,g'.there,g'.fnew,λb z=>z.elim (g'.onew b) λw=>.inr (fr b w).1⟩ (jA.refl _ _) rv λb z=>(fr b z).2
  |er c Z'=>
   rw[e0]at q;intro y F' S' H' r' g';dsimp only at q;by_cases hc:XI c=ai/\i<Z'.length
   ·rw[if_pos hc]at q;exact⟨F',S',Z',r',g',hc.1,hc.2,q⟩
   ·rw[if_neg hc]at q;exact q.elim) af s I
 refine dr body (λfl s1 ⟨u,efl,v,H1,I1,r1,q1⟩=>?_) λev s1 xp=>?_
 ·subst efl;exact⟨v,Y,H1,I1,r1,q1⟩
 obtain⟨s0,H0,I0,a,T,c,H1,rfl,ho,hg1,un,hok,fl,⟨fa,fT,na,nT⟩,F1,S1,dM,rl1,g1,hcc,bI,okh⟩:=xp;have I1:=I0.call' (s':=s1) (ch:=[]) ho un hok hg1 (λb z=>absurd z (by simp));have kpI:∀{h2:aI}{ld:ah->Prop}{T':ah},Kp (fV X.stack) ld s1.heap h2->(∀b o,s0.heap.get? b=aa o->¬ld b)->(∀b,ld b->H1 b=ae)->lS h2 a T' c .none->∀tk,Inv X af Y (upd H1 a (nV a c)) {s1 with heap:=h2,toks:=tk}:=λ{h2 ld T'} k xi xj f2 tk=>by
  refine I0.call' (s':={s1 with heap:=h2,toks:=tk}) (ch:=[]) ho ?_ (Vc (BZ hok k (λb hb=>I1.stkFree b hb) xj) na f2) hg1 (λb z=>absurd z (by simp));have u2:=C3 un k (λb o _ z=>z) xi;have na':∀b o,H1 b=aa o->b≠a:=λb o e=>mT e na;refine⟨u2.keep,u2.slot,λb o e n hx=>?_,u2.there,λb xs e=>?_,λb o u e=>?_,λb ps e=>?_⟩
  ·rw[cp (by rintro rfl;rw[fa]at e;cases e)];exact u2.free b o e n hx
  ·have:=u2.tups b xs e;rw[cp (na' b _ this)];exact this
  ·have:=u2.frzs b o u e;rw[cp (na' b _ this)];exact this
  ·have:=u2.tbls b ps e;rw[cp (na' b _ this)];exact this
 have H1T:∀b,b=a\/b=T->H1 b=ae:=λb z=>by rcases z with rfl|rfl <;> assumption
 have old1:∀b o,s0.heap.get? b=aa o->¬(b=a\/b=T):=λb o e z=>by
  rcases z with rfl|rfl
  ·rw[fa]at e;cases e
  ·rw[fT]at e;cases e
 refine Ii (outer:=X.outer) (by rw[I0.ok.frames,i8]) (by rw[←i8];exact I1.stack) hfm fl λh2 T' k fl2 fT'=>?_;rw[←i8]at k;have I2:=kpI k old1 H1T fl2 s1.toks;refine wpAny_handleBy_cons (codeAny_handlers_test ?_) (by intro z;cases z);have I2h:Inv (hand X a) af Y (upd H1 a (nV a c)) {s1 with heap:=h2}:=Inv.hand I2;refine vZ (X:=hand X a) I2h hg hD ?_ hd;obtain⟨oe,vs,oT,ts,he2,W2,_⟩:=id fl2;refine M3 (s:={s1 with heap:=h2}) ((hcg c hcc).keeps I2.bk) (hE.keeps I2.bk) he2 W2 ?_;show nz _ _ _ _ _;refine codeAny_handlers_suite_as (UJ (s:={s1 with heap:=h2}) fl2 λh3 k3 fl3=>?_);have k':Kp (fV X.stack) (λb=>(b=a\/b=T)\/b=T') s1.heap h3:=k.trans (k3.imp (λb z=>by simp at z) λb o _ z=>z);have I3:=kpI (T':=T') k' (λb o e z=>by
  rcases z with z|rfl
  ·exact old1 b o e z
  ·rw[tN un (Dz fT')]at e;cases e) (λb z=>by
  rcases z with z|rfl
  ·exact H1T b z
  ·exact I1.hok.fresh fT') fl3 s1.toks
 have I3h:Inv (hand X a) af Y (upd H1 a (nV a c)) {s1 with heap:=h3}:=Inv.hand I3;refine vE (X:=hand X a) (v:=.ref a) I3h hN hi (.inl hl) rfl (λs4 I4=>?_) hf;have al:Al F1 F1 H1 (upd H1 a (nV a c)):=Al.new0 na;have r2:=rl1.al al;have r3:=r2.set (i:=i) (pv:=.exc c) (v:=.ref a) ⟨a,rfl,cF⟩;have g3:bM (U S) (U λj b=>S1 j b/\j≠i) F F1 H (upd H1 a (nV a c)):=(g1.trans al.grow).trans (bM.less i);have less:∀{S':Nat->ah->Prop}{F':ah->Prop}{H':Hp},bM (U S') (U λj b=>S' j b/\j≠i) F' F' H' H':=λ{S' F' H'}=>bM.less i;have pn:∀{Y':St},jA pin (Y.set i (aa (.ref a))) Y'->jA pin Y (Y'.set i ae):=λ{Y'} p=>((jA.set iO).trans p).trans (jA.set iO);have okd:iG (hand X a).K E0 pin (Y.set i (aa (.ref a))) F1 (λj b=>S1 j b/\j≠i) (upd H1 a (nV a c)) (dh (dM.set i (.val (.exc c)))) {nx:=λY' H'=>Dn.nx (Y'.set i ae) H',rt:=Dn.rt,bk:=λY' H'=>Dn.bk (Y'.set i ae) H',ct:=λY' H'=>Dn.ct (Y'.set i ae) H'}:=by
  cases ed:dh (dM.set i (.val (.exc c)))with
  |no=>rw[ed]at okh;exact okh.elim
  |er c' Z2=>rw[ed]at okh;exact okh.elim
  |ok f Z2=>
   rw[ed]at okh;dsimp only at okh;split at okh
   ·cases f with
    |next=>exact λF' S' Y' H' r' g' p'=>okh F' _ _ H' r'.unset ((g3.trans g').trans less) (pn p')
    |brk=>exact λF' S' Y' H' r' g' p'=>okh F' _ _ H' r'.unset ((g3.trans g').trans less) (pn p')
    |cont=>exact λF' S' Y' H' r' g' p'=>okh F' _ _ H' r'.unset ((g3.trans g').trans less) (pn p')
    |ret sl=>
     intro v F' S' Y' H' Sr r' g' p' rv lo;refine okh v F' _ _ H' Sr r'.unset ?_ (pn p') rv λb z=>⟨(lo b z).1,λ⟨j,w⟩=>(lo b z).2.1 ⟨j,w.1⟩,(lo b z).2.2⟩
     have gg:=g3.trans g';exact⟨gg.fro,gg.keep,gg.there,gg.fnew,λb z=>gg.onew b (z.imp (λ⟨j,w⟩=>⟨j,w.1⟩) id)⟩
   ·exact okh.elim
 refine dr ((hh a F1 _ _ _ _ _ r3 okd).run af s4 I4) (λf s5 sp=>?_) λ_ _ z=>z.elim;have away:∀{Y5:St}{H5:Hp}{Q:Unit->aq->Prop},Inv (hand X a) af Y5 H5 s5->(∀s6,Inv X af (Y5.set i ae) H5 s6->Q () s6)->aA (aB X.prog X.w) X.A (do bindName X.env n .none;unbindBehindTheSuite X.env n hp) Q X.xe s5:=λ{Y5 H5 Q} I5 hQ=>by
  have I5':=Inv.unhand I5 I0.ok;refine au (wpAny_bindName (vE (v:=.non) I5' hN hi (.inl hl) rfl (λs6 I6=>?_) hf));unfold unbindBehindTheSuite;refine wpAny_onRaise ?_;have hiσ:i<Y5.length:=by rw[I5'.len];exact(d9.mp hi).1
  refine OQ I6 hN hi hl (im hiσ) λs7 I7=>hQ s7 ?_;rw[List.set_set]at I7;exact I7
 cases f with
 |next=>obtain⟨Y5,H5,I5,q5⟩:=sp;exact away I5 λs6 I6=>⟨_,H5,I6,q5⟩
 |brk=>obtain⟨Y5,H5,I5,q5⟩:=sp;exact away I5 λs6 I6=>⟨_,H5,I6,q5⟩
 |cont=>obtain⟨Y5,H5,I5,q5⟩:=sp;exact away I5 λs6 I6=>⟨_,H5,I6,q5⟩
 |ret u=>obtain⟨v,Y5,H5,I5,rv,q5⟩:=sp;exact away I5 λs6 I6=>⟨v,_,H5,I6,rv,q5⟩
end
structure kY(k:Nat)(A:bd):Prop where
 dp:A.depth+3*k+5<v_
 un:A.units+16*k+200<cLine
theorem Room.hand{k:Nat}{A:bd}{v:Option ak}(r:Room k A):kY k (A.mark v):=⟨r.dp,r.un⟩
theorem kY.mono{j k:Nat}{A:bd}(r:kY k A)(h:j<=k):kY j A:=⟨by have:=r.dp;lia,by have:=r.un;lia⟩
theorem kY.deeper{k:Nat}{A:bd}(r:kY (k+1) A)(env:Env):kY k (A.deeper env) :=⟨by have:=r.dp;show A.depth+1+3*k+5<_;lia,by have:=r.un;show A.units+3+16*k+200<_;lia⟩
theorem kY.units{k:Nat}{A:bd}(r:kY k A):A.units+64<cLine:=by have:=r.un;lia
def vU(P:aZ)(w:aT)(K:aC)(mg:Str->Option ak)(base:aI)(N:List Str)(qual:Str)(scope:d8)(f:ah)(cd:ak)(A:bd)(outer:List Env)(s:aq)(H:Hp):Cx :=
 {(iU BG P w K mg base N qual scope f cd A outer s H E0)with calm:=am,xe:=λ_ _=>False}
structure Bh(P:aZ)(w:aT)(K:aC)(mg:Str->Option ak)(base:aI)(k:Nat)(f:ah)(fd:gD)(ps:List Str)(sp:Sp):Prop where
 len:∀vs H Q E,sp vs H Q E->vs.length=ps.length
 run:∀(A:bd) (outer:List Env) (s:aq) (H:Hp) (args:Args) (us:List ak) (vs:List V) (Q:VK),kY k A->sT P w K mg base A outer s H->BindsTo s fd args (ps.zip us)->bX vs us->sp vs H Q E0 ->
  nz (aB P w) A (.call (.ref f) args) (CR BG outer P w H s Q E0) s
structure yd(P:aZ)(w:aT)(K:aC)(mg:Str->Option ak)(base:aI)(x:Str)(k:Nat)(ps:List Str)(sp:Sp):Prop where
 ex:∃f fd,mg x=aa (.ref f)/\Bh P w K mg base k f fd ps sp/\Binds K fd ps []/\oC K (.ref f)=ai
theorem OX{P:aZ}{w:aT}{K:aC}{mg:Str->Option ak}{base:aI}{k:Nat}{f:ah}{name qual:Str}{params:rM}{body:List ba}{scope:d8}{dV kV X9 pm aN ct oc:ak}{an od:Option ah}{osl:Array (Option ak)}{N ps:List Str}{sp:Sp} (lk:K.lookup f=aa ⟨oc,od,.func (i4 name qual params body scope dV kV X9 pm an aN ct),osl⟩) (bL:wd K aN qual=ai) (S:b7 N ps scope)(len:∀vs H Q E,sp vs H Q E->vs.length=ps.length)(iw:∀(A:bd) (outer:List Env) (s:aq) (H:Hp) (vs:List V) (Q:VK),kY k (A.deeper (js qual scope s.heap.objs.size f aN))->sp vs H Q E0 -> qW (vU P w K mg base N qual scope f aN A outer s H) body {nx:=λ_ H'=>Q .non H',rt:=Q} (L2.start N vs) H):Bh P w K mg base (k+1) f (i4 name qual params body scope dV kV X9 pm an aN ct) ps sp:=by
 refine⟨len,λA outer s H args us vs Q hr e0 hb r jW=>?_⟩;have hl:=len _ _ _ _ jW;have KX:K.In s.heap:=e0.mod.kin.keeps λb o e=>(e0.bs b o e).1;have lim:s.heap.NoLimit:=e0.mod.nolimit.keeps λb o e=>(e0.bs b o e).1;have EM:∀y∈ps.zip us,scope.names.lookup y.1=aa .local\/(scope.names.lookup y.1=aa .cell/\((f6 (s.heap.objs.size+1) scope.names []).lookup y.1).isSome=ai):=λ⟨n,v⟩ hy=>(S.par n (DK hy).1).imp id λq=>⟨q,Ky _ _ _ (.inl q)⟩
 refine codeAny_call_function (by have:=hr.dp;lia) (KX _ _ lk) rfl S.co S.gen rfl (PySem.W.codeRec_of KX bL) (hb _ _ _ _ ?_);refine wpAny_newFunctionEnv_cells S.kind EM λenv he s1 x=>?_;subst he;refine⟨lim.keeps x.toInCall.keep,codeAny_func ?_⟩;have e1:sT P w K mg base {A with handled:=ae} outer s H:=⟨e0.frames,e0.mod,e0.bs,e0.bsz,e0.funs,e0.frf,e0.hok,e0.bare,e0.tab⟩
 have I0:Inv (iU BG P w K mg base N qual scope f aN {A with handled:=ae} outer s H E0) [] (L2.start N vs) H s1:=Hx S rfl e1 hl r x;have I:Inv (vU P w K mg base N qual scope f aN A outer s H) [] (L2.start N vs) H s1 :=
  ⟨⟨I0.ok.mod,I0.ok.kind,I0.ok.glob,I0.ok.blt,I0.ok.above,I0.ok.inj,I0.ok.has,I0.ok.cab,(λz=>by cases z),Around.frames_deeper e0.frames,I0.ok.stk,I0.ok.exf,I0.ok.bs,I0.ok.bsz,I0.ok.noex,I0.ok.exfs,I0.ok.funs,I0.ok.frf,I0.ok.tab⟩,I0.os,I0.bare,I0.base,I0.loc,I0.cell,I0.free,I0.freeC,I0.pin,I0.hok,I0.len⟩
 refine dr ((iw A outer s H vs Q (hr.deeper _) jW).run [] s1 I) (λfl s' hs=>?_) λe s' hs=>hs.elim;have fin:∀{Y':St}{H':Hp}{v:V}{u:ak},Inv (vU P w K mg base N qual scope f aN A outer s H) [] Y' H' s'->RelV v u->Q v H'->CE outer P w H s Q u s':=λ{Y' H' v u} J rv q=>⟨v,H',J.os,J.bare,J.base,J.hok,rv,q⟩
 cases fl with
 |ret u=>obtain⟨v,Y',H',J,rv,q⟩:=hs;exact fin J rv q
 |next=>obtain⟨Y',H',J,q⟩:=hs;exact fin (v:=V.non) (u:=Value.none) J rfl q
 |brk=>obtain⟨_,_,_,q⟩:=hs;exact iJ q
 |cont=>obtain⟨_,_,_,q⟩:=hs;exact iJ q
theorem LD{P:aZ}{w:aT}{K:aC}{mg:Str->Option ak}{base:aI}{x:Str}{st:ba}{N ps:List Str}{k n:Nat}{g:aj->R Slot}{d:aj->R aO}{pin:List Nat}(D:cz K mg x st)(Sc:b7 N ps (a8 st))(hn:N.length=ps.length+n)(hb:∀(kV X9 pm:ak) (an:Option ah) (aN ct:ak) (us:List ak),us.length=ps.length->fZ (i4 x x (j7 st) (fX st) (a8 st) .none kV X9 pm an aN ct) ⟨us,[]⟩=pure (ps.zip us))(cg:∀ss,g ss≠.no->ss.length=ps.length) (jT:∀ss,g ss≠.no->∀(i:Nat) po,ss[i]?=aa (.own po)->i∈pin/\je po=ai) (hg:∀ss,g ss≠.no->bu n d ss=g ss)(iw:∀(f:ah) (aN:ak) (A:bd) (outer:List Env) (s:aq) (H:Hp),kY k (A.deeper (js x (a8 st) s.heap.objs.size f aN))->gY (vU P w K mg base N x (a8 st) f aN A outer s H) E0 pin (fX st) d):yd P w K mg base x (k+1) ps (bz K g):=by obtain⟨f,fd,hm,Fn⟩:=D.ex;refine⟨f,fd,hm,?_,Fn.binds hb,Fn.kp⟩;obtain⟨oc,od,kV,X9,pm,an,aN,ct,osl,rfl,lk,bL⟩:=Fn.ex;exact OX lk bL Sc (FI cg) λA outer s H vs Q hr jW=>J0 hn cg (λss h i po e=>(jT ss h i po e).1) (λss rs aP h=>.inr λi po e=>(jT ss (by rw[h];exact nofun) i po e).2) hg (iw f aN A outer s H hr) jW
section
variable{X:Cx}{E:XK}{e:aE}{es:List aE}{dg:aj->R (List b0)}{pos:Pos}{x:Str}{k:Nat}{ps:List Str}{g:aj->R Slot}{p:Pos}
theorem SR{f:ah}{fd:gD}{sp:Sp}{t:TA}(Fn:Bh X.prog X.w X.K X.mg X.base k f fd ps sp)(hr:kY k X.A)(hg:Gl X x)(hm:X.mg x=aa (.ref f))(hk:oC X.K (.ref f)=ai)(hb:Binds X.K fd ps [])(ha:PA X (e::es) t) (hd:(x == ("__debug__" : Str))=am) (he:aW (e::es) X.env=(am,bf e X.env)::aW es X.env) (cV:(dR pos (aW es X.env)).any (·.1)=am):PE X (.Call (.Name x p) (e::es) [] pos) (λY H Q=>t Y H λvs H1=>sp vs H1 Q E0):=λaf s Y H Q I h=>by
 refine zQ (vZ I hg hm ?_ hd);refine Kx (h₀:=X.base) I.ok.mod.kin hk (a_ (ha pos af s Y H _ I h) λus s1 ⟨vs,H1,I1,r,q⟩=>⟨I1.kIn,?_⟩) he cV;have hl:us.length=ps.length:=by rw[←r.length];exact Fn.len _ _ _ _ q
 refine wb (rL (Fn.run X.A X.stack s1 H1 ⟨us,[]⟩ us vs Q hr I1.env0 (by have:=hb s1 us I1.kIn (by rw[iZ];exact hl);rwa[iZ]at this) r q) λrr s' hq=>?_);cases rr with
 |error er=>exact(show False from hq).elim
 |ok fl=>
  cases fl with
  |ret u=>exact I1.after hq
  |next=>exact iJ hq
  |brk=>exact iJ hq
  |cont=>exact iJ hq
theorem LB{α β:Type}{K:aC}{E E':XK}{Y:St}{F:ah->Prop}{S:Nat->ah->Prop}{H:Hp}{C:β->aj->(ah->Prop)->(Nat->ah->Prop)->Hp->Prop}{r:R α}{f:α->aj->R β}(h:Ok K E Y F S H (bQ (r.bind f)) C):Ok K E Y F S H r λa Z F S H=>Ok K E' Y F S H (f a Z) C:=by
 cases r with
 |ok a Z=>
  intro F1 S1 H1 r1 g1;have h:Ok K E Y F S H (bQ (f a Z)) C:=h;cases e:f a Z with
  |ok=>rw[e]at h;exact Ok.from (E:=E') h g1
  |_=>rw[e]at h;exact h.elim
 |_=>exact h.elim
theorem Q9(c:yd X.prog X.w X.K X.mg X.base x k ps (bz X.K g))(hr:kY k X.A)(ha:DG X E (e::es) dg)(hg:Gl X x:=by rfl)(hd:(x == ("__debug__" : Str))=am:=by decide) (h1:aW (e::es) X.env=(am,bf e X.env)::aW es X.env:=by rfl) (h2:(dR pos (aW es X.env)).any (·.1)=am:=by rfl):DR X E (.Call (.Name x p) (e::es) [] pos) (λZ=>bQ (aL g dg Z)):=λF S Z Y H Q rl h=>by obtain⟨f,fd,hm,Fn,hb,hk⟩:=c.ex;exact cB (SR Fn hr hg hm hk hb g9 hd h1 h2) (ha F S Z Y H _ rl ((LB h).imp λas dM F1 S1 H1 r1 g1 q vs av=>IS r1 g1 av q))
end
structure pL(K:aC)(C:ah):Prop where
 ga:rK K (.ref C) "__getattribute__" = aa (aa (.builtin "BaseException.__getattribute__"))
 gt:rK K (.ref C) "__getattr__" = aa ae
 cl:rK K (.ref C) "__class__" = aa (aa (.builtin "object.__class__"))
 gs:Kv K (.builtin "object.__class__") "__get__" = aa (aa (.builtin "getset_descriptor.__get__"))
 tk:PySem.W.takesIn K (.builtin "object.__class__")=aa ai
 ob:zP K C (.type "object")=aa ai
 be:zP K C (.type "BaseException")=aa ai
 cs:(En K C).isSome=ai
section
variable{prog:aZ}{w:aT}{A:bd}{E:ak->aq->Prop}{K:aC}{h:aI}{g:Array GenState}{d:Drawn}{t:Nat}{os:OsState}{a C:ah}{o:Obj}
theorem UA{M:Model}{nameV:ak}{Q:Unit->aq->Prop}(X:K.In h)(k:pL K C)(I:v9 h a o C ae)(hq:Q () ⟨h,g,d,t,os⟩):aA M A (KO "BaseException.__getattribute__" ⟨[.ref a,nameV],[]⟩) Q E ⟨h,g,d,t,os⟩:=by
 have hk:builtinKind "BaseException.__getattribute__" = aa .slot:=by decide +kernel
 have WU:splitId "BaseException.__getattribute__" = aa ("BaseException","__getattribute__"):=by decide +kernel
 have ha:=F.args_bexc_ga (.ref a) nameV;have L0:=I.type (M:=M);have L1:=PySem.W.looks_mroIn (M:=M) X k.be;simp only[KO,hk,WU];refine au ?_
 ·unfold isInstance
  repeat (first|with_reducible refine au (L0.at ?_)|with_reducible refine L1.at ?_|with_reducible refine au (L1.at ?_)|wp_step)
  exact hq
theorem Sy{tk:Tok}{Q:Fin->aq->Prop}(X:K.In h)(k:pL K C)(I:v9 h a o C ae)(hq:Q (.done (.ret (.ref C))) ⟨h,g,d,t,os⟩):aA (aB prog w) A (Builtin.«object.__getattribute__» ⟨[.ref a,.str "__class__" tk],[]⟩) Q E ⟨h,g,d,t,os⟩:=by
 have L0:=I.type (M:=aB prog w);have hf:PySem.W.findObj K C ae "__class__" = aa (.bind (.builtin "getset_descriptor.__get__") (.builtin "object.__class__")):=by obtain⟨cd,hc⟩:=DL.mp k.cs;unfold PySem.W.findObj;rw[hc,gW,k.cl,gW];simp[k.gs,k.tk]
 have L1:=PySem.W.looks_find (M:=aB prog w) X I hf;have gg:nz (aB prog w) A (.call (.builtin "getset_descriptor.__get__") ⟨[.builtin "object.__class__",.ref a,.ref C],[]⟩) (λr s'=>r=.ok (.ret (.ref C))/\s'=⟨h,g,d,t,os⟩) ⟨h,g,d,t,os⟩:=PySem.W.class_get (s:=⟨h,g,d,t,os⟩) X I k.ob ⟨rfl,rfl⟩;refine au (aF (au (aF (au (L0.at (au (L1.at ?_)))))));show aA _ _ (do ret (←holding [Value.builtin "object.__class__"] (call (.builtin "getset_descriptor.__get__") [.builtin "object.__class__",.ref a,.ref C]))) _ _ _;refine au (kH (wb (rL gg λr s' z=>?_)));obtain⟨rfl,rfl⟩:=z;exact aF hq
theorem Mu{tk:Tok}{Q:ak->aq->Prop}(X:K.In h)(k:pL K C)(I:v9 h a o C ae)(hq:Q (.ref C) ⟨h,g,d,t,os⟩):aA (aB prog w) A (getAttrBy (.ref a) (.str "__class__" tk) am) Q E ⟨h,g,d,t,os⟩:=by
 have L0:=I.type (M:=aB prog w);have L1:=PySem.W.looks_findIn (M:=aB prog w) X k.ga;have L2':=PySem.W.looks_findIn (M:=aB prog w) X k.gt;have nK:(Value.builtin "BaseException.__getattribute__" == Value.builtin "object.__getattribute__")=am:=by decide +kernel
 have qC:(onTheHeap (Value.ref C)&&Value.builtin "BaseException.__getattribute__" == Value.builtin "object.__getattribute__")=am:=by rw[nK];rfl
 unfold getAttrBy;refine kH (au (L0.at (au (L1.at ?_))));dsimp only;rw[qC];rw[if_neg (by decide)];have f3:=F.attr_ValueError.ga.bind (.ref a);have hx0:(am&&onTheHeap (Value.builtin "BaseException.__getattribute__"))=am:=rfl
 repeat (any_goals (first|assumption|with_reducible refine L2'.at ?_|with_reducible refine au (L2'.at ?_)|wp_step))
 refine codeAny_call_builtin F.attr_ValueError.ga.plain F.entry_bexc_ga (UA X k I (Sy X k I ?_))
 repeat (any_goals (first|assumption|wp_step))
theorem LI{Q:Option ak->aq->Prop}(X:K.In h)(k:pL K C)(I:v9 h a o C ae)(hq:Q (aa (.ref C)) ⟨h,g,d,t+1,os⟩):aA (aB prog w) A (getAttr? (.ref a) "__class__") Q E ⟨h,g,d,t,os⟩:=by
 unfold getAttr? getAttrBy?
 repeat (any_goals (first|assumption|with_reducible apply Mu X k I|wp_step))
theorem OP(k:pL K C):PySem.W.KitX K (.ref a) (.ref C) (λh=>∃o,v9 h a o C ae) where
 ty:=λ_ _ _ ⟨o,I⟩=>I.type
 it:=λ_ _ X _=>by
  obtain⟨cd,hc⟩:=DL.mp k.cs;unfold En at hc;split at hc
  ·rename_i c' d' cd' sl' ho;intro A' Q' E' s' kk q;unfold isType loadHead;exact au (wpAny_loadPart (kk _ _ (X _ _ ho)) (aF q))
  ·cases hc
 ne:=λh tp dd its n sl X htp=>by
  obtain⟨cd,hc⟩:=DL.mp k.cs;refine KY.mpr λq=>?_;have e:C=tp:=Value.ref.inj (beq_iff_eq.mp q);subst e;unfold En at hc;split at hc
  ·rename_i c' d' cd' sl' ho;have z:=(X _ _ ho).symm.trans htp;cases z
  ·cases hc
 ca:=λ{_ _ _ _ _ s} X I q=>by obtain⟨o,I⟩:=I;obtain⟨h,g,d,t,os⟩:=s;exact LI X k I q
end
def yU:V->Option ak
 |.ref D=>aa (.ref D)
 |.ty T=>aa (.type T)
 |_=>ae
theorem MY{v:V}{u u':ak}(e:yU v=aa u)(r:RelV v u'):u'=u:=by
 cases v <;> simp[yU]at e <;> subst e <;> exact r
section
variable{X:Cx}{K:aC}
def Kj(K:aC):List V->Hp->VK->Prop:=λxs H Q=>∃a C D u b,xs=[.ref a,D]/\H a=aa (nV a (.ref C))/\pL K C/\yU D=aa u/\gA K (.ref C) u=aa b/\Q (.bl b) H
theorem W7:fD X (.builtin "isinstance") (Kj X.K):=by
 intro af s Y H xs us Q I r h;obtain⟨a,C,D,u,b,rfl,ha,k,hu,e,q⟩:=h;cases r with
 |cons r1 r2=>
  cases r2 with
  |cons r3 r4=>
   cases r4;cases r1;have e3:=MY hu r3;subst e3;obtain⟨⟨o,vs,h1,h2,h3,h4⟩,_,_⟩:=I.hok a _ ha;refine mh (OP (a:=a) k) I.kIn ⟨o,h1,h2,?_,?_⟩ e (by intro z;cases z) λtk=>⟨.bl b,H,I.tok _,rfl,q⟩
   ·unfold PySem.W.notCls;rw[h3]
   ·rw[h4];trivial
def j3(tab:ak->V->Option Bool):List PV->Option PV
 |[.exc c,.raw D]=>(tab c D).map .bl
 |xs=>dZ xs
def Hv(K:aC):List V->Hp->VK->Prop:=λxs H Q=>Kj K xs H Q\/∃x t T b,xs=[x,.ty T]/\jo K H x (.type t)/\gA K (.type t) (.type T)=aa b/\Q (.bl b) H
theorem lj:fD X (.builtin "isinstance") (Hv X.K):=W7.or mL
def BB(K:aC)(tab:ak->V->Option Bool):Prop:=∀c D b,tab c D=aa b->∃C u,c=.ref C/\pL K C/\yU D=aa u/\gA K (.ref C) u=aa b
theorem kX{tab:ak->V->Option Bool}(ht:BB K tab):PL K (Hv K) (j3 tab):=λF H xs vs Q pv rs e q=>by
 unfold j3 at e;split at e
 ·rename_i c D;cases q1:tab c D with
  |none=>rw[q1]at e;cases e
  |some b=>
   rw[q1]at e;cases e;obtain⟨C,u,rfl,k,hu,hk⟩:=ht c D b q1;obtain⟨v,r',rfl,⟨a,rfl,ha⟩,h2⟩:=rs;obtain⟨v2,rfl,h3⟩:=iF h2;rw[show v2=D from h3];exact .inl ⟨a,C,D,u,b,rfl,ha,k,hu,hk,q _ F H (Al.refl ..) rfl⟩
 ·exact .inr (mW F H _ vs Q pv rs e q)
theorem j8{E:XK}{x:Str}{D:ah}{pos:Pos}(hm:X.mg x=aa (.ref D))(hg:Gl X x:=by rfl)(hd:(x == ("__debug__" : Str))=am:=by decide):DE X E (.Name x pos) (dC (.raw (.ref D))):=λF S Z Y H Q r q=>cB (Cr (v:=.ref D) hg hm rfl hd) (q F S H r (bM.refl ..) _ rfl)
variable{E:XK}{e:aE}{de:aj->R PV}{pos:Pos}{y:Str}
def BJ(xs:List PV)(y:PV):Option PV:=(eN y).bind λv=>(lf xs).map λws=>.int (ws.countP λz=>fW z v)
def CJ(xs:List PV)(y:PV):Option PV:=(eN y).bind λv=>(lf xs).bind λws=>(ws.findIdx? λz=>fW z v).map λj=>.int j
def s_(f:List PV->PV->Option PV)(i:Nat)(de:aj->R PV):aj->R PV:=λZ=>(aV (eX Z i) Z).bind λ_ Z=>(de Z).bind λk dM=>(aV (eX dM i) dM).bind λxs dM=>aV (f xs k) dM
theorem Ot(i:Nat){p X7 X6:Pos}(he:DE X E e de)(hN:X.N[i]?=aa y:=by rfl)(hv:fP X.env.scope y:=by first|exact Or.inl rfl|exact Or.inr (Or.inl rfl)|exact Or.inr (Or.inr rfl))(hd:(y == ("__debug__" : Str))=am:=by decide)(bL:(y == ("__classdict__" : Str))=am:=by decide) (h1:p_ (.Name y p) "count" X.env (bf (.Name y p) X.env)=bf (.Name y p) X.env:=by rfl)(h2:((dR X6 (aW [e] X.env)).all (λx=>!x.1)&&(t4 X6 (t5 [] X.env)).all (λx=>x.1.isSome)&&decide ([e].length+([]:List mj).length+(if([]:List mj).isEmpty then 0 else 1)<30))=ai:=by rfl)(h3:(X7.endLine == X6.line)=ai:=by rfl) (h4:aW [e] X.env=(am,bf e X.env)::aW [] X.env:=by rfl) (h5:(dR X6 (aW [] X.env)).any (·.1)=am:=by rfl):DE X E (.Call (.Attribute (.Name y p) "count" X7) [e] [] X6) (s_ BJ i de):=λF S Z Y H Q rl h=>by
 unfold s_ at h;cases e0:eX Z i with
 |none=>rw[e0]at h;exact h.elim
 |some xs0=>
  rw[e0]at h;simp only[c8,R.bind_ok]at h;obtain⟨a,vs0,ea,ha,_,_,_⟩:=rl.lstAt (kE e0);refine cB (zj Ek PySem.F.slot_list_count PySem.F.type_list_count OH (gL hN hv hd bL) (jE cn k_ h4) h1 h2 h3 h4 h5) ⟨.ref a,ea,.inl ⟨rfl,_,cC.of ha⟩,?_⟩;refine he F S Z Y H _ rl ((Ok.bind h).imp λk dM F1 S1 H1 r1 g1 q v rv=>?_);cases e1:eX dM i with
  |none=>rw[e1]at q;exact q.elim
  |some xs=>
   rw[e1]at q;simp only[c8,R.bind_ok]at q;obtain⟨a',vs,ea',sd,ra,_,_⟩:=r1.lstAt (kE e1);rw[ea]at ea';cases ea';unfold BJ at q;cases q1:eN k with
   |none=>rw[q1]at q;exact q.elim
   |some w=>
    cases q2:lf xs with
    |none=>rw[q1,q2]at q;exact q.elim
    |some ws=>rw[q1,q2]at q;obtain⟨rfl,hf⟩:=xM ra q2;rw[kz rv q1];exact⟨a,vs,w,rfl,rfl,sd,uG q1,hf,q F1 S1 H1 r1 (bM.refl ..) _ rfl⟩
theorem MM(i:Nat){p X7 X6:Pos}(he:DE X E e de)(hN:X.N[i]?=aa y:=by rfl)(hv:fP X.env.scope y:=by first|exact Or.inl rfl|exact Or.inr (Or.inl rfl)|exact Or.inr (Or.inr rfl))(hd:(y == ("__debug__" : Str))=am:=by decide)(bL:(y == ("__classdict__" : Str))=am:=by decide) (h1:p_ (.Name y p) "index" X.env (bf (.Name y p) X.env)=bf (.Name y p) X.env:=by rfl)(h2:((dR X6 (aW [e] X.env)).all (λx=>!x.1)&&(t4 X6 (t5 [] X.env)).all (λx=>x.1.isSome)&&decide ([e].length+([]:List mj).length+(if([]:List mj).isEmpty then 0 else 1)<30))=ai:=by rfl)(h3:(X7.endLine == X6.line)=ai:=by rfl) (h4:aW [e] X.env=(am,bf e X.env)::aW [] X.env:=by rfl) (h5:(dR X6 (aW [] X.env)).any (·.1)=am:=by rfl):DE X E (.Call (.Attribute (.Name y p) "index" X7) [e] [] X6) (s_ CJ i de):=λF S Z Y H Q rl h=>by
 unfold s_ at h;cases e0:eX Z i with
 |none=>rw[e0]at h;exact h.elim
 |some xs0=>
  rw[e0]at h;simp only[c8,R.bind_ok]at h;obtain⟨a,vs0,ea,ha,_,_,_⟩:=rl.lstAt (kE e0);refine cB (zj Ek PySem.F.slot_list_index PySem.F.type_list_index Sd (gL hN hv hd bL) (jE cn k_ h4) h1 h2 h3 h4 h5) ⟨.ref a,ea,.inl ⟨rfl,_,cC.of ha⟩,?_⟩;refine he F S Z Y H _ rl ((Ok.bind h).imp λk dM F1 S1 H1 r1 g1 q v rv=>?_);cases e1:eX dM i with
  |none=>rw[e1]at q;exact q.elim
  |some xs=>
   rw[e1]at q;simp only[c8,R.bind_ok]at q;obtain⟨a',vs,ea',sd,ra,_,_⟩:=r1.lstAt (kE e1);rw[ea]at ea';cases ea';unfold CJ at q;cases q1:eN k with
   |none=>rw[q1]at q;exact q.elim
   |some w=>
    cases q2:lf xs with
    |none=>rw[q1,q2]at q;exact q.elim
    |some ws=>
     cases q3:ws.findIdx? λz=>fW z w with
     |none=>rw[q1,q2]at q;simp only[gW]at q;rw[q3]at q;exact q.elim
     |some j=>
      rw[q1,q2]at q;simp only[gW]at q;rw[q3]at q;obtain⟨rfl,hf⟩:=xM ra q2;rw[kz rv q1];rw[Ed]at q3;obtain⟨hj,h6,h7⟩:=q3;refine⟨a,vs,w,j,rfl,rfl,sd,uG q1,hf,hj,λz hz=>?_,λm z hm hz=>?_,q F1 S1 H1 r1 (bM.refl ..) _ rfl⟩
      ·rw[f9 hj]at hz;cases hz;exact h6
      ·have:=h7 m hm;rw[f9 ∅]at hz;cases hz;simpa using this
end
theorem M6(c:Nat)(x:Tx):xB [c] x=x.contains c:=by unfold xB;have:=StrLaws.found_one (tS x) c;rw[n9]at this;rw[show(tS [c])=⟨#[c]⟩from rfl,this];simp[List.contains_eq_mem]
section
variable{X:Cx}{K:aC}
theorem _root_.Pu.Reps.rep{H:Hp}{F:ah->Prop}{xs:List PV}{vs:List V}(r:Reps K H F xs vs):∀n:Nat,Reps K H F (bK n xs).flatten (bK n vs).flatten
 |0=>rfl
 |n+1=>by rw[ml,ml,qb,qb];exact r.app (r.rep n)
end
section
variable{X:Cx}{E:XK}{scope:d8}{x:Str}{N':List Str}{XM:List Nat}
variable{pin:List Nat}
theorem Nj{F:ah->Prop}{S:Nat->ah->Prop}{Z:aj}{Y:St}{H:Hp}{D:lT}{i:Nat}{dn:aj->R PO}(hp:i∉pin)(rl:aX X.K F S Z Y H)(h:iG X.K E pin Y F S H (bv i (dF dn) Z) D):Ok X.K E Y F S H (dn Z) (λpo _ F' S' H'=>∀a Sa,gh X.K H' F' po a Sa->(∀b,Sa b->H b=ae/\¬F' b/\¬U S' b/\∃o,H' b=aa o/\ez o)->D.nx (Y.set i (aa (.ref a))) H'):=by
 unfold bv dF at h;cases e0:dn Z with
 |no=>rw[e0]at h;exact h.elim
 |er c Z'=>rw[e0]at h;exact λx F' S' H' r' g'=>h x F' S' Y H' r' g' (jA.refl _ _)
 |ok po dM=>
  rw[e0]at h;intro F1 S1 H1 r1 g1 a Sa ow fr;cases po with
  |dK XN=>exact h.elim
  |lls kM=>exact h.elim
  |ins C fs=>exact h.elim
  |dT XN=>exact h.elim
  |inl C fs y xs=>exact h.elim
  |lst xs=>
   have hN:∀b,Sa b->¬U S1 b/\∃o,H1 b=aa o:=λb z=>let ⟨_,_,x3,o,x4,_⟩:=fr b z;⟨x3,o,x4⟩
   obtain⟨⟨vs,ha,hr⟩,hS⟩:=ow;have g2:bM (U S) (U S1) F (λb=>F1 b\/Sa b) H H1:=⟨λb z=>.inl (g1.fro b z),g1.keep,g1.there,λb z=>z.elim (g1.fnew b) λw=>.inr (.inl (fr b w).1),g1.onew⟩
   have rv:bh X.K H1 (λb=>F1 b\/Sa b) (.lst xs) (.ref a):=⟨a,vs,rfl,.inl ha,.inr ((hS a).mpr rfl),Reps.mono (λ_ z=>.inl z) (λ_ _ _ z=>z) (λ_ _ z _=>z) _ _ hr⟩
   exact h _ _ _ H1 ((r1.more hN).set rv) (g2.trans (bM.less i)) (jA.set hp)
section
variable{XH X5:aE}{y:Str}{px py pos spos:Pos}{di:aj->R (List PV)}{dt:aj->R Bool}{de:aj->R PV}{dl:aj->R PO}{XF:List aE}
theorem Fm(i:Nat)(hN:X.N.Nodup)(B:lN X scope x N' XM)(hc:X.calm=ai)(hi:DI X E (.Name x px) X5 di)(ht:∀C tM uM ex pn,DF (dP X scope N' C tM uM ex pn) E0 XF dt) (he:∀C tM uM ex pn,DE (dP X scope N' C tM uM ex pn) E0 XH de)(hp:i∉pin:=by decide) (hiy:X.N[i]?=aa y:=by rfl) (hx:Loc X.env.scope y:=by first|exact Or.inl rfl|exact Or.inr rfl) (hsw:nv (.ListComp XH [⟨.Name x px,X5,XF,0⟩] scope pos) (aa (.Name y py)) spos.line X.env=pure ai:=by rfl)(hf:X.fn y=ai\/X.env.scope.names.lookup y=aa .local:=by first|exact .inl rfl|exact .inr rfl) (hs:∀x,tW X5 X.env x=pure x:=by intro _;rfl):DS X E pin (.Assign [.Name y py] (.ListComp XH [⟨.Name x px,X5,XF,0⟩] scope pos) spos) (bv i (dF (fh XM di dt de))):=λF S Z Y H D rl h=>jH (VM (wi:=tR X (.Name x px) X5) (ts:=λY H Q=>∀C tM uM ex pn,yK (dP X scope N' C tM uM ex pn) XF Y H Q) (te:=λY H Q=>∀C tM uM ex pn,ja (dP X scope N' C tM uM ex pn) XH Y H Q) B hc Dq (λC tM uM ex pn af s Y H Q I h=>(h C tM uM ex pn).run af s I) (λC tM uM ex pn af s Y H Q I h=>(h C tM uM ex pn).run af s I) hN hiy hx hsw hf hs) (Hz hi ht he rl (Nj hp rl h))
end
end
def eY(pin:List Nat):Nat->aj->Bool
 |_,[]=>ai
 |i,.own po::ss=>pin.contains i&&je po&&eY pin (i+1) ss
 |i,_::ss=>eY pin (i+1) ss
theorem pr{pin:List Nat}:∀{ss:aj}{k:Nat},eY pin k ss=ai->∀(i:Nat) po,ss[i]?=aa (.own po)->k+i∈pin/\je po=ai
 |[],_,_,i,po,e=>by simp at e
 |.own q::ss,k,h,0,po,e=>by simp only[List.getElem?_cons_zero,Option.some.injEq,Slot.own.injEq]at e;subst e;simp only[eY,f7]at h;exact⟨by simpa using h.1.1,h.1.2⟩
 |.own q::ss,k,h,i+1,po,e=>by simp only[eY,f7]at h;have:=pr (k:=k+1) h.2 i po (by simpa using e);rwa[Ah,wy]at this
 |.val q::ss,k,h,0,po,e=>by simp at e
 |.none::ss,k,h,0,po,e=>by simp at e
 |.val q::ss,k,h,i+1,po,e=>by have:=pr (k:=k+1) (by simpa[eY]using h) i po (by simpa using e);rwa[Ah,wy]at this
 |.none::ss,k,h,i+1,po,e=>by have:=pr (k:=k+1) (by simpa[eY]using h) i po (by simpa using e);rwa[Ah,wy]at this
def br(len:Nat)(pin:List Nat)(g:aj->R Slot):aj->R Slot:=λss=>if ss.length=len/\eY pin 0 ss=ai then g ss else .no
theorem cR{CX:gc}{P:aZ}{w:aT}{K:aC}{mg:Str->Option ak}{base:aI}{x:Str}{st:ba}{N ps:List Str}{k n:Nat}{d:aj->R aO}{pin:List Nat}(D:cz K mg x st)(Sc:b7 N ps (a8 st))(hn:N.length=ps.length+n)(hb:∀(kV X9 pm:ak) (an:Option ah) (aN ct:ak) (us:List ak),us.length=ps.length->fZ (i4 x x (j7 st) (fX st) (a8 st) .none kV X9 pm an aN ct) ⟨us,[]⟩=pure (ps.zip us))(iw:∀(f:ah) (aN:ak) (A:bd) (outer:List Env) (s:aq) (H:Hp) (E:XK),Room k (A.deeper (js x (a8 st) s.heap.objs.size f aN))->gY (iU CX P w K mg base N x (a8 st) f aN A outer s H E) E pin (fX st) d):cA CX P w K mg base x (k+1) ps (bz K (br ps.length pin (bu n d))):=by
 have no:∀{ss},br ps.length pin (bu n d) ss≠.no->ss.length=ps.length/\eY pin 0 ss=ai:=λ{ss} h=>by
  unfold br at h;by_cases z:ss.length=ps.length/\eY pin 0 ss=ai
  ·exact z
  ·rw[if_neg z]at h;exact absurd rfl h
 exact Wq D Sc hn hb (λss h=>(no h).1) (λss h i po e=>by have:=pr (no h).2 i po e;rwa[mq]at this) (λss h=>by unfold br;rw[if_pos (no h)]) iw
theorem PF{f:ah}{fd:gD}{CX:gc}{P:aZ}{w:aT}{K:aC}{mg:Str->Option ak}{base:aI}{x qual:Str}{st:ba}{N ps:List Str}{k n:Nat}{d:aj->R aO}{pin:List Nat}(Fn:qP K x qual st f fd)(Sc:b7 N ps (a8 st))(hn:N.length=ps.length+n)(hb:∀(kV X9 pm:ak) (an:Option ah) (aN ct:ak) (us:List ak),us.length=ps.length->fZ (i4 x qual (j7 st) (fX st) (a8 st) .none kV X9 pm an aN ct) ⟨us,[]⟩=pure (ps.zip us))(iw:∀(f:ah) (aN:ak) (A:bd) (outer:List Env) (s:aq) (H:Hp) (E:XK),Room k (A.deeper (js qual (a8 st) s.heap.objs.size f aN))->gY (iU CX P w K mg base N qual (a8 st) f aN A outer s H E) E pin (fX st) d):j5 P w K mg base CX (k+1) f fd ps (bz K (br ps.length pin (bu n d))):=by
 have no:∀{ss},br ps.length pin (bu n d) ss≠.no->ss.length=ps.length/\eY pin 0 ss=ai:=λ{ss} h=>by
  unfold br at h;by_cases z:ss.length=ps.length/\eY pin 0 ss=ai
  ·exact z
  ·rw[if_neg z]at h;exact absurd rfl h
 exact HL Fn Sc hn hb (λss h=>(no h).1) (λss h i po e=>by have:=pr (no h).2 i po e;rwa[mq]at this) (λss h=>by unfold br;rw[if_pos (no h)]) iw
theorem NV{P:aZ}{w:aT}{K:aC}{mg:Str->Option ak}{base:aI}{x:Str}{st:ba}{N ps:List Str}{k n:Nat}{d:aj->R aO}{pin:List Nat}(D:cz K mg x st)(Sc:b7 N ps (a8 st))(hn:N.length=ps.length+n)(hb:∀(kV X9 pm:ak) (an:Option ah) (aN ct:ak) (us:List ak),us.length=ps.length->fZ (i4 x x (j7 st) (fX st) (a8 st) .none kV X9 pm an aN ct) ⟨us,[]⟩=pure (ps.zip us))(iw:∀(f:ah) (aN:ak) (A:bd) (outer:List Env) (s:aq) (H:Hp),kY k (A.deeper (js x (a8 st) s.heap.objs.size f aN))->gY (vU P w K mg base N x (a8 st) f aN A outer s H) E0 pin (fX st) d):yd P w K mg base x (k+1) ps (bz K (br ps.length pin (bu n d))):=by
 have no:∀{ss},br ps.length pin (bu n d) ss≠.no->ss.length=ps.length/\eY pin 0 ss=ai:=λ{ss} h=>by
  unfold br at h;by_cases z:ss.length=ps.length/\eY pin 0 ss=ai
  ·exact z
  ·rw[if_neg z]at h;exact absurd rfl h
 exact LD D Sc hn hb (λss h=>(no h).1) (λss h i po e=>by have:=pr (no h).2 i po e;rwa[mq]at this) (λss h=>by unfold br;rw[if_pos (no h)]) iw
theorem Jy{P:List ak->Prop}(h:∀a,P [a])(us:List ak)(hl:us.length=1):P us:=by
 cases us with
 |nil=>cases hl
 |cons a r=>cases r with
  |nil=>exact h a
  |cons b r=>cases hl
theorem J1{P:List ak->Prop}(h:∀a b,P [a,b])(us:List ak)(hl:us.length=2):P us:=by
 cases us with
 |nil=>cases hl
 |cons a r=>exact Jy (P:=λr=>P (a::r)) (h a) r (Eo hl)
theorem Gq{P:List ak->Prop}(h:∀a b c,P [a,b,c])(us:List ak)(hl:us.length=3):P us:=by
 cases us with
 |nil=>cases hl
 |cons a r=>exact J1 (P:=λr=>P (a::r)) (h a) r (Eo hl)
theorem Vs{P:List ak->Prop}(h:∀a b c d,P [a,b,c,d])(us:List ak)(hl:us.length=4):P us:=by
 cases us with
 |nil=>cases hl
 |cons a r=>exact Gq (P:=λr=>P (a::r)) (h a) r (Eo hl)
theorem Xl{fd:gD}{ps:List Str}(h:∀a,fZ fd ⟨[a],[]⟩=pure (ps.zip [a]))(us:List ak)(hl:us.length=1):fZ fd ⟨us,[]⟩=pure (ps.zip us):=Jy (P:=λus=>fZ fd ⟨us,[]⟩=pure (ps.zip us)) h us hl
theorem W8{fd:gD}{ps:List Str}(h:∀a b,fZ fd ⟨[a,b],[]⟩=pure (ps.zip [a,b]))(us:List ak)(hl:us.length=2):fZ fd ⟨us,[]⟩=pure (ps.zip us):=J1 (P:=λus=>fZ fd ⟨us,[]⟩=pure (ps.zip us)) h us hl
theorem Xh{fd:gD}{ps:List Str}(h:∀a b c,fZ fd ⟨[a,b,c],[]⟩=pure (ps.zip [a,b,c]))(us:List ak)(hl:us.length=3):fZ fd ⟨us,[]⟩=pure (ps.zip us):=Gq (P:=λus=>fZ fd ⟨us,[]⟩=pure (ps.zip us)) h us hl
theorem Xv{fd:gD}{ps:List Str}(h:∀a b c d,fZ fd ⟨[a,b,c,d],[]⟩=pure (ps.zip [a,b,c,d]))(us:List ak)(hl:us.length=4):fZ fd ⟨us,[]⟩=pure (ps.zip us):=Vs (P:=λus=>fZ fd ⟨us,[]⟩=pure (ps.zip us)) h us hl
theorem kG{P:aZ}{w:aT}{X:Cx}:tq (bU P w) X E0:=λ_ _ _ _ _ _ _ h=>by obtain⟨a,T,c,H',_,_,_,_,_,_,_,z⟩:=h;exact z.elim
theorem gP:fz "len" = aa (.builtin "len"):=by decide +kernel
theorem Ka:fz "all" = aa (.builtin "all"):=by decide +kernel
theorem Iq:fz "any" = aa (.builtin "any"):=by decide +kernel
theorem yE:fz "sorted" = aa (.builtin "sorted"):=by decide +kernel
theorem gn:fz "isinstance" = aa (.builtin "isinstance"):=by decide +kernel
theorem Se:fz "int" = aa (.type "int"):=by decide +kernel
theorem RY:fz "bool" = aa (.type "bool"):=by decide +kernel
theorem Hr:fz "str" = aa (.type "str"):=by decide +kernel
theorem Bl:fz "list" = aa (.type "list"):=by decide +kernel
theorem yj:fz "tuple" = aa (.type "tuple"):=by decide +kernel
theorem BO:fz "set" = aa (.type "set"):=by decide +kernel
theorem T6:fz "ValueError" = aa (.type "ValueError"):=by decide +kernel
def m8:aE->Bool
 |.Starred _ _=>ai
 |_=>am
theorem kq{e:aE}{es:List aE}{env:Env}(h:m8 e=am):aW (e::es) env=(am,bf e env)::aW es env:=by
 cases e <;> first|rfl|cases h
section
variable{X:Cx}{E:XK}{e:aE}{es:List aE}{d:aj->R PV}{ds:aj->R (List PV)}{dg:aj->R (List b0)}
theorem aD(ha:DE X E e d)(hr:DA X E es ds)(h:m8 e=am:=by rfl):DA X E (e::es) (aw d ds):=Qx ha hr (kq h)
theorem aM(ha:DE X E e d)(hr:DG X E es dg)(h:m8 e=am:=by rfl):DG X E (e::es) (gV d dg):=NA ha hr (kq h)
end
def vm:List ak:=[.type "ValueError",.type "Exception",.type "BaseException",.type "object"]
theorem C8{K:aC}{h:aI}{C:ah}{B:List ak}{nw:String}(X:K.In h)(q:qi K C B nw=ai):∃bm N nm qn bs hd sn sub ab col dd k0 k1 k2 k3 k5 mN,h.get? C=aa (Em nm qn C N bs bm hd sn sub ab col dd k0 k1 k2 k3 k5 nw)/\h.Ns N mN/\mN "__init__" = ae/\OwnTail h B bm:=by
 unfold qi at q;split at q
 case h_2=>cases q
 case h_1 d0 cdata slots look=>
  split at q
  case h_2=>cases q
  case h_1 C2 tl s0 s1 s2 s3 nn s5 em es=>
   rw[f7,f7,f7,f7,f7]at q;obtain⟨⟨⟨⟨⟨q1,q2⟩,q3⟩,q4⟩,q5⟩,q6⟩:=q;have r1:=beq_iff_eq.mp q1;have r2:=beq_iff_eq.mp q2;have r6:=beq_iff_eq.mp q6;subst r1 r2;cases cdata;dsimp only at em q3 q5 r6;subst em;have r3:=KZ _ |>.mp q3
   subst r3;have r7:slots=#[s0,s1,s2,s3,aa (.builtin nn),s5]:=by cases slots;exact congrArg Array.mk es
   subst r7;exact⟨tl,_,_,_,_,_,_,_,_,_,d0,s0,s1,s2,s3,s5,_,X _ _ look,Heap.Ns.of_isNs (PySem.W.isNs_of_in X q5),PySem.W.nsMap_none_of_in X q5 r6,PySem.W.tail_of_in X q4⟩
theorem NH{K:aC}{h:aI}{mg:Str->Option ak}{x:Str}{C:ah}{B:List ak}{nw:String}(X:K.In h)(e:mg x=aa (.ref C))(q:qi K C B nw=ai):OwnCls x C B nw mg h:=⟨e,C8 X q⟩
theorem UU{K:aC}{h:aI}{C:ah}{nw:String}(X:K.In h)(q:qi K C vm nw=ai):tI h C:=by obtain⟨bm,N,nm,qn,bs,hd,sn,sub,ab,col,dd,k0,k1,k2,k3,k5,mN,e,_,_,t⟩:=C8 X q;exact⟨bm,N,nm,qn,bs,hd,sn,sub,ab,col,dd,k0,k1,k2,k3,k5,nw,e,t.hasType rfl⟩
def subB(K:aC)(D C:ah):Bool:=match K.lookup C with
 |some ⟨_,_,.cls cd,_⟩=>cd.mro.contains (.ref D)
 |_=>am
theorem Op{K:aC}{h:aI}{C D:ah}{B:List ak}{nw:String}(X:K.In h)(q:qi K C B nw=ai)(s:subB K D C=ai):Under h D (.ref C):=by
 obtain⟨bm,N,nm,qn,bs,hd,sn,sub,ab,col,dd,k0,k1,k2,k3,k5,mN,e,_⟩:=C8 X q;refine⟨C,bm,N,nm,qn,bs,hd,sn,sub,ab,col,dd,k0,k1,k2,k3,k5,nw,rfl,e,?_⟩;unfold subB at s;split at s
 ·rename_i o1 o2 cd o3 look;have e2:=X _ _ look;rw[e]at e2;unfold Em at e2;cases e2;exact s
 ·cases s
def yH(K:aC)(C:ah):Bool :=
 rK K (.ref C) "__getattribute__" == aa (aa (.builtin "BaseException.__getattribute__"))&&rK K (.ref C) "__getattr__" == aa ae&&rK K (.ref C) "__class__" == aa (aa (.builtin "object.__class__")) &&
 Kv K (.builtin "object.__class__") "__get__" == aa (aa (.builtin "getset_descriptor.__get__"))&&PySem.W.takesIn K (.builtin "object.__class__") == aa ai&&zP K C (.type "object") == aa ai&&zP K C (.type "BaseException") == aa ai&&(En K C).isSome
theorem Gz{K:aC}{C:ah}(h:yH K C=ai):pL K C:=by simp only[yH,f7,beq_iff_eq]at h;obtain⟨⟨⟨⟨⟨⟨⟨h1,h2⟩,h3⟩,h4⟩,h5⟩,h6⟩,h7⟩,h8⟩:=h;exact⟨h1,h2,h3,h4,h5,h6,h7,h8⟩
def AF(K:aC):Bool:=K.all λp=>match p.2.cls with
 |.type t=>t != "list"
 |_=>ai
theorem Je{a:ah}{o:Obj}:∀{K:aC},K.lookup a=aa o->(a,o)∈K
 |[],e=>by cases e
 | (b,u)::K,e=>by
  rw[lq]at e;cases q:a == b with
  |true=>rw[q]at e;cases e;rw[beq_iff_eq.mp q];exact oy ..
  |false=>rw[q]at e;exact me _ (Je e)
theorem HE{K:aC}{H:Hp}{F:ah->Prop}:∀ns:List Int,Reps K H F (ns.map .int) (ns.map V.int)
 |[]=>rfl
 |x::ns=>⟨.int x,ns.map V.int,rfl,rfl,HE ns⟩
theorem Uj{K:aC}{H:Hp}{a:ah}{xs:List V}(h:AF K=ai)(s:cC K H a xs):Rd H a (.lst xs):=by
 rcases s with s|⟨o,its,n,lk,hc,_⟩
 ·exact s
 ·have:=t_.mp h _ (Je lk);rw[hc]at this;simp at this
theorem Vn{K:aC}{g:aj->R Slot}{H:Hp}{a:ah}{ns:List Int}{E:XK}(hr:Rd H a (.lst (ns.map V.int)))(h:g [.val (.lst (ns.map .int))]=.ok (.val (.bl ai)) [.val (.lst (ns.map .int))]):bz K g [.ref a] H (λv _=>v=.bl ai) E:=by
 refine⟨λb=>b=a,λ_ _=>False,[.val (.lst (ns.map .int))],⟨rfl,λb e=>?_,λi pv e=>?_,λi po e=>?_,λi b z=>z.elim,λi j b z=>z.elim⟩,?_⟩
 ·subst e;rcases hr with hr|⟨o,hr⟩ <;> exact⟨_,hr⟩
 ·cases i with
  |zero=>cases e;exact⟨_,rfl,a,_,rfl,hr,rfl,HE ns⟩
  |succ i=>simp at e
 ·cases i with
  |zero=>cases e
  |succ i=>simp at e
 ·rw[h];exact λv F' S' H' Sr _ _ rv _ _=>rv.1
theorem Xr{K:aC}{x:Str}{i:Int}{t:Tok}(e:dq K cf x=aa (aa (.int i t))):∃t,dq K cf x=aa (aa (.int i t)):=⟨t,e⟩
theorem Xm{K:aC}{x:Str}{l:Tx}{t:Tok}(e:dq K cf x=aa (aa (.str (tS l) t))):∃t,dq K cf x=aa (aa (.str (tS l) t)):=⟨t,e⟩
def cH(K:aC)(x:Str)(st:ba):Prop:=∃f oc od kV dc pm an cd ct sl,dq K cf x=aa (aa (.ref f))/\K.lookup f=aa ⟨oc,od,.func (i4 x x (j7 st) (fX st) (a8 st) .none kV dc pm an cd ct),sl⟩/\wd K cd x=ai/\oC K (.ref f)=ai
theorem W6{K:aC}{x:Str}{st:ba}{f:ah}{oc kV dc pm cd ct:ak}{od an:Option ah}{sl:Array (Option ak)}(a:dq K cf x=aa (aa (.ref f)))(l:K.lookup f=aa ⟨oc,od,.func (i4 x x (j7 st) (fX st) (a8 st) .none kV dc pm an cd ct),sl⟩)(c:wd K cd x=ai) (k:oC K (.ref f)=ai):cH K x st:=⟨f,oc,od,kV,dc,pm,an,cd,ct,sl,a,l,c,k⟩
theorem cH.at{K:aC}{h:aI}{mg:Str->Option ak}{x:Str}{st:ba}(d:cH K x st)(X:K.In h)(G:h.Ns cf mg):cz K mg x st:=by obtain⟨f,oc,od,kV,dc,pm,an,cd,ct,sl,a,l,c,k⟩:=d;exact⟨f,_,wz X G a,IV l c k⟩
def lH(XN:List (aS×PV))(k:aS):Option PV:=(XN.find? λkv=>decide (kv.1=k)).map (·.2)
def sM(XN:List (aS×PV))(k:aS)(v:PV):List (aS×PV):=if(XN.any λkv=>decide (kv.1=k))=ai then XN.map (λkv=>if kv.1=k then(kv.1,v)else kv)else XN++[(k,v)]
def kB:PV->Option aS
 |.int i=>aa (.inl i)
 |.str x=>aa (.inr (tS x))
 |_=>ae
section
variable{K:aC}{F:ah->Prop}{S:Nat->ah->Prop}{Z:aj}{Y:St}{H:Hp}{i:Nat}{XN:List (aS×PV)}{ws:List (aS×V)}{a:ah}
theorem zk{x:PV}{v:V}{k:aS}(r:bh K H F x v)(e:kB x=aa k):v=kV k:=by
 cases x <;> simp[kB]at e
 ·subst e;exact r
 ·subst e;exact r.1
theorem ij.len(h:ij K H F XN ws):ws.length=XN.length:=by
 unfold ij at h
 induction h with
 |nil=>rfl
 |cons _ _ ih=>simp[ih]
theorem ij.val(h:ij K H F XN ws)(k:aS):(∃x v,lH XN k=aa x/\jf ws k=aa v/\bh K H F x v)\/(lH XN k=ae/\jf ws k=ae):=by
 unfold ij at h
 induction h with
 |nil=>exact .inr ⟨rfl,rfl⟩
 |@cons p q ps qs r _ ih=>
  by_cases e:p.1=k
  ·refine .inl ⟨p.2,q.2,by simp[lH,f8,e],?_,r.2⟩;rw[vH (by rw[←r.1];exact e)]
  ·have e2:¬q.1=k:=by rw[←r.1];exact e
   rw[ve e2];have:lH (p::ps) k=lH ps k:=by simp[lH,f8,e]
   rw[this];exact ih
theorem ij.any(h:ij K H F XN ws)(k:aS):(XN.any λkv=>decide (kv.1=k))=ws.any λkv=>decide (kv.1=k):=by
 unfold ij at h
 induction h with
 |nil=>rfl
 |cons r _ ih=>rw[oF,oF,ih,r.1]
theorem ij.put(h:ij K H F XN ws)(k:aS){x:PV}{v:V}(r:bh K H F x v):ij K H F (sM XN k x) (iH ws k v):=by
 unfold sM iH;rw[h.any k];split
 ·rename_i hA;clear hA;unfold ij at h ⊢
  induction h with
  |nil=>exact .nil
  |@cons p q ps qs r1 _ ih=>
   refine .cons ?_ ih;dsimp only;by_cases e:p.1=k
   ·rw[if_pos e,if_pos (by rw[←r1.1];exact e)];exact⟨r1.1,r⟩
   ·rw[if_neg e,if_neg (by rw[←r1.1];exact e)];exact r1
 ·exact Paired.snoc h ⟨rfl,r⟩
theorem aX.dkAt(r:aX K F S Z Y H)(e:Z[i]?=aa (.own (.dK XN))):∃a ws,Y[i]?=aa (aa (.ref a))/\H a=aa (.dK ws)/\ij K H F XN ws/\S i a/\∀b,S i b->b=a:=by obtain⟨a,e1,⟨vs,h1,h2⟩,h3⟩:=r.own i _ e;exact⟨a,vs,e1,h1,h2,(h3 a).mpr rfl,λb h=>(h3 b).mp h⟩
theorem aX.updO{po po':PO}{o':HO}(r:aX K F S Z Y H)(e:Z[i]?=aa (.own po))(hf:je po=ai)(ea:Y[i]?=aa (aa (.ref a)))(hn:ez o')(h:∀H',(∀x v,bh K H F x v->bh K H' F x v)->(∀x v,Reps K H F x v->Reps K H' F x v)->H' a=aa o'->∀Sa:ah->Prop,(∀b,Sa b↔b=a)->gh K H' F po' a Sa):aX K F S (Z.set i (.own po')) Y (L2.upd H a o')/\bM (U S) (U S) F F H (L2.upd H a o'):=by
 obtain⟨a',e1,ow⟩:=r.own i po e;rw[ea]at e1;cases e1;have h34:=GK ow hf;have h3:S i a:=(h34 a).mpr rfl;have h4:∀b,S i b->b=a:=λb z=>(h34 b).mp z;have hi:i<Z.length:=(d9.mp e).1;have g:bM (U S) (U S) F F H (L2.upd H a o'):=⟨λ_ z=>z,λb o q n=>by rw[cp (by rintro rfl;exact n ⟨i,h3⟩)];exact q,λb o q=>by
  by_cases hb:b=a
  ·subst hb;exact⟨_,cF⟩
  ·exact⟨o,by rw[cp hb];exact q⟩,λ_ z=>.inl z,λ_ z=>.inl z⟩
 refine⟨⟨by rw[jR];exact r.len,λb z=>let ⟨o,q⟩:=r.ex b z;g.there b o q,λj pv q=>?_,λj po q=>?_,λj b z=>?_,r.dist⟩,g⟩
 ·have hj:i≠j:=by rintro rfl;rw[im hi]at q;cases q
  rw[fA hj]at q;obtain⟨v,q1,q2⟩:=r.val j pv q;exact⟨v,q1,q2.grow g r.fit⟩
 ·by_cases hj:i=j
  ·subst hj;rw[im hi]at q;cases q;exact⟨a,ea,h _ (λ_ _ z=>z.grow g r.fit) (λ_ _ z=>z.grow g r.fit) cF _ h34⟩
  ·rw[fA hj]at q;obtain⟨c,q1,q2⟩:=r.own j po q;refine⟨c,q1,q2.mono (λ_ _ z=>z.grow g r.fit) (λ_ _ z=>z.grow g r.fit) λb o z w=>?_⟩;rw[cp (by rintro rfl;exact hj (r.dist i j b h3 z))];exact w
 ·obtain⟨⟨po,q1⟩,q2,o,q3,q4⟩:=r.foot j b z;by_cases hj:i=j
  ·subst hj;rw[h4 b z];exact⟨⟨_,im hi⟩,by rw[←h4 b z];exact q2,_,cF,hn⟩
  ·exact⟨⟨po,by rw[fA hj];exact q1⟩,q2,o,by rw[cp (by rintro rfl;exact hj (r.dist i j b h3 z))];exact q3,q4⟩
end
def dY(Z:aj)(i:Nat):Option (List (aS×PV)):=match Z[i]? with
 |some (.own (.dK XN))=>aa XN
 |_=>ae
theorem lZ{Z:aj}{i:Nat}{XN:List (aS×PV)}(h:dY Z i=aa XN):Z[i]?=aa (.own (.dK XN)):=by
 unfold dY at h;split at h
 ·cases h;assumption
 ·cases h
section
variable{X:Cx}{E:XK}{pin:List Nat}{e b c:aE}{de db dc:aj->R PV}{pos:Pos}
def BK:aj->R PO:=λZ=>.ok (.dK []) Z
theorem NJ:DN X E (.Dict [] [] pos) BK:=λF S Z Y H Q rl h=>cB OG λp hp=>by
 have al:Al F F H (upd H p (.dK [])):=Al.new0 hp;refine h F S _ (rl.al al) al.grow p (λb=>b=p) ⟨⟨[],cF,.nil⟩,λb=>Iff.rfl⟩ λb z=>?_;subst z;refine⟨hp,λz=>?_,λ⟨j,z⟩=>?_,_,cF,trivial⟩
 ·obtain⟨o,q⟩:=rl.ex b z;rw[hp]at q;cases q
 ·obtain⟨_,_,o,q,_⟩:=rl.foot j b z;rw[hp]at q;cases q
def rm(i:Nat)(db:aj->R PV):aj->R PV:=λZ=>(aV (dY Z i) Z).bind λ_ Z=>(db Z).bind λk dM=>(aV (dY dM i) dM).bind λXN dM=>aV ((kB k).bind λk=>lH XN k) dM
theorem Hd(i:Nat){y:Str}{yp:Pos}(hu:X.A.units+64<cLine)(hb:DE X E b db)(hN:X.N[i]?=aa y:=by rfl)(fU:fP X.env.scope y:=by first|exact Or.inl rfl|exact Or.inr (Or.inl rfl)|exact Or.inr (Or.inr rfl))(hd:(y == ("__debug__" : Str))=am:=by decide) (bL:(y == ("__classdict__" : Str))=am:=by decide) (hs:B_ b:=by exact λ_ _=>rfl):DE X E (.Subscript (.Name y yp) b pos) (rm i db):=λF S Z Y H Q rl h=>by
 unfold rm at h;cases e0:dY Z i with
 |none=>rw[e0]at h;exact h.elim
 |some kvs0=>
  rw[e0]at h;simp only[c8,R.bind_ok]at h;obtain⟨a,ws0,ea,_⟩:=rl.dkAt (lZ e0);refine cB (LQ ∅ (gL hN fU hd bL) cn hs) ⟨.ref a,ea,hb F S Z Y H _ rl ((Ok.bind h).imp λk dM F1 S1 H1 r1 g1 q u ru=>?_)⟩;cases e1:dY dM i with
  |none=>rw[e1]at q;exact q.elim
  |some XN=>
   rw[e1]at q;simp only[c8,R.bind_ok]at q;obtain⟨a',ws,ea',ha,hk,_⟩:=r1.dkAt (lZ e1);rw[ea]at ea';cases ea';cases e2:kB k with
   |none=>rw[e2]at q;exact q.elim
   |some ky=>
    rw[e2,gW]at q;rw[zk ru e2];rcases hk.val ky with⟨x,v,h1,h2,h3⟩|⟨h1,h2⟩
    ·rw[h1]at q;exact⟨a,v,rfl,by rw[←h2];exact lM.k ha,q F1 S1 H1 r1 (bM.refl ..) v h3⟩
    ·rw[h1]at q;exact q.elim
def oi(i:Nat)(db dc:aj->R PV):aj->R PV:=λZ=>(aV (dY Z i) Z).bind λ_ Z=>(db Z).bind λk dM=>(dc dM).bind λz Z2=>(aV (dY Z2 i) Z2).bind λXN Z2=>aV ((kB k).map λk=>(lH XN k).getD z) Z2
theorem IP(i:Nat){y:Str}{yp X7:Pos}(hu:X.A.units+64<cLine)(hb:DE X E b db)(hc:DE X E c dc)(hN:X.N[i]?=aa y:=by rfl)(fU:fP X.env.scope y:=by first|exact Or.inl rfl|exact Or.inr (Or.inl rfl)|exact Or.inr (Or.inr rfl))(hd:(y == ("__debug__" : Str))=am:=by decide) (bL:(y == ("__classdict__" : Str))=am:=by decide)(h1:p_ (.Name y yp) "get" X.env (bf (.Name y yp) X.env)=bf (.Name y yp) X.env:=by rfl) (h3:(X7.endLine == pos.line)=ai:=by rfl) (s1:m8 b=am:=by rfl) (s2:m8 c=am:=by rfl):DE X E (.Call (.Attribute (.Name y yp) "get" X7) [b,c] [] pos) (oi i db dc):=λF S Z Y H Q rl h=>by
 have st:aW [b,c] X.env=[(am,bf b X.env),(am,bf c X.env)]:=by rw[kq s1,kq s2];rfl
 have m:M2 X (.Name y yp) "get" X7 b c pos:=⟨h1,by rw[st];rfl,h3,by rw[st];rfl⟩
 unfold oi at h;cases e0:dY Z i with
 |none=>rw[e0]at h;exact h.elim
 |some kvs0=>
  rw[e0]at h;simp only[c8,R.bind_ok]at h;obtain⟨a,ws0,ea,ha0,_⟩:=rl.dkAt (lZ e0);refine cB (ON ∅ (gL hN fU hd bL) cn cn m) ⟨.ref a,ea,a,rfl,.inl ⟨_,.inl ha0⟩,hb F S Z Y H _ rl ((Ok.bind h).imp λk dM F1 S1 H1 r1 g1 q u ru=>?_)⟩;refine hc F1 S1 dM Y H1 _ r1 ((Ok.bind q).imp λz Z2 F2 S2 H2 r2 g2 q w rw'=>?_);cases e1:dY Z2 i with
  |none=>rw[e1]at q;exact q.elim
  |some XN=>
   rw[e1]at q;simp only[c8,R.bind_ok]at q;obtain⟨a',ws,ea',ha,hk,_⟩:=r2.dkAt (lZ e1);rw[ea]at ea';cases ea';cases e2:kB k with
   |none=>rw[e2]at q;exact q.elim
   |some ky=>
    rw[e2,nE]at q;rw[zk ru e2];rcases hk.val ky with⟨x,v,h1,h2,h3⟩|⟨h1,h2⟩
    ·rw[h1]at q;exact⟨aa v,by rw[←h2];exact lM.k ha,q F2 S2 H2 r2 (bM.refl ..) v h3⟩
    ·rw[h1]at q;exact⟨ae,by rw[←h2];exact lM.k ha,q F2 S2 H2 r2 (bM.refl ..) w rw'⟩
def kr(i:Nat)(db de:aj->R PV):aj->R aO:=λZ=>(de Z).bind λy dM=>(aV (dY dM i) dM).bind λ_ dM=>(db dM).bind λk Z2=>(aV (dY Z2 i) Z2).bind λXN Z2=>(aV (kB k) Z2).bind λk Z2=>if XN.length<ce then .ok .next (Z2.set i (.own (.dK (sM XN k y))))else .no
theorem zx(i:Nat){y:Str}{yp tpos:Pos}(hu:X.A.units+64<cLine)(hb:DE X E b db)(he:DE X E e de)(hN:X.N[i]?=aa y:=by rfl)(fU:fP X.env.scope y:=by first|exact Or.inl rfl|exact Or.inr (Or.inl rfl)|exact Or.inr (Or.inr rfl))(hd:(y == ("__debug__" : Str))=am:=by decide) (bL:(y == ("__classdict__" : Str))=am:=by decide) (hs:nv e (aa (.Subscript (.Name y yp) b tpos)) pos.line X.env=pure am:=by rfl):DS X E pin (.Assign [.Subscript (.Name y yp) b tpos] e pos) (kr i db de):=λF S Z Y H D rl h=>by
 refine jH (Nu ∅ (gL hN fU hd bL) cn cn hs) (he F S Z Y H _ rl (h.bindE.imp λy dM F1 S1 H1 r1 g1 q v rv=>?_));cases e0:dY dM i with
 |none=>rw[e0]at q;exact q.elim
 |some kvs0=>
  rw[e0]at q;simp only[c8,R.bind_ok]at q;obtain⟨a,ws0,ea,ha0,_⟩:=r1.dkAt (lZ e0);refine⟨.ref a,ea,hb F1 S1 dM Y H1 _ r1 (q.bindE.imp λk Z2 F2 S2 H2 r2 g2 q2 u ru=>?_)⟩;cases e1:dY Z2 i with
  |none=>rw[e1]at q2;exact q2.elim
  |some XN=>
   rw[e1]at q2;simp only[c8,R.bind_ok]at q2;obtain⟨a',ws,ea',ha,hk,_⟩:=r2.dkAt (lZ e1);rw[ea]at ea';cases ea';cases e2:kB k with
   |none=>rw[e2]at q2;exact q2.elim
   |some ky=>
    rw[e2]at q2;simp only[c8,R.bind_ok]at q2;split at q2
    ·rename_i hl;rw[zk ru e2];have eE:=hk.put ky (rv.grow g2 r1.fit);obtain⟨r3,g3⟩:=r2.updO (po':=.dK (sM XN ky y)) (o':=.dK (iH ws ky v)) (lZ e1) rfl ea trivial λH' m1 m2 hH' Sa hSa=>⟨⟨_,hH',eE.mono m1⟩,hSa⟩
     exact⟨a,_,rfl,Dw.k ha (by rw[hk.len];exact fI hl mV),q2 F2 S2 Y _ r3 g3 (jA.refl _ _)⟩
    ·exact q2.elim
end
section
variable{X:Cx}
def vA(a d:ah):HO:=.ext λh=>h.IsValuesView a d
theorem Q7:Du X "dict.values" (λx xs H Q=>∃d XN,x=.ref d/\xs=[]/\H d=aa (.dK XN)/\∀a,H a=ae->Q (.ref a) (upd H a (vA a d))):=by
 intro af s Y H x xs v us Q I rx rs h;obtain⟨d,XN,rfl,rfl,hd,q⟩:=h;cases rx;cases rs.zero;obtain⟨z,hs,vs,XA,dd⟩:=yV I.hok hd;refine call_meetsIn PySem.F.slot_dict_values dd.typeIs PySem.F.entry_dict_values (PySem.F.args_dict_values_1 _) (meets_dict_values (gM X.prog X.w) d hs) ⟨⟨vs,dd⟩,?_⟩;refine⟨.ref s.heap.objs.size,_,I.laid (a:=s.heap.objs.size) (o:=vA s.heap.objs.size d) (t':=s.toks) (λ_ _ q=>bH _ q) (bn _) ?_,rfl,q _ I.fresh⟩;exact⟨⟨_,df _ rfl,rfl,rfl⟩,⟨_,df _ rfl⟩,λh1 h2 ⟨o,q1,q2⟩ k=>⟨o,k o q1,q2⟩⟩
theorem KV.at{XN:List (aS×V)}{vs:List (aS×ak)}(r:KV XN vs){i:Nat}{k:aS}{u:ak}(h:vs[i]?=aa (k,u)):∃v,XN[i]?=aa (k,v)/\RelV v u:=by
 unfold KV at r
 induction r generalizing i with
 |nil=>simp at h
 |@cons p q ps qs r1 _ ih=>
  cases i with
  |zero=>simp at h;subst h;exact⟨p.2,by simp[show k=p.1 from r1.1.symm],r1.2⟩
  |succ i=>exact ih (by simpa using h)
def lm(XN:List (aS×V)):Option Bool:=match XN with
 |[]=>aa am
 | (_,.int i)::r=>(lm r).map λb=>(decide (i≠0))||b
 |_=>ae
theorem Ho:∀{XN:List (aS×V)}{b:Bool},lm XN=aa b->(∀(i:Nat) k v,XN[i]?=aa (k,v)->∃n,v=.int n)/\b=(bF XN.length).any λi=>match XN[i]? with|aa (_,.int n)=>decide (n≠0)|_=>am
 |[],b,h=>by simp[lm]at h;subst h;exact⟨by simp,rfl⟩
 | (k,.int n)::r,b,h=>by
  simp only[lm,t6]at h;obtain⟨b',h1,h2⟩:=h;obtain⟨i1,i2⟩:=Ho h1;refine⟨λi k' v e=>?_,?_⟩
  ·cases i with
   |zero=>simp at e;exact⟨n,e.2.symm⟩
   |succ i=>exact i1 i k' v (by simpa using e)
  ·rw[fi,rR,oF,Ep,←h2,i2];rfl
 | (_,.non)::_,_,h=>by simp[lm]at h
 | (_,.bl _)::_,_,h=>by simp[lm]at h
 | (_,.str _)::_,_,h=>by simp[lm]at h
 | (_,.ref _)::_,_,h=>by simp[lm]at h
 | (_,.ty _)::_,_,h=>by simp[lm]at h
theorem NI(hc:X.calm=ai):fD X (.builtin "any") (λxs H Q=>∃(p d:ah) (XN:List (aS×V)) (b:Bool),xs=[.ref p]/\H p=aa (vA p d)/\H d=aa (.dK XN)/\lm XN=aa b/\Q (.bl b) H):=by
 intro af s Y H xs us Q I r h;obtain⟨p,d,XN,b,rfl,hp,hd,ha,q⟩:=h;obtain⟨u,rfl,ru⟩:=vals1 r;cases ru;obtain⟨hv,_,_⟩:=(show dS X.prog X.w H s.heap p (vA p d)from I.hok p _ hp)
 obtain⟨z,hs,vs,XA,dd⟩:=yV I.hok hd;obtain⟨ep,hat⟩:=dd.dictAt;obtain⟨i1,i2⟩:=Ho ha;refine call_any_walk (wpAny_pyIter_values hv hat ?_);refine⟨s.heap.objs.size,_,_,_,_,_,λi=>match XN[i]? with|aa (_,.int n)=>decide (n≠0)|_=>am,rfl,Walks.dictValues (uH (I.ok.hd hc)) _ d (cX hat.lt_size) vs ep,⟨⟨_,df _ rfl,rfl,rfl⟩,hat.push _⟩,λi v s' Q' E' hv hQ=>?_,λh' tk k=>?_⟩
 ·obtain⟨ky,hx⟩:=hv;obtain⟨w,e1,e2⟩:=KV.at XA hx;obtain⟨n,rfl⟩:=i1 i ky w e1;obtain⟨t,rfl⟩:=e2;dsimp only at hQ;rw[e1]at hQ;exact PyProof.Rows.truthy_int (by rw[show(n != 0)=decide (n≠0) by by_cases z:n=0 <;> simp[z]];exact hQ)
 ·have I1:Inv X af Y H {s with heap:=s.heap.push {cls:=.type "dict_valueiterator",data:=.fields #[.ref d,.int 0 0,.int vs.length 0,.int ep 0]},toks:=s.toks}:=I.kept (t':=s.toks) λb o e=>bH _ e;have e5:(bF vs.length).any (λi=>match XN[i]? with|aa (_,.int n)=>decide (n≠0)|_=>am)=b:=by rw[←XA.length];exact i2.symm
  rw[e5];exact⟨.bl _,H,Inv.turned (t':=tk) I1 (it:=s.heap.objs.size) (λb o hb e=>k b o (by simpa using hb) e) I.fresh (mf I.lt) (.inr I.sz) (λx c e z=>by obtain⟨v,qq⟩:=I.cell x c e;exact absurd qq.lt (by rw[z];exact fu _)) (λpp hp z=>absurd (bD (I.pin pp hp).1) (by rw[z];exact fu _)),rfl,q⟩
end
section
variable{X:Cx}{E:XK}{pin:List Nat}{e b c:aE}{de db dc:aj->R PV}{pos:Pos}
def ri:List (aS×PV)->Option Bool
 |[]=>aa am
 | (_,.int i)::r=>(ri r).map λb=>(decide (i≠0))||b
 |_=>ae
theorem SH{K:aC}{H:Hp}{F:ah->Prop}{XN:List (aS×PV)}{ws:List (aS×V)}{k:Bool}(h:ij K H F XN ws)(e:ri XN=aa k):lm ws=aa k:=by
 unfold ij at h
 induction h generalizing k with
 |nil=>exact e
 |@cons p q ps qs r _ ih=>
  obtain⟨pk,pv⟩:=p;obtain⟨qk,qv⟩:=q;cases pv <;> simp only[ri,t6]at e <;> try cases e
  obtain⟨r1,r2⟩:=r;obtain rfl:qv=V.int _:=r2;rename_i h;simp only[lm,ih h.1,nE];rw[←h.2]
def vg(i:Nat):aj->R PV:=λZ=>(aV (dY Z i) Z).bind λXN Z=>aV ((ri XN).map .bl) Z
theorem Rh(i:Nat){y:Str}{yp p X7 X6:Pos}(hc:X.calm=ai)(hm:X.mg "any" = ae)(hN:X.N[i]?=aa y:=by rfl)(fU:fP X.env.scope y:=by first|exact Or.inl rfl|exact Or.inr (Or.inl rfl)|exact Or.inr (Or.inr rfl))(hd:(y == ("__debug__" : Str))=am:=by decide) (bL:(y == ("__classdict__" : Str))=am:=by decide) (hg:Gl X "any":=by rfl)(wG:p_ (.Name y yp) "values" X.env (bf (.Name y yp) X.env)=bf (.Name y yp) X.env:=by rfl) (wH:(X7.endLine == X6.line)=ai:=by rfl)(he:aW [.Call (.Attribute (.Name y yp) "values" X7) [] [] X6] X.env=(am,bf (.Call (.Attribute (.Name y yp) "values" X7) [] [] X6) X.env)::aW [] X.env:=by rfl) (cV:(dR pos (aW [] X.env)).any (·.1)=am:=by rfl):DE X E (.Call (.Name "any" p) [.Call (.Attribute (.Name y yp) "values" X7) [] [] X6] [] pos) (vg i):=λF S Z Y H Q rl h=>by
 unfold vg at h;cases e0:dY Z i with
 |none=>rw[e0]at h;exact h.elim
 |some XN=>
  rw[e0]at h;simp only[c8,R.bind_ok]at h;obtain⟨a,ws,ea,ha,hk,ia,_⟩:=rl.dkAt (lZ e0);cases e1:ri XN with
  |none=>rw[e1]at h;exact h.elim
  |some k=>
   rw[e1,nE]at h;refine cB (rA (NI hc) hg hm Iq (jE (Ol PySem.F.plainAttrs_dict PySem.F.slot_dict_values PySem.F.type_dict_values Q7 (gL hN fU hd bL) wG wH) k_ he) (by decide) (by decide) he cV) ⟨.ref a,ea,.inr (.inr (.inl ⟨rfl,.inl ⟨_,ha⟩⟩)),a,ws,rfl,rfl,ha,λq hq=>?_⟩;have al:Al F F H (L2.upd H q (vA q a)):=Al.new0 hq;have cQ:a≠q:=by rintro rfl;rw[ha]at hq;cases hq
   exact⟨q,a,ws,k,rfl,cF,by rw[cp cQ];exact ha,SH hk e1,h F S _ (rl.al al) al.grow _ rfl⟩
def yo(X:Cx)(E:XK)(es:List aE)(d:aj->R (PO×List b0)):Prop :=
 ∀F S Z Y H Q,aX X.K F S Z Y H->Ok X.K E Y F S H (d Z) (λp _ F' S' H'=>∀a Sa vs,gh X.K H' F' p.1 a Sa->(∀b,Sa b->H b=ae/\¬F' b/\¬U S' b/\∃o,H' b=aa o/\ez o)->i_ X.K (Y++[aa (.ref a)]) F' H' p.2 vs->Q vs H')->qI X es Y H Q
theorem i_.app{K:aC}{Y:St}{F:ah->Prop}{H:Hp}(τ:St):∀{as:List b0}{vs:List V},i_ K Y F H as vs->i_ K (Y++τ) F H as vs
 |[],_,h=>h
 |.inl _::_,_,⟨v,r,e,h1,h2⟩=>⟨v,r,e,h1,h2.app τ⟩
 |.inr i::_,_,⟨v,r,e,h1,h2⟩=>⟨v,r,e,by rw[fJ (d9.mp h1).1];exact h1,h2.app τ⟩
theorem gh.stay{K:aC}{O O' F F':ah->Prop}{H H':Hp}{po:PO}{a:ah}{Sa:ah->Prop}(ow:gh K H F po a Sa)(g:bM O O' F F' H H')(fit:pE O F H)(lo:∀b,Sa b->¬F b/\¬O b/\∃o,H b=aa o/\ez o):gh K H' F' po a Sa/\∀b,Sa b->¬F' b/\¬O' b/\∃o,H' b=aa o/\ez o:=by refine⟨ow.mono (λ_ _ z=>z.grow g fit) (λ_ _ z=>z.grow g fit) λb o z w=>(g.stay w (lo b z).2.1 (lo b z).1).1,λb z=>?_⟩;obtain⟨l1,l2,o,l3,l4⟩:=lo b z;obtain⟨s1,s2,s3⟩:=g.stay l3 l2 l1;exact⟨s2,s3,o,s1,l4⟩
variable{es:List aE}{dn:aj->R PO}{dg:aj->R (List b0)}{dh:aj->R (PO×List b0)}
def gN(dn:aj->R PO)(dg:aj->R (List b0)):aj->R (PO×List b0):=λZ=>(dn Z).bind λpo dM=>(dg dM).bind λas Z2=>.ok (po,.inr Z2.length::as) Z2
theorem OL(ha:DN X E e dn)(hr:DG X E es dg)(hs:m8 e=am:=by rfl):yo X E (e::es) (gN dn dg):=λF S Z Y H Q rl h=>by refine qO (jE cn g9 (kq hs)) (ha F S Z Y H _ rl ((Ok.bind h).imp λpo dM F1 S1 H1 r1 g1 h1 a Sa ow lo=>?_));refine hr F1 S1 dM Y H1 _ r1 ((Ok.bind h1).imp λas Z2 F2 S2 H2 r2 g2 h2 vs av=>?_);obtain⟨ow2,lo2⟩:=ow.stay g2 r1.fit λb z=>(lo b z).2;refine h2 F2 S2 H2 r2 (bM.refl ..) a Sa (.ref a::vs) ow2 (λb z=>⟨(lo b z).1,lo2 b z⟩) ⟨.ref a,vs,rfl,?_,av.app _⟩;rw[r2.len,jO (bn _),Nat.sub_self];rfl
def sZ(d:aj->R PV)(dh:aj->R (PO×List b0)):aj->R (PO×List b0):=λZ=>(d Z).bind λx dM=>(dh dM).bind λp Z2=>.ok (p.1,.inl x::p.2) Z2
theorem FC(ha:DE X E e de)(hr:yo X E es dh)(hs:m8 e=am:=by rfl):yo X E (e::es) (sZ de dh):=λF S Z Y H Q rl h=>by refine qO (jE cn g9 (kq hs)) (ha F S Z Y H _ rl ((Ok.bind h).imp λx dM F1 S1 H1 r1 g1 h1 v rv=>?_));refine hr F1 S1 dM Y H1 _ r1 ((Ok.bind h1).imp λp Z2 F2 S2 H2 r2 g2 h2 a Sa vs ow lo av=>?_);exact h2 F2 S2 H2 r2 (bM.refl ..) a Sa _ ow (λb z=>⟨lL g1 (lo b z).1,(lo b z).2⟩) ⟨v,vs,rfl,rv.grow g2 r1.fit,av⟩
theorem aX.push{K:aC}{F:ah->Prop}{S:Nat->ah->Prop}{Z:aj}{Y:St}{H:Hp}{po:PO}{a:ah}{Sa:ah->Prop}(r:aX K F S Z Y H)(ow:gh K H F po a Sa)(lo:∀b,Sa b->¬F b/\¬U S b/\∃o,H b=aa o/\ez o):aX K F (λj b=>S j b\/(j=Z.length/\Sa b)) (Z++[.own po]) (Y++[aa (.ref a)]) H:=by
 have lt:∀j b,S j b->j<Z.length:=λj b z=>by obtain⟨⟨p,q⟩,_⟩:=r.foot j b z;exact(d9.mp q).1
 refine⟨by simp[r.len],r.ex,λj pv q=>?_,λj p q=>?_,λj b z=>?_,λj k b z1 z2=>?_⟩
 ·by_cases hj:j<Z.length
  ·rw[fJ hj]at q;obtain⟨v,q1,q2⟩:=r.val j pv q;exact⟨v,by rw[fJ (by rw[←r.len];exact hj)];exact q1,q2⟩
  ·rw[jO ∅]at q;cases hk:j-Z.length with
   |zero=>rw[hk]at q;simp at q
   |succ n=>rw[hk]at q;simp at q
 ·by_cases hj:j<Z.length
  ·rw[fJ hj]at q;obtain⟨v,q1,q2⟩:=r.own j p q;refine⟨v,by rw[fJ (by rw[←r.len];exact hj)];exact q1,?_⟩;have:(λb=>S j b\/(j=Z.length/\Sa b))=S j:=by funext b;exact propext ⟨λz=>z.elim id λz=>absurd z.1 (cX hj),.inl⟩
   rw[this];exact q2
  ·rw[jO ∅]at q;cases hk:j-Z.length with
   |zero=>
    rw[hk]at q;simp at q;subst q;have ej:j=Z.length:=∅
    subst ej;refine⟨a,by rw[r.len,jO (bn _),Nat.sub_self];rfl,?_⟩;have:(λb=>S Z.length b\/(Z.length=Z.length/\Sa b))=Sa:=by funext b;exact propext ⟨λz=>z.elim (λz=>absurd (lt _ _ z) (fu _)) (·.2),λz=>.inr ⟨rfl,z⟩⟩
    rw[this];exact ow
   |succ n=>rw[hk]at q;simp at q
 ·rcases z with z|⟨rfl,z⟩
  ·obtain⟨⟨p,q⟩,q2⟩:=r.foot j b z;exact⟨⟨p,by rw[fJ (lt j b z)];exact q⟩,q2⟩
  ·obtain⟨l1,l2,l3⟩:=lo b z;exact⟨⟨po,by rw[jO (bn _),Nat.sub_self];rfl⟩,l1,l3⟩
 ·rcases z1 with z1|⟨rfl,z1⟩ <;> rcases z2 with z2|⟨rfl,z2⟩
  ·exact r.dist j k b z1 z2
  ·exact absurd ⟨j,z1⟩ (lo b z2).2.1
  ·exact absurd ⟨k,z2⟩ (lo b z1).2.1
  ·rfl
theorem aX.pop{K:aC}{F:ah->Prop}{S:Nat->ah->Prop}{Z:aj}{sl:Slot}{Y:St}{u:Option V}{H:Hp}(r:aX K F S (Z++[sl]) (Y++[u]) H):aX K F (λj b=>S j b/\j<Z.length) Z Y H:=by
 have len:Z.length=Y.length:=by have:=r.len;simpa using this
 refine⟨len,r.ex,λj pv q=>?_,λj p q=>?_,λj b z=>?_,λj k b z1 z2=>r.dist j k b z1.1 z2.1⟩
 ·have hj:=(d9.mp q).1;obtain⟨v,q1,q2⟩:=r.val j pv (by rw[fJ hj];exact q);exact⟨v,by rw[fJ (by rw[←len];exact hj)]at q1;exact q1,q2⟩
 ·have hj:=(d9.mp q).1;obtain⟨v,q1,q2⟩:=r.own j p (by rw[fJ hj];exact q);refine⟨v,by rw[fJ (by rw[←len];exact hj)]at q1;exact q1,?_⟩;have:(λb=>S j b/\j<Z.length)=S j:=by funext b;simp[hj]
  rw[this];exact q2
 ·obtain⟨⟨p,q⟩,q2⟩:=r.foot j b z.1;exact⟨⟨p,by rw[fJ z.2]at q;exact q⟩,q2⟩
def Hf{α:Type}:R α->R α
 |.ok s Z=>.ok s Z.dropLast
 |.er c Z=>.er c Z.dropLast
 |.no=>.no
def uI(g:aj->R Slot)(dh:aj->R (PO×List b0)):aj->R Slot:=λZ=>(dh Z).bind λp dM=>(aV (if(cu p.2).Nodup then c_ (dM++[.own p.1]) p.2 else ae) dM).bind λss dM=>Hf (ef (dM++[.own p.1]) p.2 (g ss))
theorem Fs{Z:aj}{n:Nat}(h:Z.length=n+1):∃l x,Z=l++[x]/\l.length=n:=by
 refine⟨Z.dropLast,Z.getLast (by intro z;rw[z]at h;cases h),(List.dropLast_concat_getLast _).symm,by rw[Er,h];rfl⟩
theorem bM.pushed{K:aC}{F F':ah->Prop}{S S2:Nat->ah->Prop}{H0 H H':Hp}{n:Nat}{Sa:ah->Prop}(g:bM (U λj b=>S j b\/(j=n/\Sa b)) (U S2) F F' H H'){F0:ah->Prop}{S0:Nat->ah->Prop}(g0:bM (U S0) (U S) F0 F H0 H)(fr:∀b,Sa b->H0 b=ae):bM (U S0) (U λj b=>S2 j b/\j<n) F0 F' H0 H' where
 fro:=λb z=>g.fro b (g0.fro b z)
 keep:=λb o q no=>g.keep b o (g0.keep b o q no) λ⟨j,z⟩=>by
  rcases z with z|⟨_,z⟩
  ·rcases g0.onew b ⟨j,z⟩with w|w
   ·exact no w
   ·rw[w]at q;cases q
  ·rw[fr b z]at q;cases q
 there:=λb o q=>let ⟨o',q'⟩:=g0.there b o q;g.there b o' q'
 fnew:=λb z=>by
  rcases g.fnew b z with w|w|⟨j,w|⟨_,w⟩⟩
  ·exact g0.fnew b w
  ·exact .inr (.inl (lL g0 w))
  ·exact .inr ((g0.onew b ⟨j,w⟩).symm)
  ·exact .inr (.inl (fr b w))
 onew:=λb ⟨j,z,_⟩=>by
  rcases g.onew b ⟨j,z⟩with⟨k,w|⟨_,w⟩⟩|w
  ·exact g0.onew b ⟨k,w⟩
  ·exact .inr (fr b w)
  ·exact .inr (lL g0 w)
variable{CX:gc}{x:Str}{k:Nat}{ps:List Str}{g:aj->R Slot}{p:Pos}
theorem T_(c:cA CX X.prog X.w X.K X.mg X.base x k ps (bz X.K g))(hr:Room k X.A)(hx:tq CX X E)(ha:yo X E (e::es) dh)(hg:Gl X x:=by rfl)(hd:(x == ("__debug__" : Str))=am:=by decide) (h1:aW (e::es) X.env=(am,bf e X.env)::aW es X.env:=by rfl) (h2:(dR pos (aW es X.env)).any (·.1)=am:=by rfl):DR X E (.Call (.Name x p) (e::es) [] pos) (uI g dh):=λF S Z Y H Q rl h=>by
 obtain⟨f,fd,hm,Fn,hb,hk⟩:=c.ex;refine cB (Go Fn hr hg hm hk hb .nil hx g9 hd h1 h2) (ha F S Z Y H _ rl ?_);unfold uI at h;cases ed:dh Z with
 |no=>rw[ed]at h;exact h.elim
 |er cv dM=>rw[ed]at h;exact h
 |ok pa dM=>
  obtain⟨po,as⟩:=pa;rw[ed]at h;simp only[R.bind_ok]at h;intro F1 S1 H1 r1 g1 a Sa vs ow lo av;dsimp only at h av ow;have rp:=r1.push ow λb z=>(lo b z).2;by_cases nd:(cu as).Nodup
  ·rw[if_pos nd]at h;cases es:c_ (dM++[.own po]) as with
   |none=>rw[es]at h;exact h.elim
   |some ss=>
    rw[es]at h;simp only[c8,R.bind_ok]at h;rw[iZ];refine⟨F1,mZ as _,ss,rp.cal av es nd,?_⟩;have len:∀aP,(eh (dM++[.own po]) as aP).length=dM.length+1:=λaP=>by rw[xV];simp
    cases eg:g ss with
    |no=>rw[eg]at h;exact h.elim
    |er cv aP=>
     rw[eg]at h;intro y F' S' H' r' g';unfold ef at h;dsimp only at h;by_cases kp:dX as aP=ai
     ·rw[if_pos kp]at h;obtain⟨S2,r2,g2,_⟩:=rp.called av es nd r' g' (λ_ z=>z) (n4 kp);obtain⟨l,sl,el,ll⟩:=Fs (len aP);rw[el]at r2;have h:Ok X.K E Y F S H (R.er cv (eh (dM++[.own po]) as aP).dropLast:R Slot) _:=h;rw[el,List.dropLast_concat]at h;have gp:=bM.pushed (K:=X.K) g2 g1 λb z=>(lo b z).1;rw[←ll]at gp;exact h y F' _ H' r2.pop gp
     ·rw[if_neg kp]at h;exact h.elim
    |ok s aP=>
     rw[eg]at h;intro v F' S' H' Sr r' g' rv lo' fr;unfold ef at h;dsimp only at h;by_cases kp:dX as aP=ai
     ·rw[if_pos kp]at h;obtain⟨S2,r2,g2,u2⟩:=rp.called av es nd r' g' (λ_ z=>.inl z) (n4 kp);obtain⟨l,sl,el,ll⟩:=Fs (len aP);rw[el]at r2;have h:Ok X.K E Y F S H (R.ok s (eh (dM++[.own po]) as aP).dropLast:R Slot) _:=h;rw[el,List.dropLast_concat]at h;have gp:=bM.pushed (K:=X.K) g2 g1 λb z=>(lo b z).1;rw[←ll]at gp;refine h F' _ H' r2.pop gp v Sr rv λb z=>⟨lL g1 (fr b z),(lo' b z).1,λ⟨j,w,_⟩=>?_,(lo' b z).2.2⟩
      rcases u2 b ⟨j,w⟩with w|⟨i,w⟩
      ·exact(lo' b z).2.1 w
      ·obtain⟨_,_,o,y1,_⟩:=rp.foot i b w;rw[fr b z]at y1;cases y1
     ·rw[if_neg kp]at h;exact h.elim
  ·rw[if_neg nd]at h;exact h.elim
end
section
variable{X:Cx}{E:XK}{pin:List Nat}{e b c o:aE}{de db dc d:aj->R PV}{ds:aj->R (List PV)}{pos p q XG:Pos}
def SO(X:Cx)(r:List V->Hp->VK->Prop):List V->Hp->VK->Prop:=λxs H Q=>∃(p:ah) (ls:List Tx),xs=[.ref p]/\cC X.K H p (c9 ls)/\(cS ls).length<4000/\∀a,H a=ae->r [.ref a] (upd H a (iQ X a (cS ls))) Q
end
def iB:List Tx->Tx
 |[]=>[]
 |x::r=>r.foldl (λb y=>if y<b then y else b) x
theorem Mn(l:List Tx)(y:Tx)(h:l≠[]):iB (l++[y])=if y<iB l then y else iB l:=by
 cases l with
 |nil=>exact absurd rfl h
 |cons x r=>show(r++[y]).foldl _ x=_;rw[KM];rfl
theorem Fo(bt:Nat->Nat->Bool):∀k,uf bt k<=k
 |0=>bn _
 |k+1=>by
  unfold uf;split
  ·exact bn _
  ·exact Nat.le_succ_of_le (Fo bt k)
theorem E5(ls:List Tx):∀k,k<ls.length->ls[uf (λi j=>decide (ls.getD i []<ls.getD j [])) k]?=aa (iB (ls.take (k+1)))
 |0,h=>by
  cases ls with
  |nil=>cases h
  |cons x r=>simp[uf,iB]
 |k+1,h=>by
  have ih:=E5 ls k ∅;have e:ls.take (k+1+1)=ls.take (k+1)++[ls[k+1]]:=by rw[WR h]
  have hb:=Fo (λi j=>decide (ls.getD i []<ls.getD j [])) k;rw[e,Mn _ _ (by intro z;have:=congrArg tX z;rw[jN,rQ]at this;lia)];unfold uf;have e1:ls.getD (k+1) []=ls[k+1]:=by simp[z5,h]
  have e2:ls.getD (uf (λi j=>decide (ls.getD i []<ls.getD j [])) k) []=iB (ls.take (k+1)):=by rw[Ai,ih];rfl
  rw[e1,e2];by_cases c:ls[k+1]<iB (ls.take (k+1))
  ·rw[if_pos (by simpa using c),if_pos c];simp[h]
  ·rw[if_neg (by simpa using c),if_neg c];exact ih
section
variable{X:Cx}
theorem A6{ls:List Tx}{its:List ak}(r:bX (c9 ls) its){i:Nat}{v:ak}(h:its.toArray[i]?=aa v):∃t,v=.str (tS (ls.getD i [])) t:=by
 have hl:=r.length;rw[vL]at hl;have hi:i<its.length:=by have:=(qf.mp h).1;simpa using this
 have e:(c9 ls)[i]?=aa (tV (ls.getD i [])):=by unfold c9;rw[jP,f9 ∅];simp[z5,f9 (show i<ls.length by lia)]
 obtain⟨u,e1,e2⟩:=r.get e;have:its[i]?=aa v:=by simpa using h
 rw[this]at e1;cases e1;exact e2
theorem Nf(hc:X.calm=ai):fD X (.builtin "min") (λxs H Q=>∃(p:ah) (ls:List Tx),xs=[.ref p]/\cC X.K H p (c9 ls)/\ls≠[]/\Q (tV (iB ls)) H):=by
 intro af s Y H xs us Q I r h;obtain⟨p,ls,rfl,hq,cQ,q⟩:=h;obtain⟨u,rfl,ru⟩:=vals1 r;cases ru;obtain⟨its,rv,pl,hz⟩:=I.list hq;have hl:=rv.length;rw[vL]at hl;have hn:0<ls.length:=by cases ls with|nil=>exact absurd rfl cQ|cons=>simp
 refine call_min_walk (z6 pl.isList ?_);have EU:p≠s.heap.objs.size:=by obtain⟨o,ho,_⟩:=pl.isList;exact cX (bD ho)
 refine⟨s.heap.objs.size,_,_,_,_,_,λi j=>decide (ls.getD i []<ls.getD j []),rfl,Walks.list (uH (I.ok.hd hc)) s.heap.objs.size p EU its.toArray,⟨⟨_,df _ rfl,rfl,rfl⟩,?_⟩,?_,by rw[cU];lia,λi j vi vj s' Q' E' hi hj hQ=>?_,λv h' tk hv k=>?_⟩
 ·obtain⟨o,ho,hc,hd⟩:=pl.isList;exact⟨o,bH _ ho,hc,hd⟩
 ·intro b hb;obtain⟨o,ho,_⟩:=pl.isList;have qz:p<s.heap.objs.size:=bD ho;have sz:∀o:Obj,(s.heap.push o).objs.size=s.heap.objs.size+1:=λo=>by simp[Heap.push]
  rcases b8.mp hb with rfl|hb
  ·show _<(s.heap.push _).objs.size;rw[sz];exact nG _
  ·rw[iq.mp hb];show _<(s.heap.push _).objs.size;rw[sz];exact mo qz
 ·obtain⟨t,rfl⟩:=A6 rv hi;obtain⟨t',rfl⟩:=A6 rv hj;refine lt_str ?_;rw[n9,n9];exact hQ
 ·obtain⟨t,rfl⟩:=A6 rv hv;have e:ls.getD (uf (λi j=>decide (ls.getD i []<ls.getD j [])) (its.toArray.size-1)) []=iB ls:=by rw[cU,←hl,Ai,E5 ls _ ∅,show ls.length-1+1=ls.length by lia,Aj];rfl
  rw[e];have I1:Inv X af Y H {s with heap:=s.heap.push {cls:=.type "list_iterator",data:=.fields #[.ref p,.int 0 0]},toks:=s.toks}:=I.kept (t':=s.toks) λb o e=>bH _ e;exact⟨tV (iB ls),H,Inv.turned (t':=tk) I1 (it:=s.heap.objs.size) (λb o hb e=>k b o (by simpa using hb) e) I.fresh (mf I.lt) (.inr I.sz) (λx c e z=>by obtain⟨v,qq⟩:=I.cell x c e;exact absurd qq.lt (by rw[z];exact fu _)) (λpp hp z=>absurd (bD (I.pin pp hp).1) (by rw[z];exact fu _)),⟨t,rfl⟩,q⟩
def sO:List PV->Option PV
 |[.lst xs]=>(g_ xs).bind λls=>if ls≠[] then aa (.str (iB ls))else ae
 |_=>ae
theorem UB:∀{ls:List Tx},ls≠[]->iB ls∈ls:=by
 have gen:∀(r:List Tx) (x:Tx),r.foldl (λb y=>if y<b then y else b) x∈x::r:=by
  intro r
  induction r with
  |nil=>intro x;simp
  |cons y r ih=>
   intro x;rw[jt];have:=ih (if y<x then y else x);rcases b8.mp this with h|h
   ·rw[h];split <;> simp
   ·simp[h]
 intro ls h;cases ls with
 |nil=>exact absurd rfl h
 |cons x r=>exact gen r x
theorem Q3{K:aC}:PL K (λxs H Q=>∃(p:ah) (ls:List Tx),xs=[.ref p]/\cC K H p (c9 ls)/\ls≠[]/\Q (tV (iB ls)) H) sO:=λF H xs vs Q pv rs e q=>by
 unfold sO at e;split at e
 ·obtain⟨v,rfl,a,us,rfl,ha,_,ru⟩:=iF rs;obtain⟨ls,e1,e2⟩:=K0.mp e;rw[sD e1]at ru;obtain⟨rfl,hl⟩:=Xa.mp ru;split at e2
  ·rename_i hh;cases e2;exact⟨a,ls,rfl,.inl ha,hh,q _ F H (Al.refl ..) ⟨rfl,hl _ (UB hh)⟩⟩
  ·cases e2
 ·cases e
theorem LC:fz "min" = aa (.builtin "min"):=by decide +kernel
end
end Pu
namespace L2
def yI:Bool->Keyed->Array Keyed->Nat->Nat->Nat->StateT bY Sem (Option Nat):=sortPriv% PySem.Builtin.gallop
def IK:Array Keyed->Array Keyed->StateT bY Sem (Array Keyed):=sortPriv% PySem.Builtin.mergeLo
def IL:Array Keyed->Array Keyed->StateT bY Sem (Array Keyed):=sortPriv% PySem.Builtin.mergeHi
def kO(κ:KeyKind)(p:Keyed):κ.α:=(κ.keyOf p.1).getD κ.dflt
def iC(κ:KeyKind)(p:Keyed):Prop:=∃a,κ.keyOf p.1=aa a
theorem iC.k{κ:KeyKind}{p:Keyed}(h:iC κ p):κ.keyOf p.1=aa (kO κ p):=by obtain⟨a,e⟩:=h;unfold kO;rw[e];rfl
structure SB(st:bY):Prop where
 kind:kindOf st=oneType'
 failed:failedOf st=ae
section
variable{prog:aZ}{w:aT}{A:bd}{E:ak->aq->Prop}{s:aq}{κ:KeyKind}
theorem vY(hO:κ.OneLt){st:bY}{x y:Keyed}{Q:Option Bool->bY->Prop}(hk:SB st)(hx:iC κ x)(hy:iC κ y)(h:Q (aa (κ.blt (kO κ x) (kO κ y))) st):wpS (aB prog w) A E s (lt' x y) Q st:=by rw[lt'_eq];refine aR (mr ?_);rw[hk.kind,keyLt'_oneType];exact aR (ug (wpAny_attempt (hO prog w A _ s x.1 y.1 _ _ hx.k hy.k ⟨rfl,aY h⟩)))
theorem fQ{st:bY}{arr:Array Keyed}{i:Nat}(hi:i<arr.size){Q:Keyed->bY->Prop}(h:Q arr[i] st):wpS (aB prog w) A E s (elem' arr i) Q st:=by rw[elem'_eq,getElem?_pos arr i hi];exact aY h
def Fe(left:Bool)(key:Keyed)(arr:Array Keyed)(base i:Nat):StateT bY Sem (Option Bool) :=elem' arr (base+i) >>= λx=>if left=ai then lt' x key else lt' key x >>= λb=>pure (b.map (!·))
def mQ(κ:KeyKind)(left:Bool)(key x:Keyed):Bool:=if left=ai then κ.blt (kO κ x) (kO κ key)else !κ.blt (kO κ key) (kO κ x)
theorem Pz(hO:κ.OneLt){st:bY}{left:Bool}{key:Keyed}{arr:Array Keyed}{base i:Nat}{Q:Option Bool->bY->Prop}(hk:SB st)(hx:iC κ key)(hi:base+i<arr.size)(hy:iC κ arr[base+i])(h:Q (aa (mQ κ left key arr[base+i])) st):wpS (aB prog w) A E s (Fe left key arr base i) Q st:=by
 refine aR (fQ hi ?_);cases left
 ·rw[if_neg (by simp)];exact aR (vY hO hk hx hy (aY h))
 ·rw[if_pos rfl];exact vY hO hk hy hx h
theorem IU(hO:κ.OneLt){st:bY}(hk:SB st){left:Bool}{key:Keyed}{arr:Array Keyed}{base n hint:Nat}{Q:Option Nat->bY->Prop}(jv:iC κ key)(hn:base+n<=arr.size)(hA:∀i (hi:i<arr.size),iC κ arr[i]) (B:Nat->Bool) (hB:∀i (hi:i<n),B i=mQ κ left key (arr[base+i]'∅))(mono:∀i j,i<=j->j<n->B j=ai->B i=ai) (hh:hint<n)(h:∀r,r<=n->(∀i,i<r->B i=ai)->(∀i,r<=i->i<n->B i=am)->Q (aa r) st):wpS (aB prog w) A E s (yI left key arr base n hint) Q st:=by
 have hb:∀{i:Nat}{Q:Option Bool->bY->Prop},i<n->Q (aa (B i)) st->wpS (aB prog w) A E s (Fe left key arr base i) Q st:=λ{i Q} hi q=>Pz hO hk jv ∅ (hA _ _) (by rw[←hB i hi];exact q);have dn:∀{i j:Nat},i<=j->j<n->B i=am->B j=am:=λ{i j} b9 hj hf=>by
  cases e:B j with
  |false=>rfl
  |true=>rw[mono i j b9 hj e]at hf;cases hf
 unfold yI;refine aR (hb hh ?_);cases hr:B hint with
 |true=>
  dsimp only;rw[if_pos rfl];refine aR (ir (iu (I:=λx c aG=>aG=st/\∃l o,c=(ae,l,o)/\l<o/\x<o/\l<n-hint/\B (hint+l)=ai) (Q:=λc aG=>aG=st/\∃l o,c=(ae,l,o)/\l<o/\l<n-hint/\B (hint+l)=ai/\(n-hint<=o\/(o<n-hint/\B (hint+o)=am))) ?_ ?_ ?_) ?_)
  ·rintro x c aG _ hx ⟨rfl,l,o,rfl,h1,h2,h3,h4⟩;dsimp only;by_cases fj:o ≥ n-hint
   ·rw[if_pos fj];exact aY ⟨rfl,l,o,rfl,h1,h3,h4,.inl fj⟩
   ·rw[if_neg fj];refine aR (hb ∅ ?_);cases e:B (hint+o)with
    |true=>exact aY ⟨rfl,o,2*o+1,rfl,∅,∅,∅,e⟩
    |false=>exact aY ⟨rfl,l,o,rfl,h1,h3,h4,.inr ⟨∅,e⟩⟩
  ·rintro c aG ⟨rfl,l,o,rfl,h1,h2,h3,h4⟩;exact⟨rfl,l,o,rfl,h1,h3,h4,.inl ∅⟩
  ·exact⟨rfl,0,1,rfl,∅,∅,∅,hr⟩
  rintro c aG ⟨rfl,l,o,rfl,h1,h3,h4,h5⟩;dsimp only;have g1:hint+l+1<=hint+min o (n-hint):=∅
  have g2:hint+min o (n-hint)<=n:=∅
  have g3:∀i,i<hint+l+1->B i=ai:=λi hi=>mono i (hint+l) ∅ ∅ h4;have g4:∀i,hint+min o (n-hint)<=i->i<n->B i=am:=by
   intro i hi fM;rcases h5 with h5|⟨h5,h6⟩
   ·lia
   ·exact dn (i:=hint+o) ∅ fM h6
  clear h5;generalize hint+l+1=lo at *;generalize hint+min o (n-hint)=hi at *;refine aR (ir (iu (I:=λx c cM=>cM=aG/\∃l r,c=(ae,l,r)/\l<=r/\r<=n/\r-l<=n-x/\(∀i,i<l->B i=ai)/\(∀i,r<=i->i<n->B i=am)) (Q:=λc cM=>cM=aG/\∃l r,c=(ae,l,r)/\r<=n/\(∀i,i<r->B i=ai)/\(∀i,r<=i->i<n->B i=am)) ?_ ?_ ?_) ?_)
  ·rintro x c cM _ hx ⟨rfl,l,r,rfl,a1,a2,a3,a4,a5⟩;dsimp only;by_cases fj:l ≥ r
   ·rw[if_pos fj];have:l=r:=∅
    subst this;exact aY ⟨rfl,l,l,rfl,a2,a4,a5⟩
   ·rw[if_neg fj];refine aR (hb ∅ ?_);cases e:B (l+(r-l) / 2)with
    |true=>exact aY ⟨rfl,_,r,rfl,∅,a2,∅,λi hi=>mono _ _ ∅ ∅ e,a5⟩
    |false=>exact aY ⟨rfl,l,_,rfl,∅,∅,∅,a4,λi hi fM=>dn (i:=l+(r-l) / 2) hi fM e⟩
  ·rintro c cM ⟨rfl,l,r,rfl,a1,a2,a3,a4,a5⟩;have:l=r:=∅
   subst this;exact⟨rfl,l,l,rfl,a2,a4,a5⟩
  ·exact⟨rfl,lo,hi,rfl,g1,g2,∅,g3,g4⟩
  ·rintro c cM ⟨rfl,l,r,rfl,a2,a4,a5⟩;exact aY (h r a2 a4 a5)
 |false=>
  dsimp only;rw[if_neg (by simp)];refine aR (ir (iu (I:=λx c aG=>aG=st/\∃l o,c=(ae,l,o)/\l<o/\x<o/\l<=hint/\B (hint-l)=am) (Q:=λc aG=>aG=st/\∃l o,c=(ae,l,o)/\l<o/\l<=hint/\B (hint-l)=am/\(hint+1<=o\/(o<=hint/\B (hint-o)=ai))) ?_ ?_ ?_) ?_)
  ·rintro x c aG _ hx ⟨rfl,l,o,rfl,h1,h2,h3,h4⟩;dsimp only;by_cases fj:o ≥ hint+1
   ·rw[if_pos fj];exact aY ⟨rfl,l,o,rfl,h1,h3,h4,.inl fj⟩
   ·rw[if_neg fj];refine aR (hb ∅ ?_);cases e:B (hint-o)with
    |false=>exact aY ⟨rfl,o,2*o+1,rfl,∅,∅,∅,e⟩
    |true=>exact aY ⟨rfl,l,o,rfl,h1,h3,h4,.inr ⟨∅,e⟩⟩
  ·rintro c aG ⟨rfl,l,o,rfl,h1,h2,h3,h4⟩;exact⟨rfl,l,o,rfl,h1,h3,h4,.inl ∅⟩
  ·exact⟨rfl,0,1,rfl,∅,∅,∅,hr⟩
  rintro c aG ⟨rfl,l,o,rfl,h1,h3,h4,h5⟩;dsimp only;have g1:hint+1-min o (hint+1)<=hint-l:=∅
  have g2:hint-l<=n:=∅
  have g3:∀i,i<hint+1-min o (hint+1)->B i=ai:=by
   intro i hi;rcases h5 with h5|⟨h5,h6⟩
   ·lia
   ·exact mono i (hint-o) ∅ ∅ h6
  have g4:∀i,hint-l<=i->i<n->B i=am:=λi hi fM=>dn (i:=hint-l) ∅ fM h4;clear h5 h4;generalize hint+1-min o (hint+1)=lo at *;generalize hint-l=hi at *;refine aR (ir (iu (I:=λx c cM=>cM=aG/\∃l r,c=(ae,l,r)/\l<=r/\r<=n/\r-l<=n-x/\(∀i,i<l->B i=ai)/\(∀i,r<=i->i<n->B i=am)) (Q:=λc cM=>cM=aG/\∃l r,c=(ae,l,r)/\r<=n/\(∀i,i<r->B i=ai)/\(∀i,r<=i->i<n->B i=am)) ?_ ?_ ?_) ?_)
  ·rintro x c cM _ hx ⟨rfl,l,r,rfl,a1,a2,a3,a4,a5⟩;dsimp only;by_cases fj:l ≥ r
   ·rw[if_pos fj];have:l=r:=∅
    subst this;exact aY ⟨rfl,l,l,rfl,a2,a4,a5⟩
   ·rw[if_neg fj];refine aR (hb ∅ ?_);cases e:B (l+(r-l) / 2)with
    |true=>exact aY ⟨rfl,_,r,rfl,∅,a2,∅,λi hi=>mono _ _ ∅ ∅ e,a5⟩
    |false=>exact aY ⟨rfl,l,_,rfl,∅,∅,∅,a4,λi hi fM=>dn (i:=l+(r-l) / 2) hi fM e⟩
  ·rintro c cM ⟨rfl,l,r,rfl,a1,a2,a3,a4,a5⟩;have:l=r:=∅
   subst this;exact⟨rfl,l,l,rfl,a2,a4,a5⟩
  ·exact⟨rfl,lo,hi,rfl,g1,g2,∅,g3,g4⟩
  ·rintro c cM ⟨rfl,l,r,rfl,a2,a4,a5⟩;exact aY (h r a2 a4 a5)
end
section
variable{κ:KeyKind}
def bW(κ:KeyKind)(x y:Keyed):Prop:=κ.kle (kO κ x) (kO κ y)
theorem bW.trans{x y z:Keyed}(h1:bW κ x y)(h2:bW κ y z):bW κ x z:=wA h1 h2
structure MS(κ:KeyKind)(T o ra rb:List Keyed):Prop where
 perm:(o++(ra++rb)).Perm T
 so:o.Pairwise (bW κ)
 sa:ra.Pairwise (bW κ)
 sb:rb.Pairwise (bW κ)
 oa:∀x∈o,∀y∈ra,bW κ x y
 ob:∀x∈o,∀y∈rb,bW κ x y
theorem MS.stepA{T o x ra rb:List Keyed}(h:MS κ T o (x++ra) rb)(hx:∀u∈x,∀v∈rb,bW κ u v):MS κ T (o++x) ra rb:=by
 obtain⟨h1,h2,h3,h4,h5,h6⟩:=h;rw[K1]at h3;refine⟨by simpa[kI]using h1,?_,h3.2.1,h4,?_,?_⟩
 ·rw[K1];exact⟨h2,h3.1,λu hu v hv=>h5 u hu v (zM _ hv)⟩
 ·intro u hu v hv;rcases gy.mp hu with hu|hu
  ·exact h5 u hu v (ny _ hv)
  ·exact h3.2.2 u hu v hv
 ·intro u hu v hv;rcases gy.mp hu with hu|hu
  ·exact h6 u hu v hv
  ·exact hx u hu v hv
theorem MS.swap{T o ra rb:List Keyed}(h:MS κ T o ra rb):MS κ T o rb ra :=⟨(KP _ List.perm_append_comm).trans h.perm,h.so,h.sb,h.sa,h.ob,h.oa⟩
theorem MS.stepB{T o x ra rb:List Keyed}(h:MS κ T o ra (x++rb))(hx:∀u∈x,∀v∈ra,bW κ u v):MS κ T (o++x) ra rb :=(h.swap.stepA hx).swap
def ik(κ:KeyKind)(T:List Keyed)(r:Array Keyed):Prop:=r.toList.Perm T/\r.toList.Pairwise (bW κ)
theorem MS.endA{T o ra:List Keyed}{r:Array Keyed}(h:MS κ T o ra [])(e:r.toList=o++ra):ik κ T r:=by obtain⟨h1,h2,h3,h4,h5,h6⟩:=h;refine⟨by rw[e];simpa using h1,?_⟩;rw[e,K1];exact⟨h2,h3,h5⟩
theorem MS.last{T o ra rb:List Keyed}{r:Array Keyed}(h:MS κ T o ra rb)(hx:∀u∈rb,∀v∈ra,bW κ u v)(e:r.toList=o++(rb++ra)):ik κ T r:=by
 have h':MS κ T o ra (rb++[]):=by simpa using h
 exact(h'.stepB hx).endA (by rw[e];simp)
theorem l0(a:Array Keyed)(i j:Nat):(a.extract i j).toList=(a.toList.drop i).take (j-i):=by simp[K2,List.extract_eq_take_drop]
theorem tm(a:Array Keyed)(i:Nat):(a.extract i a.size).toList=a.toList.drop i:=by rw[l0,mn];simp
theorem Hu{a:Array Keyed}{i:Nat}(h:i<a.size):a.toList.drop i=a[i]::a.toList.drop (i+1):=by rw[Af (by simpa using h)];simp
theorem J7(a:Array Keyed)(i k:Nat):a.toList.drop i=(a.extract i (i+k)).toList++a.toList.drop (i+k):=by rw[l0,show i+k-i=k by lia,←List.drop_drop,wB]
theorem sC{a:Array Keyed}{i:Nat}{x:Keyed}(h:x∈a.toList.drop i):∃j,∃hj:j<a.size,i<=j/\a[j]=x:=by
 obtain⟨k,hk,e⟩:=Ak h;rw[K3]at e;have w_:i+k<a.size:=by simp at hk;lia
 exact⟨i+k,w_,∅,by simpa using e⟩
theorem Hq{a:Array Keyed}{i k:Nat}{x:Keyed}(h:x∈(a.extract i (i+k)).toList):∃j,∃hj:j<a.size,i<=j/\j<i+k/\a[j]=x:=by
 rw[l0]at h;obtain⟨m,hm,e⟩:=Ak h;rw[K4,K3]at e;refine⟨i+m,?_,∅,?_,by simpa using e⟩
 all_goals simp at hm;lia
def vk(κ:KeyKind)(a:Array Keyed):Prop:=∀i j (hj:j<a.size) (b9:i<=j),bW κ (a[i]'∅) a[j]
theorem vk.pw{a:Array Keyed}(h:vk κ a):a.toList.Pairwise (bW κ):=by rw[List.pairwise_iff_getElem];intro i j hi hj b9;have:=h i j (by simpa using hj) ∅;simpa using this
structure gf(κ:KeyKind)(a b out:Array Keyed)(ia ib:Nat):Prop where
 ms:MS κ (a.toList++b.toList) out.toList (a.toList.drop ia) (b.toList.drop ib)
 la:ia<=a.size
 lb:ib<=b.size
variable{a b out:Array Keyed}{ia ib:Nat}
theorem gf.pushA(h:gf κ a b out ia ib)(hi:ia<a.size)(hx:∀j (hj:j<b.size),ib<=j->bW κ a[ia] b[j]):gf κ a b (out.push a[ia]) (ia+1) ib:=by refine⟨?_,hi,h.lb⟩;rw[wq];refine MS.stepA (by rw[Es,←Hu hi];exact h.ms) λu hu v hv=>?_;obtain⟨j,hj,f_,rfl⟩:=sC hv;rw[iq.mp hu];exact hx j hj f_
theorem gf.pushB(h:gf κ a b out ia ib)(hi:ib<b.size)(hx:∀j (hj:j<a.size),ia<=j->bW κ b[ib] a[j]):gf κ a b (out.push b[ib]) ia (ib+1):=by refine⟨?_,h.la,hi⟩;rw[wq];refine MS.stepB (by rw[Es,←Hu hi];exact h.ms) λu hu v hv=>?_;obtain⟨j,hj,f_,rfl⟩:=sC hv;rw[iq.mp hu];exact hx j hj f_
theorem gf.extA{k:Nat}(h:gf κ a b out ia ib)(hk:ia+k<=a.size)(hx:∀i (hi:i<a.size),ia<=i->i<ia+k->∀j (hj:j<b.size),ib<=j->bW κ a[i] b[j]):gf κ a b (out++a.extract ia (ia+k)) (ia+k) ib:=by refine⟨?_,hk,h.lb⟩;rw[iM];refine MS.stepA (by rw[←J7];exact h.ms) λu hu v hv=>?_;obtain⟨j,hj,f_,rfl⟩:=sC hv;obtain⟨i,hi,h1,h2,rfl⟩:=Hq hu;exact hx i hi h1 h2 j hj f_
theorem gf.extB{k:Nat}(h:gf κ a b out ia ib)(hk:ib+k<=b.size)(hx:∀i (hi:i<b.size),ib<=i->i<ib+k->∀j (hj:j<a.size),ia<=j->bW κ b[i] a[j]):gf κ a b (out++b.extract ib (ib+k)) ia (ib+k):=by refine⟨?_,h.la,hk⟩;rw[iM];refine MS.stepB (by rw[←J7];exact h.ms) λu hu v hv=>?_;obtain⟨j,hj,f_,rfl⟩:=sC hv;obtain⟨i,hi,h1,h2,rfl⟩:=Hq hu;exact hx i hi h1 h2 j hj f_
theorem gf.doneA(h:gf κ a b out ia ib)(e:ib=b.size):ik κ (a.toList++b.toList) (out++a.extract ia a.size++b.extract ib b.size):=by have:=h.ms;rw[show b.toList.drop ib=[] by rw[Et];simp[e]]at this;refine this.endA ?_;rw[iM,iM,tm,tm,show b.toList.drop ib=[] by rw[Et];simp[e],iZ]
theorem gf.doneB(h:gf κ a b out ia ib)(e:ia=a.size):ik κ (a.toList++b.toList) (out++a.extract ia a.size++b.extract ib b.size):=by have:=h.ms;rw[show a.toList.drop ia=[] by rw[Et];simp[e]]at this;refine this.swap.endA ?_;rw[iM,iM,tm,tm,show a.toList.drop ia=[] by rw[Et];simp[e],iZ]
theorem gf.last(h:gf κ a b out ia ib)(e:ia+1=a.size)(hl:∀j (hj:j<b.size),bW κ b[j] (a[ia]'∅)):ik κ (a.toList++b.toList) (out++b.extract ib b.size++a.extract ia a.size):=by
 refine h.ms.last (λu hu v hv=>?_) (by rw[iM,iM,tm,tm,kI]);obtain⟨j,hj,h1,rfl⟩:=sC hu;obtain⟨i,hi,h2,rfl⟩:=sC hv;have:i=ia:=∅
 subst this;exact hl j hj
end
section
variable{prog:aZ}{w:aT}{A:bd}{E:ak->aq->Prop}{s:aq}{κ:KeyKind}
theorem CL(hO:κ.OneLt){st:bY}(hk:SB st){key:Keyed}{arr:Array Keyed}{base n hint:Nat}{Q:Option Nat->bY->Prop}(jv:iC κ key)(hn:base+n<=arr.size)(hA:∀i (hi:i<arr.size),iC κ arr[i]) (hs:∀i j (b9:i<=j) (hj:j<base+n),base<=i->bW κ (arr[i]'∅) (arr[j]'∅)) (hh:hint<n)(h:∀r,r<=n->(∀i (hi:i<arr.size),base<=i->i<base+r->bW κ arr[i] key)->(∀i (hi:i<arr.size),base+r<=i->i<base+n->κ.klt (kO κ key) (kO κ arr[i]))->Q (aa r) st):wpS (aB prog w) A E s (yI am key arr base n hint) Q st:=by
 refine IU hO hk jv hn hA (λi=>if hi:i<n then mQ κ am key (arr[base+i]'∅)else am) (λi hi=>by rw[dif_pos hi]) ?_ hh ?_
 ·intro i j b9 hj e;rw[dif_pos hj]at e;rw[dif_pos ∅];simp only[mQ,qh,if_false,KZ]at e ⊢;exact wA (hs (base+i) (base+j) ∅ ∅ ∅) e
 ·intro r hr h1 h2;refine h r hr (λi hi hb bI=>?_) (λi hi hb bI=>?_)
  ·have:=h1 (i-base) ∅;rw[dif_pos ∅]at this;simp only[mQ,qh,if_false,KZ,show base+(i-base)=i by lia]at this;exact this
  ·have:=h2 (i-base) ∅ ∅;rw[dif_pos ∅]at this;simp only[mQ,qh,if_false,Bool.not_eq_false',show base+(i-base)=i by lia]at this;exact this
theorem Ca(hO:κ.OneLt){st:bY}(hk:SB st){key:Keyed}{arr:Array Keyed}{base n hint:Nat}{Q:Option Nat->bY->Prop}(jv:iC κ key)(hn:base+n<=arr.size)(hA:∀i (hi:i<arr.size),iC κ arr[i]) (hs:∀i j (b9:i<=j) (hj:j<base+n),base<=i->bW κ (arr[i]'∅) (arr[j]'∅)) (hh:hint<n)(h:∀r,r<=n->(∀i (hi:i<arr.size),base<=i->i<base+r->κ.klt (kO κ arr[i]) (kO κ key))->(∀i (hi:i<arr.size),base+r<=i->i<base+n->bW κ key arr[i])->Q (aa r) st):wpS (aB prog w) A E s (yI ai key arr base n hint) Q st:=by
 refine IU hO hk jv hn hA (λi=>if hi:i<n then mQ κ ai key (arr[base+i]'∅)else am) (λi hi=>by rw[dif_pos hi]) ?_ hh ?_
 ·intro i j b9 hj e;rw[dif_pos hj]at e;rw[dif_pos ∅];simp only[mQ,if_true]at e ⊢;exact KeyOrd.klt_of_kle_of_klt (hs (base+i) (base+j) ∅ ∅ ∅) e
 ·intro r hr h1 h2;refine h r hr (λi hi hb bI=>?_) (λi hi hb bI=>?_)
  ·have:=h1 (i-base) ∅;rw[dif_pos ∅]at this;simp only[mQ,if_true,show base+(i-base)=i by lia]at this;exact this
  ·have:=h2 (i-base) ∅ ∅;rw[dif_pos ∅]at this;simp only[mQ,if_true,show base+(i-base)=i by lia]at this;exact this
end
structure ig(st aG:bY):Prop where
 kind:kindOf aG=kindOf st
 arr:arrOf aG=arrOf st
 pend:bE aG=bE st
 failed:failedOf aG=failedOf st
theorem ig.rfl{st:bY}:ig st st:=⟨_root_.rfl,_root_.rfl,_root_.rfl,_root_.rfl⟩
theorem ig.sb{st aG:bY}(h:ig st aG)(k:SB st):SB aG:=⟨h.kind.trans k.kind,h.failed.trans k.failed⟩
section
variable{prog:aZ}{w:aT}{A:bd}{E:ak->aq->Prop}{s:aq}{κ:KeyKind}
theorem cW{Y α:Type}{M:Model}{c:Prop}[Decidable c]{t e:StateT Y Sem α}{Q:α->Y->Prop}{st:Y}(h1:c->wpS M A E s t Q st)(h2:¬c->wpS M A E s e Q st):wpS M A E s (if c then t else e) Q st:=by
 split
 ·exact h1 ‹_›
 ·exact h2 ‹_›
def Rz:Nat->StateT bY Sem Unit:=sortPriv% PySem.Builtin.setMinGallop
theorem ig.trans{a b c:bY}(h1:ig a b)(h2:ig b c):ig a c:=⟨h2.kind.trans h1.kind,h2.arr.trans h1.arr,h2.pend.trans h1.pend,h2.failed.trans h1.failed⟩
theorem BC{st kn:bY}{g:Nat}{Q:Unit->bY->Prop}(hS:ig kn st)(h:∀aG,ig kn aG->Q () aG):wpS (aB prog w) A E s (Rz g) Q st :=oP (h _ (hS.trans ⟨rfl,rfl,rfl,rfl⟩))
theorem Tl(hO:κ.OneLt){st:bY}(hk:SB st){a b:Array Keyed}{Q:Array Keyed->bY->Prop}(ha:0<a.size)(hb:0<b.size)(hA:∀i (hi:i<a.size),iC κ a[i]) (hB:∀i (hi:i<b.size),iC κ b[i]) (sa:vk κ a) (sb:vk κ b)(h0:bW κ b[0] a[0]) (hl:∀j (hj:j<b.size),bW κ b[j] a[a.size-1])(h:∀r aG,ig st aG->ik κ (a.toList++b.toList) r->Q r aG):wpS (aB prog w) A E s (IK a b) Q st:=by
 have lA:∀{i:Nat} (hi:i<a.size),i+1=a.size->∀j (hj:j<b.size),bW κ b[j] a[i]:=λ{i} hi e j hj=>by
  have:i=a.size-1:=∅
  subst this;exact hl j hj
 have I0:gf κ a b #[b[0]] 0 1:=by
  have h1:gf κ a b #[] 0 0:=⟨⟨by simp,by simp,by simpa using sa.pw,by simpa using sb.pw,by simp,by simp⟩,∅,∅⟩
  exact h1.pushB hb λj hj _=>h0.trans (sa 0 j hj ∅)
 unfold IK;refine aR (ug (lr ⟨rfl,?_⟩));refine aR (fQ hb ?_);by_cases e1:1=b.size
 ·rw[if_pos (by simp[←e1])];exact aY (h _ _ .rfl (I0.doneA e1))
 rw[if_neg (by simpa using e1)];by_cases e2:0+1=a.size
 ·rw[if_pos (by simp[←e2])];exact aY (h _ _ .rfl (I0.last e2 (lA ∅ ∅)))
 rw[if_neg (by simpa using e2)];refine aR (mr ?_);refine aR (ir (iu (I:=λx c aG=>ig st aG/\∃out ia ib mg,c=(ae,out,ia,ib,mg)/\gf κ a b out ia ib/\ia+1<a.size/\ib<b.size/\x+1<=ia+ib) (Q:=λc aG=>ig st aG/\∃r,c.1=aa r/\ik κ (a.toList++b.toList) r) ?_ ?_ ?_) ?_);rotate_left
 ·rintro c aG ⟨_,out,ia,ib,mg,rfl,hI,h1,h2,h3⟩;lia
 ·exact⟨.rfl,_,0,1,_,rfl,I0,∅,∅,∅⟩
 ·rintro⟨c1,c⟩ aG ⟨hS,r,rfl,hD⟩;exact aY (h r aG hS hD)
 rintro x c aG _ hx ⟨hS,out,ia,ib,mg,rfl,hI,h1,h2,h3⟩;refine aR (ir (iu (I:=λy c cM=>cM=aG/\∃out ia ib ac bc,c=(ae,out,ia,ib,ac,bc)/\gf κ a b out ia ib/\ia+1<a.size/\ib<b.size/\x+1+y<=ia+ib) (Q:=λc cM=>cM=aG/\((∃r c',c=(aa r,c')/\ik κ (a.toList++b.toList) r)\/∃out ia ib ac bc,c=(ae,out,ia,ib,ac,bc)/\gf κ a b out ia ib/\ia+1<a.size/\ib<b.size/\x+1+1<=ia+ib)) ?_ ?_ ?_) ?_)
 ·rintro y c cM _ hy ⟨rfl,out,ia,ib,ac,bc,rfl,hI,h1,h2,h3⟩;dsimp only;refine aR (fQ h2 (aR (fQ ∅ (aR (vY hO (hS.sb hk) (hB ib h2) (hA ia ∅) ?_)))));cases e:κ.blt (kO κ b[ib]) (kO κ (a[ia]'∅))with
  |true=>
   dsimp only;rw[if_pos rfl];refine aR (fQ h2 ?_);have mD:=hI.pushB h2 λj hj f_=>bW.trans (mv e) (sa ia j hj f_);by_cases e3:ib+1=b.size
   ·rw[if_pos (by simp[e3])];exact aY ⟨rfl,.inl ⟨_,_,rfl,mD.doneA e3⟩⟩
   rw[if_neg (by simpa using e3)];split
   ·exact aY ⟨rfl,.inr ⟨_,_,_,_,_,rfl,mD,∅,∅,∅⟩⟩
   ·exact aY ⟨rfl,_,_,_,_,_,rfl,mD,∅,∅,∅⟩
  |false=>
   dsimp only;rw[if_neg (by simp)];refine aR (fQ ∅ ?_);have mD:=hI.pushA ∅ λj hj f_=>bW.trans (show bW κ (a[ia]'∅) b[ib] from e) (sb ib j hj f_);by_cases e3:ia+1+1=a.size
   ·rw[if_pos (by simp[e3])];exact aY ⟨rfl,.inl ⟨_,_,rfl,mD.last e3 (lA ∅ ∅)⟩⟩
   rw[if_neg (by simpa using e3)];split
   ·exact aY ⟨rfl,.inr ⟨_,_,_,_,_,rfl,mD,∅,∅,∅⟩⟩
   ·exact aY ⟨rfl,_,_,_,_,_,rfl,mD,∅,∅,∅⟩
 ·rintro c cM ⟨rfl,out,ia,ib,ac,bc,rfl,hI,h1,h2,h3⟩;lia
 ·exact⟨rfl,_,_,_,_,_,rfl,hI,h1,h2,∅⟩
 rintro c cM ⟨rfl,⟨r,c',rfl,hD⟩|⟨out,ia,ib,ac,bc,rfl,hI,h1,h2,h3⟩⟩
 ·exact aY ⟨hS,r,rfl,hD⟩
 refine aR (ug (lr ⟨rfl,?_⟩));refine aR (ir (iu (I:=λy c cM=>ig st cM/\∃out ia ib mg ac bc,c=(ae,out,ia,ib,mg,ac,bc)/\gf κ a b out ia ib/\ia+1<a.size/\ib<b.size/\x+2+y<=ia+ib) (Q:=λc cM=>ig st cM/\((∃r c',c=(aa r,c')/\ik κ (a.toList++b.toList) r)\/∃out ia ib mg ac bc,c=(ae,out,ia,ib,mg,ac,bc)/\gf κ a b out ia ib/\ia+1<a.size/\ib<b.size/\x+1+1<=ia+ib)) ?_ ?_ ?_) ?_);rotate_left
 ·rintro c cM ⟨_,out,ia,ib,mg,ac,bc,rfl,hI,h1,h2,h3⟩;lia
 ·exact⟨hS,_,_,_,_,_,_,rfl,hI,h1,h2,∅⟩
 ·rintro c cM ⟨hS,⟨r,c',rfl,hD⟩|⟨out,ia,ib,mg,ac,bc,rfl,hI,h1,h2,h3⟩⟩
  ·exact aY ⟨hS,r,rfl,hD⟩
  ·dsimp only;refine aR (oP (aY ⟨⟨hS.kind,hS.arr,hS.pend,hS.failed⟩,_,_,_,_,rfl,hI,h1,h2,∅⟩))
 clear h1 h2 h3 hI hS I0 e1 e2;rintro y c cM _ hy ⟨hS,out,ia,ib,mg,ac,bc,rfl,hI,h1,h2,h3⟩;clear hx hy;have jx:∀{i j:Nat} (b9:i<=j) (hj:j<b.size),bW κ (b[i]'∅) b[j]:=λ{i j} b9 hj=>sb i j hj b9;have sh:∀{i j:Nat} (b9:i<=j) (hj:j<a.size),bW κ (a[i]'∅) a[j]:=λ{i j} b9 hj=>sa i j hj b9;refine(?_:wpS (aB prog w) A E s _ ?Q _);extract_lets -merge x1 x2 x3 x4 x5 x6 x7 x8 x9 xa xb xc jp;have hj:∀g bP,ig st bP->wpS (aB prog w) A E s (jp () g) ?Q bP:=by
  intro g bP gH;dsimp -zeta only[jp,x1,x2,x3,x4,x5,x6,x7,x8,x9,xa,xb,xc];refine aR (BC gH λbP gH=>?_);refine aR (fQ h2 ?_);refine aR (CL hO (gH.sb hk) (base:=ia) (n:=a.size-ia) (hint:=0) (hB ib h2) ∅ hA (λi j b9 hj _=>sh b9 ∅) ∅ λk o4 eE gI=>?_);dsimp -zeta only;extract_lets -merge y1 jp2;have xk:∀o n,gf κ a b o n ib->ia+k<=n->n+1<a.size->wpS (aB prog w) A E s (jp2 () o n) ?Q bP:=by
   intro o n xl qD e4;dsimp -zeta only[jp2,y1];refine aR (fQ h2 ?_);have hI3:=xl.pushB h2 λj hj g=>mv (gI j hj ∅ ∅);refine cW (λe5=>?_) λe5=>?_
   ·exact aY ⟨gH,.inl ⟨_,_,rfl,hI3.doneA (by simpa using e5)⟩⟩
   have e5':ib+1≠b.size:=by simpa using e5
   refine aR (fQ ∅ ?_);refine aR (Ca hO (gH.sb hk) (base:=ib+1) (n:=b.size-(ib+1)) (hint:=0) (hA _ _) ∅ hB (λi j b9 hj _=>jx b9 ∅) ∅ λk' m1 m2 m3=>?_);dsimp -zeta only;extract_lets -merge z1 z2 jp3;have xm:∀o m,gf κ a b o n m->ib+1+k'<=m->m<b.size->wpS (aB prog w) A E s (jp3 () o m) ?Q bP:=by
    intro o m xn e6 e7;dsimp -zeta only[jp3,z1,z2];refine aR (fQ ∅ ?_);have xo:=xn.pushA ∅ (λj hj g=>m3 j hj ∅ ∅);refine cW (λe7=>?_) λe7=>?_
    ·have e7':n+1+1=a.size:=by simpa using e7
     exact aY ⟨gH,.inl ⟨_,_,rfl,xo.last e7' (lA ∅ e7')⟩⟩
    have e7':n+1+1≠a.size:=by simpa using e7
    refine cW (λe8=>?_) λe8=>?_
    ·exact aY ⟨gH,.inr ⟨_,_,_,_,_,_,rfl,xo,∅,∅,∅⟩⟩
    ·exact aY ⟨gH,_,_,_,_,_,_,rfl,xo,∅,∅,∅⟩
   clear_value jp3;refine cW (λEV=>?_) (λEV=>?_)
   ·have xn:=hI3.extB (k:=k') ∅ (λi hi g1 g2 j hj g3=>bW.trans (mv (m2 i hi g1 g2)) (sh g3 hj));refine cW (λe6=>?_) λe6=>?_
    ·exact aY ⟨gH,.inl ⟨_,_,rfl,xn.doneA (by simpa using e6)⟩⟩
    have e6':ib+1+k'≠b.size:=by simpa using e6
    exact xm _ _ xn ∅ ∅
   ·exact xm _ _ hI3 ∅ ∅
  clear_value jp2;refine cW (λhk0=>?_) (λhk0=>?_)
  ·have xl:gf κ a b (out++a.extract ia (ia+k)) (ia+k) ib:=hI.extA ∅ λi hi g1 g2 j hj g3=>(eE i hi g1 g2).trans (jx g3 hj);refine cW (λe3=>?_) λe3=>?_
   ·have qD:ia+k+1=a.size:=by simpa using e3
    exact aY ⟨gH,.inl ⟨_,_,rfl,xl.last qD (lA ∅ qD)⟩⟩
   have qD:ia+k+1≠a.size:=by simpa using e3
   refine cW (λe4=>?_) λe4=>?_
   ·exact aY ⟨gH,.inl ⟨_,_,rfl,xl.doneB (by simpa using e4)⟩⟩
   have e4':ia+k≠a.size:=by simpa using e4
   exact xk _ _ xl ∅ ∅
  ·exact xk _ _ hI ∅ ∅
 exact cW (λ_=>hj _ _ hS) λ_=>hj _ _ hS
end
def CK(κ:KeyKind):KeyKind where
 α:=κ.α
 blt:=λa b=>κ.blt b a
 irrefl:=κ.irrefl
 trans:=λa b c h1 h2=>κ.trans c b a h2 h1
 negTrans:=λa b c h=>(κ.negTrans c b a h).symm
 total:=λa b h1 h2=>κ.total a b h2 h1
 keyOf:=κ.keyOf
 dflt:=κ.dflt
section
variable{κ:KeyKind}
theorem uJ{x y:Keyed}(h:bW κ y x):bW (CK κ) x y:=h
theorem Ff{a:Array Keyed}{n:Nat}(h:0<n)(hn:n<=a.size):(a.toList.take n).reverse=(a[n-1]'∅)::(a.toList.take (n-1)).reverse:=by
 obtain⟨m,rfl⟩:∃m,n=m+1:=⟨n-1,∅⟩
 rw[WR (by simp;lia),K5];simp
theorem Jg(a:Array Keyed)(p n:Nat)(hp:p<=n):a.toList.take n=a.toList.take p++(a.extract p n).toList:=by
 rw[l0]
 conv=>lhs;rw[show n=p+(n-p) by lia]
 rw[List.take_add]
theorem sQ{a:Array Keyed}{n:Nat}(hn:n<=a.size){x:Keyed}(h:x∈a.toList.take n):∃j,∃hj:j<a.size,j<n/\a[j]=x:=by
 obtain⟨m,hm,e⟩:=Ak h;rw[K4]at e;have h1:m<n:=by simp at hm;lia
 exact⟨m,∅,h1,by simpa using e⟩
theorem Cf{a:Array Keyed}{p n:Nat}(hn:n<=a.size){x:Keyed}(h:x∈(a.extract p n).toList):∃j,∃hj:j<a.size,p<=j/\j<n/\a[j]=x:=by
 rw[l0]at h;obtain⟨m,hm,e⟩:=Ak h;rw[K4,K3]at e;have h1:p+m<n:=by simp at hm;lia
 exact⟨p+m,∅,∅,h1,by simpa using e⟩
theorem qU(a:Array Keyed)(n:Nat):(a.extract 0 n).toList=a.toList.take n:=by rw[l0];simp
structure gk(κ:KeyKind)(a b out:Array Keyed)(na nb:Nat):Prop where
 ms:MS (CK κ) (a.toList++b.toList) out.toList (a.toList.take na).reverse (b.toList.take nb).reverse
 la:na<=a.size
 lb:nb<=b.size
variable{a b out:Array Keyed}{na nb:Nat}
theorem gk.pushA(h:gk κ a b out na nb)(hn:0<na)(hla:na-1<a.size)(hx:∀j (hj:j<b.size),j<nb->bW κ b[j] a[na-1]):gk κ a b (out.push a[na-1]) (na-1) nb:=by refine⟨?_,∅,h.lb⟩;rw[wq];refine MS.stepA (by rw[Es,←Ff hn h.la];exact h.ms) λu hu v hv=>?_;obtain⟨j,hj,f_,rfl⟩:=sQ h.lb (rV.mp hv);rw[iq.mp hu];exact uJ (hx j hj f_)
theorem gk.pushB(h:gk κ a b out na nb)(hn:0<nb)(hlb:nb-1<b.size)(hx:∀j (hj:j<a.size),j<na->bW κ a[j] b[nb-1]):gk κ a b (out.push b[nb-1]) na (nb-1):=by refine⟨?_,h.la,∅⟩;rw[wq];refine MS.stepB (by rw[Es,←Ff hn h.lb];exact h.ms) λu hu v hv=>?_;obtain⟨j,hj,f_,rfl⟩:=sQ h.la (rV.mp hv);rw[iq.mp hu];exact uJ (hx j hj f_)
theorem gk.extA{p:Nat}(h:gk κ a b out na nb)(hp:p<=na)(hx:∀i (hi:i<a.size),p<=i->i<na->∀j (hj:j<b.size),j<nb->bW κ b[j] a[i]):gk κ a b (out++(a.extract p na).reverse) p nb:=by refine⟨?_,dj hp h.la,h.lb⟩;rw[iM,Array.toList_reverse];refine MS.stepA (by rw[←K5,←Jg _ _ _ hp];exact h.ms) λu hu v hv=>?_;obtain⟨j,hj,f_,rfl⟩:=sQ h.lb (rV.mp hv);obtain⟨i,hi,h1,h2,rfl⟩:=Cf h.la (rV.mp hu);exact uJ (hx i hi h1 h2 j hj f_)
theorem gk.extB{p:Nat}(h:gk κ a b out na nb)(hp:p<=nb)(hx:∀i (hi:i<b.size),p<=i->i<nb->∀j (hj:j<a.size),j<na->bW κ a[j] b[i]):gk κ a b (out++(b.extract p nb).reverse) na p:=by refine⟨?_,h.la,dj hp h.lb⟩;rw[iM,Array.toList_reverse];refine MS.stepB (by rw[←K5,←Jg _ _ _ hp];exact h.ms) λu hu v hv=>?_;obtain⟨j,hj,f_,rfl⟩:=sQ h.la (rV.mp hv);obtain⟨i,hi,h1,h2,rfl⟩:=Cf h.lb (rV.mp hu);exact uJ (hx i hi h1 h2 j hj f_)
theorem AU{T:List Keyed}{r q:Array Keyed}(h:ik (CK κ) T q)(e:r.toList=q.toList.reverse):ik κ T r:=by refine⟨by rw[e];exact(K6 _).trans h.1,?_⟩;rw[e,K7];exact h.2
theorem gk.doneA(h:gk κ a b out na nb)(e:na=0):ik κ (a.toList++b.toList) (a.extract 0 na++b.extract 0 nb++out.reverse):=by have:=h.ms;rw[e,Ej,List.reverse_nil]at this;refine AU (q:=(out.toList++(b.toList.take nb).reverse).toArray) (this.swap.endA (by simp)) ?_;rw[iM,iM,qU,qU,e];simp
theorem gk.doneB(h:gk κ a b out na nb)(e:nb=0):ik κ (a.toList++b.toList) (a.extract 0 na++b.extract 0 nb++out.reverse):=by have:=h.ms;rw[e,Ej,List.reverse_nil]at this;refine AU (q:=(out.toList++(a.toList.take na).reverse).toArray) (this.endA (by simp)) ?_;rw[iM,iM,qU,qU,e];simp
theorem gk.first(h:gk κ a b out na nb)(e:nb=1)(hf:∀j (hj:j<a.size),bW κ (b[0]'(by have:=h.lb;lia)) a[j]):ik κ (a.toList++b.toList) (b.extract 0 nb++a.extract 0 na++out.reverse):=by
 refine AU (q:=(out.toList++((a.toList.take na).reverse++(b.toList.take nb).reverse)).toArray) (h.ms.swap.last (λu hu v hv=>?_) (by simp)) ?_
 ·obtain⟨i,hi,h1,rfl⟩:=sQ h.la (rV.mp hu);obtain⟨j,hj,h2,rfl⟩:=sQ h.lb (rV.mp hv);have:j=0:=∅
  subst this;exact uJ (hf i hi)
 ·rw[iM,iM,qU,qU];simp
end
section
variable{prog:aZ}{w:aT}{A:bd}{E:ak->aq->Prop}{s:aq}{κ:KeyKind}
theorem O0(hO:κ.OneLt){st:bY}(hk:SB st){a b:Array Keyed}{Q:Array Keyed->bY->Prop}(ha:0<a.size)(hb:0<b.size)(hA:∀i (hi:i<a.size),iC κ a[i]) (hB:∀i (hi:i<b.size),iC κ b[i]) (sa:vk κ a) (sb:vk κ b)(h0:bW κ b[0] a[0]) (hl:∀j (hj:j<b.size),bW κ b[j] a[a.size-1])(h:∀r aG,ig st aG->ik κ (a.toList++b.toList) r->Q r aG):wpS (aB prog w) A E s (IL a b) Q st:=by
 have jx:∀{i j:Nat} (b9:i<=j) (hj:j<b.size),bW κ (b[i]'∅) b[j]:=λ{i j} b9 hj=>sb i j hj b9;have sh:∀{i j:Nat} (b9:i<=j) (hj:j<a.size),bW κ (a[i]'∅) a[j]:=λ{i j} b9 hj=>sa i j hj b9;have hf:∀j (hj:j<a.size),bW κ b[0] a[j]:=λj hj=>h0.trans (sh ∅ hj);have I0:gk κ a b #[a[a.size-1]] (a.size-1) b.size:=by
  have h1:gk κ a b #[] a.size b.size:=by
   refine⟨⟨?_,by simp,?_,?_,by simp,by simp⟩,∅,∅⟩
   ·simp only[←iI,Aj,i5];exact List.Perm.append (K6 _) (K6 _)
   ·simp only[←iI,Aj,K7];exact sa.pw
   ·simp only[←iI,Aj,K7];exact sb.pw
  exact h1.pushA ha ∅ λj hj _=>hl j hj
 unfold IL;refine aR (ug (lr ⟨rfl,?_⟩));refine aR (fQ ∅ ?_);refine cW (λe1=>aY (h _ _ .rfl (I0.doneA (by simpa using e1)))) λe1=>?_;have ko:a.size-1≠0:=by simpa using e1
 refine cW (λe2=>?_) λe2=>?_
 ·have mB:b.size=1:=by simpa using e2
  exact aY (h _ _ .rfl (I0.first mB hf))
 have mB:b.size≠1:=by simpa using e2
 refine aR (mr ?_);refine aR (ir (iu (I:=λx c aG=>ig st aG/\∃out na nb mg,c=(ae,na,nb,out,mg)/\gk κ a b out na nb/\0<na/\na<=a.size/\1<nb/\nb<=b.size/\x+1+na+nb<=a.size+b.size) (Q:=λc aG=>ig st aG/\∃r,c.1=aa r/\ik κ (a.toList++b.toList) r) ?_ ?_ ?_) ?_);rotate_left
 ·rintro c aG ⟨_,out,na,nb,mg,rfl,hI,h1,i6,h2,i7,h3⟩;lia
 ·exact⟨.rfl,_,_,_,_,rfl,I0,∅,∅,∅,∅,∅⟩
 ·rintro⟨c1,c⟩ aG ⟨hS,r,rfl,hD⟩;exact aY (h r aG hS hD)
 rintro x c aG _ hx ⟨hS,out,na,nb,mg,rfl,hI,h1,i6,h2,i7,h3⟩;refine aR (ir (iu (I:=λy c cM=>cM=aG/\∃out na nb ac bc,c=(ae,na,nb,out,ac,bc)/\gk κ a b out na nb/\0<na/\na<=a.size/\1<nb/\nb<=b.size/\x+1+y+na+nb<=a.size+b.size) (Q:=λc cM=>cM=aG/\((∃r c',c=(aa r,c')/\ik κ (a.toList++b.toList) r)\/∃out na nb ac bc,c=(ae,na,nb,out,ac,bc)/\gk κ a b out na nb/\0<na/\na<=a.size/\1<nb/\nb<=b.size/\x+1+1+na+nb<=a.size+b.size)) ?_ ?_ ?_) ?_)
 ·rintro y c cM _ hy ⟨rfl,out,na,nb,ac,bc,rfl,hI,h1,i6,h2,i7,h3⟩;dsimp only;refine aR (fQ ∅ (aR (fQ ∅ (aR (vY hO (hS.sb hk) (hB (nb-1) ∅) (hA (na-1) ∅) ?_)))));cases e:κ.blt (kO κ (b[nb-1]'∅)) (kO κ (a[na-1]'∅))with
  |true=>
   dsimp only;rw[if_pos rfl];refine aR (fQ ∅ ?_);have mD:=hI.pushA h1 ∅ λj hj f_=>bW.trans (jx (show j<=nb-1 by lia) ∅) (mv e);refine cW (λe3=>?_) λe3=>?_
   ·exact aY ⟨rfl,.inl ⟨_,_,rfl,mD.doneA (by simpa using e3)⟩⟩
   have qD:na-1≠0:=by simpa using e3
   refine cW (λe4=>?_) λe4=>?_
   ·exact aY ⟨rfl,.inr ⟨_,_,_,_,_,rfl,mD,∅,∅,∅,∅,∅⟩⟩
   ·exact aY ⟨rfl,_,_,_,_,_,rfl,mD,∅,∅,∅,∅,∅⟩
  |false=>
   dsimp only;rw[if_neg (by simp)];refine aR (fQ ∅ ?_);have mD:=hI.pushB ∅ ∅ λj hj f_=>bW.trans (sh (show j<=na-1 by lia) ∅) (show bW κ (a[na-1]'∅) (b[nb-1]'∅)from e);refine cW (λe3=>?_) λe3=>?_
   ·exact aY ⟨rfl,.inl ⟨_,_,rfl,mD.first (by simpa using e3) hf⟩⟩
   have qD:nb-1≠1:=by simpa using e3
   refine cW (λe4=>?_) λe4=>?_
   ·exact aY ⟨rfl,.inr ⟨_,_,_,_,_,rfl,mD,∅,∅,∅,∅,∅⟩⟩
   ·exact aY ⟨rfl,_,_,_,_,_,rfl,mD,∅,∅,∅,∅,∅⟩
 ·rintro c cM ⟨rfl,out,na,nb,ac,bc,rfl,hI,h1,i6,h2,i7,h3⟩;lia
 ·exact⟨rfl,_,_,_,_,_,rfl,hI,h1,i6,h2,i7,∅⟩
 rintro c cM ⟨rfl,⟨r,c',rfl,hD⟩|⟨out,na,nb,ac,bc,rfl,hI,h1,i6,h2,i7,h3⟩⟩
 ·exact aY ⟨hS,r,rfl,hD⟩
 refine aR (ug (lr ⟨rfl,?_⟩));refine aR (ir (iu (I:=λy c cM=>ig st cM/\∃out na nb mg ac bc,c=(ae,na,nb,out,mg,ac,bc)/\gk κ a b out na nb/\0<na/\na<=a.size/\1<nb/\nb<=b.size/\x+2+y+na+nb<=a.size+b.size) (Q:=λc cM=>ig st cM/\((∃r c',c=(aa r,c')/\ik κ (a.toList++b.toList) r)\/∃out na nb mg ac bc,c=(ae,na,nb,out,mg,ac,bc)/\gk κ a b out na nb/\0<na/\na<=a.size/\1<nb/\nb<=b.size/\x+1+1+na+nb<=a.size+b.size)) ?_ ?_ ?_) ?_);rotate_left
 ·rintro c cM ⟨_,out,na,nb,mg,ac,bc,rfl,hI,h1,i6,h2,i7,h3⟩;lia
 ·exact⟨hS,_,_,_,_,_,_,rfl,hI,h1,i6,h2,i7,∅⟩
 ·rintro c cM ⟨hS,⟨r,c',rfl,hD⟩|⟨out,na,nb,mg,ac,bc,rfl,hI,h1,i6,h2,i7,h3⟩⟩
  ·exact aY ⟨hS,r,rfl,hD⟩
  ·dsimp only;exact aR (BC hS λbP gH=>aY ⟨gH,_,_,_,_,rfl,hI,h1,i6,h2,i7,∅⟩)
 clear h1 i6 h2 i7 h3 hI hS I0 e1 e2;rintro y c cM _ hy ⟨hS,out,na,nb,mg,ac,bc,rfl,hI,h1,i6,h2,i7,h3⟩;clear hx hy;refine(?_:wpS (aB prog w) A E s _ ?Q _);extract_lets -merge x1 x2 x3 x4 x5 x6 x7 x8 x9 xa xb xc jp;have hj:∀g bP,ig st bP->wpS (aB prog w) A E s (jp () g) ?Q bP:=by
  intro g bP gH;dsimp -zeta only[jp,x1,x2,x3,x4,x5,x6,x7,x8,x9,xa,xb,xc];refine aR (BC gH λbP gH=>?_);refine aR (fQ ∅ ?_);refine aR (CL hO (gH.sb hk) (base:=0) (n:=na) (hint:=na-1) (hB (nb-1) ∅) ∅ hA (λi j b9 hj _=>sh b9 ∅) ∅ λp o4 eE gI=>?_);dsimp -zeta only;extract_lets -merge y1 y2 jp2;have xk:∀n o,gk κ a b o n nb->0<n->n<=p->wpS (aB prog w) A E s (jp2 () n o) ?Q bP:=by
   intro n o xl qD e4;dsimp -zeta only[jp2,y1,y2];refine aR (fQ ∅ ?_);have hI3:=xl.pushB ∅ ∅ λj hj g=>eE j hj ∅ ∅;refine cW (λe5=>?_) λe5=>?_
   ·exact aY ⟨gH,.inl ⟨_,_,rfl,hI3.first (by simpa using e5) hf⟩⟩
   have e5':nb-1≠1:=by simpa using e5
   refine aR (fQ ∅ ?_);refine aR (Ca hO (gH.sb hk) (base:=0) (n:=nb-1) (hint:=nb-1-1) (hA _ _) ∅ hB (λi j b9 hj _=>jx b9 ∅) ∅ λp' m1 m2 m3=>?_);dsimp -zeta only;extract_lets -merge z1 z2 z3 jp3;have xm:∀m o,gk κ a b o n m->1<m->m<=p'->wpS (aB prog w) A E s (jp3 () m o) ?Q bP:=by
    intro m o xn e6 e7;dsimp -zeta only[jp3,z1,z2,z3];refine aR (fQ ∅ ?_);have xo:=xn.pushA ∅ ∅ (λj hj g=>mv (m2 j hj ∅ ∅));refine cW (λe7=>?_) λe7=>?_
    ·exact aY ⟨gH,.inl ⟨_,_,rfl,xo.doneA (by simpa using e7)⟩⟩
    have e7':n-1≠0:=by simpa using e7
    refine cW (λe8=>?_) λe8=>?_
    ·exact aY ⟨gH,.inr ⟨_,_,_,_,_,_,rfl,xo,∅,∅,∅,∅,∅⟩⟩
    ·exact aY ⟨gH,_,_,_,_,_,_,rfl,xo,∅,∅,∅,∅,∅⟩
   clear_value jp3;refine cW (λEV=>?_) (λEV=>?_)
   ·have xn:=hI3.extB (p:=p') ∅ (λi hi g1 g2 j hj g3=>bW.trans (sh (show j<=n-1 by lia) ∅) (m3 i hi ∅ ∅));refine cW (λe6=>?_) λe6=>?_
    ·exact aY ⟨gH,.inl ⟨_,_,rfl,xn.first (by simpa using e6) hf⟩⟩
    refine cW (λe9=>?_) λe9=>?_
    ·exact aY ⟨gH,.inl ⟨_,_,rfl,xn.doneB (by simpa using e9)⟩⟩
    have e6':p'≠1:=by simpa using e6
    have e9':p'≠0:=by simpa using e9
    exact xm _ _ xn ∅ ∅
   ·exact xm _ _ hI3 ∅ ∅
  clear_value jp2;refine cW (λhk0=>?_) (λhk0=>?_)
  ·have xl:gk κ a b (out++(a.extract p na).reverse) p nb:=hI.extA ∅ λi hi g1 g2 j hj g3=>bW.trans (jx (show j<=nb-1 by lia) ∅) (mv (gI i hi ∅ ∅));refine cW (λe3=>?_) λe3=>?_
   ·exact aY ⟨gH,.inl ⟨_,_,rfl,xl.doneA (by simpa using e3)⟩⟩
   have qD:p≠0:=by simpa using e3
   exact xk _ _ xl ∅ ∅
  ·exact xk _ _ hI ∅ ∅
 exact cW (λ_=>hj _ _ hS) λ_=>hj _ _ hS
end
def putL(a:Array Keyed)(lo:Nat)(l:List Keyed):Array Keyed:=l.zipIdx.foldl (λa (pj:Keyed×Nat)=>a.setIfInBounds (lo+pj.2) pj.1) a
theorem Be:∀(l:List Keyed) (n lo:Nat) (a:Array Keyed),lo+n+l.length<=a.size -> ((l.zipIdx n).foldl (λa (pj:Keyed×Nat)=>a.setIfInBounds (lo+pj.2) pj.1) a).size=a.size /\ ∀k,((l.zipIdx n).foldl (λa (pj:Keyed×Nat)=>a.setIfInBounds (lo+pj.2) pj.1) a)[k]?=if lo+n<=k/\k<lo+n+l.length then l[k-(lo+n)]? else a[k]?
 |[],n,lo,a,_=>⟨rfl,λk=>by rw[if_neg (by simp)];rfl⟩
 |x::l,n,lo,a,h=>by
  have h':lo+(n+1)+l.length<=(a.setIfInBounds (lo+n) x).size:=by simp at h ⊢;lia
  obtain⟨e1,e2⟩:=Be l (n+1) lo (a.setIfInBounds (lo+n) x) h';rw[List.zipIdx_cons,jt];refine⟨by rw[e1];simp,λk=>?_⟩;rw[e2];by_cases h1:lo+n=k
  ·subst h1;rw[if_neg ∅,if_pos (by simp)];rw[Array.getElem?_setIfInBounds_self_of_lt (by simp at h;lia)];simp
  ·by_cases h2:lo+(n+1)<=k/\k<lo+(n+1)+l.length
   ·rw[if_pos h2,if_pos (by simp;lia)];rw[show k-(lo+n)=k-(lo+(n+1))+1 by lia,List.getElem?_cons_succ]
   ·rw[if_neg h2,if_neg (by simp;lia),Array.getElem?_setIfInBounds_ne h1]
theorem NS{a:Array Keyed}{lo:Nat}{l:List Keyed}(h:lo+l.length<=a.size):(putL a lo l).size=a.size:=(Be l 0 lo a ∅).1
theorem Co{a:Array Keyed}{lo:Nat}{l:List Keyed}(h:lo+l.length<=a.size)(k:Nat):(putL a lo l)[k]?=if lo<=k/\k<lo+l.length then l[k-lo]? else a[k]? :=(Be l 0 lo a ∅).2 k
theorem Tn{a:Array Keyed}{lo n:Nat}{l:List Keyed}(h:lo+n<=a.size)(hp:l.Perm ((a.toList.drop lo).take n)):(putL a lo l).toList.Perm a.toList:=by
 have hl:l.length=n:=by rw[hp.length_eq,jN,ki];simp;lia
 have e:(putL a lo l).toList=a.toList.take lo++(l++a.toList.drop (lo+n)):=by
  apply lv;intro k;rw[Ei,Co ∅,List.getElem?_append,List.getElem?_append,jN,jS,kJ,hl];simp only[iI,Ei];rw[show min lo a.size=lo by lia];by_cases h1:k<lo
  ·rw[if_neg ∅,if_pos h1,if_pos h1]
  ·rw[if_neg h1];by_cases h2:k<lo+n
   ·rw[if_pos ∅,if_pos ∅]
   ·rw[if_neg ∅,if_neg ∅];congr 1;lia
 rw[e];have e2:a.toList=a.toList.take lo++((a.toList.drop lo).take n++a.toList.drop (lo+n)):=by rw[←List.drop_drop,wB,wB]
 conv=>rhs;rw[e2]
 exact KP _ (List.Perm.append_right _ hp)
section
variable{κ:KeyKind}
def Run(κ:KeyKind)(a:Array Keyed)(lo n:Nat):Prop:=∀i j x y,lo<=i->i<=j->j<lo+n->a[i]?=aa x->a[j]?=aa y->bW κ x y
theorem bW.refl(x:Keyed):bW κ x x:=oQ _
structure Wr(a a':Array Keyed)(lo n:Nat):Prop where
 perm:a'.toList.Perm a.toList
 size:a'.size=a.size
 out:∀k,k<lo\/lo+n<=k->a'[k]?=a[k]?
theorem Run.keep{a a':Array Keyed}{lo n lo' n':Nat}(h:Run κ a lo n)(w:Wr a a' lo' n')(d:lo+n<=lo'\/lo'+n'<=lo):Run κ a' lo n:=by intro i j x y h1 h2 h3 hx hy;rw[w.out i ∅]at hx;rw[w.out j ∅]at hy;exact h i j x y h1 h2 h3 hx hy
end
section
variable{prog:aZ}{w:aT}{A:bd}{E:ak->aq->Prop}{s:aq}{κ:KeyKind}
theorem UK{Y:Type}{M:Model}{Q:PUnit->Y->Prop}{st aG:Y}(h:Q ⟨⟩ aG):wpS M A E s (set aG:StateT Y Sem PUnit) Q st:=by unfold wpS;rw[StateT.run_set];exact aF ⟨rfl,h⟩
theorem WL(a:Array Keyed){p q t:Nat}(h1:p<=q)(h2:q<=t):(a.extract p q).toList++(a.extract q t).toList=(a.extract p t).toList:=by rw[l0,l0,l0,show t-p=(q-p)+(t-q) by lia,List.take_add,List.drop_drop,show p+(q-p)=q by lia]
theorem VR{arr:Array Keyed}{sa na nb k nb':Nat}(hsz:sa+na+nb<=arr.size)(hk:k<na)(h0:0<nb')(hnb:nb'<=nb)(r1:Run κ arr sa na)(r2:Run κ arr (sa+na) nb)(a1:∀i (hi:i<arr.size),sa<=i->i<sa+k->bW κ arr[i] (arr[sa+na]'∅)) (b2:∀i (hi:i<arr.size),sa+na+nb'<=i->i<sa+na+nb->bW κ (arr[sa+na-1]'∅) arr[i]){r:Array Keyed} (hD:ik κ ((arr.extract (sa+k) (sa+na)).toList++(arr.extract (sa+na) (sa+na+nb')).toList) r):Wr arr (putL arr (sa+k) r.toList) sa (na+nb)/\Run κ (putL arr (sa+k) r.toList) sa (na+nb):=by
 rw[WL _ ∅ ∅]at hD;have cg:r.toList.length=na-k+nb':=by rw[hD.1.length_eq,l0,jN,ki,iI];lia
 have hb:sa+k+r.toList.length<=arr.size:=∅
 have hm:∀m∈r.toList,∃t,∃ht:t<arr.size,sa+k<=t/\t<sa+na+nb'/\arr[t]=m:=λm hm=>Cf ∅ (hD.1.mem_iff.mp hm);have g1:∀{i j:Nat} (b9:i<=j) (hj:j<sa+na),sa<=i->bW κ (arr[i]'∅) (arr[j]'∅):=λ{i j} b9 hj hi=>r1 i j _ _ hi b9 hj (getElem?_pos _ _ _) (getElem?_pos _ _ _);have g2:∀{i j:Nat} (b9:i<=j) (hj:j<sa+na+nb),sa+na<=i->bW κ (arr[i]'∅) (arr[j]'∅):=λ{i j} b9 hj hi=>r2 i j _ _ hi b9 hj (getElem?_pos _ _ _) (getElem?_pos _ _ _);have pS:∀i (hi:i<arr.size) j (hj:j<arr.size),sa<=i->i<sa+k->sa+na<=j->j<sa+na+nb->bW κ arr[i] arr[j]:=λi hi j hj c1 c2 c3 c4=>(a1 i hi c1 c2).trans (g2 c3 c4 (bn _));refine⟨⟨?_,NS hb,λq hq=>?_⟩,?_⟩
 ·refine Tn (n:=na-k+nb') ∅ ?_;have:=hD.1;rwa[l0,show sa+na+nb'-(sa+k)=na-k+nb' by lia]at this
 ·rw[Co hb,if_neg ∅]
 ·intro i j x y h1 h2 h3 hx hy;rw[Co hb]at hx hy;by_cases ci:sa+k<=i/\i<sa+k+r.toList.length
  ·rw[if_pos ci]at hx;obtain⟨t,ht,t1,t2,rfl⟩:=hm x (zS hx);by_cases cj:sa+k<=j/\j<sa+k+r.toList.length
   ·rw[if_pos cj]at hy;by_cases eij:i=j
    ·subst eij;rw[hx]at hy;cases hy;exact bW.refl _
    ·obtain⟨u1,u2⟩:=d9.mp hx;obtain⟨v1,v2⟩:=d9.mp hy;have:=List.pairwise_iff_getElem.mp hD.2 (i-(sa+k)) (j-(sa+k)) u1 v1 ∅;rw[u2,v2]at this;exact this
   ·rw[if_neg cj]at hy;obtain⟨hj,rfl⟩:=qf.mp hy;by_cases ct:t<sa+na
    ·exact(g1 (show t<=sa+na-1 by lia) ∅ ∅).trans (b2 j hj ∅ ∅)
    ·exact g2 ∅ ∅ ∅
  ·rw[if_neg ci]at hx;obtain⟨hi,rfl⟩:=qf.mp hx;by_cases cj:sa+k<=j/\j<sa+k+r.toList.length
   ·rw[if_pos cj]at hy;obtain⟨t,ht,t1,t2,rfl⟩:=hm y (zS hy);by_cases ct:t<sa+na
    ·exact g1 ∅ ct ∅
    ·exact pS i hi t ht ∅ ∅ ∅ ∅
   ·rw[if_neg cj]at hy;obtain⟨hj,rfl⟩:=qf.mp hy;by_cases c2:i<sa+k
    ·by_cases c3:j<sa+k
     ·exact g1 h2 ∅ h1
     ·exact pS i hi j hj ∅ c2 ∅ ∅
    ·exact g2 h2 ∅ ∅
theorem Fy{arr:Array Keyed}{sa na nb:Nat}(hsz:sa+na+nb<=arr.size)(hna:0<na)(hnb:0<nb)(r1:Run κ arr sa na)(r2:Run κ arr (sa+na) nb)(hj:bW κ (arr[sa+na-1]'∅) (arr[sa+na]'∅)):Run κ arr sa (na+nb):=by
 intro i j x y h1 h2 h3 hx hy;by_cases c1:j<sa+na
 ·exact r1 i j x y h1 h2 c1 hx hy
 ·by_cases c2:i<sa+na
  ·exact((r1 i (sa+na-1) x _ h1 ∅ ∅ hx (getElem?_pos _ _ _)).trans hj).trans (r2 (sa+na) j _ y ∅ ∅ ∅ (getElem?_pos _ _ _) hy)
  ·exact r2 i j x y ∅ h2 ∅ hx hy
theorem Wr.same{a:Array Keyed}{lo n:Nat}:Wr a a lo n:=⟨nD _,rfl,λ_ _=>rfl⟩
theorem Th(hO:κ.OneLt){st:bY}(hk:SB st)(hA:∀i (hi:i<(arrOf st).size),iC κ (arrOf st)[i]){i sa na pw nb pw':Nat}(p1:(bE st)[i]?=aa (sa,na,pw)) (p2:(bE st)[i+1]?=aa (sa+na,nb,pw')) (hna:0<na) (hnb:0<nb) (hsz:sa+na+nb<=(arrOf st).size)(r1:Run κ (arrOf st) sa na) (r2:Run κ (arrOf st) (sa+na) nb) {Q:Bool->bY->Prop}(h:∀aG,SB aG->bE aG=((bE st).setIfInBounds i (sa,na+nb,pw)).eraseIdxIfInBounds (i+1)->Wr (arrOf st) (arrOf aG) sa (na+nb)->Run κ (arrOf aG) sa (na+nb)->Q ai aG):wpS (aB prog w) A E s (mergeAt' i) Q st:=by
 obtain⟨kd,arr,pd,mg,fl⟩:=st;have hkd:kd=oneType':=hk.kind;have nJ:fl=ae:=hk.failed;subst hkd nJ;replace hA:∀i (hi:i<arr.size),iC κ arr[i]:=hA;replace hsz:sa+na+nb<=arr.size:=hsz;replace r1:Run κ arr sa na:=r1;replace r2:Run κ arr (sa+na) nb:=r2;replace p1:pd[i]?=aa (sa,na,pw):=p1;replace p2:pd[i+1]?=aa (sa+na,nb,pw'):=p2;replace h:∀aG,SB aG->bE aG=(pd.setIfInBounds i (sa,na+nb,pw)).eraseIdxIfInBounds (i+1)->Wr arr (arrOf aG) sa (na+nb)->Run κ (arrOf aG) sa (na+nb)->Q ai aG:=h;have g1:∀{i j:Nat} (b9:i<=j) (hj:j<sa+na),sa<=i->bW κ (arr[i]'∅) (arr[j]'∅):=λ{i j} b9 hj hi=>r1 i j _ _ hi b9 hj (getElem?_pos _ _ _) (getElem?_pos _ _ _);have g2:∀{i j:Nat} (b9:i<=j) (hj:j<sa+na+nb),sa+na<=i->bW κ (arr[i]'∅) (arr[j]'∅):=λ{i j} b9 hj hi=>r2 i j _ _ hi b9 hj (getElem?_pos _ _ _) (getElem?_pos _ _ _);unfold mergeAt';refine aR (mr ?_);dsimp only;rw[p1,p2];dsimp only;refine aR (UK ?_);generalize (pd.setIfInBounds i (sa,na+nb,pw)).eraseIdxIfInBounds (i+1)=pend at *;refine aR (fQ ∅ ?_);refine aR (CL hO ⟨rfl,rfl⟩ (base:=sa) (n:=na) (hint:=0) (hA _ _) ∅ hA (λi j b9 hj hi=>g1 b9 hj hi) hna λk m1 m2 m3=>?_);dsimp only;refine cW (λe1=>?_) λe1=>?_
 ·have ko:na<=k:=by have:na-k=0:=(by simpa using e1);lia
  refine aY (h _ ⟨rfl,rfl⟩ rfl Wr.same (Fy hsz hna hnb r1 r2 (m2 _ _ ∅ ∅)))
 have ko:k<na:=by have:na-k≠0:=(by simpa using e1);lia
 refine aR (fQ ∅ ?_);refine aR (Ca hO ⟨rfl,rfl⟩ (base:=sa+na) (n:=nb) (hint:=nb-1) (hA _ _) ∅ hA (λi j b9 hj hi=>g2 b9 hj hi) ∅ λnb' n1 n2 n3=>?_);dsimp only;have hidx:sa+k+(na-k)-1=sa+na-1:=∅
 simp only[hidx]at n2 n3;refine cW (λe2=>?_) λe2=>?_
 ·have mB:nb'=0:=by simpa using e2
  refine aY (h _ ⟨rfl,rfl⟩ rfl Wr.same (Fy hsz hna hnb r1 r2 (n3 _ _ ∅ ∅)))
 have mB:nb'≠0:=by simpa using e2
 have xs:(arr.extract (sa+k) (sa+na)).size=na-k:=by simp;lia
 have ys:(arr.extract (sa+na) (sa+na+nb')).size=nb':=by simp;lia
 refine cW (λ_=>?_) λ_=>?_
 all_goals
  first
   |refine aR (Tl hO ⟨rfl,rfl⟩ ∅ ∅ ?_ ?_ ?_ ?_ ?_ ?_ ?_)
   |refine aR (O0 hO ⟨rfl,rfl⟩ ∅ ∅ ?_ ?_ ?_ ?_ ?_ ?_ ?_)
  ·intro j hj;rw[oR];exact hA _ _
  ·intro j hj;rw[oR];exact hA _ _
  ·intro i j hj b9;rw[oR,oR];exact g1 ∅ ∅ ∅
  ·intro i j hj b9;rw[oR,oR];exact g2 ∅ ∅ ∅
  ·rw[oR,oR];exact mv (m3 _ _ ∅ ∅)
  ·intro j hj;rw[oR,oR];have:=n2 (sa+na+j) ∅ ∅ ∅;have e:sa+k+((arr.extract (sa+k) (sa+na)).size-1)=sa+na-1:=∅
   simp only[e];exact mv this
  ·rintro r ⟨kd',arr',pd',mg',fl'⟩ ⟨c1,c2,c3,c4⟩ hD;change kd'=oneType' at c1;change arr'=arr at c2;change pd'=pend at c3;change fl'=ae at c4;subst c1 c2 c3 c4;refine aR (oP ?_);refine aR (mr ?_);obtain⟨w1,w2⟩:=VR hsz ko ∅ n1 r1 r2 (λi hi c1 c2=>m2 i hi c1 c2) (λi hi c1 c2=>n3 i hi c1 c2) hD;exact aY (h _ ⟨rfl,rfl⟩ rfl w1 w2)
end
section
variable{κ:KeyKind}
theorem Bs{a:Array Keyed}{i:Nat}{x:Keyed}(h:a[i]?=aa x):KK κ a i=kO κ x:=by unfold KK kO;rw[h]
theorem y4{a:Array Keyed}{i:Nat}(h:i<a.size):KK κ a i=kO κ a[i]:=Bs (getElem?_pos _ _ _)
def iP(κ:KeyKind)(a:Array Keyed)(lo n:Nat):Prop:=∀i j,lo<=i->i<=j->j<lo+n->κ.kle (KK κ a i) (KK κ a j)
def pf(κ:KeyKind)(a:Array Keyed)(lo n:Nat):Prop:=∀i j,lo<=i->i<=j->j<lo+n->κ.kle (KK κ a j) (KK κ a i)
theorem iP.run{a:Array Keyed}{lo n:Nat}(h:iP κ a lo n):Run κ a lo n:=by intro i j x y h1 h2 h3 hx hy;have:=h i j h1 h2 h3;rw[Bs hx,Bs hy]at this;exact this
theorem Wr.trans{a b c:Array Keyed}{lo n:Nat}(h1:Wr a b lo n)(h2:Wr b c lo n):Wr a c lo n :=⟨h2.perm.trans h1.perm,h2.size.trans h1.size,λk hk=>(h2.out k hk).trans (h1.out k hk)⟩
theorem Wr.mono{a b:Array Keyed}{lo n lo' n':Nat}(h:Wr a b lo n)(h1:lo'<=lo)(h2:lo+n<=lo'+n'):Wr a b lo' n' :=⟨h.perm,h.size,λk hk=>h.out k ∅⟩
theorem LW{a:Array Keyed}{i j:Nat}(hj:j<=a.size)(b9:i<=j):Wr a (mirror a i j ((j-i) / 2)) i (j-i) :=⟨K8.mp (mirror_perm _ _ _ _),mirror_size _ _ _ _,λk hk=>by rw[getElem?_mirror_all hj,if_neg ∅]⟩
theorem QE{a:Array Keyed}{XL d:Nat}(hs:XL<a.size)(hd:d<=XL):Wr a (bubble a XL d) (XL-d) (d+1) :=⟨K8.mp (bubble_perm _ _ _),bubble_size _ _ _,λk hk=>by rw[getElem?_bubble hs d hd,if_neg ∅,if_neg ∅]⟩
def AllK(κ:KeyKind)(a:Array Keyed):Prop:=∀i (hi:i<a.size),iC κ a[i]
theorem AllK.of{a b:Array Keyed}(h:AllK κ a)(p:b.toList.Perm a.toList):AllK κ b:=by intro i hi;have hm:b[i]∈a.toList:=p.mem_iff.mp (by simp);obtain⟨j,hj,e⟩:=Ak hm;rw[←e];simpa using h j (by simpa using hj)
end
section
variable{prog:aZ}{w:aT}{A:bd}{E:ak->aq->Prop}{s:aq}{κ:KeyKind}
theorem qM(hO:κ.OneLt){st:bY}(hk:SB st)(hA:AllK κ (arrOf st)){i j:Nat}{Q:Option Bool->bY->Prop}(hi:i<(arrOf st).size)(hj:j<(arrOf st).size)(h:Q (aa (κ.blt (KK κ (arrOf st) i) (KK κ (arrOf st) j))) st):wpS (aB prog w) A E s (ltAt' i j) Q st:=by rw[y4 hi,y4 hj]at h;rw[ltAt'_eq];refine aR (mr ?_);exact aR (fQ hi (aR (fQ hj (vY hO hk (hA i hi) (hA j hj) h))))
theorem vp{kn st:bY}{lo n i j:Nat}{Q:Unit->bY->Prop}(hk:SB st)(hp:bE st=bE kn)(hw:Wr (arrOf kn) (arrOf st) lo n)(b9:i<=j)(hj:j<=(arrOf kn).size)(c1:lo<=i)(c2:j<=lo+n)(h:∀bi,SB bi->bE bi=bE kn->Wr (arrOf kn) (arrOf bi) lo n->(∀k,KK κ (arrOf bi) k=if i<=k/\k<j then KK κ (arrOf st) (i+j-1-k)else KK κ (arrOf st) k)->Q () bi):wpS (aB prog w) A E s (reverseSlice' i j) Q st:=by
 have mE:j<=(arrOf st).size:=by rw[hw.size];exact hj
 exact wpS_reverse (h _ ⟨hk.kind,hk.failed⟩ hp (hw.trans ((LW mE b9).mono c1 ∅)) λk=>KK_mirror mE k)
theorem Wz{α:Type}{c:Prop}[Decidable c]{p1 p2:StateT bY Sem α}{Q:α->bY->Prop}{st:bY}{J:bY->Prop}(h2:¬c->J st)(key:∀bi,J bi->wpS (aB prog w) A E s p2 Q bi)(h1:c->(∀bi,J bi->wpS (aB prog w) A E s p2 Q bi)->wpS (aB prog w) A E s p1 Q st):wpS (aB prog w) A E s (if c then p1 else p2) Q st :=cW (λe=>h1 e key) λe=>key st (h2 e)
theorem Cb{a:Array Keyed}{lo x:Nat}(hr:iP κ a lo x)(h:1<=x)(e:κ.kle (KK κ a (lo+x-1)) (KK κ a (lo+x))):iP κ a lo (x+1):=λi j a1 a2 a3=>by
 by_cases hj:j<lo+x
 ·exact hr i j a1 a2 hj
 ·have mE:j=lo+x:=∅
  subst mE;by_cases hi:i=lo+x
  ·subst hi;exact oQ _
  ·exact wA (hr i (lo+x-1) a1 ∅ ∅) e
theorem Fq{a:Array Keyed}{lo x:Nat}(hr:pf κ a lo x)(h:1<=x)(e:κ.kle (KK κ a (lo+x)) (KK κ a (lo+x-1))):pf κ a lo (x+1):=λi j a1 a2 a3=>by
 by_cases hj:j<lo+x
 ·exact hr i j a1 a2 hj
 ·have mE:j=lo+x:=∅
  subst mE;by_cases hi:i=lo+x
  ·subst hi;exact oQ _
  ·exact wA e (hr i (lo+x-1) a1 ∅ ∅)
theorem PN{a:Array Keyed}{lo x neq:Nat}(he:∀i,lo+x-(neq+1)<=i->i<lo+x->KK κ a i=KK κ a (lo+x-1))(ex:KK κ a (lo+x)=KK κ a (lo+x-1)):∀i,lo+(x+1)-(neq+1+1)<=i->i<lo+(x+1)->KK κ a i=KK κ a (lo+(x+1)-1):=λi a1 a2=>by
 rw[show lo+(x+1)-1=lo+x by lia];by_cases hi:i=lo+x
 ·rw[hi]
 ·rw[he i ∅ ∅,ex]
theorem F_{a b:Array Keyed}{i j n:Nat}(nL:∀k,KK κ b k=if i<=k/\k<j then KK κ a (i+j-1-k)else KK κ a k)(he:∀k,i<=k->k<j->KK κ a k=KK κ a n):∀k,KK κ b k=KK κ a k:=λk=>by
 rw[nL];split
 ·rw[he _ ∅ ∅,he k ∅ ∅]
 ·rfl
theorem Na(hO:κ.OneLt){st:bY}(hk:SB st)(hA:AllK κ (arrOf st)){lo dz:Nat}(h1:1<=dz)(hsz:lo+dz<=(arrOf st).size){Q:Option Nat->bY->Prop}(h:∀n aG,SB aG->bE aG=bE st->Wr (arrOf st) (arrOf aG) lo dz->1<=n->n<=dz->iP κ (arrOf aG) lo n->Q (aa n) aG):wpS (aB prog w) A E s (countRun' lo dz) Q st:=by
 have one:iP κ (arrOf st) lo 1:=λi j a1 a2 a3=>by
  have:i=j:=∅
  subst this;exact oQ _
 have go:∀{cG:bY},Wr (arrOf st) (arrOf cG) lo dz->(arrOf cG).size=(arrOf st).size:=λw=>w.size;unfold countRun';refine aR (ir (iu (I:=λx c fe=>fe=st/\c=(ae,x)/\iP κ (arrOf st) lo x) (Q:=λc fe=>fe=st/\∃n,c=(ae,n)/\1<=n/\n<=dz/\iP κ (arrOf st) lo n/\(n=dz\/κ.klt (KK κ (arrOf st) (lo+n)) (KK κ (arrOf st) (lo+n-1)))) ?_ ?_ ?_) ?_)
 ·rintro x c fe qC nK ⟨rfl,rfl,hr⟩;dsimp only;refine aR (qM hO hk hA ∅ ∅ ?_);cases e:κ.blt (KK κ (arrOf fe) (lo+x)) (KK κ (arrOf fe) (lo+x-1))with
  |true=>exact aY ⟨rfl,x,rfl,∅,∅,hr,.inr e⟩
  |false=>exact aY ⟨rfl,rfl,Cb hr ∅ e⟩
 ·rintro c fe ⟨rfl,rfl,hr⟩;rw[show max 1 dz=dz by lia]at hr ⊢;exact⟨rfl,dz,rfl,∅,∅,hr,.inl rfl⟩
 ·exact⟨rfl,rfl,one⟩
 rintro c aG ⟨rfl,n,rfl,n1,n2,hr,hn⟩;dsimp only;refine cW (λe1=>aY (h n aG hk rfl Wr.same n1 n2 hr)) λe1=>?_;have ko:n≠dz:=by simpa using e1
 replace hn:κ.klt (KK κ (arrOf aG) (lo+n)) (KK κ (arrOf aG) (lo+n-1)):=hn.resolve_left ko;refine Wz (J:=λbi=>SB bi/\bE bi=bE aG/\Wr (arrOf aG) (arrOf bi) lo dz/\pf κ (arrOf bi) lo (n+1)) (λen=>⟨hk,rfl,Wr.same,λi j a1 a2 a3=>?_⟩) (λbi ⟨eE,fR,qE,hD⟩=>?_) λen key=>?_
 ·have en':n=1:=∅
  by_cases hi:i=j
  ·subst hi;exact oQ _
  ·have e1:i=lo+n-1:=∅
   have e2:j=lo+n:=∅
   rw[e1,e2];exact mv hn
 ·refine aR (ug (lr ⟨rfl,?_⟩));refine aR (ir (iu (I:=λx c bP=>∃neq,c=(ae,x,neq)/\SB bP/\bE bP=bE aG/\Wr (arrOf aG) (arrOf bP) lo dz/\pf κ (arrOf bP) lo x/\neq+1<=x/\(∀i,lo+x-(neq+1)<=i->i<lo+x->KK κ (arrOf bP) i=KK κ (arrOf bP) (lo+x-1))) (Q:=λc bP=>∃m neq,c=(ae,m,neq)/\SB bP/\bE bP=bE aG/\Wr (arrOf aG) (arrOf bP) lo dz/\1<=m/\m<=dz/\pf κ (arrOf bP) lo m/\neq+1<=m/\(∀i,lo+m-(neq+1)<=i->i<lo+m->KK κ (arrOf bP) i=KK κ (arrOf bP) (lo+m-1))) ?_ ?_ ?_) ?_)
  ·rintro x c bP qC nK ⟨neq,rfl,gI,gG,jy,hd,hq,he⟩;have sz3:=jy.size;dsimp only;refine aR (qM hO gI (hA.of jy.perm) ∅ ∅ ?_);cases e3:κ.blt (KK κ (arrOf bP) (lo+x)) (KK κ (arrOf bP) (lo+x-1))with
   |true=>
    have hd':pf κ (arrOf bP) lo (x+1):=Fq hd ∅ (mv e3);dsimp only;rw[if_pos rfl];refine cW (λEW=>?_) λEW=>?_
    ·refine aR (vp (κ:=κ) (lo:=lo) (n:=dz) gI gG jy ∅ ∅ ∅ ∅ λcm kN i9 xq EX=>?_);have wN:=F_ EX he;exact aY ⟨0,rfl,kN,i9,xq,λi j a1 a2 a3=>by rw[wN,wN];exact hd' i j a1 a2 a3,∅,λi a1 a2=>by congr 1;lia⟩
    ·exact aY ⟨0,rfl,gI,gG,jy,hd',∅,λi a1 a2=>by congr 1;lia⟩
   |false=>
    dsimp only;rw[if_neg (by simp)];refine aR (qM hO gI (hA.of jy.perm) ∅ ∅ ?_);cases e4:κ.blt (KK κ (arrOf bP) (lo+x-1)) (KK κ (arrOf bP) (lo+x))with
    |true=>exact aY ⟨x,neq,rfl,gI,gG,jy,∅,∅,hd,hq,he⟩
    |false=>have ex:KK κ (arrOf bP) (lo+x)=KK κ (arrOf bP) (lo+x-1):=KeyOrd.kle_antisymm e4 e3;exact aY ⟨neq+1,rfl,gI,gG,jy,Fq hd ∅ (by rw[ex];exact oQ _),∅,PN he ex⟩
  ·rintro c bP ⟨neq,rfl,gI,gG,jy,hd,hq,he⟩;rw[show max (n+1) dz=dz by lia]at hd hq he ⊢;exact⟨dz,neq,rfl,gI,gG,jy,∅,∅,hd,hq,he⟩
  ·exact⟨0,rfl,eE,fR,qE,hD,∅,λi a1 a2=>by congr 1;lia⟩
  rintro c bP ⟨m,neq,rfl,gI,gG,jy,m1,m2,hd,hq,he⟩;dsimp only;refine cW (λEW=>?_) λEW=>?_
  ·refine aR (vp (κ:=κ) (lo:=lo) (n:=dz) gI gG jy ∅ ∅ ∅ ∅ λcm kN i9 xq EX=>?_);have wN:=F_ EX he;have hd4:pf κ (arrOf cm) lo m:=λi j a1 a2 a3=>by rw[wN,wN];exact hd i j a1 a2 a3
   refine aR (vp (κ:=κ) (lo:=lo) (n:=dz) kN i9 xq ∅ ∅ ∅ ∅ λcG o5 hp5 sj wO=>?_);have hr5:iP κ (arrOf cG) lo m:=λi j a1 a2 a3=>by rw[wO,wO,if_pos ⟨a1,∅⟩,if_pos ⟨∅,a3⟩];exact hd4 _ _ ∅ ∅ ∅
   have sz5:=sj.size;refine aR (ir (iu (I:=λx c fe=>fe=cG/\c=(ae,x)/\iP κ (arrOf cG) lo x) (Q:=λc fe=>fe=cG/\∃n,c=(ae,n)/\1<=n/\n<=dz/\iP κ (arrOf cG) lo n/\(n=dz\/κ.klt (KK κ (arrOf cG) (lo+n)) (KK κ (arrOf cG) (lo+n-1)))) ?_ ?_ ?_) ?_)
   ·rintro x c fe qC nK ⟨rfl,rfl,hr⟩;dsimp only;refine aR (qM hO o5 (hA.of sj.perm) ∅ ∅ ?_);cases e:κ.blt (KK κ (arrOf fe) (lo+x)) (KK κ (arrOf fe) (lo+x-1))with
    |true=>exact aY ⟨rfl,x,rfl,∅,∅,hr,.inr e⟩
    |false=>exact aY ⟨rfl,rfl,Cb hr ∅ e⟩
   ·rintro c fe ⟨rfl,rfl,hr⟩;rw[show max m dz=dz by lia]at hr ⊢;exact⟨rfl,dz,rfl,∅,∅,hr,.inl rfl⟩
   ·exact⟨rfl,rfl,hr5⟩
   rintro c fe ⟨rfl,q,rfl,q1,q2,hrq,_⟩;exact aY (h q fe o5 hp5 sj q1 q2 hrq)
  ·have kN:=gI;have i9:=gG;have xq:=jy;have hd4:=hd;refine aR (vp (κ:=κ) (lo:=lo) (n:=dz) kN i9 xq ∅ ∅ ∅ ∅ λcG o5 hp5 sj wO=>?_);have hr5:iP κ (arrOf cG) lo m:=λi j a1 a2 a3=>by rw[wO,wO,if_pos ⟨a1,∅⟩,if_pos ⟨∅,a3⟩];exact hd4 _ _ ∅ ∅ ∅
   have sz5:=sj.size;refine aR (ir (iu (I:=λx c fe=>fe=cG/\c=(ae,x)/\iP κ (arrOf cG) lo x) (Q:=λc fe=>fe=cG/\∃n,c=(ae,n)/\1<=n/\n<=dz/\iP κ (arrOf cG) lo n/\(n=dz\/κ.klt (KK κ (arrOf cG) (lo+n)) (KK κ (arrOf cG) (lo+n-1)))) ?_ ?_ ?_) ?_)
   ·rintro x c fe qC nK ⟨rfl,rfl,hr⟩;dsimp only;refine aR (qM hO o5 (hA.of sj.perm) ∅ ∅ ?_);cases e:κ.blt (KK κ (arrOf fe) (lo+x)) (KK κ (arrOf fe) (lo+x-1))with
    |true=>exact aY ⟨rfl,x,rfl,∅,∅,hr,.inr e⟩
    |false=>exact aY ⟨rfl,rfl,Cb hr ∅ e⟩
   ·rintro c fe ⟨rfl,rfl,hr⟩;rw[show max m dz=dz by lia]at hr ⊢;exact⟨rfl,dz,rfl,∅,∅,hr,.inl rfl⟩
   ·exact⟨rfl,rfl,hr5⟩
   rintro c fe ⟨rfl,q,rfl,q1,q2,hrq,_⟩;exact aY (h q fe o5 hp5 sj q1 q2 hrq)
 ·refine aR (qM hO hk hA ∅ ∅ ?_);cases e2:κ.blt (KK κ (arrOf aG) lo) (KK κ (arrOf aG) (lo+n-1))with
  |true=>exact aY (h n aG hk rfl Wr.same n1 n2 hr)
  |false=>
   dsimp only;rw[if_neg (by simp)];have um:∀i,lo<=i->i<lo+n->KK κ (arrOf aG) i=KK κ (arrOf aG) lo:=λi a1 a2=>KeyOrd.kle_antisymm (wA (hr i (lo+n-1) a1 ∅ ∅) e2) (hr lo i (bn _) a1 a2);refine aR (vp (κ:=κ) (lo:=lo) (n:=dz) hk rfl Wr.same ∅ ∅ ∅ ∅ λbi eE fR qE nL=>?_);have hD:pf κ (arrOf bi) lo (n+1):=by
    have hv:∀i,lo<=i->i<lo+n->KK κ (arrOf bi) i=KK κ (arrOf aG) lo:=λi a1 a2=>by rw[nL,if_pos ⟨a1,a2⟩];exact um _ ∅ ∅
    have hl:κ.klt (KK κ (arrOf bi) (lo+n)) (KK κ (arrOf aG) lo):=by rw[nL,if_neg ∅,←um (lo+n-1) ∅ ∅];exact hn
    intro i j a1 a2 a3;by_cases hj:j<lo+n
    ·rw[hv i a1 ∅,hv j ∅ hj];exact oQ _
    ·have mE:j=lo+n:=∅
     subst mE;by_cases hi:i=lo+n
     ·subst hi;exact oQ _
     ·rw[hv i a1 ∅];exact mv hl
   exact key bi ⟨eE,fR,qE,hD⟩
theorem Si{kn st:bY}{lo n XL dst:Nat}{Q:Unit->bY->Prop}(hk:SB st)(hp:bE st=bE kn)(hw:Wr (arrOf kn) (arrOf st) lo n)(b9:dst<=XL)(hj:XL<(arrOf kn).size)(c1:lo<=dst)(c2:XL<lo+n)(h:∀bi,SB bi->bE bi=bE kn->Wr (arrOf kn) (arrOf bi) lo n->(∀k,KK κ (arrOf bi) k=if k=dst then KK κ (arrOf st) XL else if dst<k/\k<=XL then KK κ (arrOf st) (k-1)else KK κ (arrOf st) k)->Q () bi):wpS (aB prog w) A E s (moveDown' XL dst) Q st:=by
 have mE:XL<(arrOf st).size:=by rw[hw.size];exact hj
 rw[moveDown'_eq];refine oP (h _ ⟨hk.kind,hk.failed⟩ hp (hw.trans ((QE mE (show XL-dst<=XL by lia)).mono ∅ ∅)) λk=>?_);have:=KK_bubble (κ:=κ) mE (show XL-dst<=XL by lia) k;rw[show XL-(XL-dst)=dst by lia]at this;exact this
theorem Me(hO:κ.OneLt){st:bY}(hk:SB st)(hA:AllK κ (arrOf st)){lo n ok:Nat}(hok:ok<=n)(hsz:lo+n<=(arrOf st).size)(hr:iP κ (arrOf st) lo ok){Q:Bool->bY->Prop}(h:∀aG,SB aG->bE aG=bE st->Wr (arrOf st) (arrOf aG) lo n->iP κ (arrOf aG) lo n->Q ai aG):wpS (aB prog w) A E s (binarySort' lo n ok) Q st:=by
 unfold binarySort';refine aR (ir (iu (I:=λk c cI=>c=(ae,())/\SB cI/\bE cI=bE st/\Wr (arrOf st) (arrOf cI) lo n/\iP κ (arrOf cI) lo (min k n)) (Q:=λc cI=>c=(ae,())/\SB cI/\bE cI=bE st/\Wr (arrOf st) (arrOf cI) lo n/\iP κ (arrOf cI) lo n) ?_ ?_ ?_) ?_)
 ·rintro k c cI o4 eE ⟨rfl,uz,iA,sk,kP⟩;have sz:=sk.size;rw[show min k n=k by lia]at kP;refine aR (ir (iu (I:=λx c bi=>bi=cI/\∃l r,c=(ae,l,r)/\l<=r/\r<=k/\r-l<=k-x /\ (∀i,i<l->κ.kle (KK κ (arrOf cI) (lo+i)) (KK κ (arrOf cI) (lo+k)))/\(∀i,r<=i->i<k->κ.klt (KK κ (arrOf cI) (lo+k)) (KK κ (arrOf cI) (lo+i)))) (Q:=λc bi=>bi=cI/\∃l r,c=(ae,l,r)/\l<=k /\ (∀i,i<l->κ.kle (KK κ (arrOf cI) (lo+i)) (KK κ (arrOf cI) (lo+k)))/\(∀i,l<=i->i<k->κ.klt (KK κ (arrOf cI) (lo+k)) (KK κ (arrOf cI) (lo+i)))) ?_ ?_ ?_) ?_)
  ·rintro x c bi _ hx ⟨rfl,l,r,rfl,a1,a2,a3,a4,a5⟩;dsimp only;refine cW (λfj=>?_) λfj=>?_
   ·have:l=r:=∅
    subst this;exact aY ⟨rfl,l,l,rfl,a2,a4,a5⟩
   ·refine aR (qM hO uz (hA.of sk.perm) ∅ ∅ ?_);cases e:κ.blt (KK κ (arrOf bi) (lo+k)) (KK κ (arrOf bi) (lo+(l+r) / 2))with
    |true=>exact aY ⟨rfl,l,(l+r) / 2,rfl,∅,∅,∅,a4,λi h1 h2=>KeyOrd.klt_of_klt_of_kle e (kP _ _ ∅ ∅ ∅)⟩
    |false=>exact aY ⟨rfl,(l+r) / 2+1,r,rfl,∅,∅,∅,λi h1=>wA (kP (lo+i) (lo+(l+r) / 2) ∅ ∅ ∅) e,a5⟩
  ·rintro c bi ⟨rfl,l,r,rfl,a1,a2,a3,a4,a5⟩;have:l=r:=∅
   subst this;exact⟨rfl,l,l,rfl,a2,a4,a5⟩
  ·exact⟨rfl,0,k,rfl,∅,∅,∅,λi hi=>∅,λi h1 h2=>∅⟩
  ·rintro c bi ⟨rfl,l,r,rfl,a2,a4,a5⟩;dsimp only;refine aR (Si (κ:=κ) (lo:=lo) (n:=n) uz iA sk ∅ ∅ ∅ ∅ λbP hb3 gG jy nL=>aY ⟨rfl,hb3,gG,jy,?_⟩);rw[show min (k+1) n=k+1 by lia];intro i j c1 c2 c3;rw[nL,nL]
   repeat' split
   all_goals first
    | (exfalso;lia)
    |exact oQ _
    | (have:=a4 (i-lo) ∅;rw[show lo+(i-lo)=i by lia]at this;exact this)
    | (have:=a5 (j-1-lo) ∅ ∅;rw[show lo+(j-1-lo)=j-1 by lia]at this;exact mv this)
    |exact kP _ _ ∅ ∅ ∅
 ·rintro c cI ⟨rfl,uz,iA,sk,kP⟩;rw[show min (max (max ok 1) n) n=n by lia]at kP;exact⟨rfl,uz,iA,sk,kP⟩
 ·refine⟨rfl,hk,rfl,Wr.same,λi j c1 c2 c3=>?_⟩;by_cases h1:ok=0
  ·have:i=j:=∅
   subst this;exact oQ _
  ·exact hr i j c1 c2 ∅
 ·rintro c cI ⟨rfl,uz,iA,sk,kP⟩;exact aY (h cI uz iA sk kP)
end
theorem R7{c:Prop}[Decidable c]{a b n:Nat}(h1:a+1<n)(h2:b+1<n):(if c then a else b)+1<n:=by split <;> assumption
def ln:Nat->List (Nat×Nat)->Nat->Prop
 |f,[],t=>f=t
 |f,(a,n)::l,t=>a=f/\0<n/\ln (f+n) l t
theorem ln.app:∀{l1:List (Nat×Nat)}{f t:Nat}{l2:List (Nat×Nat)},ln f (l1++l2) t↔∃m,ln f l1 m/\ln m l2 t
 |[],f,t,l2=>by simp[ln]
 | (a,n)::l1,f,t,l2=>by
  simp only[Eu,ln,ln.app (l1:=l1)];constructor
  ·rintro⟨h1,h2,m,h3,h4⟩;exact⟨m,⟨h1,h2,h3⟩,h4⟩
  ·rintro⟨m,⟨h1,h2,h3⟩,h4⟩;exact⟨h1,h2,m,h3,h4⟩
theorem ln.le:∀{l:List (Nat×Nat)}{f t:Nat},ln f l t->f+l.length<=t/\∀e∈l,f<=e.1/\e.1+e.2<=t
 |[],f,t,h=>⟨by cases h;simp,by simp⟩
 | (a,n)::l,f,t,⟨h1,h2,h3⟩=>by
  obtain⟨i1,i2⟩:=ln.le h3;refine⟨by simp;lia,λe he=>?_⟩;rcases b8.mp he with rfl|he
  ·subst h1;exact⟨bn _,by simp;lia⟩
  ·have:=i2 e he;exact⟨∅,this.2⟩
def PL(pd:Array (Nat×Nat×Nat)):List (Nat×Nat):=pd.toList.map λe=>(e.1,e.2.1)
structure jl(κ:KeyKind)(arr:Array Keyed)(pd:Array (Nat×Nat×Nat))(lo:Nat):Prop where
 ch:ln 0 (PL pd) lo
 run:∀e∈PL pd,Run κ arr e.1 e.2
theorem yT(pd:Array (Nat×Nat×Nat)):(PL pd).length=pd.size:=by simp[PL]
theorem pi(pd:Array (Nat×Nat×Nat))(e:Nat×Nat×Nat):PL (pd.push e)=PL pd++[(e.1,e.2.1)]:=by simp[PL]
theorem yu(pd:Array (Nat×Nat×Nat))(k pw:Nat):PL (pd.modify k λx=>(x.1,x.2.1,pw))=PL pd:=by
 apply lv;intro i;simp only[PL,jP,Ei,Array.getElem?_modify];split
 ·cases pd[i]? <;> rfl
 ·rfl
theorem QJ{pd:Array (Nat×Nat×Nat)}{i:Nat}(h:i+1<pd.size):∃l1 l2 sa na pa sb nb pb,pd[i]?=aa (sa,na,pa)/\pd[i+1]?=aa (sb,nb,pb)/\PL pd=l1++(sa,na)::(sb,nb)::l2 /\ PL ((pd.setIfInBounds i (sa,na+nb,pa)).eraseIdxIfInBounds (i+1))=l1++(sa,na+nb)::l2:=by
 obtain⟨l⟩:=pd;simp only[cU]at h;have e:l=l.take i++l[i]::l[i+1]::l.drop (i+2):=by rw[←Af,←Af,wB]
 obtain⟨l1,x,y,l2,hl,e2⟩:∃l1 x y l2,l1.length=i/\l=l1++x::y::l2:=⟨l.take i,l[i],l[i+1],l.drop (i+2),by simp;lia,e⟩
 subst hl e2;obtain⟨sa,na,pa⟩:=x;obtain⟨sb,nb,pb⟩:=y;refine⟨l1.map λe=>(e.1,e.2.1),l2.map λe=>(e.1,e.2.1),sa,na,pa,sb,nb,pb,by simp,by simp[jO],by simp[PL],?_⟩;have e3:((l1++(sa,na,pa)::(sb,nb,pb)::l2).toArray.setIfInBounds l1.length (sa,na+nb,pa)).eraseIdxIfInBounds (l1.length+1)=(l1++(sa,na+nb,pa)::l2).toArray:=by rw[List.setIfInBounds_toArray,List.set_append_right _ _ (bn _),List.eraseIdxIfInBounds_toArray];congr 1;rw[List.eraseIdx_append_of_length_le ∅];simp
 rw[e3];simp[PL]
section
variable{prog:aZ}{w:aT}{A:bd}{E:ak->aq->Prop}{s:aq}{κ:KeyKind}
theorem jl.keep{a a':Array Keyed}{pd:Array (Nat×Nat×Nat)}{lo n:Nat}(h:jl κ a pd lo)(w:Wr a a' lo n):jl κ a' pd lo :=⟨h.ch,λe he=>(h.run e he).keep w (.inl (h.ch.le.2 e he).2)⟩
theorem Cs(hO:κ.OneLt){st:bY}(hk:SB st)(hA:AllK κ (arrOf st)){i lo:Nat}(hP:jl κ (arrOf st) (bE st) lo)(hlo:lo<=(arrOf st).size)(hi:i+1<(bE st).size){Q:Bool->bY->Prop}(h:∀aG,SB aG->Wr (arrOf st) (arrOf aG) 0 lo->jl κ (arrOf aG) (bE aG) lo->(bE aG).size+1=(bE st).size->Q ai aG):wpS (aB prog w) A E s (mergeAt' i) Q st:=by
 obtain⟨l1,l2,sa,na,pa,sb,nb,pb,e1,e2,e3,e4⟩:=QJ hi;have hc:=hP.ch;rw[e3]at hc;obtain⟨m,c1,c2,c3,c4,c5,c6⟩:=ln.app.mp hc;subst c2 c4;have b1:=c1.le;have b2:=c6.le;have r1:Run κ (arrOf st) sa na:=hP.run (sa,na) (by rw[e3];simp);have r2:Run κ (arrOf st) (sa+na) nb:=hP.run (sa+na,nb) (by rw[e3];simp);refine Th hO hk hA e1 e2 c3 c5 ∅ r1 r2 λaG w_ iO hw hr=>h aG w_ (hw.mono ∅ ∅) ⟨?_,?_⟩ ?_
 ·rw[iO,e4];exact ln.app.mpr ⟨sa,c1,rfl,∅,by rw[←wy];exact c6⟩
 ·rw[iO,e4];intro e he;rcases gy.mp he with he|he
  ·exact(hP.run e (by rw[e3];exact zM _ he)).keep hw (.inl (b1.2 e he).2)
  ·rcases b8.mp he with rfl|he
   ·exact hr
   ·exact(hP.run e (by rw[e3];simp[he])).keep hw (.inr (by have:=(b2.2 e he).1;lia))
 ·have q1:=yT (bE aG);have q2:=yT (bE st);rw[iO,e4]at q1;rw[e3]at q2;rw[iO,←q1,←q2];simp;lia
theorem Nq(hO:κ.OneLt){st:bY}(hk:SB st)(hA:AllK κ (arrOf st))(hp:bE st=#[]){Q:Unit->bY->Prop}(h:∀aG,SB aG->(arrOf aG).toList.Perm (arrOf st).toList->Run κ (arrOf aG) 0 (arrOf st).size->Q () aG):wpS (aB prog w) A E s sortRuns' Q st:=by
 unfold sortRuns';refine aR (mr ?_);dsimp only;obtain⟨size,W3⟩:∃size,size=(arrOf st).size:=⟨_,rfl⟩
 have WV:((sortPriv% PySem.Builtin.SortState.a) st).size=size:=W3.symm;simp only[WV];refine aR (ir (iu (I:=λx c cI=>∃lo,c=(ae,lo)/\x<=lo/\lo<=size/\SB cI/\(arrOf cI).toList.Perm (arrOf st).toList/\(arrOf cI).size=size/\jl κ (arrOf cI) (bE cI) lo) (Q:=λc cI=>c=(ae,size)/\SB cI/\(arrOf cI).toList.Perm (arrOf st).toList/\(arrOf cI).size=size/\jl κ (arrOf cI) (bE cI) size) ?_ ?_ ?_) ?_);rotate_left
 ·rintro c cI ⟨lo,rfl,b1,b2,o4,iA,o6,hP⟩;have:lo=size:=∅
  subst this;exact⟨rfl,o4,iA,o6,hP⟩
 ·exact⟨0,rfl,∅,∅,hk,nD _,W3.symm,by rw[hp];exact⟨rfl,by simp[PL]⟩⟩
 ·rintro c cI ⟨rfl,o4,iA,o6,hP⟩;dsimp only;refine aR (ir (iu (I:=λx c bi=>c=(ae,())/\SB bi/\(arrOf bi).toList.Perm (arrOf st).toList/\(arrOf bi).size=size/\jl κ (arrOf bi) (bE bi) size/\(bE bi).size+x<=size+1) (Q:=λc bi=>c=(ae,())/\SB bi/\(arrOf bi).toList.Perm (arrOf st).toList/\(arrOf bi).size=size/\jl κ (arrOf bi) (bE bi) size/\(bE bi).size<=1) ?_ ?_ ?_) ?_)
  ·rintro x c bi _ hx ⟨rfl,eE,fR,lz,xr,hb⟩;refine aR (mr ?_);refine cW (λe1=>aY ⟨rfl,eE,fR,lz,xr,e1⟩) λe1=>?_;have ko:1<(bE bi).size:=Nat.lt_of_not_le e1;refine aR (Cs hO eE (hA.of fR) xr ∅ ?_ λbP gI jy xt hq=>?_)
   ·exact R7 (show(bE bi).size-2-1+1<(bE bi).size by lia) (show(bE bi).size-2+1<(bE bi).size by lia)
   ·exact aY ⟨rfl,gI,jy.perm.trans fR,jy.size.trans lz,xt,∅⟩
  ·rintro c bi ⟨rfl,eE,fR,lz,xr,hb⟩;exact⟨rfl,eE,fR,lz,xr,∅⟩
  ·have:=hP.ch.le.1;rw[yT]at this;exact⟨rfl,o4,iA,o6,hP,∅⟩
  ·rintro c bi ⟨rfl,eE,fR,lz,xr,hb⟩;refine aY (h bi eE fR ?_);rw[←W3];have hc:=xr.ch;have hr:=xr.run;have hl:=yT (bE bi)
   match hq:PL (bE bi),hc,hr,hl with
   |[],hc,hr,hl=>
    cases hc;intro i j x y a1 a2 a3;lia
   |[(a,n)],hc,hr,hl=>
    obtain⟨d1,d2,d3⟩:=hc;cases d1;have d3':0+n=size:=d3;have:=hr (0,n) (by simp);rw[show size=n by lia];exact this
   |_::_::_,hc,hr,hl=>simp at hl;lia
 rintro x c cI _ hx ⟨lo,rfl,b1,b2,o4,iA,o6,hP⟩;dsimp only;refine cW (λe1=>?_) λe1=>?_
 ·have:lo=size:=∅
  subst this;exact aY ⟨rfl,o4,iA,o6,hP⟩
 refine aR (Na hO o4 (hA.of iA) ∅ ∅ λdH bi eE xu qE f1 f2 oX=>?_);dsimp only;refine cW (λe2=>?_) λe2=>?_
 ·refine aR (ug (lr ⟨rfl,?_⟩));refine aR (Me hO eE ((hA.of iA).of qE.perm) ∅ (by rw[qE.size];lia) oX λbP gI hq3 jy hr3=>?_);rw[if_neg (by simp)];have hw:Wr (arrOf cI) (arrOf bP) lo (size-lo):=qE.trans (jy.mono ∅ ∅);have xw:bE bP=bE cI:=hq3.trans xu;generalize hn:min (size-lo) _=n at *;have n1:0<n:=∅
  have n2:lo+n<=size:=∅
  clear eE qE oX xu jy hq3;have xt:jl κ (arrOf bP) (bE bP) lo:=by rw[xw];exact hP.keep hw
  have gG:(arrOf bP).toList.Perm (arrOf st).toList:=hw.perm.trans iA;have qy:(arrOf bP).size=size:=hw.size.trans o6;have hR:Run κ (arrOf bP) lo n:=hr3.run;clear hw xw;refine aR (mr ?_);obtain⟨kd,arr,pd,mg,fl⟩:=bP;dsimp only;cases hbk:pd.back? with
  |none=>
   dsimp only;refine aR (oP (aY ⟨lo+n,rfl,∅,n2,⟨gI.kind,gI.failed⟩,gG,qy,?_⟩));refine⟨?_,?_⟩
   ·show ln 0 (PL (pd.push (lo,n,0))) _;rw[pi];exact ln.app.mpr ⟨lo,xt.ch,rfl,n1,rfl⟩
   ·show ∀e∈PL (pd.push (lo,n,0)),_;rw[pi];intro e he;rcases gy.mp he with he|he
    ·exact xt.run e he
    ·rw[iq.mp he];exact hR
  |some bk=>
   obtain⟨s1,m1,q1⟩:=bk;dsimp only;refine aR (ir (iu (I:=λx c cm=>c=(ae,())/\SB cm/\(arrOf cm).toList.Perm (arrOf st).toList/\(arrOf cm).size=size/\jl κ (arrOf cm) (bE cm) lo/\Run κ (arrOf cm) lo n) (Q:=λc cm=>c=(ae,())/\SB cm/\(arrOf cm).toList.Perm (arrOf st).toList/\(arrOf cm).size=size/\jl κ (arrOf cm) (bE cm) lo/\Run κ (arrOf cm) lo n) ?_ (λ_ _ hh=>hh) ?_) ?_)
   ·rintro y c cm _ hy ⟨rfl,kN,i9,o7,sm,sq⟩;refine aR (mr ?_);have wJ:∀{cG:bY},cG=cm->((ae,()):Option Unit×Unit)=(ae,())/\SB cG/\(arrOf cG).toList.Perm (arrOf st).toList/\(arrOf cG).size=size/\jl κ (arrOf cG) (bE cG) lo/\Run κ (arrOf cG) lo n:=λe=>by subst e;exact⟨rfl,kN,i9,o7,sm,sq⟩
    by_cases hg:1<(bE cm).size
    ·obtain⟨kd4,arr4,pd4,mg4,fl4⟩:=cm;have mC:pd4.size > 1:=hg;dsimp only;rw[if_pos mC,getElem?_pos pd4 (pd4.size-2) ∅];obtain⟨u1,u2,u3⟩:=pd4[pd4.size-2];dsimp only;refine cW (λ_=>aY (wJ rfl)) λ_=>?_;refine aR (Cs hO kN (hA.of i9) sm ∅ (show pd4.size-2+1<pd4.size by lia) λcG o5 sj hP5 _=>?_);exact aY ⟨rfl,o5,sj.perm.trans i9,sj.size.trans o7,hP5,sq.keep sj (.inr ∅)⟩
    ·obtain⟨kd4,arr4,pd4,mg4,fl4⟩:=cm;have mC:¬pd4.size > 1:=hg;dsimp only;rw[if_neg mC];exact aY (wJ rfl)
   ·exact⟨rfl,gI,gG,qy,xt,hR⟩
   rintro c cm ⟨rfl,kN,i9,o7,sm,sq⟩;obtain⟨kd4,arr4,pd4,mg4,fl4⟩:=cm;dsimp only;refine aR (oP (aR (oP (aY ⟨lo+n,rfl,∅,n2,⟨kN.kind,kN.failed⟩,i9,o7,?_⟩))));refine⟨?_,?_⟩
   ·show ln 0 (PL ((pd4.modify (pd4.size-1) λx=>(x.1,x.2.1,_)).push (lo,n,0))) _;rw[pi,yu];exact ln.app.mpr ⟨lo,sm.ch,rfl,n1,rfl⟩
   ·show ∀e∈PL ((pd4.modify (pd4.size-1) λx=>(x.1,x.2.1,_)).push (lo,n,0)),_;rw[pi,yu];intro e he;rcases gy.mp he with he|he
    ·exact sm.run e he
    ·rw[iq.mp he];exact sq
 ·have gI:=eE;have hr3:=oX;have hw:Wr (arrOf cI) (arrOf bi) lo (size-lo):=qE;have xw:bE bi=bE cI:=xu;have n1:0<dH:=∅
  have n2:lo+dH<=size:=∅
  have xt:jl κ (arrOf bi) (bE bi) lo:=by rw[xw];exact hP.keep hw
  have gG:(arrOf bi).toList.Perm (arrOf st).toList:=hw.perm.trans iA;have qy:(arrOf bi).size=size:=hw.size.trans o6;have hR:Run κ (arrOf bi) lo dH:=hr3.run;clear hw xw;refine aR (mr ?_);obtain⟨kd,arr,pd,mg,fl⟩:=bi;dsimp only;cases hbk:pd.back? with
  |none=>
   dsimp only;refine aR (oP (aY ⟨lo+dH,rfl,∅,n2,⟨gI.kind,gI.failed⟩,gG,qy,?_⟩));refine⟨?_,?_⟩
   ·show ln 0 (PL (pd.push (lo,dH,0))) _;rw[pi];exact ln.app.mpr ⟨lo,xt.ch,rfl,n1,rfl⟩
   ·show ∀e∈PL (pd.push (lo,dH,0)),_;rw[pi];intro e he;rcases gy.mp he with he|he
    ·exact xt.run e he
    ·rw[iq.mp he];exact hR
  |some bk=>
   obtain⟨s1,m1,q1⟩:=bk;dsimp only;refine aR (ir (iu (I:=λx c cm=>c=(ae,())/\SB cm/\(arrOf cm).toList.Perm (arrOf st).toList/\(arrOf cm).size=size/\jl κ (arrOf cm) (bE cm) lo/\Run κ (arrOf cm) lo dH) (Q:=λc cm=>c=(ae,())/\SB cm/\(arrOf cm).toList.Perm (arrOf st).toList/\(arrOf cm).size=size/\jl κ (arrOf cm) (bE cm) lo/\Run κ (arrOf cm) lo dH) ?_ (λ_ _ hh=>hh) ?_) ?_)
   ·rintro y c cm _ hy ⟨rfl,kN,i9,o7,sm,sq⟩;refine aR (mr ?_);have wJ:∀{cG:bY},cG=cm->((ae,()):Option Unit×Unit)=(ae,())/\SB cG/\(arrOf cG).toList.Perm (arrOf st).toList/\(arrOf cG).size=size/\jl κ (arrOf cG) (bE cG) lo/\Run κ (arrOf cG) lo dH:=λe=>by subst e;exact⟨rfl,kN,i9,o7,sm,sq⟩
    by_cases hg:1<(bE cm).size
    ·obtain⟨kd4,arr4,pd4,mg4,fl4⟩:=cm;have mC:pd4.size > 1:=hg;dsimp only;rw[if_pos mC,getElem?_pos pd4 (pd4.size-2) ∅];obtain⟨u1,u2,u3⟩:=pd4[pd4.size-2];dsimp only;refine cW (λ_=>aY (wJ rfl)) λ_=>?_;refine aR (Cs hO kN (hA.of i9) sm ∅ (show pd4.size-2+1<pd4.size by lia) λcG o5 sj hP5 _=>?_);exact aY ⟨rfl,o5,sj.perm.trans i9,sj.size.trans o7,hP5,sq.keep sj (.inr ∅)⟩
    ·obtain⟨kd4,arr4,pd4,mg4,fl4⟩:=cm;have mC:¬pd4.size > 1:=hg;dsimp only;rw[if_neg mC];exact aY (wJ rfl)
   ·exact⟨rfl,gI,gG,qy,xt,hR⟩
   rintro c cm ⟨rfl,kN,i9,o7,sm,sq⟩;obtain⟨kd4,arr4,pd4,mg4,fl4⟩:=cm;dsimp only;refine aR (oP (aR (oP (aY ⟨lo+dH,rfl,∅,n2,⟨kN.kind,kN.failed⟩,i9,o7,?_⟩))));refine⟨?_,?_⟩
   ·show ln 0 (PL ((pd4.modify (pd4.size-1) λx=>(x.1,x.2.1,_)).push (lo,dH,0))) _;rw[pi,yu];exact ln.app.mpr ⟨lo,sm.ch,rfl,n1,rfl⟩
   ·show ∀e∈PL ((pd4.modify (pd4.size-1) λx=>(x.1,x.2.1,_)).push (lo,dH,0)),_;rw[pi,yu];intro e he;rcases gy.mp he with he|he
    ·exact sm.run e he
    ·rw[iq.mp he];exact sq
end
theorem yx{n:Nat}(h:n<=1000000):n<bw:=t8 h (by decide)
theorem Run.sortedTo{κ:KeyKind}{a:Array Keyed}{n:Nat}(h:Run κ a 0 n)(hn:n<=a.size):SortedToK κ a n:=by intro i j b9 hj;have:=h i j _ _ (nB _) b9 ∅ (getElem?_pos a i ∅) (getElem?_pos a j ∅);rw[y4 (show i<a.size by lia),y4 (show j<a.size by lia)];exact this
theorem KeysOf.all{κ:KeyKind}{a:Array Keyed}(h:KeysOf κ a):AllK κ a:=λi hi=>h _ (by simp)
section
variable{P:aZ}{w:aT}{A:bd}{E:ak->aq->Prop}{s:aq}
theorem Vg{κ:KeyKind}(hO:κ.OneLt){a:ah}{vs:List ak}{n:Nat}{F:Fin->aq->Prop}(ho:s.heap.get? a=aa (nH "list" vs.toArray n))(h0:KeysOf κ (pairsOf vs)) (nL:∀X2 X3 rest,vs=X2::X3::rest->keyKind' (X2::X3::rest).toArray=pure oneType') (hz:vs.length<=1000000)(h:∀aG:bY,(arrOf aG).Perm (pairsOf vs)->SortedToK κ (arrOf aG) (pairsOf vs).size->F (.done (.ret .none)) {s with heap:=sortedHeap s.heap a vs ((arrOf aG).map (·.2))}):aA (aB P w) A (Builtin.«list.sort» ⟨[.ref a],[]⟩) F E s:=by
 by_cases jz:vs.length<64
 ·exact list_sort_treeK hO ho h0 nL jz h
 obtain⟨X2,X3,rest,rfl⟩:∃X2 X3 rest,vs=X2::X3::rest:=by
  match vs,jz with
  |[],jz=>simp at jz
  |[_],jz=>simp at jz
  |X2::X3::rest,_=>exact⟨X2,X3,rest,rfl⟩
 rw[list_sort_plain];have ha:a<s.heap.objs.size:=bD ho;have hl:(X2::X3::rest).length<=bw:=nt (yx hz);refine au (listItems_at ho rfl ?_);refine au (Ev ho rfl ?_);obtain⟨e1,nM⟩:∃e1,(s.heap.update a (qd λ_=>#[])).get? a=aa (nH "list" #[] e1):=⟨_,get?_update_seq ho (λ_=>#[])⟩
 refine au (seqEpoch_at nM rfl ?_);refine au (wpAny_newTuple ?_ (hsz:=by rw[Ea];exact hl));refine au (wpAny_newList ?_);refine kH ?_;have ho6:(((s.heap.update a (qd λ_=>#[])).push (nH "tuple" (X2::X3::rest).toArray 0)).push (nH "list" #[] 0)).get? a=aa (nH "list" #[] e1):=by rw[Heap.get?_push_ne _ _ _ (by rw[kj,KU];exact cX (mo ha)),Heap.get?_push_ne _ _ _ (by rw[KU];exact cX ha)];exact nM
 show aA (aB P w) A _ F E {s with heap:=((s.heap.update a (qd λ_=>#[])).push (nH "tuple" (X2::X3::rest).toArray 0)).push (nH "list" #[] 0)};dsimp only;have h2:¬(X2::X3::rest).toArray.size<2:=by simp
 rw[if_neg h2,if_neg h2,nL _ _ _ rfl];refine au (aF ?_);refine au (dr (Nq (κ:=κ) hO (st:=SortSt.mk' oneType' ((X2::X3::rest).toArray.zip (X2::X3::rest).toArray) #[] 7 ae) (Q:=λ_ aG=>SB aG/\(arrOf aG).toList.Perm (pairsOf (X2::X3::rest)).toList/\Run κ (arrOf aG) 0 (pairsOf (X2::X3::rest)).size) ⟨rfl,rfl⟩ (KeysOf.all h0) rfl λaG a1 a2 a3=>⟨a1,a2,a3⟩) ?_ λ_ _ e=>e);rintro⟨⟨⟩,aG⟩ s' ⟨rfl,hb,hp,hs⟩;have iO:(arrOf aG).Perm (pairsOf (X2::X3::rest)):=K8.mpr hp;dsimp only;refine au (seqEpoch_at ho6 rfl ?_);refine au (Ev ho6 rfl ?_ (hsz2:=by refine dj (oH ((Array.size_map ..).trans (iO.size_eq.trans (pairsOf_size _)))) (Nat.le_succ_of_le hl)));rw[show failedOf aG=ae from hb.failed];simp only[bne_self_eq_false,qh,if_false];exact aF (h aG iO (hs.sortedTo (by rw[iO.size_eq];exact bn _)))
theorem Hy{v:ak}{Q:ak->aq->Prop}(hc:aA (aB P w) A.in1 (collect v) (λvs s1=>∃ss:List Str,e_ vs ss/\vs.length<=1000000/\∀(h':aI) (out:Array ak) (aP:List Str) (e:Nat),(∀b o,s1.heap.get? b=aa o->h'.get? b=aa o) -> h'.get? s1.heap.objs.size=aa (nH "list" out e)->e_ out.toList aP->aP.Perm ss->sortedS aP=ai->Q (.ref s1.heap.objs.size) {s1 with heap:=h'}) E s):aA (aB P w) A (call (.builtin "sorted") [v]) Q E s:=by refine Calls.call_function_entry kind_sorted plain_sorted entry_sorted (args_sorted1 _) ?_;unfold Builtin.«sorted»;refine au (m:=checkCount "sorted" 1 1 _) (aF ?_);refine au (a_ hc λvs s1 ⟨ss,hS,jz,fin⟩=>?_);refine au (wpAny_newList ?_);have ur:(s1.heap.push (nH "list" vs.toArray 0)).get? s1.heap.objs.size=aa (nH "list" vs.toArray 0):=df _ rfl;refine au (kH (we slot_list_sort ⟨_,ur,rfl⟩ entry_list_sort (Vg strKind_oneLt ur hS.keysOf (λa b c e=>keyKind_strs (by rw[←e];exact hS)) jz λaG hp hs=>⟨_,rfl,?_⟩) (args_list_sort _)));obtain⟨aP,a1,a2,a3⟩:=sorted_out_str hS hp hs;obtain⟨e,he⟩:=sortedHeap_at (out:=(arrOf aG).map (·.2)) ur;refine aF ⟨_,rfl,fin _ _ aP e (λb o hb=>?_) he a1 a2 a3⟩;have bI:b<s1.heap.objs.size:=bD hb;rw[sortedHeap_old (cX bI) (by rw[kj];exact mo bI)];exact bH _ hb
end
section
variable{X:Cx}
theorem Inv.sorted2{af:List (ah×Obj)}{Y:St}{H:Hp}{s1:aq}{ls:List Tx}{ss aP:List Str}{h':aI}{out:Array ak}{e:Nat}(I:Inv X af Y H s1)(hl:ss=ls.map tS)(jz:ls.length<=1000000)(k:∀b o,s1.heap.get? b=aa o->h'.get? b=aa o) (ho:h'.get? s1.heap.objs.size=aa (nH "list" out e)) (a1:e_ out.toList aP) (a2:aP.Perm ss) (a3:sortedS aP=ai):Inv X af Y (upd H s1.heap.objs.size (.lst (c9 (bp ls)))) {s1 with heap:=h'}:=by
 have e1:aP.map (λz=>z.cps.toList)=bp ls:=by
  refine vK ?_ (V3 a3);have:=a2.map λz=>z.cps.toList;rw[hl,fK]at this;have e2:(ls.map ((λz:Str=>z.cps.toList) ∘ tS))=ls:=by simp[Function.comp_def,n9]
  rw[e2]at this;exact this
 have hv:bX (c9 (bp ls)) out.toList:=by rw[←e1];exact Ij a1
 refine I.laid (t':=s1.toks) k (bn _) ⟨?_,out.toList,e,hv,?_⟩
 ·rw[vL,To];exact nt (yx ∅)
 ·rw[Array.toArray_toList];exact ho
theorem FW:fD X (.builtin "sorted") (λxs H Q=>∃(p:ah) (ls:List Tx),xs=[.ref p]/\(cC X.K H p (c9 ls)\/d7 X.K H p (c9 ls))/\ls.length<=1000000/\∀l,H l=ae->Q (.ref l) (upd H l (.lst (c9 (bp ls))))):=by
 intro af s Y H xs us Q I r h;obtain⟨p,ls,rfl,hq,jz,q⟩:=h;obtain⟨u,rfl,ru⟩:=vals1 r;cases ru;have core:∀(T:String) (o:Obj) (its:List ak) (n:Nat),(T = "list"\/T = "tuple")->s.heap.get? p=aa o->o.cls=.type T->o.data=.seq its.toArray n->bX (c9 ls) its ->
   aA (aB X.prog X.w) X.A (call (.builtin "sorted") [Value.ref p]) (EP X af Y Q) X.xe s:=λT o its n hT ho hc hd rv=>by
  have hl:=rv.length;rw[vL]at hl;have h1000:=yx (n:=its.length) ∅;refine Hy (wpAny_collect_seq p hT ho hc hd (λh1 k1=>?_) (by rw[cU];lia));have I1:=I.kept (t':=s.toks) k1;refine⟨_,AI rv,by rw[Ea];lia,λh' out aP e k ho a1 a2 a3=>?_⟩;exact⟨.ref _,_,Inv.sorted2 I1 rfl jz k ho a1 a2 a3,rfl,q _ I1.fresh⟩
 rcases hq with hq|hq
 ·obtain⟨its,rv,pl,hz⟩:=I.list hq;obtain⟨o,e,hc,n,hd⟩:=pl.isList;exact core "list" o its n (.inl rfl) e hc hd rv
 ·obtain⟨its,rv,⟨o,e,hc,n,hd⟩,hz⟩:=I.tuple hq;exact core "tuple" o its n (.inr rfl) e hc hd rv
end
end L2
namespace Pu
open L2
section
variable{X:Cx}{K:aC}
def q_:List PV->Option PO
 |[.lst xs]=>(g_ xs).bind λls=>if ls.length<=1000000 then aa (.lst (ap (bp ls)))else ae
 |[.tup xs]=>(g_ xs).bind λls=>if ls.length<=1000000 then aa (.lst (ap (bp ls)))else ae
 |_=>ae
theorem JH:qN K (λxs H Q=>∃(p:ah) (ls:List Tx),xs=[.ref p]/\(cC K H p (c9 ls)\/d7 K H p (c9 ls))/\ls.length<=1000000/\∀l,H l=ae->Q (.ref l) (upd H l (.lst (c9 (bp ls))))) q_:=λF H xs vs Q po hF rs e q=>by
 have fin:∀{ys:List PV}{us:List V}{a:ah},((g_ ys).bind λls=>if ls.length<=1000000 then aa (PO.lst (ap (bp ls)))else ae)=aa po->Reps K H F ys us->(cC K H a us\/d7 K H a us) ->
   ∃(p:ah) (ls:List Tx),[V.ref a]=[.ref p]/\(cC K H p (c9 ls)\/d7 K H p (c9 ls))/\ls.length<=1000000/\∀l,H l=ae->Q (.ref l) (upd H l (.lst (c9 (bp ls)))):=λ{ys us a} e ra hs=>by
  cases q1:g_ ys with
  |none=>rw[q1]at e;cases e
  |some ls=>
   rw[q1]at e;simp only[gW]at e;split at e
   ·rename_i jz;cases e;rw[sD q1]at ra;obtain⟨rfl,hm⟩:=Xa.mp ra;refine⟨a,ls,rfl,hs,jz,λl hl=>q l F _ _ (Al.new0 hl) (ym hl (Xa.mpr ⟨rfl,λx hx=>hm x ((j2 ls).mem_iff.mp hx)⟩)) (yC hl hF trivial)⟩
   ·cases e
 unfold q_ at e;split at e
 ·obtain⟨v,rfl,a,us,rfl,ha,_,ra⟩:=iF rs;exact fin e ra (.inl (.inl ha))
 ·obtain⟨v,rfl,a,us,rfl,ha,ra⟩:=iF rs;exact fin e ra (.inr (d7.of ha))
 ·cases e
end
end Pu
namespace L2
theorem SG(n:Nat):sliceRange ((n:Int)-1) (-1) (-1)=(bF n).map λk=>n-1-k:=by
 unfold sliceRange;have e:(if(-1:Int) > 0 then if(n:Int)-1 < -1 then(-1-((n:Int)-1) + -1-1) / -1 else 0 else if(n:Int)-1 > -1 then((n:Int)-1 - -1 - -1-1) / - -1 else 0).toNat=n:=by
  rw[if_neg (by decide)];split
  ·rw[show(- -1:Int)=1 from rfl,Int.ediv_one];lia
  ·lia
 show(bF (if(-1:Int) > 0 then if(n:Int)-1 < -1 then(-1-((n:Int)-1) + -1-1) / -1 else 0 else if(n:Int)-1 > -1 then((n:Int)-1 - -1 - -1-1) / - -1 else 0).toNat).map _=_;rw[e];refine iK λk _=>?_;lia
theorem GA{α β:Type}{f g:α->Option β}:∀{l:List α},(∀k∈l,f k=g k)->l.filterMap f=l.filterMap g
 |[],_=>rfl
 |x::l,h=>by rw[ma,ma,h x (by simp),GA λk hk=>h k (by simp[hk])]
theorem WC{α:Type}(l:List α):((bF l.length).map λk=>l.length-1-k).filterMap (λi=>l[i]?)=l.reverse:=by
 have h:∀k,k<l.length->l[l.length-1-k]?=l.reverse[k]?:=λk hk=>by rw[List.getElem?_reverse hk]
 have e:((bF l.length).map λk=>l.length-1-k).filterMap (λi=>l[i]?)=(bF l.length).filterMap λk=>l.reverse[k]?:=by rw[DQ];exact GA λk hk=>h k (nr.mp hk)
 rw[e];have:=GJ l.reverse 0 l.length;simp only[mq,List.map_id',z7]at this;rw[this,mn (by simp)]
def tf(z:Str):Str:=⟨z.cps.toList.reverse.toArray⟩
theorem MV(l:Tx):tf (tS l)=tS l.reverse:=by simp[tf,tS]
section
variable{X:Cx}{e es:aE}{te:TE}{ts:TO}{pos p2:Pos}
def U9(te:TE)(ts:TO):TE:=λY H Q=>te Y H λx H1=>ts Y H1 λst H2=>∃z,x=.str z/\st=aa (-1)/\z.length<=bw/\Q (.str (tf z)) H2
theorem N3(he:PE X e te)(hs:PO X (aa es) ts):PE X (.Subscript e (.Slice ae ae (aa es) p2) pos) (U9 te ts):=by
 intro af s Y H Q I h;refine Subscript_ (a_ (he af s Y H _ I h) λv s1 ⟨x,H1,I1,r1,q1⟩=>?_);refine wpAny_Slice ?_;rw[evalPart_none];refine aF (aF ?_);refine a_ (hs af s1 Y H1 _ I1 q1) λvs s3 ⟨st,H3,I3,ps,z,hz,i8,hl,q3⟩=>?_;subst hz i8;obtain⟨t,rfl⟩:=r1;obtain⟨k,rfl,hk⟩:=part_of ps;have I4:Inv X af Y H3 {s3 with heap:=s3.heap.push {cls:=.type "slice",data:=.fields #[.none,.none,z8 k]}}:=I3.kept (t':=s3.toks) λb ob q=>bH _ q;have hsl:Heap.IsSliceOf (s3.heap.push {cls:=.type "slice",data:=.fields #[.none,.none,z8 k]}) s3.heap.objs.size .none .none (z8 k):=Heap.IsSliceOf.new ..;show aA (aB X.prog X.w) X.A (DY e (.Slice ae ae (aa es) p2) (.str z t) (.ref s3.heap.objs.size)) (EP X af Y Q) X.xe {s3 with heap:=s3.heap.push {cls:=.type "slice",data:=.fields #[.none,.none,z8 k]}};refine tail_any (ops:=[.ref s3.heap.objs.size,.str z t]) (wj _ z t) F.slot_str_getitem.lookup ?_ (by with_unfolding_all rfl);have h0:((k.map (·.1)).getD 1 == 0)=am:=by rw[hk];rfl
 refine getItem_meets (wj _ z t) (by decide) WP F.entry_str_getitem (F.args_str_getitem_2 _ _) (meets_str_getitem_slice z t _ ae ae k h0) ⟨hsl,?_⟩;have em:sliceMade z t ae ae k=.str (tf z):=by
  unfold sliceMade slicePicked;rw[hk];simp only[Ew];rw[if_neg (by simp)];have e1:KG (Am (·.1) (ae:Option (Int×Tok))) (Am (·.1) (ae:Option (Int×Tok))) (-1) z.length=(bF z.length).map λk=>z.length-1-k:=by rw[←SG];rfl
  rw[e1];have lA:z.cps.toList.length=z.length:=by simp[wg]
  have pk:=WC z.cps.toList;rw[lA]at pk;unfold tf;rw[←pk];simp
 rw[em];exact⟨by simpa[tf,wg]using hl,⟨.str _,H3,I4.tok _,⟨_,rfl⟩,q3⟩⟩
end
end L2
namespace Pu
open L2
section
variable{X:Cx}{K:aC}{E:XK}{tg l a b c e:aE}{d:aj->R PV}{ds:aj->R (List PV)}{p pos p2:Pos}
def Cg:PV->Option Int->Option PV
 |.str x,aa (-1)=>aa (.str x.reverse)
 |_,_=>ae
def vt(d:aj->R PV)(dk:aj->R (Option Int)):aj->R PV:=λZ=>(d Z).bind λx dM=>(dk dM).bind λk Z2=>aV (Cg x k) Z2
theorem LX{es:aE}{dk:aj->R (Option Int)}(he:DE X E e d)(hk:DO X E (aa es) dk):DE X E (.Subscript e (.Slice ae ae (aa es) p2) pos) (vt d dk):=λF S Z Y H Q rl h=>by
 refine cB (N3 cn AR) (he F S Z Y H _ rl ((Ok.bind h).imp λx dM F1 S1 H1 r1 g1 h1 v rv=>?_));refine hk F1 S1 dM Y H1 _ r1 ((Ok.bind h1).imp λk Z2 F2 S2 H2 r2 g2 h2=>?_);have rv':=rv.grow g2 r1.fit;cases e3:Cg x k with
 |none=>rw[e3]at h2;exact h2.elim
 |some pv=>
  rw[e3]at h2;unfold Cg at e3;split at e3
  ·cases e3;rw[rv'.1];refine⟨_,rfl,rfl,by rw[lO];exact dj rv'.2 mV,?_⟩;exact h2 F2 S2 H2 r2 (bM.refl ..) _ ⟨by rw[MV];rfl,by rw[List.length_reverse];exact rv'.2⟩
  ·cases e3
end
theorem N9(H:Hp)(p:ah)(a b:HO):L2.upd (L2.upd H p a) p b=L2.upd H p b:=by
 funext q;by_cases h:q=p
 ·subst h;rw[cF,cF]
 ·rw[cp h,cp h,cp h]
end Pu
namespace L2
section
variable{P:aZ}{w:aT}{A:bd}{E:ak->aq->Prop}{s:aq}
theorem NM{I a:ah}{es:Array (Int×ak)}{ep:Nat}{t:gU}(cQ:a≠I)(hf:t.fits es.size=ai)(hb:cZ w=am)(h1:es.size=0)(hh:A.handled=ae):Walks P w A I [I,a] [I] 0 (λi v=>(es.toList.map (·.2))[i]?=aa v) (λi h=>h.get? I=aa (jD (eJ 0) 0 a es.size ep)/\h.get? a=aa (rh es ep t)):=by
 have he:es=#[]:=Array.eq_empty_of_size_eq_zero h1;have body:∀(s:aq) (slot:Nat) (i:Nat) (Q:Option (ak×Nat)->aq->Prop) (E:ak->aq->Prop),s.heap.get? a=aa (rh es ep t) ->
   Q ae s->aA (aB P w) A.in1 (oK a slot i ep) Q E s:=λs slot i Q E ha hq=>by
  unfold oK;refine au (iL ha rfl hf ?_);unfold oN;refine au (au (lu (aF ?_)));show aA _ _ (if cZ w=ai then _ else _) _ _ s;rw[if_neg (by rw[hb];decide)];refine gE (λhc=>absurd (show(!t.plain&&decide (es.size > 1))=ai from hc) (by rw[h1];simp)) (λ_=>?_);refine au ?_;refine dr (Q:=λ_ s'=>s'=s) (E:=E) ?_ (λ_ s' w8=>?_) (λ_ _ x=>x)
  ·refine gE (λhc=>absurd (show(!t.led&&!es.isEmpty)=ai from hc) (by rw[he];simp)) (λ_=>aF rfl)
  ·subst w8;rw[he];have e2:∀k:Nat,(#[]:Array (Int×ak))[k]?=ae:=λk=>by simp
   dsimp only;rw[e2];exact aF hq
 refine⟨λb hb=>by simp at hb;simp[hb],λi h h' st k=>⟨k I (by simp) _ st.1,k a (by simp) _ st.2⟩,λi s Q E hi st hQ=>absurd hi (zW i),λs Q E st hQ=>?_,λi s Q E st hQ=>xA st.1 hQ⟩;refine qS st.2 hf st.1 ?_;show aA _ _ (oK a (0:Int).toNat ((0:Nat):Int).toNat (ep:Int).toNat >>= _) _ _ s;simp only[nA,Int.toNat_zero];refine au (body s 0 0 _ _ st.2 ?_);dsimp only;refine au (yr st.1 λh1 jY _=>?_);exact xJ (s:={s with heap:=h1}) hh λh2 k2=>hQ h2 s.toks λb o hb e=>k2 b o ((jY.2 b (by simpa using hb)).trans e)
theorem VP{a:ah}{ks:List Str}{Q:ak->aq->Prop}(S:b_ P w s.heap a ks)(h:∀s' I fp n Pv St,Ih P w s s' a I ks fp n Pv St->Q (.ref I) s'):aA (aB P w) A (p7 (.ref a)) Q E s:=by
 obtain⟨es,ep,t,ss,ho,hS,hp,fS,hsz,hf,ix,cV⟩:=S.ex;have hT:s.TypeIs (.ref a) "set":=⟨_,ho,rfl⟩
 have kT:=bD ho;have ordP:∀l:List (Int×ak),l.Perm es.toList->∃aP,e_ (l.map (·.2)) aP/\aP.Perm ks:=λl pl=>by obtain⟨aP,q1,q2⟩:=u7 (pl.map (λe:Int×ak=>e.2)) hS;exact⟨aP,q1,q2.trans hp⟩
 refine wpAny_pyIter_slot hT F.slot_set_iter (we F.slot_set_iter hT L6 ?_ (F.args_set_iter_1 _));unfold Builtin.«frozenset.__iter__» Builtin.Frozenset.slot0 slotArgs Builtin.Frozenset.addrOf K9;refine au (aF ?_);refine au (au (Eg ho rfl hf (aF ?_)));unfold setDrawn;refine au (au (iL ho rfl hf ?_));unfold oN;refine au (au (lu (aF ?_)));refine aF ?_;have fin:∀(first:ak) (s1:aq) (fp:List ah) (n:Nat) (Pv:Nat->ak->Prop) (St:Nat->aI->Prop),s1.heap.get? a=aa {cls:=.type "set",dict:=ae,data:=.set es ep t} ->
   Ih P w s {s1 with heap:=s1.heap.push (jD first 0 a es.size ep)} a s1.heap.objs.size ks fp n Pv St ->
   aA (aB P w) A.in1 (do
    let e ←setEpoch a
    let f ←newFields "set_iterator" [first,eJ 0,Value.ref a,eJ (es.size:Nat),eJ (e:Nat)]
    ret f) (λfin s'=>∃v,fin=Fin.done (Flow.ret v)/\∃T' r,s'.TypeIs v T'/\typeLookup (Value.type T') (DU "__next__")=pure (aa r)/\Q v s') E s1:=λfirst s1 fp n Pv St ha W=>by
  refine au (An ha rfl hf ?_);refine au (oE ?_);exact aF ⟨_,rfl,"set_iterator",_,⟨_,df _ rfl,rfl⟩,Gx.lookup,h _ _ fp n Pv St W⟩
 refine gE (λhc=>?_) (λhc=>?_)
 ·have iN:(!cZ w&&(!t.plain&&decide (es.size > 1)))=ai:=hc;refine au (GP es.size (bF es.size) s _ (by simp) λys d hy=>?_);refine au (wpAny_newTuple ?_ (hsz:=by rw[dw,hy.length_eq,List.length_range];exact nt (Jw ∅)));refine fin _ _ _ _ _ _ (bH _ ho) ⟨λA' hA=>Wv (T:=s.heap.objs.size) (cX (by rw[kj];exact mo kT)) (cX (by rw[kj];exact nG _)) hf hy hA,⟨df _ rfl,?_,?_⟩,?_,?_,?_,rfl,?_,hsz,?_⟩
  ·exact bH _ (bH _ ho)
  ·exact bH _ (df _ rfl)
  ·exact λb o e=>bH _ (bH _ e)
  ·rw[kj];exact z0 _
  ·intro b hb;simp only[b8,ju,or_false]at hb;rw[kj,kj];rcases hb with rfl|rfl|rfl
   ·rw[kj];exact nG _
   ·exact mo (mo kT)
   ·exact mo (nG _)
  ·intro aK mx;have e0:(ys.filterMap λj=>(es[j]?).map (·.2))=(ys.filterMap λj=>es[j]?).map (·.2):=by rw[List.map_filterMap]
   have pl:(ys.filterMap λj=>es[j]?).Perm es.toList:=by have:=hy.filterMap λj=>es[j]?;rwa[filterMap_getElem?_range]at this
   rw[e0]at mx;rw[yN (by rw[dw,pl.length_eq];simp) mx];exact ordP _ pl
  ·intro b hb;simp only[b8,ju,or_false]at hb;rcases hb with rfl|rfl|rfl
   ·rw[kj];exact .inr (z0 _)
   ·exact .inl rfl
   ·exact .inr (bn _)
 ·have iN:¬(!cZ w&&(!t.plain&&decide (es.size > 1)))=ai:=hc;refine au (aF ?_);cases hb:cZ w with
  |true=>
   refine fin _ _ _ _ _ _ ho ⟨λA' hA=>R5 (cX kT) hf hb hA,⟨df _ rfl,bH _ ho⟩,λb o e=>bH _ e,bn _,?_,rfl,?_,hsz,λb hb=>?_⟩
   ·intro b hb;simp only[b8,ju,or_false]at hb;rw[kj];rcases hb with rfl|rfl
    ·exact nG _
    ·exact mo kT
   ·intro aK mx;have pl:=Bv (w.params.setOrder a ep) es;rw[yN (by rw[dw,pl.length_eq];simp) mx];exact ordP _ pl
   ·simp only[b8,ju,or_false]at hb;exact hb.elim (λz=>.inr (oH z.symm)) .inl
  |false=>
   have h01:es.size=1\/es.size=0:=by
    by_cases hk:ks=[]
    ·right;have e1:=hp.length_eq;have e2:ss.length=es.size:=by rw[←hS.strs];simp
     rw[hk,rQ]at e1;lia
    ·rw[hb,cV hk]at iN;simp at iN;lia
   rcases h01 with h1|h1
   ·refine fin _ _ _ _ _ _ ho ⟨λA' hA=>Nn (cX kT) hf hb (by rw[ix,hb];rfl) h1 hA,⟨df _ rfl,bH _ ho⟩,λb o e=>bH _ e,bn _,?_,rfl,?_,by decide,λb hb=>?_⟩
    ·intro b hb;simp only[b8,ju,or_false]at hb;rw[kj];rcases hb with rfl|rfl
     ·exact nG _
     ·exact mo kT
    ·intro aK mx;rw[yN (by simp[h1]) mx];exact ordP _ (nD _)
    ·simp only[b8,ju,or_false]at hb;exact hb.elim (λz=>.inr (oH z.symm)) .inl
   ·refine fin _ _ _ _ _ _ ho ⟨λA' hA=>NM (cX kT) hf hb h1 hA,⟨df _ rfl,bH _ ho⟩,λb o e=>bH _ e,bn _,?_,rfl,?_,by decide,λb hb=>?_⟩
    ·intro b hb;simp only[b8,ju,or_false]at hb;rw[kj];rcases hb with rfl|rfl
     ·exact nG _
     ·exact mo kT
    ·intro aK mx;rw[yN (by simp[h1]) mx];exact ordP _ (nD _)
    ·simp only[b8,ju,or_false]at hb;exact hb.elim (λz=>.inr (oH z.symm)) .inl
theorem Qz{a:ah}{ks:List Str}{Q:List ak->aq->Prop}(hh:A.handled=ae)(S:b_ P w s.heap a ks)(h:∀(s':aq) (vs:List ak) (ss:List Str),e_ vs ss->ss.Perm ks->vs.length<4090->(∀b o,s.heap.get? b=aa o->s'.heap.get? b=aa o)->s'.gens=s.gens->s'.os=s.os->Q vs s'):aA (aB P w) A (collect (.ref a)) Q E s:=by
 obtain⟨es,ep,t,_,ho,_⟩:=S.ex;have kT:=bD ho;unfold collect;refine au (wpAny_runValue (wv F.entry_proto_collect ?_));rw[Aa F.plain_proto_collect _];show aA _ A.in1 (newList [] >>= λl=>again (.builtin "list.__iadd__" ⟨[l,.ref a],[]⟩)) _ _ s;refine au (oE ?_);refine aF ⟨Ee F.plain_list_iadd _,wv F.entry_list_iadd ?_⟩;rw[Aa F.plain_list_iadd _];show aA _ A.in1 (Builtin.List.listExtendWith (.ref s.heap.objs.size) (.ref a) (.ref s.heap.objs.size)) _ _ _;unfold Builtin.List.listExtendWith;have hT:∀s1:aq,s1.heap.get? a=aa {cls:=.type "set",dict:=ae,data:=.set es ep t}->s1.TypeIs (.ref a) "set":=λs1 e=>⟨_,e,rfl⟩
 have nM:(s.heap.push {cls:=.type "list",data:=.seq ([]:List ak).toArray}).get? a=aa {cls:=.type "set",dict:=ae,data:=.set es ep t}:=bH _ ho;refine au (wpAny_typeOf (hT _ nM) ?_);have h1:Builtin.List.listSameRef (.ref s.heap.objs.size) (.ref a)=am:=by have:¬(s.heap.objs.size=a):=mf kT;simp[Builtin.List.listSameRef,this]
 rw[if_neg (by rw[h1];decide)];refine au (VP (S.at λo e=>bH _ e) λs2 I fp n Pv St W=>?_);have qw:=W.old a _ nM;refine au (kH ?_);unfold Builtin.List.listLengthHint;refine au (wpAny_specialOf (hT _ qw) Tt ?_)
 wp_delta
 refine au (Ab (T:="set") (b:=ai) (hT _ qw) (by rw[isSubtype_type];kernel_rfl) ?_);show aA _ A.in1 (typeOf (Value.ref a) >>= _) _ _ _;refine au (wpAny_typeOf (T:="set") (hT _ qw) ?_);refine aF ?_;rw[if_pos (by decide)];refine au (lr ?_);have hL:(s.heap.push {cls:=.type "list",data:=.seq ([]:List ak).toArray}).get? s.heap.objs.size=aa {cls:=.type "list",data:=.seq ([]:List ak).toArray}:=df _ rfl;have hL2:=W.old _ _ hL;unfold Builtin.List.listTouch;refine au (au (Ev hL2 rfl ?_ (by decide) (by show 1<=bw+1;decide)));have hL3:=get?_update_seq hL2 (λa:Array ak=>a.push Value.none);refine Ev hL3 rfl ?_ (by show 1<=bw;decide) (by show 0<=bw+1;decide);have hL4:=get?_update_seq hL3 (λa:Array ak=>a.pop);have Lp:s.heap.objs.size∉fp:=λz=>by
  rcases W.fps _ z with q|q
  ·exact absurd kT (by rw[←q];exact fu _)
  ·rw[kj]at q;exact absurd (nG _) (rW.mpr q)
 have k4:∀b o,b≠s.heap.objs.size->s2.heap.get? b=aa o->(((s2.heap.update s.heap.objs.size (qd λa=>a.push Value.none)).update s.heap.objs.size (qd λa=>a.pop))).get? b=aa o:=λb o hb e=>by rw[Heap.get?_update_ne _ _ _ _ hb,Heap.get?_update_ne _ _ _ _ hb];exact e
 have cm:St 0 (((s2.heap.update s.heap.objs.size (qd λa=>a.push Value.none)).update s.heap.objs.size (qd λa=>a.pop))):=(W.wk A.in1 hh).frame 0 _ _ W.st λb hb o e=>k4 b o (λz=>Lp (z ▸ hb)) e;refine aF ⟨Ee F.plain_extend_loop _,codeAny_extend_loopS (W.wk A.in1 hh).toS (nt (Jw (by have:=W.len;lia))) _ Lp _ n 0 _ _ _ rfl (nB _) cm hL4 (ItemsOf.nil _) λs' acc' c' hm w6 mx=>?_⟩;show aA _ A (load s.heap.objs.size >>= _) _ _ s';refine au (wpAny_load w6 ?_);obtain⟨ss,q1,q2⟩:=W.ord acc' mx;refine aF (h s' acc'.toList ss q1 q2 (by rw[iI,mx.1];exact W.len) (λb o e=>?_) ?_ ?_)
 ·have bI:=bD e;refine hm.heap b o (λhb=>?_) (k4 b o (cX bI) (W.old b o (bH _ e)));rcases b8.mp hb with z|z
  ·exact absurd bI (by rw[z];exact fu _)
  ·rw[iq.mp z]at bI;have:=W.new;rw[kj]at this;exact absurd bI (rW.mpr (Nat.le_of_succ_le this))
 ·rw[hm.gens,W.rest]
 ·rw[hm.os,W.rest]
end
section
variable{X:Cx}
theorem HA(hc:X.calm=ai):fD X (.builtin "sorted") (λxs H Q=>∃(p:ah) (ls:List Tx),xs=[.ref p]/\H p=aa (iQ X p ls)/\ls.length<4000/\∀l,H l=ae->Q (.ref l) (upd H l (.lst (c9 (bp ls))))):=by
 intro af s Y H xs us Q I r h;obtain⟨p,ls,rfl,hq,jz,q⟩:=h;obtain⟨u,rfl,ru⟩:=vals1 r;cases ru;obtain⟨S,_,_⟩:=(show dS X.prog X.w H s.heap p (iQ X p ls)from I.hok p _ hq)
 refine Hy (Qz (uH (I.ok.hd hc)) S λs' vs ss a1 a2 a3 k eg eo=>?_);obtain⟨h',g',d',t',o'⟩:=s';obtain rfl:g'=s.gens:=eg;obtain rfl:o'=s.os:=eo;have I1:Inv X af Y H {s with heap:=h',drawn:=d',toks:=t'}:=by have:=Inv.call (ch:=[]) I (g':=s.gens) (d':=d') (t':=t') (Un.kept (fs:=fV X.stack) (ex:=[]) k) (I.hok.kept k) I.bare (λb hb=>absurd hb (by simp));exact this
 refine⟨ss,a1,∅,λh2 out aP e k2 ho b1 b2 b3=>?_⟩;exact⟨.ref _,_,Inv.sorted2 (s1:={s with heap:=h',drawn:=d',toks:=t'}) (ss:=ls.map tS) I1 rfl ∅ k2 ho b1 (b2.trans a2) b3,rfl,q _ I1.fresh⟩
end
theorem b_.perm{P:aZ}{w:aT}{h:aI}{a:ah}{ks ls:List Str}(S:b_ P w h a ks)(p:ks.Perm ls):b_ P w h a ls:=by obtain⟨es,ep,t,ss,e,h1,h2,h3,h4,h5,h6,h7⟩:=S.ex;exact⟨es,ep,t,ss,e,h1,h2.trans p,h3,h4,h5,h6,λz=>h7 λq=>z (by subst q;exact p.symm.eq_nil)⟩
section
variable{P:aZ}{w:aT}{A:bd}{E:ak->aq->Prop}{s:aq}
theorem rD(x y:Str)(t':Tok):(dE P w).is x (.str y t')=decide (y=x):=by
 show rH x (.str y t')=_;rw[p8];simp[rH]
 try exact eq_comm
theorem ML{a:ah}{ks:List Str}{x:Str}{tk:Tok}{Q:Option Nat->aq->Prop}(S:b_ P w s.heap a ks)(h:∀r:Option Nat,r.isSome=decide (x∈ks)->Q r s):aA (aB P w) A (setFind a (.str x tk) ((dE P w).hash x)) Q E s:=by
 obtain⟨es,ep,t,ss,ho,hS,hp,fS,hsz,hf,ix,cV⟩:=S.ex;have jv:(dE P w).is x (.str x tk)=ai:=by rw[rD];simp
 have hb:es.size<scanBound:=oG hsz (by decide);have memx:x∈ks↔∃e∈es.toList,(dE P w).is x e.2=ai:=by
  rw[←hp.mem_iff,y0 hS x];constructor
  ·rintro⟨t',q⟩;obtain⟨e,he,ee⟩:=dG.mp q;exact⟨e,he,by rw[ee,rD];simp⟩
  ·rintro⟨e,he,q⟩;obtain⟨y,t',ey⟩:=hS.all e.2 (dG.mpr ⟨e,he,rfl⟩);rw[ey,rD]at q;have:y=x:=of_decide_eq_true q;subst this;exact⟨t',dG.mpr ⟨e,he,ey⟩⟩
 unfold setFind setFindIn;refine au (iL ho rfl hf ?_);dsimp only;rw[byScan_of (knd:=dE P w) (x:=.str x tk) rfl hb fS];simp only[if_true];refine au (lr (au (KJ jv ho rfl hf fS ?_)));cases hr:List.findIdx? (λe=>(dE P w).is x e.2) es.toList with
 |some j=>obtain⟨hj,wY,_⟩:=Ed.mp hr;exact aF (h _ (by rw[decide_eq_true (memx.mpr ⟨_,Eb hj,wY⟩)];rfl))
 |none=>refine aF (h _ ?_);rw[decide_eq_false λhm=>by obtain⟨e,he,q⟩:=memx.mp hm;have:=KL.mp hr e he;rw[q]at this;exact Bool.noConfusion this];rfl
structure sw(P:aZ)(w:aT)(ks:List Str)(arr:Array (Int×ak)):Prop where
 ex:∃ss:List Str,arr.toList.map (λe=>e.1)=ss.map (dE P w).hash/\e_ (arr.toList.map (·.2)) ss/\ss.Perm ks
theorem F8:∀{l:List (Int×ak)}{ss:List Str},ElemsOf (dE P w) l->e_ (l.map (·.2)) ss->l.map (λe=>e.1)=ss.map (dE P w).hash
 |[],[],_,_=>rfl
 |[],_::_,_,h=>by cases h
 |e::l,[],_,h=>absurd h.length (by simp)
 |e::l,x::ss,he,h=>by
  obtain⟨h1,v⟩:=e;cases h with
  |cons _ t hr=>obtain⟨⟨k,q1,q2⟩,_⟩:=he.head;rw[rD]at q1;have:x=k:=of_decide_eq_true q1;subst this;rw[eZ,eZ,F8 he.tail hr,q2]
theorem sw.of{es arr:Array (Int×ak)}{ss ks:List Str}(hS:e_ (es.toList.map (·.2)) ss)(hp:ss.Perm ks)(fS:ElemsOf (dE P w) es.toList)(p:arr.toList.Perm es.toList):sw P w ks arr:=by obtain⟨aP,q1,q2⟩:=u7 (p.map (λe:Int×ak=>e.2)) hS;exact⟨aP,F8 (fS.perm p) q1,q1,q2.trans hp⟩
theorem Jj{a:ah}{ks:List Str}{Q:Array (Int×ak)->aq->Prop}(S:b_ P w s.heap a ks)(hq:cZ w=ai\/(∃es ep t,s.heap.get? a=aa {cls:=.type "set",dict:=ae,data:=.set es ep t}/\(t.plain=ai\/es.size<=1)))(h:∀arr,sw P w ks arr->Q arr s):aA (aB P w) A (setWalk a) Q E s:=by
 obtain⟨es,ep,t,ss,ho,hS,hp,fS,hsz,hf,ix,cV⟩:=S.ex;unfold setWalk;refine au (iL ho rfl hf ?_);unfold oN;dsimp only;refine au (au (lu (aF ?_)));show aA _ _ (if cZ w=ai then _ else _) _ _ s;cases hb:cZ w with
 |true=>rw[if_pos rfl];refine au (lu (aF ?_));exact h _ (sw.of hS hp fS (Bv _ _))
 |false=>
  rw[if_neg (by decide)];have hq':t.plain=ai\/es.size<=1:=by
   rcases hq with hq|⟨es',ep',t',e',q⟩
   ·rw[hb]at hq;cases hq
   ·rw[ho]at e';cases e';exact q
  refine gE (λhc=>absurd (show(!t.plain&&decide (es.size > 1))=ai from hc) ?_) (λ_=>?_)
  ·rcases hq' with q|q
   ·rw[q];simp
   ·rw[decide_eq_false ∅];simp
  refine au ?_;refine dr (Q:=λ_ s'=>s'=s) (E:=E) ?_ (λ_ s' w8=>?_) (λ_ _ x=>x)
  ·refine gE (λhc=>absurd (show(!t.led&&decide (es.size > 1))=ai from hc) (by rw[ix,hb];simp)) (λ_=>aF rfl)
  ·subst w8;exact aF (h _ (sw.of hS hp fS (nD _)))
theorem UO:∀(sets:List ah),(∀b∈sets,∃ls,b_ P w s.heap b ls)->∀{Q:Bool->aq->Prop},Q ai s->aA (aB P w) A (setsQuiet sets) Q E s:=by
 intro sets hs Q hq;unfold setsQuiet;refine au (dr (wpAny_forIn_list _ (λrest (c:Option Bool×Unit) s'=>s'=s/\c=(ae,())/\∀b∈rest,b∈sets) (λc s'=>s'=s/\c=(ae,())) ?_ (λc s' h=>⟨h.1,h.2.1⟩) sets _ ⟨rfl,rfl,λb hb=>hb⟩) (λc s' hc=>?_) (λ_ _ x=>x))
 ·rintro b rest c s' ⟨rfl,rfl,hm⟩;obtain⟨ls,S⟩:=hs b (hm b (by simp));obtain⟨es,ep,t,ss,ho,hS,hp,fS,hsz,hf,ix,cV⟩:=S.ex;refine au (Eg ho rfl hf ?_);refine au (dr (wpAny_forIn_array' _ (λrest (c:Option Bool×Unit) s''=>s''=s'/\c=(ae,())/\∀e∈rest,e∈es.toList) (λc s''=>s''=s'/\c=(ae,())) ?_ (λc s'' h=>⟨h.1,h.2.1⟩) es _ ⟨rfl,rfl,λe he=>he⟩) (λc s'' hc=>?_) (λ_ _ x=>x))
  ·rintro e r2 c2 s2 ⟨rfl,rfl,mF⟩;obtain⟨y,t',ey⟩:=hS.all e.2 (dG.mpr ⟨e,mF e (by simp),rfl⟩);obtain⟨h1,v⟩:=e;obtain rfl:v=.str y t':=ey;exact aF ⟨rfl,rfl,λe he=>mF e (by simp[he])⟩
  ·obtain⟨rfl,rfl⟩:=hc;exact aF ⟨rfl,rfl,λb hb=>hm b (by simp[hb])⟩
 ·obtain⟨rfl,rfl⟩:=hc;exact aF hq
theorem Oi{a r:ah}{ks:List Str}{others:List ah}{Q:Array (Int×ak)->aq->Prop}(S:b_ P w s.heap a ks)(R:b_ P w s.heap r [])(oth:∀b∈others,∃ls,b_ P w s.heap b ls)(h:∀h' arr,jq r s.heap h'->b_ P w h' r []->sw P w ks arr->Q arr {s with heap:=h'}):aA (aB P w) A (Ex a others (aa r)) Q E s:=by
 obtain⟨es,ep,t,ss,ho,hS,hp,fS,hsz,hf,ix,cV⟩:=id S.ex;obtain⟨er,epr,tr,sr,hor,hSr,hpr,helr,Lq,kK,Ll,hplr⟩:=id R.ex;unfold Ex;refine au (iL ho rfl hf ?_);unfold oN;dsimp only;refine au (au (lu (aF ?_)));have same:∀arr,sw P w ks arr->Q arr s:=λarr wk=>h s.heap arr (wp r s.heap) R wk;refine gE (λhc=>?_) (λhc=>?_)
 ·have iN:(cZ w||(t.led&&t.plain)||decide (es.size<=1))=ai:=hc;refine Jj S ?_ same;simp only[z9,f7,decide_eq_true_eq]at iN;rcases iN with(z|z)|z
  ·exact .inl z
  ·exact .inr ⟨es,ep,t,ho,.inl z.2⟩
  ·exact .inr ⟨es,ep,t,ho,.inr z⟩
 ·refine au (UO (a::others) (λb hb=>?_) ?_)
  ·rcases b8.mp hb with rfl|hb
   ·exact⟨_,S⟩
   ·exact oth b hb
  refine gE (λhc=>absurd hc (by decide)) (λ_=>?_);refine au (lr ?_);refine au (iL hor rfl kK ?_);dsimp only;refine gE (λhc=>?_) (λhc=>?_)
  ·have hl:(tr.led&&t.led)=tr.led:=by rw[Ll,ix];cases cZ w <;> rfl
   have wZ:({tr with led:=tr.led&&t.led,plain:=tr.plain&&t.plain}:gU).fits er.size=ai:=kK;refine au (uc hor rfl ?_ (wu (oG Lq (by decide))));refine aF (h _ _ (oJ ..) ⟨er,epr+1,_,sr,b_.put hor,hSr,hpr,helr,Lq,wZ,?_,λz=>absurd rfl z⟩ (sw.of hS hp fS (nD _)));show(tr.led&&t.led)=_;rw[hl,Ll]
  ·refine aF ?_;exact same _ (sw.of hS hp fS (nD _))
theorem b_.ty{a:ah}{ks:List Str}(S:b_ P w s.heap a ks):s.TypeIs (.ref a) "set":=by obtain⟨es,ep,t,ss,ho,_⟩:=S.ex;exact⟨_,ho,rfl⟩
theorem xN{a:ah}{ks:List Str}{Q:Bool->aq->Prop}(S:b_ P w s.heap a ks)(h:Q ai s):aA (aB P w) A (Builtin.Frozenset.isAnySet (.ref a)) Q E s:=by unfold Builtin.Frozenset.isAnySet;refine au (Ab S.ty Ef ?_);exact aF h
theorem yh{a:ah}{ks:List Str}{Q:Nat->aq->Prop}(S:b_ P w s.heap a ks)(h:Q ks.length s):aA (aB P w) A (K9 a) Q E s:=by
 obtain⟨es,ep,t,ss,ho,hS,hp,fS,hsz,hf,ix,cV⟩:=S.ex;have klen:ks.length=es.size:=by
  have e1:=hp.length_eq;have e2:ss.length=es.size:=by rw[←hS.strs];simp
  lia
 unfold K9;refine au (Eg ho rfl hf (aF ?_));rw[←klen];exact h
theorem Ow{Q:ak->aq->Prop}(h:∀h',b_ P w h' s.heap.objs.size []->(∀b o,s.heap.get? b=aa o->h'.get? b=aa o)->h'.objs.size=s.heap.objs.size+1->Q (.ref s.heap.objs.size) {s with heap:=h'}):aA (aB P w) A (newSet (.type "set")) Q E s:=by unfold newSet oN;refine au (au (lu (aF ?_)));dsimp only;simp only[newObj];refine au (D4 (aF (h _ ⟨#[],0,_,[],df _ rfl,.nil,nD _,λe he=>by simp at he,by decide,rfl,rfl,λh=>absurd rfl h⟩ (λb o e=>bH _ e) (kj ..))))
end
section
variable{X:Cx}
theorem UR{ls:List Tx}(h:ls.Nodup):(ls.map tS).Nodup:=by rw[List.Nodup,Ec];exact h.imp λne e=>ne (qR e)
end
end L2
namespace Pu
open L2
section
variable{X:Cx}{E:XK}{pin:List Nat}{e e2:aE}{ds ds2:aj->R (List PV)}{pos p q XG p4 q2 pos2:Pos}
theorem SX(l:List Tx):(cS l).Nodup:=by
 unfold cS;have:∀(l aK:List Tx),aK.Nodup->(l.foldl (λks x=>if x∈ks then ks else ks++[x]) aK).Nodup:=by
  intro l
  induction l with
  |nil=>exact λaK h=>h
  |cons x l ih=>
   intro aK h;rw[jt];refine ih _ ?_;split
   ·exact h
   ·rename_i hx;rw[Ae];exact⟨h,by simp,λy hy z hz e=>by simp at hz;subst hz;subst e;exact hx hy⟩
 exact this l [] List.nodup_nil
def vQ:List PV->Option PO
 |[.lst xs]=>(g_ xs).bind λls=>if(cS ls).length<4000 then aa (.lst (ap (bp (cS ls))))else ae
 |_=>ae
def NG(X:Cx):List V->Hp->VK->Prop:=λxs H Q=>∃(p:ah) (ls:List Tx),xs=[.ref p]/\H p=aa (iQ X p ls)/\ls.length<4000/\∀l,H l=ae->Q (.ref l) (upd H l (.lst (c9 (bp ls))))
theorem Ny:qN X.K (SO X (NG X)) vQ:=λF H xs vs Q po hF rs e q=>by
 unfold vQ at e;split at e
 ·obtain⟨v,rfl,a,us,rfl,ha,_,ru⟩:=iF rs;obtain⟨ls,e1,e2⟩:=K0.mp e;rw[sD e1]at ru;obtain⟨rfl,hl⟩:=Xa.mp ru;split at e2
  ·rename_i hh;cases e2;refine⟨a,ls,rfl,.inl ha,hh,λb hb=>⟨b,cS ls,rfl,cF,hh,λl lA=>?_⟩⟩;have hlb:l≠b:=by rintro rfl;rw[cF]at lA;cases lA
   have uA:H l=ae:=by rw[cp hlb]at lA;exact lA
   have al:Al F F H (upd (upd H b (iQ X b (cS ls))) l (.lst (c9 (bp (cS ls))))):=(Al.new0 hb).trans (Al.new0 lA);refine q l F _ (λc=>c=l) al ⟨⟨_,cF,Xa.mpr ⟨rfl,λx hx=>hl x ((sW _ _).mp ((j2 _).mem_iff.mp hx))⟩⟩,λc=>Iff.rfl⟩ λc z=>?_;subst z;exact⟨uA,λz=>Exists.elim (hF _ z) (λo w=>by rw[uA]at w;cases w),_,cF,trivial⟩
  ·cases e2
 ·cases e
theorem OR(hc:X.calm=ai)(ha:DA X E [e] ds)(hm:X.mg "sorted" = ae)(mF:X.mg "set" = ae)(hg:Gl X "sorted":=by rfl)(uB:Gl X "set":=by rfl)(h:m8 e=am:=by rfl):DN X E (.Call (.Name "sorted" p) [.Call (.Name "set" q) [e] [] XG] [] pos) (dL vQ ds):=λF S Z Y H Q rl h'=>cB (rA (HA hc) hg hm yE (jE (vJ (BE hc) uB mF BO g9 (by decide) (by decide) (kq h) rfl) k_ (kq rfl)) (by decide) (by decide) (kq rfl) rfl) (yG Ny ha rl h')
def tE:List PV->Option (List Tx)
 |[.lst xs]=>(g_ xs).bind λls=>if(cS ls).length<4000 then aa (cS ls)else ae
 |_=>ae
theorem Gh{H:Hp}{F:ah->Prop}{xs:List PV}{vs:List V}{ls:List Tx}(rs:Reps X.K H F xs vs)(e:tE xs=aa ls):∃(p:ah) (zs:List Tx),vs=[.ref p]/\cC X.K H p (c9 zs)/\(cS zs).length<4000/\ls=cS zs/\∀x∈zs,x.length<=ce:=by
 unfold tE at e;split at e
 ·obtain⟨v,rfl,a,us,rfl,ha,_,ru⟩:=iF rs;obtain⟨zs,e1,e2⟩:=K0.mp e;rw[sD e1]at ru;obtain⟨rfl,hl⟩:=Xa.mp ru;split at e2
  ·cases e2;exact⟨a,zs,rfl,.inl ha,by assumption,rfl,hl⟩
  ·cases e2
 ·cases e
end
theorem NF(a:Int)(t:Tok)(l:ah)(X4:Array ak)(n:Nat)(sl:Array (Option ak)):Meets (Builtin.«int.__rmul__» ⟨[.int a t,.ref l],[]⟩) (λ_ R s=>s.heap.get? l=aa {cls:=.type "list",dict:=ae,data:=.seq X4 n,slots:=sl}/\R (.ok (.ret Value.notImplemented)) s) :=.of_wp λprog w A R s h=>by obtain⟨hp,g,d,tk,os⟩:=s;obtain⟨hl,h⟩:=h;wp_walk;exact⟨_,rfl,h⟩
theorem QY(l:ah)(X4:Array ak)(n:Nat)(sl:Array (Option ak))(x:Int)(u:Tok)(hc0:¬(!Builtin.List.listFitsIndex x)=ai)(hc1:¬X4.size*x.toNat > (2^63-1) / 8)(ut:¬zU (X4.size*x.toNat)=ai):Meets (Builtin.«list.__mul__» ⟨[.ref l,.int x u],[]⟩) (λ_ R s=>s.heap.get? l=aa {cls:=.type "list",dict:=ae,data:=.seq X4 n,slots:=sl}/\R (.ok (.ret (Value.ref s.heap.objs.size))) {s with heap:=s.heap.push {cls:=Value.type "list",data:=Data.seq (List.foldl (λx1 x2=>x1++x2) #[] (bK (if X4.isEmpty=ai then 0 else x.toNat) X4))},toks:=s.toks}) :=
 .of_wp λprog w A R s h=>by
  obtain⟨hp,g,d,tk,os⟩:=s;obtain⟨hl,h⟩:=h;have hsz:=PySem.AutoListH.joined_fits ut
  wp_walk;refine wpAny_ite_false (decide_eq_false (rW.mpr hsz)) ?_;wp_walk;exact⟨_,rfl,h⟩
section
variable{X:Cx}{K:aC}
def IG(K:aC):R2:=λx y H Q=>∃a k xs,x=.ref a/\y=.int k/\cC K H a xs/\xs≠[]/\1<=k/\k<=1000/\xs.length<=1000/\∀p,H p=ae->Q (.ref p) (upd H p (.lst (bK k.toNat xs).flatten))
theorem A8:cr X (jr .Mult) (IG X.K):=by
 intro af s Y H x y v u Q I rx ry h;obtain⟨l,k,xs,rfl,rfl,hH,cQ,h1,h2,hz,q⟩:=h;cases rx;obtain⟨t,rfl⟩:=ry;obtain⟨its,r,⟨⟨cls,dd,data,sl⟩,n,ho,hc,hdd,hd⟩,_⟩:=I.list hH;simp only at hc hd hdd;subst hc hd hdd;have hl:=r.length;have EU:its≠[]:=λz=>cQ (r.nil_iff.mp z);have f0:List.foldl (λx1 x2=>x1++x2) #[] (bK k.toNat its.toArray)=(bK k.toNat its).flatten.toArray:=by have:=foldl_rep its k.toNat [];rw[i5]at this;exact this
 have he:its.toArray.isEmpty=am:=by cases its with|nil=>exact absurd rfl EU|cons=>rfl
 have Lr:its.toArray.size*k.toNat<=1000000:=by rw[cU];have:=z_ (show its.length<=1000 by lia) (show k.toNat<=1000 by lia);lia
 refine wpAny_binaryOp_repeat_ref (T:="list") (U:="int") (by decide) ⟨_,ho,rfl⟩ (λs'=>typeIs_int s' k t) noFill_list_mul F.fills_int_mul F.slot_int_rmul repeat_list F.slot_int_index.lookup
  (wl F.slot_int_rmul (typeIs_int s k t) F.entry_int_rmul (F.args_int_rmul_2 _ _) (NF k t l its.toArray n sl) ⟨ho,rfl,⟨_,ho,rfl⟩,wl F.slot_list_mul ⟨_,ho,rfl⟩ F.entry_list_mul (F.args_list_mul_2 _ _) (QY l its.toArray n sl k t ?_ ?_ ?_) ⟨ho,?_⟩⟩)
 ·unfold Builtin.List.listFitsIndex;rw[decide_eq_true (show -(2^63:Int)<=k by lia),decide_eq_true (show k<2^63 by lia)];decide
 ·have:(1000000:Nat)<=(2^63-1) / 8:=by decide
  lia
 ·unfold zU;rw[decide_eq_false (by rw[oB];lia)];decide
 ·rw[he,if_neg (by decide),f0];refine⟨.ref s.heap.objs.size,_,I.laid (t':=s.toks) (o:=.lst (bK k.toNat xs).flatten) (λb ob q=>bH _ q) (bn _) ?_,rfl,q _ (I.hok.fresh (bn _))⟩;refine⟨?_,_,_,r.rep k.toNat,df _ rfl⟩;rw[HI,oB];have:=z_ (show k.toNat<=1000 by lia) hz;lia
def mX:PV->PV->Option PV
 |.lst xs,.int k=>if xs≠[]/\1<=k/\k<=1000/\xs.length<=1000 then aa (.lst (bK k.toNat xs).flatten)else ae
 |_,_=>ae
theorem C4:P2 K (IG K) mX:=λF H x y v u Q pv rx ry e q=>by
 unfold mX at e;split at e
 ·split at e
  ·rename_i xs k h;cases e;obtain⟨a,us,rfl,ha,_,ra⟩:=rx;have hl:=ra.len;exact⟨a,k,us,rfl,ry,.inl ha,(λz=>h.1 (by rw[z]at hl;exact wo hl.symm)),h.2.1,h.2.2.1,∅,λp hp=>q _ (λb=>F b\/b=p) _ (Al.new hp) ⟨p,_,rfl,.inl cF,.inr rfl,(Al.new hp).reps (ra.rep _)⟩⟩
  ·cases e
 ·cases e
end
section
variable{X:Cx}{CX:gc}{k:Nat}{f C:ah}{fd:gD}{ps:List Str}{sp:Sp}{E:XK}{af:List (ah×Obj)}{Y:St}{H:Hp}{s:aq}{Q:VK}{us:List ak}{vs:List V}
theorem Wy(F:j5 X.prog X.w X.K X.mg X.base CX k f fd ps sp)(hr:Room k X.A)(hb:Binds X.K fd ps [])(I:Inv X af Y H s)(r:bX vs us)(h:sp vs H Q E):aA (aB X.prog X.w) X.A (call (.ref f) us) (EP X af Y Q) (λe s'=>∃s1 H1,Inv X af Y H1 s1/\CX X.stack H1 s1 E e s') s:=by
 have hl:us.length=ps.length:=by rw[←r.length];exact F.len _ _ _ _ h
 refine wb (rL (F.run X.A X.stack s H ⟨us,[]⟩ us vs Q E hr I.env0 (by have:=hb s us I.kIn (by rw[iZ];exact hl);rwa[iZ]at this) r h) λrr s' hq=>?_);cases rr with
 |error er=>exact⟨s,H,I,hq⟩
 |ok fl=>
  cases fl with
  |ret u=>exact I.after hq
  |next=>exact iJ hq
  |brk=>exact iJ hq
  |cont=>exact iJ hq
end
def yy(Z:aj)(as:List b0)(g:aj->R Slot):R Slot:=(aV (if(cu as).Nodup then c_ Z as else ae) Z).bind λss Z=>ef Z as (g ss)
section
variable{K:aC}{E:XK}{F:ah->Prop}{S:Nat->ah->Prop}{Z:aj}{Y:St}{H:Hp}{as:List b0}{vs:List V}{g:aj->R Slot}
theorem Qm{D:Slot->aj->(ah->Prop)->(Nat->ah->Prop)->Hp->Prop}(r:aX K F S Z Y H)(av:i_ K Y F H as vs)(h:Ok K E Y F S H (yy Z as g) D):bz K g vs H (λv H'=>∃sl Z' F' S' Sr,aX K F' S' Z' Y H'/\bM (U S) (U S') F F' H H'/\j9 K H' F' sl v Sr/\(∀b,Sr b->H b=ae/\¬F' b/\¬U S' b/\∃o,H' b=aa o/\ez o)/\D sl Z' F' S' H') E:=by
 unfold yy at h;have q:=Ok.bind h;by_cases nd:(cu as).Nodup
 ·rw[if_pos nd]at q;cases es:c_ Z as with
  |none=>rw[es]at q;exact q.elim
  |some ss=>
   rw[es]at q;have q:=q F S H r (bM.refl ..);dsimp only at q;refine⟨F,mZ as S,ss,r.cal av es nd,?_⟩;cases eg:g ss with
   |no=>rw[eg]at q;exact q.elim
   |er cv aP=>
    rw[eg]at q;intro y F' S' H' r' g';unfold ef at q;dsimp only at q;by_cases kp:dX as aP=ai
    ·rw[if_pos kp]at q;obtain⟨S2,r2,g2,_⟩:=r.called av es nd r' g' (λ_ z=>z) (n4 kp);exact q y F' S2 H' r2 g2
    ·rw[if_neg kp]at q;exact q.elim
   |ok sl aP=>
    rw[eg]at q;intro v F' S' H' Sr r' g' rv lo fr;unfold ef at q;dsimp only at q;by_cases kp:dX as aP=ai
    ·rw[if_pos kp]at q;obtain⟨S2,r2,g2,u2⟩:=r.called av es nd r' g' (λ_ z=>.inl z) (n4 kp);refine⟨sl,_,F',S2,Sr,r2,g2,rv,λb z=>⟨fr b z,(lo b z).1,λw=>?_,(lo b z).2.2⟩,q F' S2 H' r2 g2⟩;rcases u2 b w with w|⟨i,w⟩
     ·exact(lo b z).2.1 w
     ·obtain⟨_,_,o,y1,_⟩:=r.foot i b w;rw[fr b z]at y1;cases y1
    ·rw[if_neg kp]at q;exact q.elim
 ·rw[if_neg nd]at q;exact q.elim
theorem SY{Q Q':VK}(h:bz K g vs H Q E)(hq:∀v H',Q v H'->Q' v H'):bz K g vs H Q' E:=by
 obtain⟨F,S,ss,rl,ok⟩:=h;refine⟨F,S,ss,rl,?_⟩;cases eg:g ss with
 |no=>rw[eg]at ok;exact ok
 |er c aP=>rw[eg]at ok;exact ok
 |ok sl aP=>rw[eg]at ok;exact λv F' S' H' Sr r' g' rv lo fr=>hq v H' (ok v F' S' H' Sr r' g' rv lo fr)
end
end Pu
namespace Mx
theorem M4(p:Nat):∃o,5^(2^p)=1+2^(p+2)*(2*o+1):=by
 induction p with
 |zero=>exact⟨0,by decide⟩
 |succ p ih=>
  obtain⟨o,h⟩:=ih;refine⟨o+2^p*(2*o+1)*(2*o+1),?_⟩;rw[show 2^(p+1)=2^p*2 from rX ..,Nat.pow_mul,h];rw[show(2:Nat)^(p+1+2)=8*2^p from by rw[Nat.pow_add,rX];lia,show(2:Nat)^(p+2)=4*2^p from by rw[Nat.pow_add];lia];generalize 2^p=q
  grind
def F5:Nat->Nat->Nat
 |0,x=>x
 |n+1,x=>F5 n (5*x+1)
theorem MC(m n x:Nat):F5 (m+n) x=F5 n (F5 m x):=by
 induction m generalizing x with
 |zero=>simp[F5]
 |succ m ih=>rw[Ah];exact ih _
theorem M5(n x:Nat):4*F5 n x+1=5^n*(4*x+1):=by
 induction n generalizing x with
 |zero=>simp[F5]
 |succ n ih=>show 4*F5 n (5*x+1)+1=_;rw[ih,rX];grind
theorem Vm(p x:Nat):∃o,F5 (2^p) x=x+2^p*(2*o+1):=by
 obtain⟨o,h⟩:=M4 p;have c:=M5 (2^p) x;rw[h,show(2:Nat)^(p+2)=4*2^p from by rw[Nat.pow_add];lia]at c;refine⟨o*(4*x+1)+2*x,?_⟩;generalize 2^p=q at c;generalize F5 q x=y at c
 grind
theorem Vq(p:Nat):∀x y,y<2^p->∃n,n<2^p/\F5 n x % 2^p=y:=by
 induction p with
 |zero=>intro x y h;exact⟨0,by decide,by simp at h;subst h;simp[Nat.mod_one]⟩
 |succ p ih=>
  intro x y hy;obtain⟨n,hn,e⟩:=ih x (y % 2^p) (rT _ (Nat.two_pow_pos p));have hp:(2:Nat)^(p+1)=2*2^p:=by rw[rX];lia
  obtain⟨o,j⟩:=Vm p (F5 n x);have pos:=Nat.two_pow_pos p;by_cases q:F5 n x % 2^(p+1)=y
  ·exact⟨n,∅,q⟩
  ·refine⟨n+2^p,∅,?_⟩;rw[MC,j];rw[hp]at q hy ⊢;generalize 2^p=N at *;generalize F5 n x=z at *;have h1:z % (2*N) % N=z % N:=Nat.mod_mod_of_dvd _ ⟨2,∅⟩;have h2:(z+N*(2*o+1)) % (2*N)=(z+N) % (2*N):=by rw[show z+N*(2*o+1)=(z+N)+(2*N)*o by grind,Nat.add_mul_mod_self_left]
   rw[h2];have hz:=rT z (show 2*N > 0 by lia);have h3:(z+N) % (2*N)=(z % (2*N)+N) % (2*N):=by rw[uh];simp[uh,qj (show N<2*N by lia)]
   rw[h3];generalize z % (2*N)=u at *;rw[←h1]at e;have a1:=Nat.div_add_mod u N;have a2:=Nat.div_add_mod y N;have b1:u / N<2:=Nat.div_lt_of_lt_mul (by rw[Ao];exact hz);have b2:y / N<2:=Nat.div_lt_of_lt_mul (by rw[Ao];exact hy);rw[e]at a1;generalize u / N=uq at a1 b1;generalize y / N=yq at a2 b2;have m1:=rT y pos;rcases(show uq=0\/uq=1 by lia)with c1|c1 <;> rcases(show yq=0\/yq=1 by lia)with c2|c2 <;> subst c1 <;> subst c2 <;> simp only[Nat.mul_zero,Nat.mul_one,mq]at a1 a2
   ·exact absurd (a1.symm.trans a2) q
   ·rw[qj ∅];lia
   ·rw[show u+N=y+2*N by lia,Nat.add_mod_right,qj ∅]
   ·exact absurd (a1.symm.trans a2) q
end Mx
namespace L2
open Mx
def iX(mask:Nat):Nat->Nat->Nat->Nat×Nat
 |0,i,p=>(i,p)
 |n+1,i,p=>iX mask n (SetTable.leap mask i p).1 (SetTable.leap mask i p).2
theorem Gg(mask:Nat):∀(m n i p:Nat),iX mask (m+n) i p=iX mask n (iX mask m i p).1 (iX mask m i p).2
 |0,n,i,p=>by rw[mq];rfl
 |m+1,n,i,p=>by rw[Ah];exact Gg mask m n _ _
theorem Iw(mask:Nat):∀(m i p:Nat),(iX mask m i p).2=p / 32^m
 |0,i,p=>by simp[iX]
 |m+1,i,p=>by show(iX mask m _ _).2=_;rw[Iw mask m];show p / 32 / 32^m=_;rw[Nat.div_div_eq_div_mul,rX,Ao]
theorem Im(mask:Nat):∀(n i:Nat),(iX mask n i 0).1 % (mask+1)=F5 n i % (mask+1)
 |0,i=>rfl
 |n+1,i=>by show(iX mask n ((i*5+1+0 / 32) % (mask+1)) (0 / 32)).1 % _=F5 n (5*i+1) % _;rw[show 0 / 32=0 from rfl,Im mask n,Nat.add_zero,Ao i 5];exact F5_mod n (mask+1) (5*i+1)
where
 F5_mod:∀(n N x:Nat),F5 n (x % N) % N=F5 n x % N
  |0,N,x=>by simp[F5]
  |n+1,N,x=>by show F5 n (5*(x % N)+1) % N=F5 n (5*x+1) % N;rw[←F5_mod n N (5*(x % N)+1),←F5_mod n N (5*x+1)];congr 2;rw[uh,Nat.mul_mod,Nat.mod_mod,←Nat.mul_mod,←uh]
theorem Jz(mask:Nat):∀(n i p:Nat),(iX mask (n+1) i p).1<mask+1
 |0,i,p=>rT _ (Nat.succ_pos _)
 |n+1,i,p=>Jz mask n _ _
theorem FV{mask:Nat}{owner:Array (Option Nat)}:∀(bN i p:Nat),(∃t,t<bN/\(owner.getD (iX mask t i p).1 (aa 0)).isNone=ai)->∃j,wC mask owner bN i p=aa j/\(owner.getD j (aa 0)).isNone=ai
 |0,i,p,⟨t,h,_⟩=>absurd h (zW _)
 |bN+1,i,p,⟨t,h,e⟩=>by
  unfold wC;cases q:(bF (SetTable.runEnd mask i+1-i)).find? (λk=>(owner.getD (i+k) (aa 0)).isNone)with
  |some k=>exact⟨i+k,rfl,by have:=List.find?_some q;exact this⟩
  |none=>
   cases t with
   |zero=>have:=Ap.mp q 0 (by rw[nr];unfold SetTable.runEnd;split <;> lia);exact absurd (show(owner.getD (i+0) (aa 0)).isNone=ai from e) this
   |succ t=>exact FV bN _ _ ⟨t,∅,e⟩
theorem MH{mask q:Nat}{owner:Array (Option Nat)}(hm:mask+1=2^q)(hs:owner.size=mask+1){y:Nat}(hy:y<owner.size)(he:owner[y]?=aa ae)(i p:Nat)(hp:p<2^64):∃j,wC mask owner (wD mask) i p=aa j/\owner[j]?=aa ae:=by
 obtain⟨n,hn,e⟩:=Vq q (iX mask 13 i p).1 y (by rw[←hm,←hs];exact hy);have h0:(iX mask 13 i p).2=0:=by rw[Iw];exact Nat.div_eq_of_lt (fI hp (by decide))
 have bI:(iX mask (13+n) i p).1<mask+1:=by rw[show 13+n=(12+n)+1 by lia];exact Jz mask _ _ _
 have e1:(iX mask (13+n) i p).1=y:=by
  have e2:(iX mask (13+n) i p).1 % (mask+1)=y:=by rw[Gg,h0,Im,hm];exact e
  rwa[qj bI]at e2
 obtain⟨j,f1,f2⟩:=FV (mask:=mask) (owner:=owner) (wD mask) i p ⟨13+n,by unfold wD;lia,by rw[e1,K_,he];rfl⟩;refine⟨j,f1,?_⟩;rw[K_]at f2;cases hj:owner[j]? with
 |none=>rw[hj]at f2;cases f2
 |some o=>
  rw[hj]at f2;cases o with
  |none=>rfl
  |some v=>cases f2
theorem JD:∀(l:List (Option Nat)) (j k:Nat),l[j]?=aa ae->((l.set j (aa k)).filterMap id).Perm (k::l.filterMap id)
 |[],j,k,h=>by simp at h
 |x::l,0,k,h=>by simp at h;subst h;simp
 |x::l,j+1,k,h=>by
  have ih:=JD l j k (by simpa using h);cases x with
  |none=>simpa using ih
  |some v=>simp only[List.set_cons_succ,ma,id];exact(ih.cons v).trans (List.Perm.swap ..)
theorem Ix:∀(l:List (Option Nat)),(∀y,y<l.length->l[y]?≠aa ae)->(l.filterMap id).length=l.length
 |[],_=>rfl
 |x::l,h=>by
  have ih:=Ix l λy hy e=>h (y+1) (by simp;lia) (by simpa using e);cases x with
  |none=>exact absurd rfl (h 0 (by simp))
  |some v=>simp[ih]
def Laid(mask:Nat)(owner:Array (Option Nat))(k:Nat):Prop:=owner.size=mask+1/\(owner.toList.filterMap id).Perm (bF k)
theorem VX{mask q k:Nat}{owner:Array (Option Nat)}(hm:mask+1=2^q)(L:Laid mask owner k)(hk:k<mask+1)(h:Int):∃j,wC mask owner (wD mask) (qm h % (mask+1)) (qm h)=aa j/\Laid mask (owner.setIfInBounds j (aa k)) (k+1):=by
 obtain⟨hs,hp⟩:=L;have:∃y,y<owner.toList.length/\owner.toList[y]?=aa ae:=by
  by_cases z:∃y,y<owner.toList.length/\owner.toList[y]?=aa ae
  ·exact z
  ·have:=Ix owner.toList λy hy e=>z ⟨y,hy,e⟩;have:=hp.length_eq;simp at this;simp at *;lia
 obtain⟨y,hy,he⟩:=this;have hb:qm h<2^64:=by unfold qm;have:=Ey h (show(0:Int)<2^64 by decide);have:=Ez h (show(2^64:Int)≠0 by decide);lia
 obtain⟨j,f1,f2⟩:=MH hm hs (by simpa using hy) (by simpa using he) (qm h % (mask+1)) _ hb;refine⟨j,f1,by simpa using hs,?_⟩;rw[Array.toList_setIfInBounds,t9];exact(JD owner.toList j k (by simpa using f2)).trans ((hp.cons k).trans (List.perm_append_singleton ..).symm)
theorem VN{mask q:Nat}(hm:mask+1=2^q)(WW:Array Int)(hn:WW.size<=mask):∃owner,KI mask WW=aa owner/\Laid mask owner WW.size:=by
 unfold KI;have gen:∀(l:List Int) (owner:Array (Option Nat)) (k:Nat),Laid mask owner k->k+l.length<=mask+1->∃owner',l.foldl (λaK h=>do
   let (owner,k) ←aK
   let j ←wC mask owner (wD mask) (qm h % (mask+1)) (qm h)
   pure (owner.setIfInBounds j (aa k),k+1)) (aa (owner,k))=aa (owner',k+l.length)/\Laid mask owner' (k+l.length):=by
  intro l
  induction l with
  |nil=>intro owner k L _;exact⟨owner,rfl,L⟩
  |cons h l ih=>intro owner k L hk;simp only[fi]at hk;obtain⟨j,f1,L2⟩:=VX hm L ∅ h;obtain⟨owner',e,L3⟩:=ih _ _ L2 ∅;refine⟨owner',?_,by rw[fi,show k+(l.length+1)=k+1+l.length by lia];exact L3⟩;rw[jt];show l.foldl _ ((wC mask owner (wD mask) (qm h % (mask+1)) (qm h)).bind λj=>aa (owner.setIfInBounds j (aa k),k+1))=_;rw[f1,fi,show k+(l.length+1)=k+1+l.length by lia];exact e
 obtain⟨owner',e,L⟩:=gen WW.toList (Array.replicate (mask+1) ae) 0 ⟨by simp,by simp⟩ (by simp;lia);refine⟨owner',?_,by simpa using L⟩;rw[←Array.foldl_toList];have e':=congrArg (Am (·.1)) e;exact e'
theorem UW(n:Nat)(hn:n<2^60):∃q,oI n=2^q/\n<oI n/\(oI n<=2*n\/oI n=8)/\8<=oI n:=by
 have gen:∀(bN size:Nat),(∃q,size=2^q)->(size<=2*n\/size=8)->8<=size->n<size*2^bN->∃q,wE n bN size=2^q/\n<wE n bN size/\(wE n bN size<=2*n\/wE n bN size=8)/\8<=wE n bN size:=by
  intro bN
  induction bN with
  |zero=>intro size ⟨q,hq⟩ h1 h8 h2;exact⟨q,hq,by show n<size;simpa using h2,h1,h8⟩
  |succ bN ih=>
   intro size ⟨q,hq⟩ h1 h8 h2;unfold wE;split
   ·refine ih (size*2) ⟨q+1,by rw[hq,rX]⟩ (.inl ∅) ∅ ?_;rw[rX]at h2;rw[Nat.mul_assoc,Ao 2];exact h2
   ·rename_i h;exact⟨q,hq,∅,h1,h8⟩
 exact gen 64 8 ⟨3,rfl⟩ (.inr rfl) (bn _) (fI hn (by decide))
theorem GN{mask q finger moves:Nat}{led plain:Bool}(hm:mask+1=2^q)(es:Array (Int×ak))(hn:es.size<=mask):∃(t:gU) (X8:Array Nat),SetTable.laid mask finger moves led plain (es.map (·.1))=aa (t,X8)/\X8.toList.Perm (bF es.size)/\t.fits es.size=ai/\t.led=led/\t.plain=plain/\t.dummies=#[]/\t.mask=mask/\t.place.size=es.size:=by
 obtain⟨owner,e,hs,hp⟩:=VN hm (es.map (·.1)) (by simpa using hn);simp only[Array.size_map]at hp;have e2:((bF (mask+1)).filterMap λj=>(owner.getD j ae).map (j,·)).map (·.2)=owner.toList.filterMap id:=by
  rw[List.map_filterMap];have:(λx=>Am (λx:Nat×Nat=>x.2) (Am (λx_1=>(x,x_1)) (owner.getD x ae)))=λj=>owner.getD j ae:=by
   funext j;cases owner.getD j ae <;> rfl
  rw[this,←hs];have gen:∀(l:List (Option Nat)),(bF l.length).filterMap (λj=>l.getD j ae)=l.filterMap id:=by
   intro l
   induction l with
   |nil=>rfl
   |cons x l ih=>
    rw[fi,rR,ma,DQ,ma];have e3:((λj=>(x::l).getD j ae) ∘ Nat.succ)=λj=>l.getD j ae:=by funext j;simp
    rw[e3,ih];cases x <;> rfl
  have:=gen owner.toList;rw[iI]at this;rw[←this];congr 1;funext j;simp[K_,Ai]
 have cg:((bF (mask+1)).filterMap λj=>(owner.getD j ae).map (j,·)).length=es.size:=by rw[←dw (f:=λx:Nat×Nat=>x.2),e2];have:=hp.length_eq;simpa using this
 refine⟨_,_,by unfold SetTable.laid;rw[e];rfl,?_,?_,rfl,rfl,rfl,rfl,?_⟩
 ·show(((bF (mask+1)).filterMap λj=>(owner.getD j ae).map (j,·)).map (·.2)).toArray.toList.Perm _;rw[Ea,e2];exact hp
 ·unfold ue ui;simp only[cU,dw,cg];simp[hn]
 ·show(((bF (mask+1)).filterMap λj=>(owner.getD j ae).map (j,·)).map (·.1)).toArray.size=_;rw[cU,dw,cg]
theorem TJ{es:Array (Int×ak)}{X8:Array Nat}(h:X8.toList.Perm (bF es.size)):(X8.filterMap (es[·]?)).toList.Perm es.toList:=by
 rw[Array.toList_filterMap];refine(h.filterMap _).trans ?_;have:(bF es.size).filterMap (λx=>es[x]?)=es.toList:=by
  have gen:∀l:List (Int×ak),(bF l.length).filterMap (λx=>l[x]?)=l:=by
   intro l
   induction l with
   |nil=>rfl
   |cons x l ih=>
    rw[fi,rR,ma,DQ];have e3:((λj=>(x::l)[j]?) ∘ Nat.succ)=λj=>l[j]?:=by funext j;simp
    rw[e3,ih];rfl
  have:=gen es.toList;rw[iI]at this;simpa using this
 rw[this]
section
variable{P:aZ}{w:aT}{A:bd}{E:ak->aq->Prop}{s:aq}
structure Ck(P:aZ)(w:aT)(h:aI)(a:ah)(ks:List Str)(es:Array (Int×ak))(ep:Nat)(t:gU)(ss:List Str):Prop where
 at_:h.get? a=aa {cls:=.type "set",dict:=ae,data:=.set es ep t}
 texts:e_ (es.toList.map (·.2)) ss
 perm:ss.Perm ks
 el:ElemsOf (dE P w) es.toList
 sz:es.size<4090
 fits:t.fits es.size=ai
 led:t.led=(!cZ w)
 plain:t.plain=am
 dum:t.dummies=#[]
 mask:7<=t.mask
theorem Ck.toS{h:aI}{a:ah}{ks:List Str}{es:Array (Int×ak)}{ep:Nat}{t:gU}{ss:List Str}(x:Ck P w h a ks es ep t ss):b_ P w h a ks :=⟨es,ep,t,ss,x.at_,x.texts,x.perm,x.el,x.sz,x.fits,x.led,λ_=>x.plain⟩
theorem b_.len{h:aI}{a:ah}{ks:List Str}{es:Array (Int×ak)}{ss:List Str}(hS:e_ (es.toList.map (·.2)) ss)(hp:ss.Perm ks):ks.length=es.size:=by
 have e1:=hp.length_eq;have e2:ss.length=es.size:=by rw[←hS.strs];simp
 lia
theorem VY{a:ah}{ks:List Str}{Q:ak->aq->Prop}(S:b_ P w s.heap a ks)(h8:8<=ks.length)(hk:ks.length<4000)(h:∀h' es ep t ss,Ck P w h' s.heap.objs.size ks es ep t ss->(∀b o,s.heap.get? b=aa o->h'.get? b=aa o)->Q (.ref s.heap.objs.size) {s with heap:=h'}):aA (aB P w) A (Builtin.Frozenset.copyOf a) Q E s:=by
 obtain⟨es,ep,t,ss,ho,hS,hp,fS,hsz,hf,ix,cV⟩:=id S.ex;have klen:=b_.len (h:=s.heap) (a:=a) hS hp;have cQ:a≠s.heap.objs.size:=cX (bD ho);have Aw:t.plain=am:=cV λz=>by rw[z]at h8;simp at h8
 unfold Builtin.Frozenset.copyOf Builtin.Frozenset.baseOf;refine au (au (Ab S.ty Ef (aF ?_)));rw[if_pos rfl];unfold newSet oN;refine au (au (au (lu (aF ?_))));dsimp only;simp only[newObj];refine au (D4 (aF ?_));refine au (aF ?_);generalize hT0:(SetTable.fresh 0 0 _:gU)=t0;have t0m:t0.mask=7:=by rw[←hT0];rfl
 have t0p:t0.place=#[]:=by rw[←hT0];rfl
 have t0d:t0.dummies=#[]:=by rw[←hT0];rfl
 have t0l:t0.led=(!cZ w):=by rw[←hT0];rfl
 have old:∀b o,s.heap.get? b=aa o->(s.heap.push {cls:=.type "set",data:=.set #[] 0 t0}).get? b=aa o:=λb o e=>bH _ e;have hr:(s.heap.push {cls:=.type "set",data:=.set #[] 0 t0}).get? s.heap.objs.size=aa {cls:=.type "set",dict:=ae,data:=.set #[] 0 t0}:=df _ rfl;have nM:=old a _ ho;generalize s.heap.push {cls:=.type "set",data:=.set #[] 0 t0}=h1 at old hr nM;unfold setMerge;refine au ?_;refine gE (λhc=>absurd (show(s.heap.objs.size == a)=ai from hc) (by simp;exact λz=>cQ z.symm)) (λ_=>?_);refine au (iL (s:={s with heap:=h1}) nM rfl hf ?_);dsimp only;refine gE (λhc=>by
  have hc:es.isEmpty=ai:=hc;rw[Array.isEmpty_iff]at hc;have:es.size=0:=by rw[hc];rfl
  lia) (λ_=>?_)
 obtain⟨q,hq,bI,f_,fj⟩:=UW (es.size*2) ∅;have relay:∀{QQ:Unit->aq->Prop},(∀h2 (t2:gU),h2.get? s.heap.objs.size=aa {cls:=.type "set",dict:=ae,data:=.set #[] 1 t2}->t2.mask=oI (es.size*2)-1->t2.place=#[]->t2.dummies=#[]->t2.led=(!cZ w)->jq s.heap.objs.size h1 h2->QQ () {s with heap:=h2}) ->
   aA (aB P w) A (setRoomFor s.heap.objs.size es.size) QQ E {s with heap:=h1}:=λ{QQ} xx=>by
  have hf0:t0.fits (#[]:Array (Int×ak)).size=ai:=by unfold ue ui;rw[t0p,t0d,t0m];rfl
  unfold setRoomFor;refine au (iL (s:={s with heap:=h1}) hr rfl hf0 ?_);have wI:t0.roomFor es.size=aa (es.size*2):=by unfold SetTable.roomFor ui;rw[t0p,t0d,t0m];rw[if_pos (by simp;lia)];simp
  dsimp only;rw[wI];show aA _ _ (setRelay s.heap.objs.size (es.size*2)) _ _ _;unfold setRelay;refine au (iL (s:={s with heap:=h1}) hr rfl hf0 ?_);dsimp only;refine gE (λhc=>absurd (show oI (es.size*2) > bw from hc) (rW.mpr (nt (yx ∅)))) (λ_=>?_);obtain⟨t2,X8,l1,l2,l3,l4,l5,l6,l7,l8⟩:=GN (mask:=oI (es.size*2)-1) (q:=q) (finger:=t0.finger) (moves:=t0.movedTo (oI (es.size*2)-1)) (led:=t0.led) (plain:=t0.plain) ∅ #[] (nB _);have l1':t0.relaid ((#[]:Array (Int×ak)).map (·.1)) (es.size*2)=aa (t2,X8):=l1;rw[l1'];have ho0:X8=#[]:=by have:=l2.length_eq;simp at this;exact this
  subst ho0;refine au (dr (Q:=λr s'=>r=((#[]:Array (Int×ak)),t2)/\s'={s with heap:=h1}) (E:=E) ?_ (λr s' gX=>?_) (λ_ _ x=>x))
  ·exact aF ⟨rfl,rfl⟩
  ·obtain⟨rfl,rfl⟩:=gX;refine uc (s:={s with heap:=h1}) hr rfl ?_ (nB _);refine xx _ t2 (b_.put hr) l7 (by have:=l8;simpa using this) l6 (l4.trans t0l) (oJ ..)
 refine au (relay λh2 t2 g1 g2 g3 g4 g5 g6=>?_);have wZ:t2.fits (#[]:Array (Int×ak)).size=ai:=by unfold ue ui;rw[g3,g4];simp
 refine au (iL (s:={s with heap:=h2}) g1 rfl wZ ?_);dsimp only;have EO:15<=t2.mask:=by rw[g2];lia
 have wK:t2.road t=.slotForSlot/\t2.mask=t.mask/\t.dummies=#[]\/t2.road t=.clean:=by
  unfold SetTable.road ui;rw[g3,g4];by_cases hc:(t2.mask == t.mask&&t.dummies.isEmpty)=ai
  ·refine .inl ⟨?_,?_⟩
   ·simp[hc]
   ·rw[f7]at hc;exact⟨by simpa using hc.1,by simpa using hc.2⟩
  ·refine .inr ?_;simp[hc]
 have oldF:∀{h3:aI},jq s.heap.objs.size h2 h3->∀b o,s.heap.get? b=aa o->h3.get? b=aa o:=λ{h3} sb b o e=>by have hb:b≠s.heap.objs.size:=cX (bD e);exact(sb.2 b hb).trans ((g6.2 b hb).trans (old b o e))
 rcases wK with⟨wK,hm1,mF⟩|wK
 ·rw[wK];dsimp only;refine uc (s:={s with heap:=h2}) g1 rfl ?_ (wu (oG hsz (by decide)));refine aF (h _ es 2 _ ss ⟨b_.put g1,hS,hp,fS,hsz,hf,?_,?_,mF,?_⟩ (oldF (oJ ..)))
  ·show(t2.led&&t.led)=_;rw[g5,ix];cases cZ w <;> rfl
  ·show(t2.plain&&t.plain)=_;rw[Aw,D_]
  ·show 7<=t.mask;rw[←hm1];lia
 ·rw[wK];dsimp only;obtain⟨t3,X8,l1,l2,l3,l4,l5,l6,l7,l8⟩:=GN (mask:=t2.mask) (q:=q) (finger:=t2.finger) (moves:=t2.moves) (led:=t2.led&&t.led) (plain:=t2.plain&&t.plain) (by rw[g2,←hq];lia) es (by rw[g2];lia);rw[l1];have op:=TJ l2;have osz:(X8.filterMap (es[·]?)).size=es.size:=by have:=op.length_eq;rw[iI,iI]at this;exact this
  refine au (dr (Q:=λr s'=>r=(X8.filterMap (es[·]?),t3)/\s'={s with heap:=h2}) (E:=E) ?_ (λr s' gX=>?_) (λ_ _ x=>x))
  ·refine gE (λhc=>absurd (show((X8.filterMap (es[·]?)).size != es.size)=ai from hc) (by rw[osz];simp)) (λ_=>aF ⟨rfl,rfl⟩)
  ·obtain⟨rfl,rfl⟩:=gX;refine uc (s:={s with heap:=h2}) g1 rfl ?_ (wu (oG (by rw[osz];exact hsz) (by decide)));obtain⟨aP,u1,u2⟩:=u7 (op.map (λe:Int×ak=>e.2)) hS;refine aF (h _ _ 2 t3 aP ⟨b_.put g1,u1,u2.trans hp,fS.perm op,by rw[osz];exact hsz,by rw[osz];exact l3,?_,?_,l6,?_⟩ (oldF (oJ ..)))
   ·rw[l4,g5,ix];cases cZ w <;> rfl
   ·rw[l5,Aw,D_]
   ·rw[l7];lia
end
theorem N2:entryFor table "set.__sub__" = aa Builtin.«frozenset.__sub__»:=entryFor_alias (id':="frozenset.__sub__") (by kernel_rfl) rfl (by decide +kernel) (by kernel_rfl)
section
variable{P:aZ}{w:aT}{A:bd}{E:ak->aq->Prop}{s:aq}
theorem V7{asked XC r:ah}{ks ls:List Str}{arr:Array (Int×ak)}{id:String}{was:Nat}{Q:PUnit->aq->Prop}(Sk:b_ P w s.heap XC ks) (Sl:b_ P w s.heap asked ls) (R:b_ P w s.heap r []) (h1:XC≠r) (h2:asked≠r) (nk:ks.Nodup) (hk:ks.length<4000) (wk:sw P w ks arr)(hw:∃es t,s.heap.get? XC=aa {cls:=.type "set",dict:=ae,data:=.set es was t}/\t.fits es.size=ai)(h:∀h',jq r s.heap h'->b_ P w h' r (ks.filter (·∉ls))->Q ⟨⟩ {s with heap:=h'}):aA (aB P w) A (forIn arr PUnit.unit λx __s=>do
    holding [x.snd] (do
     let f ←setFind asked x.snd x.fst
     let there ←pure f.isSome
     if(!there)=ai then do
      let _ ←setAddHashed r x.snd x.fst
      pure ()
     else pure ())
    EB id XC was
    pure (ForInStep.yield PUnit.unit)) Q E s:=by
 obtain⟨ss,e1,e2,e3⟩:=wk.ex;have ns:ss.Nodup:=e3.nodup_iff.mpr nk;have fin:∀{zs:List Str},zs=ss->(zs.filter (·∉ls)).Perm (ks.filter (·∉ls)):=λ{zs} e=>by subst e;exact e3.filter _
 refine wpAny_forIn_array' _ (λrest _ s'=>∃h' jw kl,s'={s with heap:=h'}/\ss=jw++kl/\rest.map (λe=>e.1)=kl.map (dE P w).hash/\e_ (rest.map (·.2)) kl/\jq r s.heap h'/\b_ P w h' r (jw.filter (·∉ls))) Q ?_ ?_ arr _ ⟨s.heap,[],ss,rfl,rfl,e1,e2,wp r s.heap,R⟩
 ·rintro⟨hx,x⟩ rest _ s' ⟨h',jw,kl,rfl,o8,f1,f2,jx,R'⟩;cases kl with
  |nil=>exact absurd f2.length (by simp)
  |cons y kl=>
   rw[eZ,eZ,rY]at f1;obtain⟨f0,f1⟩:=f1;obtain rfl:hx=(dE P w).hash y:=f0;cases f2 with
   |cons _ tk f2=>
    have Sl':b_ P w h' asked ls:=Sl.at λo e=>(jx.2 asked h2).trans e;have nd:=ns;rw[o8]at nd;have hy:y∉jw:=λhm=>by rw[Ae]at nd;exact nd.2.2 y hm y (by simp) rfl
    have cg:(jw.filter (·∉ls)).length<4000:=by have q1:=EC (λz=>decide (z∉ls)) jw;have q2:=e3.length_eq;rw[o8,d_]at q2;lia
    have stay:∀iz,jq r h' iz->b_ P w iz r ((jw++[y]).filter (·∉ls))->∀{QQ:ForInStep PUnit->aq->Prop},(∀s',(∃h' jw kl,s'={s with heap:=h'}/\ss=jw++kl/\rest.map (λe=>e.1)=kl.map (dE P w).hash/\e_ (rest.map (·.2)) kl/\jq r s.heap h'/\b_ P w h' r (jw.filter (·∉ls)))->QQ (.yield PUnit.unit) s') ->
      aA (aB P w) A (do
      EB id XC was
      pure (ForInStep.yield PUnit.unit)) QQ E {s with heap:=iz}:=λiz fL R2 QQ xx=>by
     obtain⟨es,t,sk,qE⟩:=hw;have jy:iz.get? XC=aa {cls:=.type "set",dict:=ae,data:=.set es was t}:=(fL.2 XC h1).trans ((jx.2 XC h1).trans sk);unfold EB;refine au (au (An (s:={s with heap:=iz}) jy rfl qE ?_));refine gE (λhc=>absurd hc (by simp)) (λ_=>aF (aF ?_));exact xx _ ⟨iz,jw++[y],kl,rfl,by rw[o8];simp,f1,f2,jx.trans fL,R2⟩
    refine au (kH (au (ML (s:={s with heap:=h'}) Sl' λr' hr=>?_)));refine au (aF ?_);by_cases hm:y∈ls
    ·rw[decide_eq_true hm]at hr;rw[if_neg (by rw[hr];decide)];refine aF (stay h' (wp r h') ?_ λ_ z=>z);rw[ED];simpa[hm]using R'
    ·rw[decide_eq_false hm]at hr;rw[if_pos (by rw[hr];rfl)];refine au (FX (s:={s with heap:=h'}) R' cg λiz b fL R2=>aF (stay iz fL ?_ λ_ z=>z));have:jG (jw.filter (·∉ls)) y=(jw++[y]).filter (·∉ls):=by unfold jG;rw[if_neg (λz=>hy (nq.mp z).1),ED];simp[hm]
     rw[←this];exact R2
 ·rintro _ s' ⟨h',jw,kl,rfl,o8,f1,f2,jx,R'⟩;cases kl with
  |cons y kl=>exact absurd f2.length (by simp)
  |nil=>rw[iZ]at o8;exact h h' jx (R'.perm (fin o8.symm))
theorem zF{α:Type}(xs:Array α)(i:Nat):(oS xs i).toList=xs.toList.eraseIdx i:=by unfold oS;rw[iM,K2,K2,List.eraseIdx_eq_take_drop_succ];simp[List.extract];exact mn (by simp)
theorem Jc:∀{vs:List ak}{ss:List Str} (i:Nat),e_ vs ss->e_ (vs.eraseIdx i) (ss.eraseIdx i)
 |_,_,i,.nil=>by simpa using StrsAre.nil
 |_,_,0,.cons y t h=>by simpa using h
 |_,_,i+1,.cons y t h=>by simpa using StrsAre.cons y t (Jc i h)
theorem IZ:∀{ss:List Str}{i:Nat}{x:Str},ss.Nodup->ss[i]?=aa x->ss.eraseIdx i=ss.filter (·≠x)
 |[],i,x,_,h=>by simp at h
 |y::ss,0,x,nd,h=>by simp at h;subst h;have hn:=(kh.mp nd).1;rw[List.eraseIdx_cons_zero,List.filter_cons_of_neg (by simp)];exact(qo.mpr λz hz=>by simp;rintro rfl;exact hn hz).symm
 |y::ss,i+1,x,nd,h=>by
  have h':ss[i]?=aa x:=by simpa using h
  have hn:=kh.mp nd;have hx:x∈ss:=zS h';rw[List.eraseIdx_cons_succ,List.filter_cons_of_pos (by simp;rintro rfl;exact hn.1 hx),IZ hn.2 h']
theorem Rs{r:ah}{ks:List Str}{es:Array (Int×ak)}{ep:Nat}{t:gU}{ss:List Str}{x:Str}{tk:Tok}{Q:Bool->aq->Prop}(X:Ck P w s.heap r ks es ep t ss)(nk:ks.Nodup)(h:∀h' b (es':Array (Int×ak)) (t':gU) ep',jq r s.heap h'->b_ P w h' r (ks.filter (·≠x))->h'.get? r=aa {cls:=.type "set",dict:=ae,data:=.set es' ep' t'}->t'.fits es'.size=ai->t'.dummies.size<=1->7<=t'.mask->Q b {s with heap:=h'}):aA (aB P w) A (setDiscardHashed r (.str x tk) ((dE P w).hash x)) Q E s:=by
 obtain⟨ho,hS,hp,fS,hsz,hf,ix,cV,EY,EO⟩:=X;have ns:ss.Nodup:=hp.nodup_iff.mpr nk;have jv:(dE P w).is x (.str x tk)=ai:=by rw[rD];simp
 have hb:es.size<scanBound:=oG hsz (by decide);unfold setDiscardHashed;refine au ?_;unfold setFind setFindIn;refine au (iL ho rfl hf ?_);dsimp only;rw[byScan_of (knd:=dE P w) (x:=.str x tk) rfl hb fS];simp only[if_true];refine au (lr (au (KJ jv ho rfl hf fS ?_)));cases hr:List.findIdx? (λe=>(dE P w).is x e.2) es.toList with
 |some i=>
  obtain⟨hi,wY,_⟩:=Ed.mp hr;refine aF ?_;dsimp only;simp only[mq];have hi':i<es.size:=by simpa using hi
  have hsi:ss[i]?=aa x:=by
   have e1:(es.toList.map (·.2))[i]?=aa es.toList[i].2:=by rw[jP,f9 hi];rfl
   have gen:∀{vs:List ak}{zs:List Str} (j:Nat) (v:ak),e_ vs zs->vs[j]?=aa v->(dE P w).is x v=ai->zs[j]?=aa x:=by
    intro vs zs j v hh
    induction hh generalizing j with
    |nil=>intro e _;simp at e
    |cons y t' _ ih=>
     intro e q;cases j with
     |zero=>simp at e;subst e;rw[rD]at q;have:y=x:=of_decide_eq_true q;subst this;rfl
     |succ j=>simpa using ih j (by simpa using e) q
   exact gen i _ hS e1 wY
  refine au (iL ho rfl hf ?_);dsimp only;have qz:t.place.size=es.size:=by unfold ue at hf;simp only[f7,beq_iff_eq]at hf;exact hf.1
  have EQ:t.fill<=t.mask:=by unfold ue at hf;simp only[f7,decide_eq_true_eq]at hf;exact hf.2
  have hpl2:t.place[i]?=aa t.place[i]:=Ac (by rw[qz];exact hi');have esz:(oS es i).size=es.size-1:=by rw[←iI,zF,Eh,if_pos hi,iI]
  have psz:(oS t.place i).size=es.size-1:=by rw[←iI,zF,Eh,if_pos (by rw[iI,qz];exact hi'),iI,qz]
  have wL:t.drop i={t with place:=oS t.place i,dummies:=KH t.dummies (KQ t.dummies t.place[i]) t.place[i]}:=by unfold SetTable.drop;rw[hpl2]
  have dsz:(t.drop i).dummies.size=1:=by rw[wL,EY];unfold KH;simp
  have Ls:(t.drop i).fits (oS es i).size=ai:=by unfold ue ui;rw[dsz,esz];rw[wL];simp only[psz,beq_self_eq_true,D9,decide_eq_true_eq];show es.size-1+1<=t.mask;unfold ui at EQ;rw[qz,EY]at EQ;simp at EQ;lia
  refine au (uc ho rfl ?_ (wu (oG (show(oS es i).size<4090 by lia) (by decide))));refine au (wpAny_point (aF ?_));have at2:(s.heap.update r (Obj.putSet (oS es i) (t.drop i))).get? r=aa {cls:=.type "set",dict:=ae,data:=.set (oS es i) (ep+1) (t.drop i)}:=b_.put ho;refine h _ _ (oS es i) (t.drop i) (ep+1) (oJ ..) ⟨_,_,_,ss.eraseIdx i,at2,?_,?_,?_,∅,Ls,by rw[wL];exact ix,λ_=>by rw[wL];exact cV⟩ at2 Ls (by rw[dsz];exact bn _) (by rw[wL];exact EO)
  ·have em:∀(l:List (Int×ak)) (j:Nat),(l.eraseIdx j).map (·.2)=(l.map (·.2)).eraseIdx j:=by
    intro l
    induction l with
    |nil=>intro j;rfl
    |cons x l ih=>intro j;cases j with|zero=>rfl|succ j=>simp[ih]
   rw[zF,em];exact Jc i hS
  ·rw[IZ ns hsi];exact hp.filter _
  ·rw[zF];exact λe he=>fS e (List.mem_of_mem_eraseIdx he)
 |none=>
  refine aF ?_;dsimp only;have hx:x∉ks:=λhm=>by have mF:=hp.mem_iff.mpr hm;obtain⟨t',q⟩:=(y0 hS x).mp mF;obtain⟨e,he,ee⟩:=dG.mp q;have:=KL.mp hr e he;rw[ee,rD]at this;simp at this
  refine aF (h s.heap _ es t ep (wp ..) ?_ ho hf (by rw[EY];simp) EO);rw[qo.mpr λz hz=>by simp;rintro rfl;exact hx hz];exact⟨es,ep,t,ss,ho,hS,hp,fS,hsz,hf,ix,λ_=>cV⟩
theorem MF{a b:ah}{ks:List Str}{x0:Str}{Q:ak->aq->Prop}(oY:a≠b)(Sa:b_ P w s.heap a ks)(Sb:b_ P w s.heap b [x0])(nk:ks.Nodup)(hk:ks.length<4000)(h:∀h',b_ P w h' s.heap.objs.size (ks.filter (·≠x0))->(∀c o,s.heap.get? c=aa o->h'.get? c=aa o)->Q (.ref s.heap.objs.size) {s with heap:=h'}):aA (aB P w) A (jr .Sub (.ref a) (.ref b)) Q E s:=by
 refine wpAny_binaryOp_same (T:="set") (id:="set.__sub__") Sa.ty Sb.ty F.fills_set_sub F.slot_set_sub ?_;refine we F.slot_set_sub Sa.ty N2 ?_ (F.args_set_sub_2 _ _);unfold Builtin.«frozenset.__sub__»;refine au (au (aF (aF ?_)));dsimp only;refine au (au (xN Sa ?_));refine(xN Sb ?_);refine gE (λhc=>absurd hc (by decide)) (λ_=>?_);refine au (aF (au ?_));unfold Builtin.Frozenset.difference;refine au (xN Sb ?_);simp only[Aq,qh,if_false,Bool.false_and,if_true];have lt:∀{c:ah}{zs:List Str},b_ P w s.heap c zs->c≠s.heap.objs.size:=λ{c zs} S=>by obtain⟨_,_,_,_,e,_⟩:=S.ex;exact cX (bD e)
 have last:∀h',b_ P w h' s.heap.objs.size (ks.filter (·≠x0))->(∀c o,s.heap.get? c=aa o->h'.get? c=aa o)->aA (aB P w) A.in1 (pure (Value.ref s.heap.objs.size)) (λa s'=>aA (aB P w) A.in1 (ret a) (λfin s'=>∃v,fin=Fin.done (Flow.ret v)/\v≠Value.notImplemented/\Q v s') E s') E {s with heap:=h'}:=λh' S k=>
  aF (aF ⟨_,rfl,(by intro z;cases z),h h' S k⟩)
 refine au (aF ?_);refine au (yh Sb ?_);refine au (yh Sa ?_);refine gE (λhc=>?_) (λhc=>?_)
 ·have hk8:8<=ks.length:=by simp at hc;lia
  refine au (lr ?_);refine au (VY Sa hk8 hk λh1 es ep t ss X old=>?_);refine au (aF ?_);refine au (kH ?_);have Sb1:b_ P w h1 b [x0]:=Sb.at λo e=>old _ _ e;have hb:=lt Sb;unfold Builtin.Frozenset.differenceUpdate;refine gE (λhc=>absurd (show(Value.ref b == Value.ref s.heap.objs.size)=ai from hc) (by simp;exact hb)) (λ_=>?_);refine au (xN (s:={s with heap:=h1}) Sb1 ?_);simp only[if_true];refine au (aF ?_);refine au (yh (s:={s with heap:=h1}) Sb1 ?_);refine au (yh (s:={s with heap:=h1}) X.toS ?_);refine gE (λhc=>absurd (show([x0].length / 8 > ks.length)from hc) (by simp)) (λ_=>?_);obtain⟨eb,epb,tb,sb,hob,hSb,hpb,helb,hszb,hfb,hledb,hplb⟩:=id Sb1.ex;refine au (An (s:={s with heap:=h1}) hob rfl hfb ?_);refine au (kH ?_);have lb:eb.size=1:=(b_.len (h:=h1) (a:=b) hSb hpb).symm;have Bz:∀{QQ:Array (Int×ak)->aq->Prop},(∀arr,sw P w [x0] arr->QQ arr {s with heap:=h1})->aA (aB P w) A.in1 (Ex b [s.heap.objs.size] ae) QQ E {s with heap:=h1}:=λ{QQ} xx=>by unfold Ex;refine au (iL (s:={s with heap:=h1}) hob rfl hfb ?_);unfold oN;dsimp only;refine au (au (lu (aF ?_)));refine gE (λ_=>?_) (λhc=>absurd (show(cZ w||(tb.led&&tb.plain)||decide (eb.size<=1))=ai by rw[lb];simp) hc);exact Jj (s:={s with heap:=h1}) Sb1 (.inr ⟨eb,epb,tb,hob,.inr ∅⟩) xx
  refine au (Bz λarr wk=>?_);obtain⟨aP,e1,e2,e3⟩:=wk.ex;obtain rfl:aP=[x0]:=List.perm_singleton.mp e3;obtain⟨tk,harr⟩:∃tk,arr.toList=[((dE P w).hash x0,.str x0 tk)]:=by
   cases hl:arr.toList with
   |nil=>rw[hl]at e1;simp at e1
   |cons p r=>
    rw[hl]at e1 e2;obtain⟨hx,v⟩:=p;cases r with
    |cons=>simp at e1
    |nil=>
     simp only[eZ,wn,rY,and_true]at e1;cases e2 with
     |cons _ tk h2=>exact⟨tk,by rw[e1]⟩
  rw[←Array.forIn_toList,harr,List.forIn_cons];refine au (au (au (kH (Rs (s:={s with heap:=h1}) X nk λh2 bb es' t' ep' fL S2 at2 fit2 dm mk=>?_))));have hob2:h2.get? b=aa {cls:=.type "set",dict:=ae,data:=.set eb epb tb}:=(fL.2 b hb).trans hob;unfold EB;refine au (au (An (s:={s with heap:=h2}) hob2 rfl hfb ?_));refine gE (λhc=>absurd hc (by simp)) (λ_=>aF (aF ?_));dsimp only;rw[List.forIn_nil];refine aF (aF ?_);unfold setTidy;refine au (iL (s:={s with heap:=h2}) at2 rfl fit2 ?_);dsimp only;refine gE (λhc=>absurd (show t'.tooManyDummies=ai from hc) ?_) (λ_=>aF ?_)
  ·unfold SetTable.tooManyDummies;simp only[decide_eq_true_eq];lia
  ·exact last h2 S2 λc o e=>(fL.2 c (cX (bD e))).trans (old c o e)
 ·have Q1:=Sa;unfold Builtin.Frozenset.baseOf;refine au (au (Ab Sa.ty Ef (aF ?_)));rw[if_pos rfl];refine au (Ow λh1 R k1 z1=>?_);have Sa1:b_ P w h1 a ks:=Sa.at λo e=>k1 _ _ e;have Sb1:b_ P w h1 b [x0]:=Sb.at λo e=>k1 _ _ e;refine au (aF ?_);obtain⟨es,ep,t,ss,ho,hS,iO,fS,hsz,hf,ix,cV⟩:=id Sa1.ex;refine au (An (s:={s with heap:=h1}) ho rfl hf ?_);refine au (kH ?_);refine au (Oi (s:={s with heap:=h1}) Sa1 R (λc hc=>?_) λh2 arr fL R2 wk=>?_)
  ·simp only[b8,ju,or_false]at hc;rcases hc with rfl|rfl
   ·exact⟨_,Sb1⟩
   ·exact⟨_,R⟩
  have Sa2:b_ P w h2 a ks:=Sa1.at λo e=>(fL.2 _ (lt Sa)).trans e;have Sb2:b_ P w h2 b [x0]:=Sb1.at λo e=>(fL.2 _ (lt Sb)).trans e;refine au (V7 (s:={s with heap:=h2}) Sa2 Sb2 R2 (lt Sa) (lt Sb) nk hk wk ⟨es,t,(fL.2 _ (lt Sa)).trans ho,hf⟩ λh3 sb3 R3=>?_);have e:ks.filter (·∉[x0])=ks.filter (·≠x0):=La λz _=>by simp
  refine aF (last h3 (e ▸ R3) λc o e=>?_);have hc:c≠s.heap.objs.size:=cX (bD e);exact(sb3.2 c hc).trans ((fL.2 c hc).trans (k1 c o e))
end
section
variable{X:Cx}
def lg(ls:List Tx)(x:Tx):List Tx:=ls.filter λz=>decide (z≠x)
theorem Rg(ls:List Tx)(x:Tx):(ls.map tS).filter (λz=>decide (z≠tS x))=(lg ls x).map tS:=by unfold lg;rw[EE];congr 1;refine La λz _=>?_;simp only[uj];congr 1;exact propext ⟨λh e=>h (by rw[e]),λh e=>h (qR e)⟩
theorem LY:cr X (jr .Sub) (λx y H Q=>∃(p q:ah) (ls:List Tx) (m:Tx),x=.ref p/\y=.ref q/\p≠q/\H p=aa (iQ X p ls)/\H q=aa (iQ X q [m])/\ls.Nodup/\ls.length<4000 /\ ∀a,H a=ae->Q (.ref a) (upd H a (iQ X a (lg ls m)))):=by
 intro af s Y H x y v u Q I rx ry h;obtain⟨p,q,ls,m,rfl,rfl,hpq,hp,hq,nl,l1,k⟩:=h;cases rx;cases ry;obtain⟨Sp,_,_⟩:=(show dS X.prog X.w H s.heap p (iQ X p ls)from I.hok p _ hp)
 obtain⟨Sq,_,_⟩:=(show dS X.prog X.w H s.heap q (iQ X q [m])from I.hok q _ hq)
 refine MF hpq Sp Sq (UR nl) (by rw[dw];exact l1) λh' S old=>?_;rw[Rg]at S;refine⟨.ref s.heap.objs.size,_,I.laid (t':=s.toks) (o:=iQ X s.heap.objs.size (lg ls m)) old (bn _) ?_,rfl,k _ I.fresh⟩;obtain⟨es,ep,t,ss,e,_⟩:=S.ex;exact⟨S,⟨_,e⟩,λh1 h2 q1 q2=>q1.at q2⟩
end
end L2
namespace Pu
open L2
section
variable{X:Cx}{E:XK}{e e2:aE}{ds ds2:aj->R (List PV)}{p q q2 p4 pos XG pos2:Pos}
def Cp(ds ds2:aj->R (List PV)):aj->R PO:=λZ=>(ds Z).bind λxs dM=>(aV (tE xs) dM).bind λls dM=>(ds2 dM).bind λys Z2=>match ys with
 |[.lst [.str t]]=>.ok (.lst (ap (bp (lg ls t)))) Z2
 |_=>.no
theorem Qv(hc:X.calm=ai)(ha:DA X E [e] ds)(hb:DA X E [e2] ds2)(hm:X.mg "sorted" = ae)(mF:X.mg "set" = ae)(hg:Gl X "sorted":=by rfl)(uB:Gl X "set":=by rfl)(h:m8 e=am:=by rfl)(h2:m8 e2=am:=by rfl):DN X E (.Call (.Name "sorted" p) [.BinOp (.Call (.Name "set" q) [e] [] XG) .Sub (.Call (.Name "set" q2) [e2] [] pos2) p4] [] pos) (Cp ds ds2):=λF S Z Y H Q rl h'=>by
 refine cB (rA (HA hc) hg hm yE (jE (E7 LY (vJ (BE hc) uB mF BO g9 (by decide) (by decide) (kq h) rfl) (vJ (BE hc) uB mF BO g9 (by decide) (by decide) (kq h2) rfl)) k_ (kq rfl)) (by decide) (by decide) (kq rfl) rfl) ?_;refine ha F S Z Y H _ rl ((Ok.bind h').imp λxs dM F1 S1 H1 r1 g1 q1 vs jZ=>?_);cases e1:tE xs with
 |none=>rw[e1]at q1;exact q1.elim
 |some ls=>
  rw[e1]at q1;obtain⟨p,zs,rfl,hp,hz,rfl,hx⟩:=Gh jZ e1;refine⟨p,zs,rfl,hp,hz,λa fa=>?_⟩;have al1:Al F1 F1 H1 (upd H1 a (iQ X a (cS zs))):=Al.new0 fa;have q2:Ok X.K E Y F1 S1 H1 ((ds2 dM).bind λys Z2=>match ys with
   |[.lst [.str t]]=>R.ok (PO.lst (ap (bp (lg (cS zs) t)))) Z2
   |_=>.no) _:=q1
  have q3:=Ok.from q2 (al1.grow (O:=U S1));refine hb F1 S1 dM Y _ _ (r1.al al1) ((Ok.bind q3).imp λys Z2 F2 S2 H2 r2 g2 q4 vs2 rvs2=>?_);have hys:∃t,ys=[.lst [.str t]]:=by
   revert q4;split
   ·exact λ_=>⟨_,rfl⟩
   ·exact λz=>z.elim
  obtain⟨t,rfl⟩:=hys;have q5:Ok X.K E Y F2 S2 H2 (R.ok (PO.lst (ap (bp (lg (cS zs) t)))) Z2) _:=q4;have XH:tE [.lst [.str t]]=aa [t]:=by rfl
  obtain⟨p2,zs2,rfl,fR,hz2,hu2,nK⟩:=Gh rvs2 XH;have na:¬U S1 a:=λ⟨i,z⟩=>by
   obtain⟨_,_,o,w,_⟩:=r1.foot i a z;rw[fa]at w;cases w
  have ha2:H2 a=aa (iQ X a (cS zs)):=g2.keep a _ cF na;refine⟨p2,zs2,rfl,fR,hz2,λb fb=>?_⟩;have oY:a≠b:=by rintro rfl;rw[ha2]at fb;cases fb
  refine⟨a,b,cS zs,t,rfl,rfl,oY,by rw[cp oY];exact ha2,by rw[cF,←hu2],SX _,hz,λc fc=>?_⟩;have cg:(lg (cS zs) t).length<4000:=t8 (EC _ _) hz;refine⟨c,_,rfl,cF,cg,λl fl=>?_⟩;have al2:Al F2 F2 H2 (upd (upd (upd H2 b (iQ X b (cS zs2))) c (iQ X c (lg (cS zs) t))) l (.lst (c9 (bp (lg (cS zs) t))))):=((Al.new0 fb).trans (Al.new0 fc)).trans (Al.new0 fl);have uA:H2 l=ae:=by
   have h1:l≠c:=by rintro rfl;rw[cF]at fl;cases fl
   rw[cp h1]at fl;have h2:l≠b:=by rintro rfl;rw[cF]at fl;cases fl
   rwa[cp h2]at fl
  refine q5 F2 S2 _ (r2.al al2) al2.grow l (λc=>c=l) ⟨⟨_,cF,Xa.mpr ⟨rfl,λx wW=>hx x ((sW _ _).mp (nq.mp ((j2 _).mem_iff.mp wW)).1)⟩⟩,λc=>Iff.rfl⟩ λd z=>?_;subst z;refine⟨lL (g1.trans (al1.grow.trans g2)) uA,λz=>?_,λ⟨i,z⟩=>?_,_,cF,trivial⟩
  ·obtain⟨o,w⟩:=r2.ex _ z;rw[uA]at w;cases w
  ·obtain⟨_,_,o,w,_⟩:=r2.foot i _ z;rw[uA]at w;cases w
end
section
variable{X:Cx}{E:XK}{pin:List Nat}{e b c:aE}{de db dc:aj->R PV}{pos:Pos}
def pC(i:Nat)(n:Int):aj->R PO:=λZ=>match Z[i]? with
 |some (.val (.str x))=>.ok (.dK [(.inr (tS x),.int n)]) Z
 |_=>.no
theorem Fw(i:Nat){y:Str}{yp q:Pos}{n:Int}{j:Nat}(hN:X.N[i]?=aa y:=by rfl)(fU:fP X.env.scope y:=by first|exact Or.inl rfl|exact Or.inr (Or.inl rfl)|exact Or.inr (Or.inr rfl))(hd:(y == ("__debug__" : Str))=am:=by decide) (bL:(y == ("__classdict__" : Str))=am:=by decide):DN X E (.Dict [aa (.Name y yp)] [.Constant (.int n) j q] pos) (pC i n):=λF S Z Y H Q rl h=>by
 unfold pC at h;split at h
 ·rename_i x ex;obtain⟨v,e1,e2⟩:=rl.val i _ ex;obtain⟨e2,hl⟩:=(show v=tV x/\_ from e2)
  subst e2;refine cB (Nd (Ra (gL hN fU hd bL) JJ Vh) rfl rfl (by simp) (by simp)) λp hp=>?_;refine⟨tV x,e1,cF,[(.inr (tS x),.int n)],rfl,by simp,?_⟩;rw[show tT [] [((Sum.inr (tS x):aS),V.int n)]=[((Sum.inr (tS x):aS),V.int n)] from rfl,N9];have al:Al F F H (upd H p (.dK [(.inr (tS x),.int n)])):=Al.new0 hp;refine h F S _ (rl.al al) al.grow p (λb=>b=p) ⟨⟨_,cF,.cons ⟨rfl,rfl⟩ .nil⟩,λb=>Iff.rfl⟩ λb z=>?_;subst z;refine⟨hp,λz=>?_,λ⟨j,z⟩=>?_,_,cF,trivial⟩
  ·obtain⟨o,q⟩:=rl.ex b z;rw[hp]at q;cases q
  ·obtain⟨_,_,o,q,_⟩:=rl.foot j b z;rw[hp]at q;cases q
 ·exact h.elim
def vF(i:Nat):aj->R PV:=λZ=>(aV (dY Z i) Z).bind λXN Z=>.ok (.int (XN.length:Nat)) Z
theorem UM(i:Nat){y:Str}{p yp:Pos}(hm:X.mg "len" = ae)(hN:X.N[i]?=aa y:=by rfl)(fU:fP X.env.scope y:=by first|exact Or.inl rfl|exact Or.inr (Or.inl rfl)|exact Or.inr (Or.inr rfl))(hd:(y == ("__debug__" : Str))=am:=by decide) (bL:(y == ("__classdict__" : Str))=am:=by decide) (hg:Gl X "len":=by rfl)(he:aW [.Name y yp] X.env=(am,bf (.Name y yp) X.env)::aW [] X.env:=by rfl) (cV:(dR pos (aW [] X.env)).any (·.1)=am:=by rfl):DE X E (.Call (.Name "len" p) [.Name y yp] [] pos) (vF i):=λF S Z Y H Q r h=>by
 unfold vF at h;cases e0:dY Z i with
 |none=>rw[e0]at h;exact h.elim
 |some XN=>rw[e0]at h;obtain⟨a,ws,ea,ha,hk,_⟩:=r.dkAt (lZ e0);refine cB (rA OA hg hm rfl (jE (gL hN fU hd bL) k_ he) (by decide) (by decide) he cV) ⟨_,ea,a,ws,rfl,ha,?_⟩;rw[hk.len];exact h F S H r (bM.refl ..) _ rfl
def iE(neg:Bool)(i:Nat)(db:aj->R PV):aj->R PV:=λZ=>(db Z).bind λk dM=>(aV (dY dM i) dM).bind λXN dM=>aV ((kB k).map λk=>.bl (neg^^(lH XN k).isSome)) dM
theorem AG{i:Nat}(neg:Bool){F:ah->Prop}{S:Nat->ah->Prop}{Z:aj}{Y:St}{H:Hp}{Q:VK}(hb:DE X E b db)(rl:aX X.K F S Z Y H)(h:Ok X.K E Y F S H (iE neg i db Z) (λpv _ F' _ H'=>∀v,bh X.K H' F' pv v->Q v H')):ja X b Y H λy H1=>∃x,Y[i]?=aa (aa x)/\∃a o,x=.ref a/\lM H1 a y o/\Q (.bl (neg^^o.isSome)) H1:=by
 unfold iE at h;refine hb F S Z Y H _ rl ((Ok.bind h).imp λk dM F1 S1 H1 r1 g1 q u ru=>?_);cases e1:dY dM i with
 |none=>rw[e1]at q;exact q.elim
 |some XN=>
  rw[e1]at q;simp only[c8,R.bind_ok]at q;obtain⟨a,ws,ea,ha,hk,_⟩:=r1.dkAt (lZ e1);cases e2:kB k with
  |none=>rw[e2]at q;exact q.elim
  |some ky=>
   rw[e2,nE]at q;rw[zk ru e2];refine⟨.ref a,ea,a,jf ws ky,rfl,lM.k ha,?_⟩;rcases hk.val ky with⟨x,v,h1,h2,h3⟩|⟨h1,h2⟩
   ·rw[h1]at q;rw[h2];exact q F1 S1 H1 r1 (bM.refl ..) _ rfl
   ·rw[h1]at q;rw[h2];exact q F1 S1 H1 r1 (bM.refl ..) _ rfl
theorem V9(i:Nat){y:Str}{yp:Pos}(hu:X.A.units+64<cLine)(hb:DE X E b db)(hN:X.N[i]?=aa y:=by rfl)(fU:fP X.env.scope y:=by first|exact Or.inl rfl|exact Or.inr (Or.inl rfl)|exact Or.inr (Or.inr rfl))(hd:(y == ("__debug__" : Str))=am:=by decide) (bL:(y == ("__classdict__" : Str))=am:=by decide) (hm:nu .In (.Name y yp)=am:=by rfl):DE X E (.Compare b [.In] [.Name y yp] pos) (iE am i db):=λF S Z Y H Q rl h=>by refine cB (Oa (HF ∅ cn (gL hN fU hd bL)) hm) ?_;have:=AG am hb rl h;simp only[oU]at this;exact this
theorem QW(i:Nat){y:Str}{yp:Pos}(hu:X.A.units+64<cLine)(hb:DE X E b db)(hN:X.N[i]?=aa y:=by rfl)(fU:fP X.env.scope y:=by first|exact Or.inl rfl|exact Or.inr (Or.inl rfl)|exact Or.inr (Or.inr rfl))(hd:(y == ("__debug__" : Str))=am:=by decide) (bL:(y == ("__classdict__" : Str))=am:=by decide) (hm:nu .In (.Name y yp)=am:=by rfl):DT X E (.Compare b [.In] [.Name y yp] pos) (dB (iE am i db)):=λF S Z Y H Q rl h=>by refine tP (Jh (HF ∅ cn (gL hN fU hd bL)) hm) ?_;have:=AG (Q:=λv H'=>∃k,v=.bl k/\Q k H') am hb rl (sG h);simp only[oU]at this;exact this
theorem QM(i:Nat){y:Str}{yp:Pos}(hu:X.A.units+64<cLine)(hb:DE X E b db)(hN:X.N[i]?=aa y:=by rfl)(fU:fP X.env.scope y:=by first|exact Or.inl rfl|exact Or.inr (Or.inl rfl)|exact Or.inr (Or.inr rfl))(hd:(y == ("__debug__" : Str))=am:=by decide) (bL:(y == ("__classdict__" : Str))=am:=by decide) (hm:nu .NotIn (.Name y yp)=am:=by rfl):DT X E (.Compare b [.NotIn] [.Name y yp] pos) (dB (iE ai i db)):=λF S Z Y H Q rl h=>by refine tP (Jh (S8 ∅ cn (gL hN fU hd bL)) hm) ?_;have:=AG (Q:=λv H'=>∃k,v=.bl k/\Q k H') ai hb rl (sG h);simp only[Bool.true_xor]at this;exact this
def sL:List (aS×PV)->Option (List (Tx×Int))
 |[]=>aa []
 | (.inr x,.int n)::r=>(sL r).map λm=>(x.cps.toList,n)::m
 |_::_=>ae
theorem B6(x:Str):tS x.cps.toList=x:=by simp[tS]
theorem JG{K:aC}{H:Hp}{F:ah->Prop}:∀{XN:List (aS×PV)}{ws:List (aS×V)}{m:List (Tx×Int)},ij K H F XN ws->sL XN=aa m->ws=m.map λp=>(Sum.inr (tS p.1),V.int p.2)
 |[],_,m,h,e=>by
  unfold ij at h;cases h;cases e;rfl
 | (.inr x,.int n)::r,_,m,h,e=>by
  unfold ij at h;cases h with
  |cons h1 h2=>obtain⟨m',e1,rfl⟩:=t6.mp e;rename_i q qs;obtain⟨q1,q2⟩:=q;have a1:Sum.inr x=q1:=h1.1;have a2:q2=V.int n:=h1.2;rw[JG (XN:=r) h2 e1,←a1,a2,eZ];simp only[B6]
 | (.inl _,_)::r,_,m,h,e=>by cases e
 | (.inr _,.non)::r,_,m,h,e=>by cases e
 | (.inr _,.bl _)::r,_,m,h,e=>by cases e
 | (.inr _,.str _)::r,_,m,h,e=>by cases e
 | (.inr _,.tup _)::r,_,m,h,e=>by cases e
 | (.inr _,.lst _)::r,_,m,h,e=>by cases e
 | (.inr _,.raw _)::r,_,m,h,e=>by cases e
 | (.inr _,.exc _)::r,_,m,h,e=>by cases e
end
end Pu
namespace L2
section
variable{X:Cx}
theorem Vr(bs:List Bool):(bF bs.length).any (λi=>bs.getD i am)=bs.any id:=by
 induction bs with
 |nil=>rfl
 |cons b bs ih=>rw[fi,rR,oF,Ep,oF,←ih];rfl
theorem Ml(hc:X.calm=ai):fD X (.builtin "any") (λxs H Q=>∃(p:ah) (bs:List Bool),xs=[.ref p]/\cC X.K H p (bs.map V.bl)/\Q (.bl (bs.any id)) H):=by
 intro af s Y H xs us Q I r h;obtain⟨p,bs,rfl,hq,q⟩:=h;obtain⟨u,rfl,ru⟩:=vals1 r;cases ru;obtain⟨its,rv,pl,hz⟩:=I.list hq;have hl:=rv.length;rw[dw]at hl;refine call_any_walk (z6 pl.isList ?_);have cQ:p≠s.heap.objs.size:=by obtain⟨o,ho,_⟩:=pl.isList;exact cX (bD ho)
 refine⟨s.heap.objs.size,_,_,_,_,_,λi=>bs.getD i am,rfl,Walks.list (uH (I.ok.hd hc)) s.heap.objs.size p cQ its.toArray,⟨⟨_,df _ rfl,rfl,rfl⟩,?_⟩,λi v s' Q' E' hv hQ=>?_,λh' tk k=>?_⟩
 ·obtain⟨o,ho,hc,hd⟩:=pl.isList;exact⟨o,bH _ ho,hc,hd⟩
 ·rw[J_ rv hv];exact oA hQ
 ·have e:(bF its.toArray.size).any (λi=>bs.getD i am)=bs.any id:=by
   rw[cU,←hl];exact Vr bs
  rw[e];have I1:Inv X af Y H {s with heap:=s.heap.push {cls:=.type "list_iterator",data:=.fields #[.ref p,.int 0 0]},toks:=s.toks}:=I.kept (t':=s.toks) λb o e=>bH _ e;exact⟨.bl _,H,Inv.turned (t':=tk) I1 (it:=s.heap.objs.size) (λb o hb e=>k b o (by simpa using hb) e) I.fresh (mf I.lt) (.inr I.sz) (λx c e z=>by obtain⟨v,qq⟩:=I.cell x c e;exact absurd qq.lt (by rw[z];exact fu _)) (λpp hp z=>absurd (bD (I.pin pp hp).1) (by rw[z];exact fu _)),rfl,q⟩
end
end L2
namespace Pu
open L2
def vN:List PV->Option PV
 |[.lst xs]=>(kQ xs).map λbs=>.bl (bs.any id)
 |_=>ae
theorem Sz{K:aC}:PL K (λxs H Q=>∃(p:ah) (bs:List Bool),xs=[.ref p]/\cC K H p (bs.map V.bl)/\Q (.bl (bs.any id)) H) vN:=λF H xs vs Q pv rs e q=>by
 unfold vN at e;split at e
 ·rename_i ys;cases q1:kQ ys with
  |none=>rw[q1]at e;cases e
  |some bs=>
   rw[q1]at e;cases e;obtain⟨v,rfl,a,us,rfl,ha,_,ra⟩:=iF rs;rw[B2 ra q1]at ha;exact⟨a,bs,rfl,.inl ha,q _ F H (Al.refl ..) rfl⟩
 ·cases e
def c7(m:List (Tx×Int))(x:Tx):Option Int:=(m.find? λp=>decide (p.1=x)).map (·.2)
def sF(m:List (Tx×Int)):List Tx->Option Tx
 |[]=>ae
 |x::r=>r.foldl (λb y=>b.bind λb=>(c7 m b).bind λkb=>(c7 m y).map λky=>if ky<kb then y else b) ((c7 m x).map λ_=>x)
def qJ(i j:Nat):aj->R PV:=λZ=>match Z[i]? with
 |some (.val (.lst xs))=>(aV (g_ xs) Z).bind λls Z=>(aV (dY Z j) Z).bind λXN Z=>(aV (sL XN) Z).bind λm Z=>(aV (sF m ls) Z).bind λx Z=>.ok (.str x) Z
 |_=>.no
end Pu
namespace L2
theorem OZ{pos:Pos}{a b:Int}{c cv:ak}(l:List ak)(h:TriplesOk l)(e:v8 pos (l++[eJ a,eJ b,c])=aa cv):v8 pos l=aa cv\/cv=c:=by
 fun_induction TriplesOk l with
 |case1=>simp[v8,eJ]at e;exact .inr e.2.symm
 |case2 a' t b' u x rest ih=>
  simp only[Eu,v8]at e ⊢;split at e
  ·rename_i hc;rw[if_pos hc];exact .inl e
  ·rename_i hc;rw[if_neg hc];exact ih h e
 |case3 l h1 h2=>exact h.elim
section
variable{X:Cx}{af:List (ah×Obj)}{Y:St}{H:Hp}{s:aq}
structure LamAt(X:Cx)(x:Str)(c P:ah):Prop where
 mem:x∈vT
 tab:l_ X.K x=aa (c,P)
 hd:zX X.K c P=ai
 code:X.env.code=.ref c
theorem Vf(I:Inv X af Y H s){x:Str}{c P:ah}(L:LamAt X x c P){params:rM}{body:aE}{scope:d8}{pos:Pos}{clos:List (Str×ah)}(hq:X.env.qual++"<lambda>" = x++".<locals>.<lambda>") (jX:zY scope X.env=pure clos) (wP:defaultsOf params X.env=([],[])) {Q:ak->aq->Prop}(h:∀f c' ctv H' s',Inv X af Y H' s'->(∀b o,H b=aa o->H' b=aa o)->s'.heap.get? f=aa (EG "<lambda>" (X.env.qual++"<lambda>") params body scope clos ((X.mg "__name__").getD .none) c' ctv)->f≠X.env.locals -> s'.heap.CodeRec (.ref c') (X.env.qual++"<lambda>")->c'≠X.env.locals->Q (.ref f) s'):aA (aB X.prog X.w) X.A (bf (.Lambda params body scope pos) X.env) Q X.xe s:=by
 have tb:=I.tab x L.mem c P L.tab;obtain⟨ps,hP,tri,g⟩:=I.hok P _ tb;have hgl:s.heap.Ns cf X.mg:=I.mod.glob.keeps I.bk;have hgP:cf≠P:=λz=>by
  obtain⟨o,es,ep,e,hd,_⟩:=hgl;rw[z,hP]at e;cases e;cases hd
 have hbl:s.heap.BuiltinsAt X.mg P:=by
  obtain⟨bm,ob,b1,b2,b3,b4,b5,b6⟩:=I.mod.bm;refine⟨bm,ob,b1,b2,λz=>?_,λz=>?_,I.bk _ _ b3,b4,b5,b6⟩
  ·obtain⟨o,es,ep,e,hd,_⟩:=I.mod.glob;rw[←z,b3]at e;cases e;rw[b6]at hd;cases hd
  ·have e:=I.bk _ _ b3;rw[z,hP]at e;cases e;simp at b4
 have hC:=PySem.W.codeHd_of_K I.kIn L.hd;have Lne:X.env.locals≠P:=λz=>by have:=I.free;rw[z,tb]at this;cases this
 refine PySem.W.kla_eval wP ?_;cases hf:v8 pos ps.toList with
 |some cv=>
  obtain⟨c1,rfl,jT,AD⟩:=g pos _ hf;refine PySem.W.kla_makeFunctionHit (mg:=X.mg) jX I.ok.glob hgl L.code hC hP tri hf hbl λctv h' tk hk hsz=>?_;have eE:∀b o,s.heap.get? b=aa o->(h'.push (EG "<lambda>" (X.env.qual++"<lambda>") params body scope clos ((X.mg "__name__").getD .none) c1 ctv)).get? b=aa o:=λb o e=>bH _ (hk b o e);refine h _ c1 ctv H _ (I.un (Un.kept eE) (I.hok.kept eE)) (λ_ _ e=>e) (df _ rfl) (mf (fI I.lt hsz)) ?_ λz=>?_
  ·have hrec':s.heap.CodeRec (.ref c1) (X.env.qual++"<lambda>"):=by rw[hq];exact AD
   exact hrec'.keeps eE
  ·have:=I.free;rw[←z,jT]at this;cases this
 |none=>
  refine PySem.W.kla_makeFunction (mg:=X.mg) jX I.ok.glob hgl L.code hC hP tri hf hgP hbl λc1 ctv h' tk hx fj bI AD htb=>?_;generalize ho:EG "<lambda>" (X.env.qual++"<lambda>") params body scope clos ((X.mg "__name__").getD .none) c1 ctv=fo;have eE:∀b o,b≠P->s.heap.get? b=aa o->(h'.push fo).get? b=aa o:=λb o n e=>bH _ (hx b o n e);have fr:H c1=ae:=I.hok.fresh fj;have rec2:(h'.push fo).CodeRec (.ref c1) (X.env.qual++"<lambda>"):=AD.keeps λb o e=>bH _ e;have nP:∀b,H b=ae->b≠P:=λb n z=>by rw[z,tb]at n;cases n
  have nc:∀b o,s.heap.get? b=aa o->b≠c1:=λb o e=>cX (fI (bD e) fj);have up:∀b o,H b=aa o->(upd H c1 (.own P)) b=aa o:=λb o e=>by rw[cp (mT e fr)];exact e
  have I':Inv X af Y (upd H c1 (.own P)) {s with heap:=h'.push fo,gens:=s.gens,drawn:=s.drawn,toks:=tk}:=by
   refine I.step (ch:=[]) (λ_ z=>nomatch z) (λb o _ _ _ e n=>eE b o (nP b n) e) (λb o _ _ _ e n=>⟨o.slots,eE b o (nP b n) e⟩) (λb o _ e n=>by rw[cp (nc b o e)];exact n)
    (λb o _ e=>?_) (λb xs e=>up b _ e) (λb o u e=>up b _ e) (λb q e=>up b _ e) (λm hm=>?_) (λa u e=>?_) I.bare
   ·by_cases hb:b=P
    ·subst hb;exact⟨_,bH _ htb⟩
    ·exact⟨o,eE b o hb e⟩
   ·exact(hm.extBut hx Lne).push _
   ·by_cases ha:a=c1
    ·subst ha;rw[cF]at e;cases e;obtain⟨_,o,_,_,z,e2,_⟩:=rec2;cases z;exact⟨o,e2⟩
    ·rw[cp ha]at e;by_cases hb:a=P
     ·subst hb;rw[tb]at e;cases e;refine⟨_,bH _ htb,by rw[iM];exact TriplesOk_snoc _ _ _ _ tri,λXG cv hc=>?_⟩;rw[iM]at hc;rcases OZ _ tri hc with z|rfl
      ·obtain⟨c2,rfl,h1,h2⟩:=g XG cv z;refine⟨c2,rfl,up c2 _ h1,?_⟩;obtain⟨c3,o,vs,t,z,e2,r⟩:=h2;cases z;exact⟨c2,o,vs,t,rfl,eE c2 o (λz=>by rw[z,tb]at h1;cases h1) e2,r⟩
      ·exact⟨c1,rfl,cF,hq ▸ rec2⟩
     ·refine(I.hok a u e).stay (λb v hc r=>eE b v ?_ r) (λb r=>up b _ r) λb xs r=>up b _ r;rcases hc with rfl|hc
      ·exact hb
      ·rintro rfl;rw[tb]at hc;cases hc
  exact h _ c1 ctv _ _ I' up (by rw[←ho];exact df _ rfl) (mf (fI I.lt (dj fj (nt bI)))) rec2 (mf (fI I.lt fj))
end
open Att
section
variable{prog:aZ}{w:aT}{A:bd}{E:ak->aq->Prop}{s:aq}
structure AQ(x y:Str)(params:rM)(scope:d8):Prop where
 bind:∀(name qual:Str) (body:aE) (cl:List (Str×ah)) (pm aN ct v:ak),fZ (PySem.W.kla_fn name qual params body scope cl pm aN ct) ⟨[v],[]⟩=pure [(x,v)]
 lx:scope.names.lookup x=aa .local
 ly:scope.names.lookup y=aa .free
 nc:∀z∈scope.names,z.2≠.cell
 co:scope.isCoroutine=am
 gen:scope.isGenerator=am
 kind:scope.kind=.function
 dx:(x == ("__debug__" : Str))=am
 dy:(y == ("__debug__" : Str))=am
 cy:(y == ("__classdict__" : Str))=am
theorem VA{f c' d cell:ah}{x y qual:Str}{params:rM}{scope:d8}{p1 p2 p3:Pos}{clos:List (Str×ah)}{pm ctv v r:ak}{vs:List (aS×ak)}{k:aS}{Q:ak->aq->Prop}(L:AQ x y params scope)(wI:A.depth<v_) (ho:s.heap.get? f=aa (EG "<lambda>" qual params (.Subscript (.Name y p1) (.Name x p2) p3) scope clos pm c' ctv)) (bL:s.heap.CodeRec (.ref c') qual) (lim:s.heap.NoLimit)(jX:clos.lookup y=aa cell) (mw:s.heap.IsCell cell (aa (.ref d))) (hD:s.heap.DictOf (gM prog w) d vs) (hk:RelV (kV k) v) (hw:qe vs k=aa r)(h:∀h' tk,(∀b o,s.heap.get? b=aa o->h'.get? b=aa o)->Q r {s with heap:=h',toks:=tk}):aA (aB prog w) A (call (.ref f) [v]) Q E s:=by
 refine wb (PySem.W.kla_callFunE wI ho rfl L.co L.gen rfl bL ?_);rw[L.bind];refine aF (wpAny_newFunctionEnv L.nc (λz hz=>by rw[iq.mp hz];exact L.lx) (λh₁ mz jx=>?_) L.kind);have keep:∀b o,s.heap.get? b=aa o->h₁.get? b=aa o:=λb o e=>(jx.2 b (cX (bD e))).trans (bH _ e);refine⟨lim.keeps keep,PySem.W.kla_codeExpr ?_⟩;obtain⟨oc,hoc,xy⟩:=mw;have hD':h₁.DictOf (gM prog w) d vs:=by obtain⟨ob,es,ep,e,r⟩:=hD;exact⟨ob,es,ep,keep _ _ e,r⟩
 refine JI PySem.F.slot_dict_getitem.lookup (λ_ _=>rfl) ?_;refine zN (wpAny_loadName_free L.kind L.ly jX ⟨oc,keep _ _ hoc,xy⟩ ?_ L.cy) L.dy;refine zN (wpAny_loadName_local L.kind L.lx mz (v:=v) (by simp) ?_) L.dx;exact⟨hD'.typeIs,wpAny_getItem_of (pZ hk) hD'.mapOf hw (h _ _ keep)⟩
end
theorem CY:∀{xs:List V}{vs:List ak}{i:Nat}{v:ak},bX xs vs->vs[i]?=aa v->∃x,xs[i]?=aa x/\RelV x v
 |_,_,_,_,.nil,e=>by simp at e
 |_,_,0,_,.cons h _,e=>by simp at e;subst e;exact⟨_,rfl,h⟩
 |_,_,i+1,_,.cons _ t,e=>by obtain⟨x,a,b⟩:=CY (i:=i) t (by simpa using e);exact⟨x,by simpa using a,b⟩
def B8(h:aI)(L:ah):List (ah×Obj):=CM h L L
theorem Xz{h:aI}{L a:ah}{o:Obj}:(a,o)∈B8 h L↔a≠L/\h.get? a=aa o:=by unfold B8;rw[QU];exact⟨λz=>⟨z.1,z.2.2⟩,λz=>⟨z.1,z.1,z.2⟩⟩
section
variable{X:Cx}{af:List (ah×Obj)}{Y:St}{H:Hp}{s:aq}
theorem Inv.mapKept{h':aI}{tk:Nat}{m:Str->Option ak}(I:Inv X af Y H s)(hm:s.heap.Ns X.env.locals m)(hm':h'.Ns X.env.locals m)(k:∀b o,b≠X.env.locals->s.heap.get? b=aa o->h'.get? b=aa o):Inv X af Y H {s with heap:=h',toks:=tk}:=by
 refine I.step (g':=s.gens) (d':=s.drawn) (ch:=[]) (λ_ z=>nomatch z) (λb o hL _ _ e _=>k b o hL e) (λb o hL _ _ e _=>⟨o.slots,k b o hL e⟩) (λ_ _ _ _ n=>n) (λb o _ e=>?_) (λ_ _ e=>e) (λ_ _ _ e=>e) (λ_ _ e=>e) (λm2 h2=>?_) (λa u e=>?_) I.bare
 ·by_cases hb:b=X.env.locals
  ·subst hb;obtain⟨o',_,_,e',_⟩:=hm';exact⟨o',e'⟩
  ·exact⟨o,k b o hb e⟩
 ·have:m2=m:=h2.eq_nsMap.trans hm.eq_nsMap.symm;rw[this];exact hm'
 ·refine(I.hok a u e).stay (λb v hc r=>k b v ?_ r) (λ_ r=>r) λ_ _ r=>r;rintro rfl;have:=I.free;rcases hc with rfl|hc
  ·rw[e]at this;cases this
  ·rw[hc]at this;cases this
def RN(iy:Nat)(te:TA):TE:=λY H Q=>te Y H λls H1=>∃(a d:ah) (xs:List V) (XN:List (aS×V)) (kf:Nat->Int),ls=[.ref a]/\Rd H1 a (.lst xs)/\xs≠[]/\Y[iy]?=aa (aa (.ref d))/\Rd H1 d (.dK XN) /\
 (∀i v,xs[i]?=aa v->∃k,v=kV k/\jf XN k=aa (.int (kf i)))/\∀i v H2,xs[i]?=aa v->(∀j,j<xs.length->kf i<=kf j/\(j<i->kf i<kf j))->(∀b o,H1 b=aa o->H2 b=aa o)->Q v H2
theorem VO{z x y n:Str}{p0:Pos}{c P cell:ah}{params:rM}{scope:d8}{p p1 p2 p3 lpos kp pos:Pos}{iy:Nat}{ta:TA}(hc:X.calm=ai)(hr:X.A.depth+1<v_)(LA:LamAt X n c P)(LO:AQ x y params scope)(hq:X.env.qual++"<lambda>" = n++".<locals>.<lambda>")(hy:X.N[iy]?=aa y) (hyk:X.env.kindOf y=aa .cell) (mw:X.env.cells.lookup y=aa cell) (xf:zY scope X.env=pure [(y,cell)]) (wP:defaultsOf params X.env=([],[]))(hg:Gl X "min") (hm:X.mg "min" = ae) (ha:PA X [.Name z p0] ta):PE X (.Call (.Name "min" p) [.Name z p0] [⟨aa "key",.Lambda params (.Subscript (.Name y p1) (.Name x p2) p3) scope lpos,kp⟩] pos) (RN iy ta):=by
 intro af s Y H Q I h;refine zQ (tK I hg hm (show fz "min" = aa (.builtin "min") by kernel_rfl) ?_ (by decide) (by decide));refine callWith_kw (a_ (ha pos af s Y H _ I h) λus s1 ⟨vs,H1,I1,r1,q⟩=>?_);obtain⟨a,d,xs,XN,kf,rfl,hA,cQ,hσ,hD,hkf,hQ⟩:=q;obtain⟨u,rfl⟩:∃u,us=[u]:=by
  cases r1 with
  |cons _ t=>cases t;exact⟨_,rfl⟩
 obtain rfl:u=.ref a:=by
  cases r1 with
  |cons z _=>exact z
 refine kws_cons (Vf I1 LA hq xf wP λf c' ctv H2 s2 I2 sub hf hfL AD hcL=>kws_nil ?_);have hA2:Rd H2 a (.lst xs):=hA.elim (λz=>.inl (sub _ _ z)) λ⟨o,z⟩=>.inr ⟨o,sub _ _ z⟩;have hD2:Rd H2 d (.dK XN):=hD.elim (λz=>.inl (sub _ _ z)) λ⟨o,z⟩=>.inr ⟨o,sub _ _ z⟩;obtain⟨m,mz,hl⟩:=id I2.loc;obtain⟨zl,its,n0,rv,eL⟩:=hA2.ok I2.hok;obtain⟨zd,hsm,dv,XA,dd⟩:=hD2.ok I2.hok;have neT:∀{b:ah}{u:HO},Rd H2 b u->b≠X.env.locals:=λ{b u} r z=>by
  have:=I2.free;rcases r with r|⟨_,r⟩ <;> rw[←z,r]at this <;> cases this
 obtain⟨u,ru,lk⟩:=hl iy y _ hy hσ (.inr (.inl hyk));obtain rfl:u=.ref d:=ru;have jX:s2.heap.IsCell cell (aa (.ref d)):=by
  rcases lk with⟨z,_⟩|⟨_,c2,e2,z⟩
  ·rw[hyk]at z;cases z
  ·rw[mw]at e2;cases e2;exact z
 have lenI:its.length=xs.length:=rv.length.symm;show aA _ _ (call (.builtin "min") [.ref a] [(DU "key",.ref f)]) _ _ _;refine kmk_min (h₀:=zp s2.heap) (L:=X.env.locals) (m:=m) (news:=B8 s2.heap X.env.locals) (vs:=its) kf (I2.ok.hd hc) (Uy mz) (λ⟨b,o⟩ hp=>?_) (λh' F' N'=>?_) (by rw[lenI];exact List.length_pos_iff.mpr cQ) (λi v hv h' tk own F' N'=>?_) λi v h' tk hv wQ F' N'=>?_
 ·obtain⟨n1,e1⟩:=Xz.mp hp;exact⟨e1,n1,Ke _ _⟩
 ·exact⟨_,(N' _ (Xz.mpr ⟨neT hA2,eL⟩)).1,rfl,n0,rfl⟩
 ·have k:∀b o,b≠X.env.locals->s2.heap.get? b=aa o->h'.get? b=aa o:=λb o n e=>(N' (b,o) (zM _ (Xz.mpr ⟨n,e⟩))).1;obtain⟨xv,hx,rx⟩:=CY rv hv;obtain⟨ky,rfl,ET⟩:=hkf i xv hx;obtain⟨r,oX,rr⟩:=p6.some_of (v:=.int (kf i)) (o:=qe dv ky) (by rw[←ET];exact XA.val ky);obtain⟨t,rfl⟩:=rr;obtain⟨cc,oc,vc,tc,z,ec,rc⟩:=AD;cases z;obtain⟨ob,es,ep,e3,r3⟩:=dd;obtain⟨ol,uw,ux⟩:=jX;refine VA (s:={s2 with heap:=h',toks:=tk}) LO (Ar hr) (k _ _ hfL hf) ⟨_,oc,vc,tc,rfl,k _ _ hcL ec,rc⟩ (I2.mod.nolimit.keeps λb o e=>k b o (cX (fI (bD e) (dj I2.ok.bsz I2.ok.above))) (I2.bk b o e))
   (by simp[zZ]) ⟨ol,k _ _ (I2.cne y cell mw) uw,ux⟩ ⟨ob,es,ep,k _ _ (neT hD2) e3,r3⟩ rx oX λh2 tk2 k2=>?_
  exact⟨h2,tk2,t,rfl,rfl,⟨F'.ns.keeps k2,λb o e=>k2 b o (F'.keep b o e),F'.above⟩,λq hq=>⟨k2 _ _ (N' q hq).1,(N' q hq).2⟩⟩
 ·obtain⟨xv,hx,rx⟩:=CY rv hv;exact⟨xv,H2,I2.mapKept mz F'.ns λb o n e=>(N' (b,o) (Xz.mpr ⟨n,e⟩)).1,rx,hQ i xv H2 hx (λj hj=>wQ j (by rw[lenI];exact hj)) sub⟩
end
end L2
namespace Pu
open L2
theorem PY(m:List (Tx×Int))(x:Tx):jf (m.map λp=>((Sum.inr (tS p.1):aS),V.int p.2)) (Sum.inr (tS x))=(c7 m x).map V.int:=by
 unfold c7
 induction m with
 |nil=>rfl
 |cons p m ih=>
  rw[eZ,f8];by_cases h:p.1=x
  ·rw[vH (by rw[h]),decide_eq_true h];rfl
  ·rw[ve (λz=>h (qR (Sum.inr.inj z))),decide_eq_false h];exact ih
theorem G5(m:List (Tx×Int))(r:List Tx):r.foldl (λb y=>b.bind λb=>(c7 m b).bind λkb=>(c7 m y).map λky=>if ky<kb then y else b) (ae:Option Tx)=ae:=by
 induction r with
 |nil=>rfl
 |cons y r ih=>exact ih
theorem BR(m:List (Tx×Int)):∀(r pre:List Tx) (b:Tx) (kb:Int) (i0:Nat),pre[i0]?=aa b->c7 m b=aa kb->(∀(j:Nat) y,pre[j]?=aa y->∃k,c7 m y=aa k/\kb<=k/\(j<i0->kb<k))->∀x, r.foldl (λb y=>b.bind λb=>(c7 m b).bind λkb=>(c7 m y).map λky=>if ky<kb then y else b) (aa b)=aa x -> ∃i kx,(pre++r)[i]?=aa x/\c7 m x=aa kx/\∀(j:Nat) y,(pre++r)[j]?=aa y->∃k,c7 m y=aa k/\kx<=k/\(j<i->kx<k)
 |[],pre,b,kb,i0,h1,h2,h3,x,e=>by
  cases e;rw[iZ];exact⟨i0,kb,h1,h2,h3⟩
 |y::r,pre,b,kb,i0,h1,h2,h3,x,e=>by
  rw[jt,gW,h2,gW]at e;have i0l:i0<pre.length:=(d9.mp h1).1;cases ey:c7 m y with
  |none=>rw[ey,D8,G5]at e;cases e
  |some ky=>
   rw[ey,nE]at e;rw[List.append_cons pre y r];by_cases c:ky<kb
   ·rw[if_pos c]at e;refine BR m r (pre++[y]) y ky pre.length (by simp) ey (λj z hz=>?_) x e;by_cases hj:j<pre.length
    ·rw[fJ hj]at hz;obtain⟨k,a1,a2,_⟩:=h3 j z hz;exact⟨k,a1,∅,λ_=>∅⟩
    ·rw[jO ∅]at hz;obtain rfl:z=y:=by
      cases hq:j-pre.length with
      |zero=>rw[hq]at hz;simpa using hz.symm
      |succ n=>rw[hq]at hz;simp at hz
     exact⟨ky,ey,Int.le_refl _,λz=>absurd z hj⟩
   ·rw[if_neg c]at e;refine BR m r (pre++[y]) b kb i0 (by rw[fJ i0l];exact h1) h2 (λj z hz=>?_) x e;by_cases hj:j<pre.length
    ·rw[fJ hj]at hz;exact h3 j z hz
    ·rw[jO ∅]at hz;obtain rfl:z=y:=by
      cases hq:j-pre.length with
      |zero=>rw[hq]at hz;simpa using hz.symm
      |succ n=>rw[hq]at hz;simp at hz
     exact⟨ky,ey,∅,λz=>∅⟩
theorem No{m:List (Tx×Int)}{ls:List Tx}{x:Tx}(h:sF m ls=aa x):∃i kx,ls[i]?=aa x/\c7 m x=aa kx/\∀(j:Nat) y,ls[j]?=aa y->∃k,c7 m y=aa k/\kx<=k/\(j<i->kx<k):=by
 cases ls with
 |nil=>cases h
 |cons y r=>
  unfold sF at h;dsimp only at h;cases e:c7 m y with
  |none=>rw[e,D8,G5]at h;cases h
  |some k=>
   rw[e,nE]at h;refine BR m r [y] y k 0 rfl e (λj z hz=>?_) x h;cases j with
   |zero=>cases hz;exact⟨k,e,Int.le_refl _,λz=>absurd z (zW _)⟩
   |succ j=>simp at hz
section
variable{X:Cx}{E:XK}
theorem Om(i j:Nat){z x y n:Str}{c P cell:ah}{params:rM}{scope:d8}{p p0 p1 p2 p3 lpos kp pos:Pos}(hc:X.calm=ai)(hr:X.A.depth+1<v_)(LA:LamAt X n c P)(hm:X.mg "min" = ae)(hq:X.env.qual++"<lambda>" = n++".<locals>.<lambda>":=by rfl) (mw:X.env.cells.lookup y=aa cell:=by rfl) (xf:zY scope X.env=pure [(y,cell)]:=by rfl)(LO:AQ x y params scope:=by exact⟨λ_ _ _ _ _ _ _ _=>rfl,rfl,rfl,by decide,rfl,rfl,rfl,by decide,by decide,by decide⟩)(hN:X.N[i]?=aa z:=by rfl) (fU:fP X.env.scope z:=by first|exact Or.inl rfl|exact Or.inr (Or.inl rfl)|exact Or.inr (Or.inr rfl)) (hd:(z == ("__debug__" : Str))=am:=by decide) (bL:(z == ("__classdict__" : Str))=am:=by decide)(hj:X.N[j]?=aa y:=by rfl) (hyk:X.env.kindOf y=aa .cell:=by rfl) (wP:defaultsOf params X.env=([],[]):=by rfl) (hg:Gl X "min":=by rfl):DE X E (.Call (.Name "min" p) [.Name z p0] [⟨aa "key",.Lambda params (.Subscript (.Name y p1) (.Name x p2) p3) scope lpos,kp⟩] pos) (qJ i j):=λF S Z Y H Q rl h=>by
 unfold qJ at h;split at h
 ·rename_i xs e0;cases e1:g_ xs with
  |none=>rw[e1]at h;exact h.elim
  |some ls=>
   rw[e1]at h;simp only[c8,R.bind_ok]at h;cases e2:dY Z j with
   |none=>rw[e2]at h;exact h.elim
   |some XN=>
    rw[e2]at h;simp only[c8,R.bind_ok]at h;cases e3:sL XN with
    |none=>rw[e3]at h;exact h.elim
    |some m=>
     rw[e3]at h;simp only[c8,R.bind_ok]at h;cases e4:sF m ls with
     |none=>rw[e4]at h;exact h.elim
     |some r=>
      rw[e4]at h;simp only[c8,R.bind_ok]at h;obtain rfl:=sD e1;obtain⟨v,ev,a,us,rfl,ha,hF,ra⟩:=rl.val i _ e0;obtain⟨rfl,cg⟩:=Xa.mp ra;obtain⟨d,ws,ed,hD,hk,_⟩:=rl.dkAt (lZ e2);have hws:=JG hk e3;obtain⟨i0,kx,g1,g2,g3⟩:=No e4;have kfe:∀(t:Nat) u,ls[t]?=aa u->c7 m u=aa (((ls[t]?).bind (c7 m)).getD 0):=λt u hu=>by obtain⟨k,a1,_⟩:=g3 t u hu;rw[hu,gW,a1];rfl
      refine cB (VO hc hr LA LO hq hj hyk mw xf wP hg hm (jE (gL hN fU hd bL) k_ (by rfl))) ?_;refine⟨_,ev,a,d,c9 ls,ws,λt=>((ls[t]?).bind (c7 m)).getD 0,rfl,ha,λz=>?_,ed,.inl hD,λt v hv=>?_,λt v H2 hv wQ sub=>?_⟩
      ·have:ls=[]:=by unfold c9 at z;exact List.map_eq_nil_iff.mp z
       rw[this]at g1;simp at g1
      ·unfold c9 at hv;rw[jP]at hv;obtain⟨u,hu,rfl⟩:=t6.mp hv;refine⟨.inr (tS u),rfl,?_⟩;rw[hws,PY,kfe t u hu];rfl
      ·unfold c9 at hv;rw[jP]at hv;obtain⟨u,hu,rfl⟩:=t6.mp hv;have tl:t<ls.length:=(d9.mp hu).1;have il:i0<ls.length:=(d9.mp g1).1;have k1:((ls[t]?).bind (c7 m)).getD 0=kx\/True:=.inr trivial;have ki0:((ls[i0]?).bind (c7 m)).getD 0=kx:=by rw[g1,gW,g2];rfl
       obtain⟨k,a1,a2,a3⟩:=g3 t u hu;have kt:((ls[t]?).bind (c7 m)).getD 0=k:=by rw[hu,gW,a1];rfl
       obtain⟨m1,m2⟩:=wQ i0 (by unfold c9;rw[dw];exact il);have m1':((ls[t]?).bind (c7 m)).getD 0<=((ls[i0]?).bind (c7 m)).getD 0:=m1;have m2':i0<t->((ls[t]?).bind (c7 m)).getD 0<((ls[i0]?).bind (c7 m)).getD 0:=m2;rw[kt,ki0]at m1' m2';have et:t=i0:=by
        rcases Nat.lt_trichotomy t i0 with q|q|q
        ·have:=a3 q;lia
        ·exact q
        ·have:=m2' q;lia
       subst et;rw[g1]at hu;cases hu;have al:Al F F H H2:=⟨λ_ z=>z,λb o e=>sub b o e,λ_ z=>.inl z⟩
       exact h F S H2 (rl.al al) al.grow (tV r) ⟨rfl,cg r (zS g1)⟩
 ·exact h.elim
end
structure C5(K:aC)(mg:Str->Option ak)(x:Str)(c T:ah):Prop where
 tab:l_ K x=aa (c,T)
 hd:zX K c T=ai
 code:∀f fd oc od osl,mg x=aa (.ref f)->K.lookup f=aa ⟨oc,od,.func fd,osl⟩->fd.code=.ref c
theorem S5{K:aC}{h:aI}{mg:Str->Option ak}{x:Str}{c T:ah}(X:K.In h)(G:h.Ns cf mg)(h1:l_ K x=aa (c,T))(h2:zX K c T=ai):C5 K mg x c T:=by
 refine⟨h1,h2,λf fd oc od osl hm hl=>?_⟩;unfold l_ at h1;split at h1
 ·rename_i f' e;have e':=wz X G e;rw[hm]at e';cases e';rw[hl]at h1;dsimp only at h1;split at h1
  ·rename_i c' e3;split at h1
   ·split at h1
    ·cases h1;exact e3
    ·cases h1
   ·cases h1
  ·cases h1
 ·cases h1
theorem Uu{CX:gc}{P:aZ}{w:aT}{K:aC}{mg:Str->Option ak}{base:aI}{x:Str}{st:ba}{N ps:List Str}{k n:Nat}{d:aj->R aO}{pin:List Nat}(LF:∃c T,C5 K mg x c T)(hx:x∈vT)(D:cz K mg x st)(Sc:b7 N ps (a8 st))(hn:N.length=ps.length+n)(hb:∀(kV X9 pm:ak) (an:Option ah) (aN ct:ak) (us:List ak),us.length=ps.length->fZ (i4 x x (j7 st) (fX st) (a8 st) .none kV X9 pm an aN ct) ⟨us,[]⟩=pure (ps.zip us))(iw:∀(f:ah) (aN:ak) (c T:ah) (A:bd) (outer:List Env) (s:aq) (H:Hp) (E:XK),Room k (A.deeper (js x (a8 st) s.heap.objs.size f aN))->LamAt (iU CX P w K mg base N x (a8 st) f aN A outer s H E) x c T->gY (iU CX P w K mg base N x (a8 st) f aN A outer s H E) E pin (fX st) d):cA CX P w K mg base x (k+1) ps (bz K (br ps.length pin (bu n d))):=by
 have no:∀{ss},br ps.length pin (bu n d) ss≠.no->ss.length=ps.length/\eY pin 0 ss=ai:=λ{ss} h=>by
  unfold br at h;by_cases z:ss.length=ps.length/\eY pin 0 ss=ai
  ·exact z
  ·rw[if_neg z]at h;exact absurd rfl h
 obtain⟨f,fd,hm,Fn⟩:=D.ex;obtain⟨c,T,L⟩:=LF;refine⟨f,fd,hm,Fz Fn Sc hn hb (λss h=>(no h).1) (λss h i po e=>by have:=(pr (no h).2 i po e).1;rwa[mq]at this) (λss rs aP h=>.inr λi po e=>(pr (no (by rw[h];exact nofun)).2 i po e).2) (λss h=>by unfold br;rw[if_pos (no h)]) λA outer s H E hr=>?_,Fn.binds hb,Fn.kp⟩;obtain⟨oc,od,_,_,_,_,_,_,osl,_,lk,_⟩:=Fn.ex;exact iw f fd.code c T A outer s H E hr ⟨hx,L.tab,L.hd,L.code f fd oc od osl hm lk⟩
end Pu
theorem L2.Room.d1{k:Nat}{A:PySem.Around}(r:L2.Room k A):A.depth+1<PySem.recursionLimit:=by have:=r.dp;lia
theorem L2.LamAt.nox{X:L2.Cx}{x:PySem.Str}{c T:PySem.Addr}(h:L2.LamAt X x c T):L2.LamAt X.nox x c T:=⟨h.mem,h.tab,h.hd,h.code⟩
local macro_rules | `(⇑$x) => `(.val (.int $x))
local macro_rules | `(↥$x) => `(.val (.str $x))
namespace Sh
open L2 Pu
set_option genInjectivity false in
structure Ad where
 SlitError:ah
 NoText:ah
 NoWidth:ah
 NoView:ah
 NoWindow:ah
 Never:ah
 Full:ah
 Nothing:ah
 Unlike:ah
 NoPlace:ah
 NoLetters:ah
 BadText:ah
 Seeker:ah
 Slit:ah
def g8(a:Ad):List ah:=[a.NoText,a.NoWidth,a.NoView,a.NoWindow,a.Never,a.Full,a.Nothing,a.Unlike,a.NoPlace,a.NoLetters,a.BadText]
def nO(a:Ad)(c:ak):Bool:=match c with
 |.ref x=>(g8 a).contains x
 |_=>am
def jJ(a:Ad)(c:ak)(D:V):Option Bool:=match c,D with
 |.ref x,.ref d=>if(g8 a).contains x&&(g8 a).contains d then aa (x == d)else ae
 |.ref x,.ty T=>if(g8 a).contains x&&T == "ValueError" then aa ai else ae
 |_,_=>ae
def yaz(a:Ad):aj->R aO:=cP (dL vB (aw (dF (fh [1] (ff (dV 0)) (eQ) (d2 (sK am) (dV 0) (dV 1)))) (aH)))
def vS(a:Ad):aj->R Slot:=br 2 [] (bu 0 (yaz a))
def yaE(a:Ad):aj->R aO:=cP (j1 (dL dZ (aw (dV 0) (aw (dC (.raw (.ty "int"))) (aH)))) (Jo (dL dZ (aw (dV 0) (aw (dC (.raw (.ty "bool"))) (aH))))))
def lF(a:Ad):aj->R Slot:=br 1 [] (bu 0 (yaE a))
def yaF(a:Ad):aj->R aO:=cP (j1 (a6 (aL (lF a) (gV (dV 0) (bG)))) (qV (eP λi j=>decide (i<=j)) (eP λi j=>decide (i<=j)) (dC (.int 1)) (dV 0) (dC (.int 4))))
def m_(a:Ad):aj->R Slot:=br 1 [] (bu 0 (yaF a))
def yaG(a:Ad):aj->R aO:=cP (j1 (dL dZ (aw (dV 0) (aw (dC (.raw (.ty "str"))) (aH)))) (j1 (d2 (eqT am) (dL bO (aw (dV 0) (aH))) (dV 1)) (a6 (aL (vS a) (gV (dV 0) (gV (dV 2) (bG)))))))
def tG(a:Ad):aj->R Slot:=br 3 [] (bu 0 (yaG a))
def yao(a:Ad):aj->R aO:=aJ (cN (xC (j0 (dB (dL dZ (aw (dV 0) (aw (dC (.raw (.ty "tuple"))) (aH)))))) (j0 (dB (qV (eP λi j=>decide (i<=j)) (eP λi j=>decide (i<=j)) (dC (.int 1)) (dL bO (aw (dV 0) (aH))) (dC (.int 9)))))) (cP (dC (.bl am))) (d4))
 (aJ (cN (j0 (dB (dL vB (aw (dF (fh [1,2] (ff (dV 0)) (eQ) (a6 (aL (tG a) (gV (dV 0) (gV (dV 1) (gV (dV 2) (bG)))))))) (aH))))) (cP (dC (.bl am))) (d4))
 (cP (d2 (eqT am) (dF (dL yQ (aw (dV 0) (aH)))) (dF (dL q_ (aw (dV 0) (aH)))))))
def pJ(a:Ad):aj->R Slot:=br 3 [] (bu 0 (yao a))
def yaD(a:Ad):aj->R aO:=aJ (cN (xC (j0 (dB (dL dZ (aw (dV 0) (aw (dC (.raw (.ty "tuple"))) (aH)))))) (dB (d2 (eqT ai) (dL bO (aw (dV 0) (aH))) (dC (.int 2))))) (cP (dC (.bl am))) (d4))
 (cP (j1 (a6 (aL (m_ a) (gV (d2 bq (dV 0) (dC (.int 0))) (bG)))) (a6 (aL (pJ a) (gV (d2 bq (dV 0) (dC (.int 1))) (gV (d2 bq (dV 0) (dC (.int 0))) (gV (dV 1) (bG))))))))
def ti(a:Ad):aj->R Slot:=br 2 [] (bu 0 (yaD a))
def yaC(a:Ad):aj->R aO:=pq (aL (ti a) (gV (dV 0) (gV (dC (.str [97,98,99])) (bG))))
def yS(a:Ad):aj->R Slot:=br 1 [] (bu 0 (yaC a))
def yar(a:Ad):aj->R aO:=cN (j0 (dB (a6 (aL (yS a) (gV (dV 0) (bG)))))) (lK (.ref a.NoView) (λZ=>bQ ((dC (.str [97,32,118,105,101,119,32,105,115,32,97,32,116,117,112,108,101,32,111,102,32,97,32,119,105,100,116,104,32,97,110,100,32,97,32,114,105,115,105,110,103,32,116,117,112,108,101,32,111,102,32,49,32,116,111,32,57,32,119,105,110,100,111,119,115])) Z))) (d4)
def yk(a:Ad):aj->R Slot:=br 1 [] (bu 0 (yar a))
def yaZ(a:Ad):aj->R aO:=aJ (cN (j0 (dB (qV (eP λi j=>decide (i<=j)) (eP λi j=>decide (i<=j)) (dC (.int 1)) (dL bO (aw (dV 1) (aH))) (dC (.int 9))))) (lK (.ref a.NoView) (λZ=>bQ ((dC (.str [97,32,118,105,101,119,32,104,97,115,32,49,32,116,111,32,57,32,119,105,110,100,111,119,115])) Z))) (d4))
 (cP (dL jj (aw (dV 0) (aw (dL yF (aw (dF (dL q_ (aw (dV 1) (aH)))) (aH))) (aH)))))
def rF(a:Ad):aj->R Slot:=br 2 [] (bu 0 (yaZ a))
def yat(a:Ad):aj->R aO:=aJ (eI 1 (BK))
 (aJ (λZ=>dN (fg 2 (ff (dV 0)) (kr 1 (dV 2) (d2 bg (oi 1 (dV 2) (dC (.int 0))) (dC (.int 1)))) Z))
 (gv 1))
def vW(a:Ad):aj->R Slot:=br 1 [] (bu 2 (yat a))
def yam(a:Ad)(rc:aj->R Slot):aj->R aO:=aJ (cN (j0 (dB (vg 2))) (aJ (kZ 3 (dV 0)) (JN (.ret (.val .non)))) (d4))
 (aJ (bv 4 (cx cq (dV 0) (bB (d2 bg (d2 eB (dL bO (aw (dV 0) (aH))) (dV 1)) (dC (.int 1)))) (dU)))
 (λZ=>dN (fg 5 (ff (dC (.str [97,98,99]))) (aJ (bv 6 (d2 bg (dV 4) (dV 5)))
 (cN (dB (d2 (eP λi j=>decide (j<i)) (oi 2 (dV 6) (dC (.int 0))) (dC (.int 0)))) (aJ (kr 2 (dV 6) (d2 eB (rm 2 (dV 6)) (dC (.int 1))))
 (aJ (kg (aL (rc) (gV (d2 bg (dV 0) (dV 5)) (gV (dV 1) (gO 2 (gO 3 (bG)))))))
 (kr 2 (dV 6) (d2 bg (rm 2 (dV 6)) (dC (.int 1)))))) (d4))) Z)))
def pX(a:Ad):Nat->aj->R Slot
 |0=>br 4 [2,3] (bu 3 Hi)
 |k+1=>br 4 [2,3] (bu 3 (yam a (pX a k)))
def yaV(a:Ad):aj->R aO:=aJ (kg (aL (yk a) (gV (dV 0) (bG))))
 (aJ (bv 1 (d2 bq (dV 0) (dC (.int 0))))
 (aJ (eI 2 (dL bV (aH)))
 (aJ (λZ=>dN (fg 3 (ff (dF (dL vQ (aw (dF (fh [] (ff (d2 bq (dV 0) (dC (.int 1)))) (eQ) (cx cq (dV 0) (dU) (bB (d1 jd (dC (.int 1))))))) (aH))))) (kg (uI (pX a 12) (sZ (dV 3) (sZ (dV 1) (gN (n5 (aL (vW a) (gV (d2 bq (dV 0) (dC (.int 1))) (bG)))) (gO 2 (bG))))))) Z))
 (gv 2))))
def zg(a:Ad):aj->R Slot:=br 1 [] (bu 3 (yaV a))
def yaA(a:Ad):aj->R aO:=cP (dL bO (aw (a6 (aL (zg a) (gV (dV 0) (bG)))) (aH)))
def pG(a:Ad):aj->R Slot:=br 1 [] (bu 0 (yaA a))
def yaJ(a:Ad):aj->R aO:=aJ (cN (dB (d2 (eP λi j=>decide (i<j)) (dV 1) (dL bO (aw (dV 0) (aH))))) (cP (d2 bq (dV 0) (dV 1))) (d4))
 (aJ (cN (dB (d2 (eqT am) (dV 0) (dF (dL bV (aH))))) (cP (dC (.int 0))) (d4))
 (cP (d2 bg (d2 h_ (d2 bq (dV 0) (d2 iR (dV 1) (dL bO (aw (dV 0) (aH))))) (dC (.int 31))) (dV 1))))
def sY(a:Ad):aj->R Slot:=br 2 [] (bu 0 (yaJ a))
def yaL(a:Ad):aj->R aO:=aJ (bv 3 (d2 iR (d2 bg (d2 bg (d2 h_ (a6 (aL (sY a) (gV (dV 0) (gV (dV 1) (bG))))) (dC (.int 1103515245))) (d2 h_ (dC (.int 7919)) (dV 1))) (dC (.int 12345))) (dC (.int 2147483647))))
 (cP (d2 iR (d2 iR (d2 iR (d2 va (dV 3) (dC (.int 5))) (dC (.int 2147483647))) (dC (.int 999983))) (dV 2)))
def zt(a:Ad):aj->R Slot:=br 3 [] (bu 1 (yaL a))
def yaK(a:Ad):aj->R aO:=aJ (kZ 1 (dC (.int 0)))
 (pq (aL (zt a) (gV (dV 0) (gV (yW (λxs=>pF (bO xs)) 1) (gV (dV 2) (bG))))))
def nh(a:Ad):aj->R Slot:=br 3 [1] (bu 0 (yaK a))
def yaM(a:Ad):aj->R aO:=cP (d2 bq (dV 2) (a6 (aL (nh a) (gV (dV 0) (gO 1 (gV (dL bO (aw (dV 2) (aH))) (bG)))))))
def kD(a:Ad):aj->R Slot:=br 3 [1] (bu 0 (yaM a))
def yaN(a:Ad):aj->R aO:=aJ (bv 4 (a6 (aL (kD a) (gV (dV 0) (gO 1 (gV (dF (dL bV (aw (dC (.int 1)) (aw (dC (.int 2)) (aw (dC (.int 2)) (aw (dC (.int 3)) (aw (dC (.int 3)) (aw (dC (.int 3)) (aH))))))))) (bG)))))))
 (aJ (bv 5 (dC (.str [])))
 (aJ (λZ=>dN (fg 6 (dL jF (aw (d2 bg (dV 2) (a6 (aL (nh a) (gV (dV 0) (gO 1 (gV (d2 bg (d2 eB (dV 3) (dV 2)) (dC (.int 1))) (bG))))))) (aH))) (bv 5 (d2 bg (dV 5) (d2 bq (dC (.str [97,98,99])) (a6 (aL (nh a) (gV (dV 0) (gO 1 (gV (dV 4) (bG))))))))) Z))
 (cP (dV 5))))
def lJ(a:Ad):aj->R Slot:=br 4 [1] (bu 3 (yaN a))
def yaO(a:Ad):aj->R aO:=aJ (eI 1 (dL bV (aw (dL (j3 (jJ a)) (aw (dV 0) (aw (dC (.raw (.ref a.NoText))) (aH)))) (aw (dL (j3 (jJ a)) (aw (dV 0) (aw (dC (.raw (.ref a.NoWidth))) (aH)))) (aw (dL (j3 (jJ a)) (aw (dV 0) (aw (dC (.raw (.ref a.NoView))) (aH)))) (aw (dL (j3 (jJ a)) (aw (dV 0) (aw (dC (.raw (.ref a.NoWindow))) (aH)))) (aH)))))))
 (aJ (pP 1 (dF (dL bV (aw (dL (j3 (jJ a)) (aw (dV 0) (aw (dC (.raw (.ref a.Never))) (aH)))) (aw (dL (j3 (jJ a)) (aw (dV 0) (aw (dC (.raw (.ref a.Full))) (aH)))) (aw (dL (j3 (jJ a)) (aw (dV 0) (aw (dC (.raw (.ref a.Nothing))) (aH)))) (aw (dL (j3 (jJ a)) (aw (dV 0) (aw (dC (.raw (.ref a.Unlike))) (aH)))) (aH))))))))
 (aJ (pP 1 (dF (dL bV (aw (dL (j3 (jJ a)) (aw (dV 0) (aw (dC (.raw (.ref a.NoPlace))) (aH)))) (aw (dL (j3 (jJ a)) (aw (dV 0) (aw (dC (.raw (.ref a.NoLetters))) (aH)))) (aw (dL (j3 (jJ a)) (aw (dV 0) (aw (dC (.raw (.ref a.BadText))) (aH)))) (aH)))))))
 (aJ (cN (xC (dB (d2 (eqT ai) (s_ BJ 1 (dC (.bl ai))) (dC (.int 1)))) (j0 (dB (dL (j3 (jJ a)) (aw (dV 0) (aw (dC (.raw (.ty "ValueError"))) (aH))))))) (cP (dL jj (aw (dC (.str [114,101,102,117,115,101,100])) (aw (d1 jd (dC (.int 1))) (aH))))) (d4))
 (cP (dL jj (aw (dC (.str [114,101,102,117,115,101,100])) (aw (s_ CJ 1 (dC (.bl ai))) (aH))))))))
def lX(a:Ad):aj->R Slot:=br 1 [] (bu 1 (yaO a))
def yaB(a:Ad):aj->R aO:=cP (j1 (dL dZ (aw (dV 0) (aw (dC (.raw (.ty "str"))) (aH)))) (j1 (qV (eP λi j=>decide (i<=j)) (eP λi j=>decide (i<=j)) (dC (.int 1)) (dL bO (aw (dV 0) (aH))) (dV 1)) (a6 (aL (vS a) (gV (dV 0) (gV (dC (.str [97,98,99])) (bG)))))))
def ke(a:Ad):aj->R Slot:=br 2 [] (bu 0 (yaB a))
def yaq(a:Ad):aj->R aO:=cN (j0 (dB (a6 (aL (ke a) (gV (dV 0) (gV (dC (.int 12)) (bG))))))) (lK (.ref a.NoText) (λZ=>bQ ((dC (.str [97,32,116,101,120,116,32,104,97,115,32,49,32,116,111,32,49,50,32,108,101,116,116,101,114,115,32,97,44,32,98,44,32,99])) Z))) (d4)
def pV(a:Ad):aj->R Slot:=br 1 [] (bu 0 (yaq a))
def yas(a:Ad):aj->R aO:=cN (j0 (dB (a6 (aL (m_ a) (gV (dV 0) (bG)))))) (lK (.ref a.NoWidth) (λZ=>bQ ((dC (.str [97,32,119,105,100,116,104,32,105,115,32,97,32,119,104,111,108,101,32,110,117,109,98,101,114,32,102,114,111,109,32,49,32,116,111,32,52])) Z))) (d4)
def pT(a:Ad):aj->R Slot:=br 1 [] (bu 0 (yas a))
def yaQ(a:Ad):aj->R aO:=lD (fh [0,1] (dL jF (aw (d2 bg (d2 eB (dL bO (aw (dV 0) (aH))) (dV 1)) (dC (.int 1))) (aH))) (eQ) (cx cq (dV 1) (bB (dV 0)) (bB (d2 bg (dV 0) (dV 2)))))
def oq(a:Ad):aj->R Slot:=br 2 [] (bu 0 (yaQ a))
def yaU(a:Ad):aj->R aO:=aJ (kg (aL (pV a) (gV (dV 0) (bG))))
 (aJ (kg (aL (pT a) (gV (dV 1) (bG))))
 (pq (aL (rF a) (gV (dV 1) (gV (a6 (aL (oq a) (gV (dV 0) (gV (dV 1) (bG))))) (bG))))))
def dD(a:Ad):aj->R Slot:=br 2 [] (bu 0 (yaU a))
def yaX(a:Ad):aj->R aO:=cP (cx cq (d2 h_ (dV 0) (dV 1)) (dU) (bB (d2 eB (d2 bg (dL bO (aw (dV 0) (aH))) (dV 1)) (dC (.int 1)))))
def sI(a:Ad):aj->R Slot:=br 2 [] (bu 0 (yaX a))
def yax(a:Ad):aj->R aO:=aJ (eI 4 (dL bV (aH)))
 (aJ (λZ=>dN (fg 5 (dL lR (aw (d2 bg (dV 2) (dC (.int 1))) (aw (d2 bg (dV 3) (dC (.int 1))) (aH)))) (fg 6 (dL lR (aw (d2 bg (dV 3) (dC (.int 1))) (aw (dL bO (aw (dV 1) (aH))) (aH)))) (cN (dB (d2 (eqT am) (d2 bq (dV 1) (dV 5)) (d2 bq (dV 1) (dV 6)))) (kZ 4 (d2 bg (d2 bg (d2 bg (d2 bg (cx cq (dV 0) (dU) (bB (dV 2))) (cx cq (dV 0) (bB (dV 3)) (bB (dV 6)))) (cx cq (dV 0) (bB (dV 5)) (bB (dV 3)))) (cx cq (dV 0) (bB (dV 2)) (bB (dV 5)))) (cx cq (dV 0) (bB (dV 6)) (dU)))) (d4))) Z))
 (gv 4))
def vG(a:Ad):aj->R Slot:=br 4 [] (bu 3 (yax a))
def yaw(a:Ad):aj->R aO:=aJ (eI 2 (dL bV (aH)))
 (aJ (λZ=>dN (fg 3 (dL jF (aw (dL bO (aw (dV 1) (aH))) (aH))) (fg 4 (dL lR (aw (d2 bg (dV 3) (dC (.int 1))) (aw (dL bO (aw (dV 1) (aH))) (aH)))) (cN (dB (d2 (eqT am) (d2 bq (dV 1) (dV 3)) (d2 bq (dV 1) (dV 4)))) (pP 2 (a6 (aL (vG a) (gV (dV 0) (gV (dV 1) (gV (dV 3) (gV (dV 4) (bG)))))))) (d4))) Z))
 (gv 2))
def AL(a:Ad):aj->R Slot:=br 2 [] (bu 3 (yaw a))
def yaW(a:Ad):aj->R aO:=aJ (cN (dB (d2 (eqT ai) (d2 bq (dV 1) (dC (.int 0))) (d2 bq (dV 1) (d1 jd (dC (.int 1)))))) (lD (dL bV (aH))) (d4))
 (aJ (bv 3 (cx cq (dV 0) (dU) (bB (d2 eB (dL bO (aw (dV 1) (aH))) (dC (.int 1))))))
 (lD (fh [3,2] (dL lR (aw (dC (.int 1)) (aw (dL bO (aw (dV 3) (aH))) (aH)))) (eQ) (a6 (aL (sI a) (gV (d2 bg (cx cq (dV 1) (bB (dV 0)) (dU)) (cx cq (dV 1) (dU) (bB (dV 0)))) (gV (dV 2) (bG))))))))
def vq(a:Ad):aj->R Slot:=br 3 [] (bu 1 (yaW a))
def yaP(a:Ad):aj->R aO:=aJ (bv 2 (a6 (aL (oq a) (gV (dV 0) (gV (d2 eB (dV 1) (dC (.int 1))) (bG))))))
 (lD (Cp (aw (d2 bg (a6 (aL (AL a) (gV (dV 0) (gV (dV 2) (bG))))) (a6 (aL (vq a) (gV (dV 0) (gV (dV 2) (gV (dV 1) (bG))))))) (aH)) (aw (dF (dL bV (aw (dV 0) (aH)))) (aH))))
def kw(a:Ad):aj->R Slot:=br 2 [] (bu 1 (yaP a))
def yav(a:Ad):aj->R aO:=aJ (kg (aL (dD a) (gV (dV 0) (gV (dV 1) (bG)))))
 (pq (aL (kw a) (gV (dV 0) (gV (dV 1) (bG)))))
def pQ(a:Ad):aj->R Slot:=br 2 [] (bu 0 (yav a))
def yaY(a:Ad):aj->R aO:=pq (aL (dD a) (gV (dV 0) (gV (dV 1) (bG))))
def ot(a:Ad):aj->R Slot:=br 2 [] (bu 0 (yaY a))
def yaS(a:Ad):aj->R aO:=aJ (eI 4 (dL bV (aH)))
 (aJ (λZ=>dN (fg 5 (ff (dV 0)) (fg 6 (ff (a6 (aL (kw a) (gV (dV 5) (gV (dV 1) (bG)))))) (cN (dB (iE ai 3 (dV 6))) (aJ (kr 3 (dV 6) (d2 bg (dV 2) (dC (.int 1))))
 (kZ 4 (dV 6))) (d4))) Z))
 (gv 4))
def om(a:Ad):aj->R Slot:=br 4 [3] (bu 3 (yaS a))
def yau(a:Ad):aj->R aO:=aJ (bv 3 (a6 (aL (kw a) (gV (dV 1) (gV (dV 2) (bG))))))
 (aJ (eI 4 (pC 0 0))
 (aJ (bv 5 (dF (dL bV (aw (dV 0) (aH)))))
 (aJ (bv 6 (dC (.int 0)))
 (aJ (λZ=>dN (fH (j0 (dB (dL vN (aw (dF (fh [4] (ff (dV 3)) (eQ) (iE am 1 (dV 0)))) (aH))))) (aJ (bv 5 (a6 (aL (om a) (gV (dV 5) (gV (dV 2) (gV (dV 6) (gO 4 (bG))))))))
 (bv 6 (d2 bg (dV 6) (dC (.int 1))))) 1000 Z))
 (gv 4)))))
def qL(a:Ad):aj->R Slot:=br 3 [] (bu 4 (yau a))
def yap(a:Ad):aj->R aO:=aJ (bv 3 (a6 (aL (dD a) (gV (dV 0) (gV (dV 2) (bG))))))
 (cN (dB (d2 (eqT ai) (dV 3) (a6 (aL (dD a) (gV (dV 1) (gV (dV 2) (bG))))))) (lK (.ref a.Unlike) (λZ=>bQ ((dC (.str [116,104,101,32,116,119,111,32,116,101,120,116,115,32,104,97,118,101,32,117,110,108,105,107,101,32,118,105,101,119,115])) Z))) (d4))
def jK(a:Ad):aj->R Slot:=br 3 [] (bu 1 (yap a))
def yaR(a:Ad):aj->R aO:=aJ (kg (aL (jK a) (gV (dV 0) (gV (dV 1) (gV (dV 2) (bG))))))
 (aJ (eI 3 (dL bV (aw (dV 0) (aH))))
 (aJ (cN (dB (d2 (eqT am) (dV 0) (dV 1))) (gv 3) (d4))
 (aJ (eI 4 (n5 (aL (qL a) (gV (dV 1) (gV (dV 0) (gV (dV 2) (bG)))))))
 (aJ (λZ=>dN (fH (dB (d2 (eqT ai) (qF bq 3 (d1 jd (dC (.int 1)))) (dV 1))) (aJ (bv 5 (dF (fh [4] (ff (a6 (aL (kw a) (gV (qF bq 3 (d1 jd (dC (.int 1)))) (gV (dV 2) (bG)))))) (dB (iE am 1 (dV 0))) (dV 0))))
 (kZ 3 (qJ 5 4))) 1000 Z))
 (gv 3)))))
def kS(a:Ad):aj->R Slot:=br 3 [] (bu 3 (yaR a))
def yaT(a:Ad):aj->R aO:=cP (d2 eB (dL bO (aw (a6 (aL (kS a) (gV (dV 0) (gV (dV 1) (gV (dV 2) (bG)))))) (aH))) (dC (.int 1)))
def pM(a:Ad):aj->R Slot:=br 3 [] (bu 0 (yaT a))
def yan(a:Ad):aj->R aO:=aJ (bv 3 (a6 (aL (dD a) (gV (dV 0) (gV (dV 2) (bG))))))
 (cP (d2 (eqT am) (dV 3) (a6 (aL (dD a) (gV (dV 1) (gV (dV 2) (bG)))))))
def mM(a:Ad):aj->R Slot:=br 3 [] (bu 1 (yan a))
def yay(a:Ad):aj->R aO:=aJ (bv 2 (a6 (aL (pG a) (gV (a6 (aL (dD a) (gV (dV 0) (gV (dV 1) (bG))))) (bG)))))
 (aJ (eI 3 (pC 0 0))
 (aJ (bv 4 (dF (dL bV (aw (dV 0) (aH)))))
 (aJ (bv 5 (dC (.int 0)))
 (aJ (λZ=>dN (fH (dB (d2 (eP λi j=>decide (i<j)) (vF 3) (dV 2))) (aJ (bv 4 (a6 (aL (om a) (gV (dV 4) (gV (dV 1) (gV (dV 5) (gO 3 (bG))))))))
 (bv 5 (d2 bg (dV 5) (dC (.int 1))))) 1000 Z))
 (cP (dL jj (aw (dV 5) (aw (dL sO (aw (dV 4) (aH))) (aH)))))))))
def pc(a:Ad):aj->R Slot:=br 2 [] (bu 4 (yay a))
end Sh
namespace Pu
open L2
section
variable{X:Cx}{e c ie:aE}{es:List aE}{ss a:List ba}{t:aj->R Bool}{du1 du2:aj->R Slot}{dg:aj->R (List b0)}{di:aj->R PV}{k k1 k2 k3:Nat}{ps ps1 ps2 ps3:List Str}{g g1 g2 g3:aj->R Slot}{x1 x2 x3:Str}{ip pos p1 p2 p3 lp sp:Pos}
def jM(t:aj->R Bool)(du1 du2:aj->R Slot):aj->R Slot:=λZ=>(bQ (t Z)).bind λk dM=>if k then du1 dM else du2 dM
theorem P0(ht:DT X.nox E0 c t)(h1:vX X a du1)(h2:vX X ss du2):vX X (.If c a [] ip::ss) (jM t du1 du2):=λF S Z Y H Q XE rl h af s I=>by
 have q0:Ok X.K E0 Y F S H (t Z) (λk dM F1 S1 H1=>Ok X.K (λc _ H'=>XE c H') Y F1 S1 H1 (if k then du1 dM else du2 dM) (λs _ F' S' H'=>∀v Sr,j9 X.K H' F' s v Sr->(∀b,Sr b->H b=ae/\¬F' b/\¬U S' b/\∃o,H' b=aa o/\ez o)->Q v H')):=by
  unfold jM at h;cases e0:t Z with
  |no=>rw[e0]at h;exact h.elim
  |er c Z'=>rw[e0]at h;exact h.elim
  |ok k dM=>rw[e0]at h;exact λF1 S1 H1 r1 g1=>Ok.from h g1
 have wt:=(ht F S Z Y H (λk H1=>∃F1 S1 dM,aX X.K F1 S1 dM Y H1/\(∀b,H1 b=ae->H b=ae)/\Ok X.K (λc _ H'=>XE c H') Y F1 S1 H1 (if k then du1 dM else du2 dM) (λs _ F' S' H'=>∀v Sr,j9 X.K H' F' s v Sr->(∀b,Sr b->H b=ae/\¬F' b/\¬U S' b/\∃o,H' b=aa o/\ez o)->Q v H')) rl (q0.imp λk dM F1 S1 H1 r1 g1 q=>⟨F1,S1,dM,r1,λb z=>lL g1 z,q⟩)).run af s (I.wish _);refine DB (wpAny_If (dr wt (λkk s1 ⟨H1,I1,F1,S1,dM,r1,fb,q⟩=>?_) λ_ _ z=>z.elim));have I1:=I1.unwish;cases kk with
 |true=>refine dr (h1 F1 S1 dM Y H1 Q XE r1 (q.imp λsl Z' F' S' H' r' g' hq v Sr rs fr=>hq v Sr rs λb z=>⟨fb b (fr b z).1,(fr b z).2⟩) af s1 I1) (λfl s2 ⟨u,efl,z⟩=>?_) λ_ _ z=>z;subst efl;exact⟨u,rfl,z⟩
 |false=>refine zO ?_;exact h2 F1 S1 dM Y H1 Q XE r1 (q.imp λsl Z' F' S' H' r' g' hq v Sr rs fr=>hq v Sr rs λb z=>⟨fb b (fr b z).1,(fr b z).2⟩) af s1 I1
theorem LP{f:ah}{fd:gD}(Fn:j5 X.prog X.w X.K X.mg X.base (bU X.prog X.w) k f fd ps (bz X.K g))(hb:Binds X.K fd ps [])(hk:oC X.K (.ref f)=ai)(hr:Room k X.A)(ha:DG X.nox E0 (e::es) dg)(h1:aW (e::es) X.env=(am,bf e X.env)::aW es X.env) (h2:(dR pos (aW es X.env)).any (·.1)=am):∀F S Z Y H Q (XE:ak->Hp->Prop),aX X.K F S Z Y H->Ok X.K (λc _ H'=>XE c H') Y F S H (gu g dg Z) (λs _ F' S' H'=>∀v Sr,j9 X.K H' F' s v Sr->(∀b,Sr b->H b=ae/\¬F' b/\¬U S' b/\∃o,H' b=aa o/\ez o)->Q v H') -> ∀af s,Inv X af Y H s->aA (aB X.prog X.w) X.A (callWith pos (.ref f) [] (dR pos (aW (e::es) X.env)) (t4 pos (t5 [] X.env))) (EP X af Y Q) (XP X af Y XE) s:=λF S Z Y H Q XE rl h af s I=>by
 have q0:Ok X.K E0 Y F S H (dg Z) (λas dM F1 S1 H1=>Ok X.K (λc _ H'=>XE c H') Y F1 S1 H1 (yy dM as g) (λs _ F' S' H'=>∀v Sr,j9 X.K H' F' s v Sr->(∀b,Sr b->H b=ae/\¬F' b/\¬U S' b/\∃o,H' b=aa o/\ez o)->Q v H')):=by
  unfold gu at h;cases e0:dg Z with
  |no=>rw[e0]at h;exact h.elim
  |er c Z'=>rw[e0]at h;exact h.elim
  |ok as dM=>rw[e0]at h;exact λF1 S1 H1 r1 g1=>Ok.from h g1
 have wa:=(ha F S Z Y H (λvs H1=>∃F1 S1 dM as,aX X.K F1 S1 dM Y H1/\i_ X.K Y F1 H1 as vs/\(∀b,H1 b=ae->H b=ae)/\Ok X.K (λc _ H'=>XE c H') Y F1 S1 H1 (yy dM as g) (λs _ F' S' H'=>∀v Sr,j9 X.K H' F' s v Sr->(∀b,Sr b->H b=ae/\¬F' b/\¬U S' b/\∃o,H' b=aa o/\ez o)->Q v H')) rl (q0.imp λas dM F1 S1 H1 r1 g1 q vs av=>⟨F1,S1,dM,as,r1,av,λb z=>lL g1 z,q⟩)).run pos af s (I.wish _);refine Kx (h₀:=X.base) I.ok.mod.kin hk (dr wa (λus s1 ⟨vs,H1,I1,r,F1,S1,dM,as,r1,av,fb,q⟩=>⟨I1.unwish.kIn,?_⟩) λ_ _ z=>z.elim) h1 h2;exact Wy Fn hr hb I1.unwish r (SY (Qm r1 av q) λv H' ⟨sl,Z',F',S',Sr,r',g',rs,fr,hq⟩=>hq v Sr rs λb z=>⟨fb b (fr b z).1,(fr b z).2⟩)
def jh(g1 g2 g3:aj->R Slot)(di:aj->R PV)(dg:aj->R (List b0)):aj->R Slot:=λZ=>(bQ (di Z)).bind λi dM=>match i with
 |.int 0=>gu g1 dg dM
 |.int 1=>gu g2 dg dM
 |.int 2=>gu g3 dg dM
 |_=>.no
theorem Jt(c1:cA (bU X.prog X.w) X.prog X.w X.K X.mg X.base x1 k1 ps1 (bz X.K g1))(c2:cA (bU X.prog X.w) X.prog X.w X.K X.mg X.base x2 k2 ps2 (bz X.K g2))(c3:cA (bU X.prog X.w) X.prog X.w X.K X.mg X.base x3 k3 ps3 (bz X.K g3))(rm1:Room k1 X.A) (rm2:Room k2 X.A) (rm3:Room k3 X.A) (hi:DE X.nox E0 ie di) (ha:DG X.nox E0 (e::es) dg) (hs:yL ie:=by exact λ_ _=>rfl) (hg1:Gl X x1:=by rfl) (uB:Gl X x2:=by rfl) (hg3:Gl X x3:=by rfl)(hd1:(x1 == ("__debug__" : Str))=am:=by decide) (r9:(x2 == ("__debug__" : Str))=am:=by decide) (hd3:(x3 == ("__debug__" : Str))=am:=by decide)(h1:aW (e::es) X.env=(am,bf e X.env)::aW es X.env:=by rfl) (h2:(dR pos (aW es X.env)).any (·.1)=am:=by rfl):DX X (.Call (.Subscript (.List [.Name x1 p1,.Name x2 p2,.Name x3 p3] lp) ie sp) (e::es) [] pos) (jh g1 g2 g3 di dg):=λF S Z Y H Q XE rl h af s I=>by
 obtain⟨f1,fd1,m1,F1',b1,kp1⟩:=c1.ex;obtain⟨f2,fd2,m2,F2',b2,kp2⟩:=c2.ex;obtain⟨f3,fd3,m3,F3',b3,kp3⟩:=c3.ex;have hf:DE X.nox E0 (.Subscript (.List [.Name x1 p1,.Name x2 p2,.Name x3 p3] lp) ie sp) (d2 bq (dF (dL bV (aw (dC (.raw (.ref f1))) (aw (dC (.raw (.ref f2))) (aw (dC (.raw (.ref f3))) aH))))) di) :=eM eC eD (ka (aD (j8 m1 hg1 hd1) (aD (j8 m2 uB r9) (aD (j8 m3 hg3 hd3) a9)))) hi hs;unfold jh at h;cases e0:di Z with
 |no=>rw[e0]at h;exact h.elim
 |er c Z'=>rw[e0]at h;exact h.elim
 |ok i dM=>
  rw[e0]at h;have h:Ok X.K (λc _ H'=>XE c H') Y F S H (match i with
   |.int 0=>gu g1 dg dM
   |.int 1=>gu g2 dg dM
   |.int 2=>gu g3 dg dM
   |_=>.no) _:=h
  have hv:∀f,bq (.lst [.raw (.ref f1),.raw (.ref f2),.raw (.ref f3)]) i=aa (.raw (.ref f))->d2 bq (dF (dL bV (aw (dC (.raw (.ref f1))) (aw (dC (.raw (.ref f2))) (aw (dC (.raw (.ref f3))) aH))))) di Z=.ok (.raw (.ref f)) dM:=λf hx=>by unfold d2;rw[show dF (dL bV (aw (dC (.raw (.ref f1))) (aw (dC (.raw (.ref f2))) (aw (dC (.raw (.ref f3))) aH)))) Z=.ok (.lst [.raw (.ref f1),.raw (.ref f2),.raw (.ref f3)]) Z from rfl,R.bind_ok,e0,R.bind_ok,hx];rfl
  have key:∀{f:ah}{fd:gD}{k:Nat}{ps:List Str}{g:aj->R Slot},j5 X.prog X.w X.K X.mg X.base (bU X.prog X.w) k f fd ps (bz X.K g)->Binds X.K fd ps []->oC X.K (.ref f)=ai->Room k X.A ->
    bq (.lst [.raw (.ref f1),.raw (.ref f2),.raw (.ref f3)]) i=aa (.raw (.ref f)) ->
    Ok X.K (λc _ H'=>XE c H') Y F S H (gu g dg dM) (λs _ F' S' H'=>∀v Sr,j9 X.K H' F' s v Sr->(∀b,Sr b->H b=ae/\¬F' b/\¬U S' b/\∃o,H' b=aa o/\ez o)->Q v H') ->
    aA (aB X.prog X.w) X.A (bf (.Call (.Subscript (.List [.Name x1 p1,.Name x2 p2,.Name x3 p3] lp) ie sp) (e::es) [] pos) X.env) (EP X af Y Q) (XP X af Y XE) s:=λ{f fd k ps g} Fn hb hk hr hx h=>by
   have wf:=(hf F S Z Y H (λv H1=>v=.ref f/\∃F1 S1,aX X.K F1 S1 dM Y H1/\bM (U S) (U S1) F F1 H H1) rl (by rw[hv f hx];exact λF' S' H' r' g' v rv=>⟨rv,F',S',r',g'⟩)).run af s (I.wish _);refine au (dr wf (λu s1 ⟨v,H1,I1,rv,ev,F1,S1,r1,g1⟩=>?_) λ_ _ z=>z.elim);subst ev;obtain rfl:u=Value.ref f:=rv;exact LP Fn hb hk hr ha h1 h2 F1 S1 dM Y H1 Q XE r1 ((Ok.from h g1).imp λsl Z' F' S' H' r' g' hq v Sr rs fr=>hq v Sr rs λb z=>⟨lL g1 (fr b z).1,(fr b z).2⟩) af s1 I1.unwish
  split at h
  ·exact key F1' b1 kp1 rm1 rfl h
  ·exact key F2' b2 kp2 rm2 rfl h
  ·exact key F3' b3 kp3 rm3 rfl h
  ·exact h.elim
end
section
variable{X:Cx}{K:aC}
theorem Gn{x:V}{v:ak}(b:Bool)(rx:RelV x v):plainIs v (.bool b)=ai/\(v == Value.bool b)=decide (x=.bl b):=by
 cases x with
 |bl c=>cases rx;exact⟨rfl,by cases b <;> cases c <;> rfl⟩
 |non=>cases rx;exact⟨rfl,rfl⟩
 |ref a=>cases rx;exact⟨rfl,rfl⟩
 |ty n=>cases rx;exact⟨rfl,rfl⟩
 |int i=>obtain⟨t,rfl⟩:=rx;exact⟨rfl,rfl⟩
 |str i=>obtain⟨t,rfl⟩:=rx;exact⟨rfl,rfl⟩
 |byt i=>obtain⟨t,rfl⟩:=rx;exact⟨rfl,rfl⟩
 |flt i=>obtain⟨t,rfl⟩:=rx;exact⟨rfl,rfl⟩
theorem UX:cr X (eW .Is) (λx y H Q=>∃b,y=.bl b/\Q (.bl (decide (x=.bl b))) H):=by
 intro af s Y H x y v u Q I rx ry h;obtain⟨b,rfl,q⟩:=h;cases ry;obtain⟨h1,h2⟩:=Gn b rx;exact wpAny_is_plain h1 (dA I q h2.symm)
theorem WD:cr X (eW .IsNot) (λx y H Q=>∃b,y=.bl b/\Q (.bl (!decide (x=.bl b))) H):=by
 intro af s Y H x y v u Q I rx ry h;obtain⟨b,rfl,q⟩:=h;cases ry;obtain⟨h1,h2⟩:=Gn b rx;exact wpAny_isNot_plain h1 (dA I q (by rw[h2]))
def pA(neg:Bool):PV->PV->Option PV
 |x,.bl b=>match x with
  |.bl c=>aa (.bl (neg^^decide (c=b)))
  |.raw _=>ae
  |_=>aa (.bl (neg^^am))
 |_,_=>ae
theorem Kk{H:Hp}{F:ah->Prop}{x y:PV}{v u:V}{Q:VK}{pv:PV}{neg:Bool}(rx:bh K H F x v)(ry:bh K H F y u)(e:pA neg x y=aa pv)(q:∀w F' H',Al F F' H H'->bh K H' F' pv w->Q w H'):∃b,u=.bl b/\Q (.bl (neg^^decide (v=V.bl b))) H:=by
 unfold pA at e;split at e
 ·rename_i b;refine⟨b,ry,?_⟩;split at e
  ·rename_i c;cases e;have hv:v=V.bl c:=rx;have:decide (v=V.bl b)=decide (c=b):=by rw[hv];by_cases z:c=b <;> simp[z]
   rw[this];exact q _ F H (Al.refl ..) rfl
  ·cases e
  ·rename_i h1 h2;cases e;have:decide (v=V.bl b)=am:=by
    refine decide_eq_false λz=>?_;subst z;cases x with
    |non=>cases rx
    |raw w=>exact h2 w rfl
    |bl c=>exact h1 c rfl
    |int _=>cases rx
    |str _=>cases rx.1
    |tup _=>obtain⟨a,vs,e,_⟩:=rx;cases e
    |lst _=>obtain⟨a,vs,e,_⟩:=rx;cases e
    |exc _=>obtain⟨a,e,_⟩:=rx;cases e
   rw[this];exact q _ F H (Al.refl ..) rfl
 ·cases e
theorem Rm:P2 K (λx y H Q=>∃b,y=.bl b/\Q (.bl (decide (x=.bl b))) H) (pA am):=λF H x y v u Q pv rx ry e q=>by have:=Kk rx ry e q;simpa using this
theorem QN:P2 K (λx y H Q=>∃b,y=.bl b/\Q (.bl (!decide (x=.bl b))) H) (pA ai):=λF H x y v u Q pv rx ry e q=>by have:=Kk rx ry e q;simpa using this
end
end Pu
local macro_rules | `(tactic| simp! [$xs,*]) => `(tactic| simp [Pu.aJ, Pu.cN, Pu.dB, Pu.d2, Pu.d1, Pu.dV, Pu.dC, Pu.dL, Pu.dF, Pu.aw, Pu.aH, Pu.cP, Pu.pq, Pu.bv, Pu.eI, Pu.aL, Pu.gV, Pu.gO, Pu.bG, Pu.ef, Pu.dX, Pu.cu, Pu.c_, Pu.eh, Pu.R.bind, Pu.aV, Pu.br, Pu.eY, Pu.bu, Pu.back, Pu.je, Pu.sB, Pu.Ur, Pu.NT, Pu.m9, Pu.SF, Pu.a6, Pu.n5, Pu.bV, Pu.jj, Pu.d4, Pu.JN, Pu.kg, Pu.Xw, Pu.j0, Pu.Jo, Pu.uU, Pu.xC, Pu.j1, Pu.Xq, Pu.qV, Pu.eP, Pu.eX, Pu.kZ, Pu.yW, Pu.pF, Pu.imm, Pu.Xu, Pu.sU, bK, tX, $xs,*])
namespace K21
open L2 Pu Sh
def cO(i:Nat):ba:=PySem.Challenge.pw_slitview_k21_unlike_views.main.body.getD i (.Pass ⟨0,0,0,0⟩)
abbrev AZ:ba:=cO 54
abbrev AM:ba:=cO 55
abbrev B7:ba:=cO 56
abbrev Df:ba:=cO 57
abbrev BM:ba:=cO 58
abbrev BH:ba:=cO 59
abbrev ya:ba:=cO 18
abbrev C6:ba:=cO 20
abbrev Do:ba:=cO 26
abbrev Br:ba:=cO 19
abbrev Ds:ba:=cO 21
abbrev Dy:ba:=cO 27
abbrev Bm:ba:=cO 30
abbrev yv:ba:=cO 29
abbrev Bo:ba:=cO 31
abbrev Db:ba:=cO 34
abbrev BP:ba:=cO 42
abbrev By:ba:=cO 43
abbrev Cu:ba:=cO 32
abbrev zr:ba:=cO 44
abbrev Dp:ba:=cO 45
abbrev De:ba:=cO 46
abbrev CW:ba:=cO 22
abbrev yf:ba:=cO 23
abbrev CN:ba:=cO 24
abbrev Cn:ba:=cO 25
abbrev Dv:ba:=cO 28
abbrev BF:ba:=cO 38
abbrev Bf:ba:=cO 37
abbrev zC:ba:=cO 39
abbrev BQ:ba:=cO 40
abbrev A_:ba:=cO 47
abbrev B3:ba:=cO 48
abbrev AN:ba:=cO 35
abbrev Bk:ba:=cO 50
abbrev yg:ba:=cO 49
abbrev zG:ba:=cO 51
abbrev CT:ba:=cO 52
abbrev Bp:ba:=cO 60
abbrev uF:ba:=cO 61
structure cL(K:aC)(mg:Str->Option ak)(base:aI)(a:Ad):Prop where
 yaJ:cz K mg "_law_cell_at" AZ
 yaL:cz K mg "_law_mixed" AM
 yaK:cz K mg "_law_draw" B7
 yaM:cz K mg "_law_pick" Df
 yaN:cz K mg "_law_text" BM
 yaO:cz K mg "_law_which" BH
 yaz:cz K mg "has_only" ya
 yaB:cz K mg "is_text_up_to" C6
 yaq:cz K mg "check_text" Do
 yaE:cz K mg "is_whole_number" Br
 yaF:cz K mg "is_width" Ds
 yas:cz K mg "check_width" Dy
 yaZ:cz K mg "view_of" Bm
 yaQ:cz K mg "pieces" yv
 yaU:cz K mg "text_view" Bo
 yaY:cz K mg "view" Db
 yax:cz K mg "exchanges_from" BP
 yaw:cz K mg "exchanges" By
 yaX:cz K mg "unrolled" Cu
 yaW:cz K mg "turns" zr
 yaP:cz K mg "one_step_off" Dp
 yav:cz K mg "exchanged" De
 yaG:cz K mg "is_window" CW
 yao:cz K mg "are_windows" yf
 yaD:cz K mg "is_view_with" CN
 yaC:cz K mg "is_view" Cn
 yar:cz K mg "check_view" Dv
 yam:cz K mg "add_endings" BF
 yat:cz K mg "counted" Bf
 yaV:cz K mg "texts" zC
 yaA:cz K mg "how_many" BQ
 yaS:cz K mg "spread" A_
 yay:cz K mg "farthest" B3
 yan:cz K mg "alike" AN
 yap:cz K mg "check_alike" Bk
 yau:cz K mg "distances" yg
 yaR:cz K mg "road" zG
 yaT:cz K mg "steps" CT
 yaI:cz K mg "_law_ask" Bp
 yaH:cz K mg "law" uF
 ya1:mg "ValueError" = ae
 ya2:mg "all" = ae
 ya3:mg "any" = ae
 ya4:mg "bool" = ae
 ya5:mg "int" = ae
 ya6:mg "isinstance" = ae
 ya7:mg "len" = ae
 ya8:mg "list" = ae
 ya9:mg "min" = ae
 yba:mg "range" = ae
 ybb:mg "set" = ae
 ybc:mg "sorted" = ae
 ybd:mg "str" = ae
 ybe:mg "tuple" = ae
 ybj:∃t,mg "LETTERS" = aa (.str (tS [97,98,99]) t)
 ybk:∃t,mg "MOST_LETTERS" = aa (.int 12 t)
 ybl:∃t,mg "MOST_WINDOWS" = aa (.int 9 t)
 ybm:∃t,mg "WIDEST" = aa (.int 4 t)
 yak:mg "SlitError" = aa (.ref a.SlitError)
 yaf:mg "NoText" = aa (.ref a.NoText)
 yah:mg "NoWidth" = aa (.ref a.NoWidth)
 yag:mg "NoView" = aa (.ref a.NoView)
 yai:mg "NoWindow" = aa (.ref a.NoWindow)
 yac:mg "Never" = aa (.ref a.Never)
 yab:mg "Full" = aa (.ref a.Full)
 yaj:mg "Nothing" = aa (.ref a.Nothing)
 yal:mg "Unlike" = aa (.ref a.Unlike)
 yae:mg "NoPlace" = aa (.ref a.NoPlace)
 yad:mg "NoLetters" = aa (.ref a.NoLetters)
 yaa:mg "BadText" = aa (.ref a.BadText)
 ybf:OwnCls "NoText" a.NoText [.type "ValueError",.type "Exception",.type "BaseException",.type "object"] "ValueError.__new__" mg base
 ybh:OwnCls "NoWidth" a.NoWidth [.type "ValueError",.type "Exception",.type "BaseException",.type "object"] "ValueError.__new__" mg base
 ybg:OwnCls "NoView" a.NoView [.type "ValueError",.type "Exception",.type "BaseException",.type "object"] "ValueError.__new__" mg base
 ybi:OwnCls "Unlike" a.Unlike [.type "ValueError",.type "Exception",.type "BaseException",.type "object"] "ValueError.__new__" mg base
 err_SlitError:tI base a.SlitError
 und:∀c,nO a c=ai->Under base a.SlitError c
 tab:BB K (jJ a)
 ya0:∃c T,C5 K mg "road" c T
section
variable{P:aZ}{w:aT}{K:aC}{mg:Str->Option ak}{base:aI}{a:Ad}
theorem S_:b7 ["_law_script","_law_k"] ["_law_script","_law_k"] (a8 AZ):=by ac_nf
theorem Tq(G:cL K mg base a):cA (bU P w) P w K mg base "_law_cell_at" 1 ["_law_script","_law_k"] (bz K (sY a)) :=
 cR (k:=0) (pin:=[]) G.yaJ S_ rfl (λ_ _ _ _ _ _ us hl=>Pu.W8 (λ_ _=>rfl) us hl) (λf aN A outer s H E hr=>by exact
  (bo (gq (iD C0 lh (ar 1) (cE gQ gT G.ya7 gP (aD (ar 0) a9)) rfl) (bj (eU (eM eC eD (ar 0) (ar 1)))) gd)
  (bo (gq (iD (kc hr.units) j4 (ar 0) (ka a9) rfl) (bj (eU aU)) gd)
  (bj (eU (bR eT eK (bR qX qQ (eM eC eD (ar 0) (bR uT v6 (ar 1) (cE gQ gT G.ya7 gP (aD (ar 0) a9)))) aU) (ar 1)))))))
theorem RL:b7 ["_law_script","_law_k","_law_many","_law_drawn"] ["_law_script","_law_k","_law_many"] (a8 AM):=by ac_nf
theorem LJ(G:cL K mg base a):cA (bU P w) P w K mg base "_law_mixed" 2 ["_law_script","_law_k","_law_many"] (bz K (zt a)) :=
 cR (k:=1) (pin:=[]) G.yaL RL rfl (λ_ _ _ _ _ _ us hl=>Pu.Xh (λ_ _ _=>rfl) us hl) (λf aN A outer s H E hr=>by exact
  (bo (eO 3 RL.nd (bR uT v6 (bR eT eK (bR eT eK (bR qX qQ ((bT (Tq G) (hr.mono (by decide)) cJ (aM (ar 0) (aM (ar 1) bJ)))).de aU) (bR qX qQ aU (ar 1))) aU) aU))
  (bj (eU (bR uT v6 (bR uT v6 (bR uT v6 (bR Uo WB (ar 3) aU) aU) aU) (ar 2))))))
theorem VD:b7 ["_law_script","_law_town","_law_many"] ["_law_script","_law_town","_law_many"] (a8 B7):=by ac_nf
theorem xG(G:cL K mg base a):cA (bU P w) P w K mg base "_law_draw" 3 ["_law_script","_law_town","_law_many"] (bz K (nh a)) :=
 cR (k:=2) (pin:=[1]) G.yaK VD rfl (λ_ _ _ _ _ _ us hl=>Pu.Xh (λ_ _ _=>rfl) us hl) (λf aN A outer s H E hr=>by exact
  (bo (vn 1 aU)
  (bj (sE (bT (LJ G) (hr.mono (by decide)) cJ (aM (ar 0) (aM (S9 1 gQ gT G.ya7 gP) (aM (ar 2) bJ))))))))
theorem RP:b7 ["_law_script","_law_town","_law_some"] ["_law_script","_law_town","_law_some"] (a8 Df):=by ac_nf
theorem zB(G:cL K mg base a):cA (bU P w) P w K mg base "_law_pick" 4 ["_law_script","_law_town","_law_some"] (bz K (kD a)) :=
 cR (k:=3) (pin:=[1]) G.yaM RP rfl (λ_ _ _ _ _ _ us hl=>Pu.Xh (λ_ _ _=>rfl) us hl) (λf aN A outer s H E hr=>by exact
  (bj (eU (eM eC eD (ar 2) ((bT (xG G) (hr.mono (by decide)) cJ (aM (ar 0) (jC 1 (aM (cE gQ gT G.ya7 gP (aD (ar 2) a9)) bJ))))).de))))
theorem Wg:b7 ["_law_script","_law_town","_law_low","_law_most","_law_few","_law_made","_law_k"] ["_law_script","_law_town","_law_low","_law_most"] (a8 BM):=by ac_nf
theorem FS(G:cL K mg base a):cA (bU P w) P w K mg base "_law_text" 5 ["_law_script","_law_town","_law_low","_law_most"] (bz K (lJ a)) :=
 cR (k:=4) (pin:=[1]) G.yaN Wg rfl (λ_ _ _ _ _ _ us hl=>Pu.Xv (λ_ _ _ _=>rfl) us hl) (λf aN A outer s H E hr=>by exact
  (bo (eO 4 Wg.nd ((bT (zB G) (hr.mono (by decide)) cJ (aM (ar 0) (jC 1 (aM (ka (aD aU (aD aU (aD aU (aD aU (aD aU (aD aU a9))))))) bJ))))).de)
  (bo (eO 5 Wg.nd (ic []))
  (bo (mR (mU 6 lw rfl Wg.nd (xQ G.yba (aD (bR eT eK (ar 2) ((bT (xG G) (hr.mono (by decide)) kG (aM (ar 0) (jC 1 (aM (bR eT eK (bR mH mI (ar 3) (ar 2)) aU) bJ))))).de) a9)) (bj (eO 5 Wg.nd (bR eT eK (ar 5) (eM eC eD (ic [97,98,99]) ((bT (xG G) (hr.mono (by decide)) kG (aM (ar 0) (jC 1 (aM (ar 4) bJ))))).de))))))
  (bj (eU (ar 5)))))))
theorem NK:b7 ["_law_e","_law_own"] ["_law_e"] (a8 BH):=by ac_nf
theorem Py(G:cL K mg base a):yd P w K mg base "_law_which" 1 ["_law_e"] (bz K (lX a)) :=
 NV (k:=0) (pin:=[]) G.yaO NK rfl (λ_ _ _ _ _ _ us hl=>Pu.Xl (λ_=>rfl) us hl) (λf aN A outer s H hr=>by exact
  (bo (lW 1 NK.nd (nU (aD (cE lj (kX G.tab) G.ya6 gn (aD (ar 0) (aD (j8 G.yaf) a9))) (aD (cE lj (kX G.tab) G.ya6 gn (aD (ar 0) (aD (j8 G.yah) a9))) (aD (cE lj (kX G.tab) G.ya6 gn (aD (ar 0) (aD (j8 G.yag) a9))) (aD (cE lj (kX G.tab) G.ya6 gn (aD (ar 0) (aD (j8 G.yai) a9))) a9))))))
  (bo (BN 1 (ka (aD (cE lj (kX G.tab) G.ya6 gn (aD (ar 0) (aD (j8 G.yac) a9))) (aD (cE lj (kX G.tab) G.ya6 gn (aD (ar 0) (aD (j8 G.yab) a9))) (aD (cE lj (kX G.tab) G.ya6 gn (aD (ar 0) (aD (j8 G.yaj) a9))) (aD (cE lj (kX G.tab) G.ya6 gn (aD (ar 0) (aD (j8 G.yal) a9))) a9))))))
  (bo (BN 1 (ka (aD (cE lj (kX G.tab) G.ya6 gn (aD (ar 0) (aD (j8 G.yae) a9))) (aD (cE lj (kX G.tab) G.ya6 gn (aD (ar 0) (aD (j8 G.yad) a9))) (aD (cE lj (kX G.tab) G.ya6 gn (aD (ar 0) (aD (j8 G.yaa) a9))) a9)))))
  (bo (gq ((Bb (iD (uV hr.units) vD (Ot 1 pI) aU rfl) (A7 (lI (ni (cE lj (kX G.tab) G.ya6 gn (aD (ar 0) (aD (mO G.ya1 T6) a9)))))))).dt (bj (eU (sN (aD (ic [114,101,102,117,115,101,100]) (aD (tj sS tO aU) a9))))) gd)
  (bj (eU (sN (aD (ic [114,101,102,117,115,101,100]) (aD (MM 1 pI) a9))))))))))
theorem Nw:b7 ["text","signs"] ["text","signs"] (a8 ya):=by ac_nf
theorem Ip(G:cL K mg base a):cA (bU P w) P w K mg base "has_only" 1 ["text","signs"] (bz K (vS a)) :=
 cR (k:=0) (pin:=[]) G.yaz Nw rfl (λ_ _ _ _ _ _ us hl=>Pu.W8 (λ_ _=>rfl) us hl) (λf aN A outer s H E hr=>by exact
  (bj (eU (cE (Jv rfl) Km G.ya2 Ka (aD (sy (XM:=[1]) (N':=["sign","signs"]) (lN.of ["text","signs"] (a8 ya) rfl rfl (by decide +kernel)) rfl (ng (ar 0)) (λC tM uM ex pn=>by exact qK) (λC tM uM ex pn=>by exact(pW UH Ma (ar 0) (ar 1) rfl))).de a9)))))
theorem My:b7 ["thing","most"] ["thing","most"] (a8 C6):=by ac_nf
theorem VT(G:cL K mg base a):cA (bU P w) P w K mg base "is_text_up_to" 2 ["thing","most"] (bz K (ke a)) :=
 cR (k:=1) (pin:=[]) G.yaB My rfl (λ_ _ _ _ _ _ us hl=>Pu.W8 (λ_ _=>rfl) us hl) (λf aN A outer s H E hr=>by exact
  (bj (eU (n_ (cE mL mW G.ya6 gn (aD (ar 0) (aD (mO G.ybd Hr) a9))) (n_ (JP o_ o_ lh lh aU (cE gQ gT G.ya7 gP (aD (ar 0) a9)) (ar 1)) (qG ((bT (Ip G) (hr.mono (by decide)) cJ (aM (ar 0) (aM (C9 G.ybj) bJ)))).de))))))
theorem RC:b7 ["thing"] ["thing"] (a8 Do):=by ac_nf
theorem Wu(G:cL K mg base a):cA (bU P w) P w K mg base "check_text" 3 ["thing"] (bz K (pV a)) :=
 cR (k:=2) (pin:=[]) G.yaq RC rfl (λ_ _ _ _ _ _ us hl=>Pu.Xl (λ_=>rfl) us hl) (λf aN A outer s H E hr=>by exact
  (bj (gq (lI (ni ((bT (VT G) (hr.mono (by decide)) cJ (aM (ar 0) (aM (zn G.ybk) bJ)))).de)) (bj (vx uQ rfl G.ybf As (ic [97,32,116,101,120,116,32,104,97,115,32,49,32,116,111,32,49,50,32,108,101,116,116,101,114,115,32,97,44,32,98,44,32,99]))) gd)))
theorem Px:b7 ["thing"] ["thing"] (a8 Br):=by ac_nf
theorem Ni(G:cL K mg base a):cA (bU P w) P w K mg base "is_whole_number" 1 ["thing"] (bz K (lF a)) :=
 cR (k:=0) (pin:=[]) G.yaE Px rfl (λ_ _ _ _ _ _ us hl=>Pu.Xl (λ_=>rfl) us hl) (λf aN A outer s H E hr=>by exact
  (bj (eU (n_ (cE mL mW G.ya6 gn (aD (ar 0) (aD (mO G.ya5 Se) a9))) (qG (TR (cE mL mW G.ya6 gn (aD (ar 0) (aD (mO G.ya4 RY) a9)))))))))
theorem Vk:b7 ["thing"] ["thing"] (a8 Ds):=by ac_nf
theorem G2(G:cL K mg base a):cA (bU P w) P w K mg base "is_width" 2 ["thing"] (bz K (m_ a)) :=
 cR (k:=1) (pin:=[]) G.yaF Vk rfl (λ_ _ _ _ _ _ us hl=>Pu.Xl (λ_=>rfl) us hl) (λf aN A outer s H E hr=>by exact
  (bj (eU (n_ ((bT (Ni G) (hr.mono (by decide)) cJ (aM (ar 0) bJ))).de (qG (JP o_ o_ lh lh aU (ar 0) (zn G.ybm)))))))
theorem LM:b7 ["thing"] ["thing"] (a8 Dy):=by ac_nf
theorem Vy(G:cL K mg base a):cA (bU P w) P w K mg base "check_width" 3 ["thing"] (bz K (pT a)) :=
 cR (k:=2) (pin:=[]) G.yas LM rfl (λ_ _ _ _ _ _ us hl=>Pu.Xl (λ_=>rfl) us hl) (λf aN A outer s H E hr=>by exact
  (bj (gq (lI (ni ((bT (G2 G) (hr.mono (by decide)) cJ (aM (ar 0) bJ))).de)) (bj (vx uQ rfl G.ybh As (ic [97,32,119,105,100,116,104,32,105,115,32,97,32,119,104,111,108,101,32,110,117,109,98,101,114,32,102,114,111,109,32,49,32,116,111,32,52]))) gd)))
theorem Vi:b7 ["width","windows"] ["width","windows"] (a8 Bm):=by ac_nf
theorem NW(G:cL K mg base a):cA (bU P w) P w K mg base "view_of" 1 ["width","windows"] (bz K (rF a)) :=
 cR (k:=0) (pin:=[]) G.yaZ Vi rfl (λ_ _ _ _ _ _ us hl=>Pu.W8 (λ_ _=>rfl) us hl) (λf aN A outer s H E hr=>by exact
  (bo (gq (lI (F6 o_ o_ lh lh aU (cE gQ gT G.ya7 gP (aD (ar 1) a9)) (zn G.ybl))) (bj (vx uQ rfl G.ybg As (ic [97,32,118,105,101,119,32,104,97,115,32,49,32,116,111,32,57,32,119,105,110,100,111,119,115]))) gd)
  (bj (eU (sN (aD (ar 0) (aD (Wl Us UQ G.ybe yj (aD (FZ FW JH G.ybc yE (aD (ar 1) a9)).de a9)) a9)))))))
theorem U4:b7 ["text","length"] ["text","length"] (a8 yv):=by ac_nf
theorem JX(G:cL K mg base a):cA (bU P w) P w K mg base "pieces" 1 ["text","length"] (bz K (oq a)) :=
 cR (k:=0) (pin:=[]) G.yaQ U4 rfl (λ_ _ _ _ _ _ us hl=>Pu.W8 (λ_ _=>rfl) us hl) (λf aN A outer s H E hr=>by exact
  (bj (yw (sy (XM:=[0,1]) (N':=["place","text","length"]) (lN.of ["text","length"] (a8 yv) rfl rfl (by decide +kernel)) rfl (xQ G.yba (aD (bR eT eK (bR mH mI (cE gQ gT G.ya7 gP (aD (ar 0) a9)) (ar 1)) aU) a9)) (λC tM uM ex pn=>by exact qK) (λC tM uM ex pn=>by exact(jk jn jm (ar 1) (fO (ar 0)) (fO (bR eT eK (ar 0) (ar 2)))))))))
theorem MB:b7 ["text","width"] ["text","width"] (a8 Bo):=by ac_nf
theorem rj(G:cL K mg base a):cA (bU P w) P w K mg base "text_view" 4 ["text","width"] (bz K (dD a)) :=
 cR (k:=3) (pin:=[]) G.yaU MB rfl (λ_ _ _ _ _ _ us hl=>Pu.W8 (λ_ _=>rfl) us hl) (λf aN A outer s H E hr=>by exact
  (bo (qH (bT (Wu G) (hr.mono (by decide)) cJ (aM (ar 0) bJ)))
  (bo (qH (bT (Vy G) (hr.mono (by decide)) cJ (aM (ar 1) bJ)))
  (bj (sE (bT (NW G) (hr.mono (by decide)) cJ (aM (ar 1) (aM ((bT (JX G) (hr.mono (by decide)) cJ (aM (ar 0) (aM (ar 1) bJ)))).de bJ))))))))
theorem Ue:b7 ["text","width"] ["text","width"] (a8 Db):=by ac_nf
theorem UT(G:cL K mg base a):cA (bU P w) P w K mg base "view" 5 ["text","width"] (bz K (ot a)) :=
 cR (k:=4) (pin:=[]) G.yaY Ue rfl (λ_ _ _ _ _ _ us hl=>Pu.W8 (λ_ _=>rfl) us hl) (λf aN A outer s H E hr=>by exact
  (bj (sE (bT (rj G) (hr.mono (by decide)) cJ (aM (ar 0) (aM (ar 1) bJ))))))
theorem Mp:b7 ["text","row","start","again","found","end","last"] ["text","row","start","again"] (a8 BP):=by ac_nf
theorem U7(G:cL K mg base a):cA (bU P w) P w K mg base "exchanges_from" 1 ["text","row","start","again"] (bz K (vG a)) :=
 cR (k:=0) (pin:=[]) G.yax Mp rfl (λ_ _ _ _ _ _ us hl=>Pu.Xv (λ_ _ _ _=>rfl) us hl) (λf aN A outer s H E hr=>by exact
  (bo (lW 4 Mp.nd (nU a9))
  (bo (mR (mU 5 lw rfl Mp.nd (yz G.yba (aD (bR eT eK (ar 2) aU) (aD (bR eT eK (ar 3) aU) a9))) (bj (mU 6 lw rfl Mp.nd (yz G.yba (aD (bR eT eK (ar 3) aU) (aD (cE gQ gT G.ya7 gP (aD (ar 1) a9)) a9))) (bj (gq (iD (kc hr.units) j4 (eM eC eD (ar 1) (ar 5)) (eM eC eD (ar 1) (ar 6)) rfl) (bj (vn 4 (bR eT eK (bR eT eK (bR eT eK (bR eT eK (jk jn jm (ar 0) mY (fO (ar 2))) (jk jn jm (ar 0) (fO (ar 3)) (fO (ar 6)))) (jk jn jm (ar 0) (fO (ar 5)) (fO (ar 3)))) (jk jn jm (ar 0) (fO (ar 2)) (fO (ar 5)))) (jk jn jm (ar 0) (fO (ar 6)) mY)))) gd))))))
  (bj (pO 4)))))
theorem SJ:b7 ["text","row","found","start","again"] ["text","row"] (a8 By):=by ac_nf
theorem Pa(G:cL K mg base a):cA (bU P w) P w K mg base "exchanges" 2 ["text","row"] (bz K (AL a)) :=
 cR (k:=1) (pin:=[]) G.yaw SJ rfl (λ_ _ _ _ _ _ us hl=>Pu.W8 (λ_ _=>rfl) us hl) (λf aN A outer s H E hr=>by exact
  (bo (lW 2 SJ.nd (nU a9))
  (bo (mR (mU 3 lw rfl SJ.nd (xQ G.yba (aD (cE gQ gT G.ya7 gP (aD (ar 1) a9)) a9)) (bj (mU 4 lw rfl SJ.nd (yz G.yba (aD (bR eT eK (ar 3) aU) (aD (cE gQ gT G.ya7 gP (aD (ar 1) a9)) a9))) (bj (gq (iD (kc hr.units) j4 (eM eC eD (ar 1) (ar 3)) (eM eC eD (ar 1) (ar 4)) rfl) (bj (BN 2 ((bT (U7 G) (hr.mono (by decide)) kG (aM (ar 0) (aM (ar 1) (aM (ar 3) (aM (ar 4) bJ)))))).de)) gd))))))
  (bj (pO 2)))))
theorem NQ:b7 ["ring","width"] ["ring","width"] (a8 Cu):=by ac_nf
theorem OV(G:cL K mg base a):cA (bU P w) P w K mg base "unrolled" 1 ["ring","width"] (bz K (sI a)) :=
 cR (k:=0) (pin:=[]) G.yaX NQ rfl (λ_ _ _ _ _ _ us hl=>Pu.W8 (λ_ _=>rfl) us hl) (λf aN A outer s H E hr=>by exact
  (bj (eU (jk jn jm (bR qX qQ (ar 0) (ar 1)) mY (fO (bR mH mI (bR eT eK (cE gQ gT G.ya7 gP (aD (ar 0) a9)) (ar 1)) aU))))))
theorem Oo:b7 ["text","row","width","ring"] ["text","row","width"] (a8 zr):=by ac_nf
theorem P3(G:cL K mg base a):cA (bU P w) P w K mg base "turns" 2 ["text","row","width"] (bz K (vq a)) :=
 cR (k:=1) (pin:=[]) G.yaW Oo rfl (λ_ _ _ _ _ _ us hl=>Pu.Xh (λ_ _ _=>rfl) us hl) (λf aN A outer s H E hr=>by exact
  (bo (gq (iD (uV hr.units) vD (eM eC eD (ar 1) aU) (eM eC eD (ar 1) (tj sS tO aU)) rfl) (bj (yw (nU a9))) gd)
  (bo (eO 3 Oo.nd (jk jn jm (ar 0) mY (fO (bR mH mI (cE gQ gT G.ya7 gP (aD (ar 1) a9)) aU))))
  (bj (yw (sy (XM:=[3,2]) (N':=["place","ring","width"]) (lN.of ["text","row","width","ring"] (a8 zr) rfl rfl (by decide +kernel)) rfl (yz G.yba (aD aU (aD (cE gQ gT G.ya7 gP (aD (ar 3) a9)) a9))) (λC tM uM ex pn=>by exact qK) (λC tM uM ex pn=>by exact((bT (OV G) (hr.mono (by decide)) kG (aM (bR eT eK (jk jn jm (ar 1) (fO (ar 0)) mY) (jk jn jm (ar 1) mY (fO (ar 0)))) (aM (ar 2) bJ)))).de)))))))
theorem UC:b7 ["text","width","row"] ["text","width"] (a8 Dp):=by ac_nf
theorem zh(G:cL K mg base a):cA (bU P w) P w K mg base "one_step_off" 3 ["text","width"] (bz K (kw a)) :=
 cR (k:=2) (pin:=[]) G.yaP UC rfl (λ_ _ _ _ _ _ us hl=>Pu.W8 (λ_ _=>rfl) us hl) (λf aN A outer s H E hr=>by exact
  (bo (eO 2 UC.nd ((bT (JX G) (hr.mono (by decide)) cJ (aM (ar 0) (aM (bR mH mI (ar 1) aU) bJ)))).de)
  (bj (yw (Qv rfl (aD (bR eT eK ((bT (Pa G) (hr.mono (by decide)) cJ (aM (ar 0) (aM (ar 2) bJ)))).de ((bT (P3 G) (hr.mono (by decide)) cJ (aM (ar 0) (aM (ar 2) (aM (ar 1) bJ))))).de) a9) (aD (ka (aD (ar 0) a9)) a9) G.ybc G.ybb)))))
theorem Mg:b7 ["text","width"] ["text","width"] (a8 De):=by ac_nf
theorem Qt(G:cL K mg base a):cA (bU P w) P w K mg base "exchanged" 5 ["text","width"] (bz K (pQ a)) :=
 cR (k:=4) (pin:=[]) G.yav Mg rfl (λ_ _ _ _ _ _ us hl=>Pu.W8 (λ_ _=>rfl) us hl) (λf aN A outer s H E hr=>by exact
  (bo (qH (bT (rj G) (hr.mono (by decide)) cJ (aM (ar 0) (aM (ar 1) bJ))))
  (bj (sE (bT (zh G) (hr.mono (by decide)) cJ (aM (ar 0) (aM (ar 1) bJ)))))))
theorem NC:b7 ["thing","width","signs"] ["thing","width","signs"] (a8 CW):=by ac_nf
theorem Pd(G:cL K mg base a):cA (bU P w) P w K mg base "is_window" 2 ["thing","width","signs"] (bz K (tG a)) :=
 cR (k:=1) (pin:=[]) G.yaG NC rfl (λ_ _ _ _ _ _ us hl=>Pu.Xh (λ_ _ _=>rfl) us hl) (λf aN A outer s H E hr=>by exact
  (bj (eU (n_ (cE mL mW G.ya6 gn (aD (ar 0) (aD (mO G.ybd Hr) a9))) (n_ (pW (kc hr.units) j4 (cE gQ gT G.ya7 gP (aD (ar 0) a9)) (ar 1) rfl) (qG ((bT (Ip G) (hr.mono (by decide)) cJ (aM (ar 0) (aM (ar 2) bJ)))).de))))))
theorem TZ:b7 ["thing","width","signs"] ["thing","width","signs"] (a8 yf):=by ac_nf
theorem Qe(G:cL K mg base a):cA (bU P w) P w K mg base "are_windows" 3 ["thing","width","signs"] (bz K (pJ a)) :=
 cR (k:=2) (pin:=[]) G.yao TZ rfl (λ_ _ _ _ _ _ us hl=>Pu.Xh (λ_ _ _=>rfl) us hl) (λf aN A outer s H E hr=>by exact
  (bo (gq ((Bb (lI (ni (cE mL mW G.ya6 gn (aD (ar 0) (aD (mO G.ybe yj) a9))))) (A7 (lI (F6 o_ o_ lh lh aU (cE gQ gT G.ya7 gP (aD (ar 0) a9)) (zn G.ybl)))))).dt (bj (eU pI)) gd)
  (bo (gq (lI (ni (cE (Jv rfl) Km G.ya2 Ka (aD (sy (XM:=[1,2]) (N':=["window","width","signs"]) (lN.of ["thing","width","signs"] (a8 yf) rfl rfl (by decide +kernel)) rfl (ng (ar 0)) (λC tM uM ex pn=>by exact qK) (λC tM uM ex pn=>by exact((bT (Pd G) (hr.mono (by decide)) kG (aM (ar 0) (aM (ar 1) (aM (ar 2) bJ))))).de)).de a9)))) (bj (eU pI)) gd)
  (bj (eU (pW (kc hr.units) j4 (Qj We Ru G.ya8 Bl (aD (ar 0) a9)).de (FZ FW JH G.ybc yE (aD (ar 0) a9)).de rfl))))))
theorem LV:b7 ["thing","signs"] ["thing","signs"] (a8 CN):=by ac_nf
theorem ND(G:cL K mg base a):cA (bU P w) P w K mg base "is_view_with" 4 ["thing","signs"] (bz K (ti a)) :=
 cR (k:=3) (pin:=[]) G.yaD LV rfl (λ_ _ _ _ _ _ us hl=>Pu.W8 (λ_ _=>rfl) us hl) (λf aN A outer s H E hr=>by exact
  (bo (gq ((Bb (lI (ni (cE mL mW G.ya6 gn (aD (ar 0) (aD (mO G.ybe yj) a9))))) (A7 (iD (uV hr.units) vD (cE gQ gT G.ya7 gP (aD (ar 0) a9)) aU rfl)))).dt (bj (eU pI)) gd)
  (bj (eU (n_ ((bT (G2 G) (hr.mono (by decide)) cJ (aM (eM eC eD (ar 0) aU) bJ))).de (qG ((bT (Qe G) (hr.mono (by decide)) cJ (aM (eM eC eD (ar 0) aU) (aM (eM eC eD (ar 0) aU) (aM (ar 1) bJ))))).de))))))
theorem MU:b7 ["thing"] ["thing"] (a8 Cn):=by ac_nf
theorem TV(G:cL K mg base a):cA (bU P w) P w K mg base "is_view" 5 ["thing"] (bz K (yS a)) :=
 cR (k:=4) (pin:=[]) G.yaC MU rfl (λ_ _ _ _ _ _ us hl=>Pu.Xl (λ_=>rfl) us hl) (λf aN A outer s H E hr=>by exact
  (bj (sE (bT (ND G) (hr.mono (by decide)) cJ (aM (ar 0) (aM (C9 G.ybj) bJ))))))
theorem Wk:b7 ["thing"] ["thing"] (a8 Dv):=by ac_nf
theorem Ut(G:cL K mg base a):cA (bU P w) P w K mg base "check_view" 6 ["thing"] (bz K (yk a)) :=
 cR (k:=5) (pin:=[]) G.yar Wk rfl (λ_ _ _ _ _ _ us hl=>Pu.Xl (λ_=>rfl) us hl) (λf aN A outer s H E hr=>by exact
  (bj (gq (lI (ni ((bT (TV G) (hr.mono (by decide)) cJ (aM (ar 0) bJ))).de)) (bj (vx uQ rfl G.ybg As (ic [97,32,118,105,101,119,32,105,115,32,97,32,116,117,112,108,101,32,111,102,32,97,32,119,105,100,116,104,32,97,110,100,32,97,32,114,105,115,105,110,103,32,116,117,112,108,101,32,111,102,32,49,32,116,111,32,57,32,119,105,110,100,111,119,115]))) gd)))
theorem FP:b7 ["text","width","left","found","head","letter","window"] ["text","width","left","found"] (a8 BF):=by ac_nf
theorem Qu(G:cL K mg base a)(m:Nat):cA (bU P w) P w K mg base "add_endings" (1+m) ["text","width","left","found"] (bz K (pX a m)):=by
 induction m with
 |zero=>exact cR (k:=0) (pin:=[2,3]) G.yam FP rfl (λ_ _ _ _ _ _ us hl=>Pu.Xv (λ_ _ _ _=>rfl) us hl) (λf aN A outer s H E hr=>VF)
 |succ m ih=>exact cR (k:=1+m) (pin:=[2,3]) G.yam FP rfl (λ_ _ _ _ _ _ us hl=>Pu.Xv (λ_ _ _ _=>rfl) us hl) (λf aN A outer s H E hr=>by exact
  (bo (gq (lI (ni (Rh 2 rfl G.ya3))) (bo (vn 3 (ar 0))
  (bj VB)) gd)
  (bo (eO 4 FP.nd (jk jn jm (ar 0) (fO (bR eT eK (bR mH mI (cE gQ gT G.ya7 gP (aD (ar 0) a9)) (ar 1)) aU)) mY))
  (bj (mR (mU 5 lw rfl FP.nd (ng (C9 G.ybj)) (bo (eO 6 FP.nd (bR eT eK (ar 4) (ar 5)))
  (bj (gq (iD PQ lh (IP 2 hr.units (ar 6) aU) aU rfl) (bo (zx 2 hr.units (ar 6) (bR mH mI (Hd 2 hr.units (ar 6)) aU))
  (bo (qH (bT ih (hr.mono ∅) kG (aM (bR eT eK (ar 0) (ar 5)) (aM (ar 1) (jC 2 (jC 3 bJ))))))
  (bj (zx 2 hr.units (ar 6) (bR eT eK (Hd 2 hr.units (ar 6)) aU))))) gd)))))))))
theorem Mz:b7 ["windows","counts","window"] ["windows"] (a8 Bf):=by ac_nf
theorem Oe(G:cL K mg base a):cA (bU P w) P w K mg base "counted" 1 ["windows"] (bz K (vW a)) :=
 cR (k:=0) (pin:=[]) G.yat Mz rfl (λ_ _ _ _ _ _ us hl=>Pu.Xl (λ_=>rfl) us hl) (λf aN A outer s H E hr=>by exact
  (bo (lW 1 Mz.nd (NJ))
  (bo (mR (mU 2 lw rfl Mz.nd (ng (ar 0)) (bj (zx 1 hr.units (ar 2) (bR eT eK (IP 1 hr.units (ar 2) aU) aU)))))
  (bj (pO 1)))))
theorem Wm:b7 ["view","width","found","head"] ["view"] (a8 zC):=by ac_nf
theorem MD(G:cL K mg base a):cA (bU P w) P w K mg base "texts" 14 ["view"] (bz K (zg a)) :=
 cR (k:=13) (pin:=[]) G.yaV Wm rfl (λ_ _ _ _ _ _ us hl=>Pu.Xl (λ_=>rfl) us hl) (λf aN A outer s H E hr=>by exact
  (bo (qH (bT (Ut G) (hr.mono (by decide)) cJ (aM (ar 0) bJ)))
  (bo (eO 1 Wm.nd (eM eC eD (ar 0) aU))
  (bo (lW 2 Wm.nd (nU a9))
  (bo (mR (mU 3 lw rfl Wm.nd (ng (OR rfl (aD (sy (XM:=[]) (N':=["window"]) (lN.of ["view","width","found","head"] (a8 zC) rfl rfl (by decide +kernel)) rfl (ng (eM eC eD (ar 0) aU)) (λC tM uM ex pn=>by exact qK) (λC tM uM ex pn=>by exact(jk jn jm (ar 0) mY (fO (tj sS tO aU))))).de a9) G.ybc G.ybb).de) (bj (qH (T_ (Qu G 12) (hr.mono (by decide)) kG (FC (ar 3) (FC (ar 1) (OL (((bT (Oe G) (hr.mono (by decide)) kG (aM (eM eC eD (ar 0) aU) bJ))).dn) (jC 2 bJ)))))))))
  (bj (pO 2)))))))
theorem Su:b7 ["view"] ["view"] (a8 BQ):=by ac_nf
theorem NU(G:cL K mg base a):cA (bU P w) P w K mg base "how_many" 15 ["view"] (bz K (pG a)) :=
 cR (k:=14) (pin:=[]) G.yaA Su rfl (λ_ _ _ _ _ _ us hl=>Pu.Xl (λ_=>rfl) us hl) (λf aN A outer s H E hr=>by exact
  (bj (eU (cE gQ gT G.ya7 gP (aD ((bT (MD G) (hr.mono (by decide)) cJ (aM (ar 0) bJ))).de a9)))))
theorem Od:b7 ["newest","width","number","far","added","text","other"] ["newest","width","number","far"] (a8 A_):=by ac_nf
theorem JT(G:cL K mg base a):cA (bU P w) P w K mg base "spread" 4 ["newest","width","number","far"] (bz K (om a)) :=
 cR (k:=3) (pin:=[3]) G.yaS Od rfl (λ_ _ _ _ _ _ us hl=>Pu.Xv (λ_ _ _ _=>rfl) us hl) (λf aN A outer s H E hr=>by exact
  (bo (lW 4 Od.nd (nU a9))
  (bo (mR (mU 5 lw rfl Od.nd (ng (ar 0)) (bj (mU 6 lw rfl Od.nd (ng ((bT (zh G) (hr.mono (by decide)) kG (aM (ar 5) (aM (ar 1) bJ)))).de) (bj (gq (QM 3 hr.units (ar 6)) (bo (zx 3 hr.units (ar 6) (bR eT eK (ar 2) aU))
  (bj (vn 4 (ar 6)))) gd))))))
  (bj (pO 4)))))
theorem Mb:b7 ["text","width","count","far","newest","number"] ["text","width"] (a8 B3):=by ac_nf
theorem R6(G:cL K mg base a):cA (bU P w) P w K mg base "farthest" 16 ["text","width"] (bz K (pc a)) :=
 cR (k:=15) (pin:=[]) G.yay Mb rfl (λ_ _ _ _ _ _ us hl=>Pu.W8 (λ_ _=>rfl) us hl) (λf aN A outer s H E hr=>by exact
  (bo (eO 2 Mb.nd ((bT (NU G) (hr.mono (by decide)) cJ (aM ((bT (rj G) (hr.mono (by decide)) cJ (aM (ar 0) (aM (ar 1) bJ)))).de bJ))).de)
  (bo (lW 3 Mb.nd (Fw 0))
  (bo (eO 4 Mb.nd (ka (aD (ar 0) a9)))
  (bo (eO 5 Mb.nd aU)
  (bo (mR (BY (λ_=>1000) lw (iD C0 lh (UM 3 G.ya7) (ar 2) rfl) (bo (eO 4 Mb.nd ((bT (JT G) (hr.mono (by decide)) kG (aM (ar 4) (aM (ar 1) (aM (ar 5) (jC 3 bJ)))))).de)
  (bj (eO 5 Mb.nd (bR eT eK (ar 5) aU))))))
  (bj (eU (sN (aD (ar 5) (aD (cE (Nf rfl) Q3 G.ya9 LC (aD (ar 4) a9)) a9)))))))))))
theorem Pl:b7 ["one","other","width","first_view"] ["one","other","width"] (a8 AN):=by ac_nf
theorem Tb(G:cL K mg base a):cA (bU P w) P w K mg base "alike" 5 ["one","other","width"] (bz K (mM a)) :=
 cR (k:=4) (pin:=[]) G.yan Pl rfl (λ_ _ _ _ _ _ us hl=>Pu.Xh (λ_ _ _=>rfl) us hl) (λf aN A outer s H E hr=>by exact
  (bo (eO 3 Pl.nd ((bT (rj G) (hr.mono (by decide)) cJ (aM (ar 0) (aM (ar 2) bJ)))).de)
  (bj (eU (pW (kc hr.units) j4 (ar 3) ((bT (rj G) (hr.mono (by decide)) cJ (aM (ar 1) (aM (ar 2) bJ)))).de rfl)))))
theorem MO:b7 ["one","other","width","one_view"] ["one","other","width"] (a8 Bk):=by ac_nf
theorem Ul(G:cL K mg base a):cA (bU P w) P w K mg base "check_alike" 5 ["one","other","width"] (bz K (jK a)) :=
 cR (k:=4) (pin:=[]) G.yap MO rfl (λ_ _ _ _ _ _ us hl=>Pu.Xh (λ_ _ _=>rfl) us hl) (λf aN A outer s H E hr=>by exact
  (bo (eO 3 MO.nd ((bT (rj G) (hr.mono (by decide)) cJ (aM (ar 0) (aM (ar 2) bJ)))).de)
  (bj (gq (iD (uV hr.units) vD (ar 3) ((bT (rj G) (hr.mono (by decide)) cJ (aM (ar 1) (aM (ar 2) bJ)))).de rfl) (bj (vx uQ rfl G.ybi As (ic [116,104,101,32,116,119,111,32,116,101,120,116,115,32,104,97,118,101,32,117,110,108,105,107,101,32,118,105,101,119,115]))) gd))))
theorem WK:b7 ["goal","start","width","near","far","newest","number"] ["goal","start","width"] (a8 yg):=by ac_nf
theorem V6(G:cL K mg base a):cA (bU P w) P w K mg base "distances" 5 ["goal","start","width"] (bz K (qL a)) :=
 cR (k:=4) (pin:=[]) G.yau WK rfl (λ_ _ _ _ _ _ us hl=>Pu.Xh (λ_ _ _=>rfl) us hl) (λf aN A outer s H E hr=>by exact
  (bo (eO 3 WK.nd ((bT (zh G) (hr.mono (by decide)) cJ (aM (ar 1) (aM (ar 2) bJ)))).de)
  (bo (lW 4 WK.nd (Fw 0))
  (bo (eO 5 WK.nd (ka (aD (ar 0) a9)))
  (bo (eO 6 WK.nd aU)
  (bo (mR (BY (λ_=>1000) lw (lI (ni (cE (Ml rfl) Sz G.ya3 Iq (aD (sy (XM:=[4]) (N':=["text","far"]) (lN.of ["goal","start","width","near","far","newest","number"] (a8 yg) rfl rfl (by decide +kernel)) rfl (ng (ar 3)) (λC tM uM ex pn=>by exact qK) (λC tM uM ex pn=>by exact(V9 1 hr.units (ar 0)))).de a9)))) (bo (eO 5 WK.nd ((bT (JT G) (hr.mono (by decide)) kG (aM (ar 5) (aM (ar 2) (aM (ar 6) (jC 4 bJ)))))).de)
  (bj (eO 6 WK.nd (bR eT eK (ar 6) aU))))))
  (bj (pO 4))))))))
theorem LL:b7 ["one","other","width","way","far","near"] ["one","other","width"] (a8 zG):=by ac_nf
theorem G1(G:cL K mg base a):cA (bU P w) P w K mg base "road" 6 ["one","other","width"] (bz K (kS a)) :=
 Uu (k:=5) (pin:=[]) G.ya0 (by decide) G.yaR LL rfl (λ_ _ _ _ _ _ us hl=>Pu.Xh (λ_ _ _=>rfl) us hl) (λf aN c T A outer s H E hr hL=>by exact
  (bo (qH (bT (Ul G) (hr.mono (by decide)) cJ (aM (ar 0) (aM (ar 1) (aM (ar 2) bJ)))))
  (bo (lW 3 LL.nd (nU (aD (ar 0) a9)))
  (bo (gq (iD (kc hr.units) j4 (ar 0) (ar 1) rfl) (bj (pO 3)) gd)
  (bo (lW 4 LL.nd (((bT (V6 G) (hr.mono (by decide)) cJ (aM (ar 1) (aM (ar 0) (aM (ar 2) bJ))))).dn))
  (bo (mR (BY (λ_=>1000) lw (iD (uV hr.units) vD (Jq 3 eC eD (tj sS tO aU)) (ar 1) rfl) (bo (Fm 5 LL.nd (XM:=[4]) (N':=["text","far"]) (lN.of ["one","other","width","way","far","near"] (a8 zG) rfl rfl (by decide +kernel)) rfl (ng ((bT (zh G) (hr.mono (by decide)) kG (aM (Jq 3 eC eD (tj sS tO aU)) (aM (ar 2) bJ)))).de) (λC tM uM ex pn=>by exact Re (QW 1 hr.units (ar 0))) (λC tM uM ex pn=>by exact(ar 0)))
  (bj (vn 3 (Om 5 4 rfl hr.d1 (by first|exact hL|exact LamAt.nox hL) G.ya9))))))
  (bj (pO 3))))))))
theorem WA:b7 ["one","other","width"] ["one","other","width"] (a8 CT):=by ac_nf
theorem Tc(G:cL K mg base a):cA (bU P w) P w K mg base "steps" 7 ["one","other","width"] (bz K (pM a)) :=
 cR (k:=6) (pin:=[]) G.yaT WA rfl (λ_ _ _ _ _ _ us hl=>Pu.Xh (λ_ _ _=>rfl) us hl) (λf aN A outer s H E hr=>by exact
  (bj (eU (bR mH mI (cE gQ gT G.ya7 gP (aD ((bT (G1 G) (hr.mono (by decide)) cJ (aM (ar 0) (aM (ar 1) (aM (ar 2) bJ))))).de a9)) aU))))
def yaI(a:Ad):aj->R aO:=jI 4 (nO a) (jM (dB (d2 (eP λi j=>decide (i<j)) (dV 0) (dC (.int 3)))) (jh (mM a) (kS a) (pM a) (dV 0) (gV (dV 1) (gV (dV 2) (gV (dV 3) (bG))))) (jh (ot a) (pQ a) (pc a) (d2 eB (dV 0) (dC (.int 3))) (gV (dV 1) (gV (dV 3) (bG))))) (pq (λZ=>bQ (aL (lX a) (gV (dV 4) (bG)) Z)))
def cT(a:Ad):aj->R Slot:=br 4 [] (bu 1 (yaI a))
theorem Vo:b7 ["_law_what","_law_one","_law_other","_law_width","_law_e"] ["_law_what","_law_one","_law_other","_law_width"] (a8 Bp):=by ac_nf
theorem Oj(G:cL K mg base a):cA (bU P w) P w K mg base "_law_ask" 17 ["_law_what","_law_one","_law_other","_law_width"] (bz K (cT a)) :=
 cR (k:=16) (pin:=[]) G.yaI Vo rfl (λ_ _ _ _ _ _ us hl=>Pu.Xv (λ_ _ _ _=>rfl) us hl) (λf aN A outer s H E hr=>by
  have hrh:=λad=>Room.hand (v:=aa (.ref ad)) hr;exact
  (bj (Of 4 Vo.nd (P0 (iD C0 lh (ar 0) aU rfl) (Jl (Jt (Tb G) (G1 G) (Tc G) (hr.mono (by decide)) (hr.mono (by decide)) (hr.mono (by decide)) (ar 0) (aM (ar 1) (aM (ar 2) (aM (ar 3) bJ))))) (Jl (Jt (UT G) (Qt G) (R6 G) (hr.mono (by decide)) (hr.mono (by decide)) (hr.mono (by decide)) (bR mH mI (ar 0) aU) (aM (ar 1) (aM (ar 3) bJ))))) G.yak G.err_SlitError G.und (λad=>by exact(bj (sE (Q9 (Py G) ((hrh ad).mono (by decide)) (aM (ar 4) bJ))))))))
def yaH(a:Ad):aj->R aO:=aJ (eI 1 (dL bV (aH)))
 (aJ (bv 2 (a6 (aL (nh a) (gV (dV 0) (gO 1 (gV (dC (.int 6)) (bG)))))))
 (aJ (bv 3 (a6 (aL (kD a) (gV (dV 0) (gO 1 (gV (dF (dL bV (aw (dC .non) (aw (dC (.str [])) (aw (dC (.str [97,98,100])) (aw (dC (.int 5)) (aw (d2 h_ (dC (.str [97])) (dC (.int 13))) (aw (dC (.str [97])) (aw (d2 h_ (dC (.str [97,98])) (dC (.int 6))) (aw (dL jj (aw (dC (.str [97])) (aH))) (aw (d2 h_ (dC (.str [97,98,99])) (dC (.int 4))) (aH)))))))))))) (bG)))))))
 (aJ (bv 4 (a6 (aL (kD a) (gV (dV 0) (gO 1 (gV (dF (dL bV (aw (dC (.int 1)) (aw (dC (.int 2)) (aw (dC (.int 2)) (aw (dC (.int 3)) (aw (dC (.int 4)) (aw (dC (.int 0)) (aw (dC (.int 5)) (aw (dC (.bl ai)) (aw (dC .non) (aw (dC (.str [50])) (aH))))))))))))) (bG)))))))
 (aJ (bv 5 (a6 (aL (lJ a) (gV (dV 0) (gO 1 (gV (dC (.int 1)) (gV (dC (.int 9)) (bG))))))))
 (aJ (bv 6 (a6 (aL (kD a) (gV (dV 0) (gO 1 (gV (dF (dL bV (aw (a6 (aL (lJ a) (gV (dV 0) (gO 1 (gV (dC (.int 1)) (gV (dC (.int 9)) (bG))))))) (aw (vt (dV 5) (bB (d1 jd (dC (.int 1))))) (aw (dV 5) (aw (d2 bg (cx cq (dV 5) (bB (dC (.int 1))) (dU)) (cx cq (dV 5) (dU) (bB (dC (.int 1))))) (aH))))))) (bG)))))))
 (aJ (bv 5 (cN (dB (d2 (eqT am) (dV 2) (dC (.int 0)))) (dV 3) (dV 5)))
 (aJ (bv 6 (cN (dB (d2 (eqT am) (dV 2) (dC (.int 1)))) (dV 3) (dV 6)))
 (aJ (bv 7 (dF (fh [5,6,4] (dL jF (aw (dC (.int 6)) (aH))) (eQ) (a6 (aL (cT a) (gV (dV 0) (gV (dV 1) (gV (dV 2) (gV (dV 3) (bG))))))))))
 (aJ (cN (uU (dB (dL dZ (aw (d2 bq (dV 7) (dC (.int 3))) (aw (dC (.raw (.ty "tuple"))) (aH))))) (dB (d2 (eqT am) (d2 bq (d2 bq (dV 7) (dC (.int 3))) (dC (.int 0))) (dC (.str [114,101,102,117,115,101,100]))))) (cP (d2 (eqT am) (dV 7) (d2 mX (dF (dL bV (aw (d2 bq (dV 7) (dC (.int 3))) (aH)))) (dC (.int 6))))) (d4))
 (aJ (cN (dB (d2 (pA am) (d2 bq (dV 7) (dC (.int 0))) (dC (.bl am)))) (cP (j1 (d2 (eqT am) (cx cq (dV 7) (bB (dC (.int 1))) (bB (dC (.int 3)))) (d2 mX (dF (dL bV (aw (dL jj (aw (dC (.str [114,101,102,117,115,101,100])) (aw (dC (.int 7)) (aH)))) (aH)))) (dC (.int 2)))) (dL dZ (aw (d2 bq (dV 7) (dC (.int 4))) (aw (dC (.raw (.ty "list"))) (aH)))))) (d4))
 (aJ (cN (dB (d2 (pA ai) (d2 bq (dV 7) (dC (.int 0))) (dC (.bl ai)))) (cP (d2 (eqT am) (cx cq (dV 7) (bB (dC (.int 1))) (bB (dC (.int 3)))) (d2 mX (dF (dL bV (aw (d2 bq (dV 7) (dC (.int 0))) (aH)))) (dC (.int 2))))) (d4))
 (cP (j1 (dL dZ (aw (d2 bq (dV 7) (dC (.int 1))) (aw (dC (.raw (.ty "list"))) (aH)))) (d2 (eqT am) (d2 bq (dV 7) (dC (.int 2))) (d2 eB (dL bO (aw (d2 bq (dV 7) (dC (.int 1))) (aH))) (dC (.int 1)))))))))))))))))
def uW(a:Ad):aj->R Slot:=br 1 [] (bu 7 (yaH a))
theorem Rf:b7 ["_law_script","_law_town","_law_way","_law_odd","_law_width","_law_one","_law_other","_law_told"] ["_law_script"] (a8 uF):=by ac_nf
theorem QS(G:cL K mg base a){f:ah}{fd:gD}(Fn:qP K "law" "law" uF f fd):j5 P w K mg base (bU P w) 18 f fd ["_law_script"] (bz K (uW a)) :=
 PF (k:=17) (pin:=[]) Fn Rf rfl (λ_ _ _ _ _ _ us hl=>Pu.Xl (λ_=>rfl) us hl) (λf aN A outer s H E hr=>by exact
  (bo (lW 1 Rf.nd (nU a9))
  (bo (eO 2 Rf.nd ((bT (xG G) (hr.mono (by decide)) cJ (aM (ar 0) (jC 1 (aM aU bJ))))).de)
  (bo (eO 3 Rf.nd ((bT (zB G) (hr.mono (by decide)) cJ (aM (ar 0) (jC 1 (aM (ka (aD Fh (aD (ic []) (aD (ic [97,98,100]) (aD aU (aD (bR qX qQ (ic [97]) aU) (aD (ic [97]) (aD (bR qX qQ (ic [97,98]) aU) (aD (sN (aD (ic [97]) a9)) (aD (bR qX qQ (ic [97,98,99]) aU) a9)))))))))) bJ))))).de)
  (bo (eO 4 Rf.nd ((bT (zB G) (hr.mono (by decide)) cJ (aM (ar 0) (jC 1 (aM (ka (aD aU (aD aU (aD aU (aD aU (aD aU (aD aU (aD aU (aD pI (aD Fh (aD (ic [50]) a9))))))))))) bJ))))).de)
  (bo (eO 5 Rf.nd ((bT (FS G) (hr.mono (by decide)) cJ (aM (ar 0) (jC 1 (aM aU (aM aU bJ)))))).de)
  (bo (eO 6 Rf.nd ((bT (zB G) (hr.mono (by decide)) cJ (aM (ar 0) (jC 1 (aM (ka (aD ((bT (FS G) (hr.mono (by decide)) cJ (aM (ar 0) (jC 1 (aM aU (aM aU bJ)))))).de (aD (LX (ar 5) (fO (tj sS tO aU))) (aD (ar 5) (aD (bR eT eK (jk jn jm (ar 5) (fO aU) mY) (jk jn jm (ar 5) mY (fO aU))) a9))))) bJ))))).de)
  (bo (eO 5 Rf.nd (Ig (iD (kc hr.units) j4 (ar 2) aU rfl) (ar 3) (ar 5)))
  (bo (eO 6 Rf.nd (Ig (iD (kc hr.units) j4 (ar 2) aU rfl) (ar 3) (ar 6)))
  (bo (Fm 7 Rf.nd (XM:=[5,6,4]) (N':=["_law_what","_law_one","_law_other","_law_width"]) (lN.of ["_law_script","_law_town","_law_way","_law_odd","_law_width","_law_one","_law_other","_law_told"] (a8 uF) rfl rfl (by decide +kernel)) rfl (xQ G.yba (aD aU a9)) (λC tM uM ex pn=>by exact qK) (λC tM uM ex pn=>by exact((bT (Oj G) (hr.mono (by decide)) kG (aM (ar 0) (aM (ar 1) (aM (ar 2) (aM (ar 3) bJ)))))).de))
  (bo (gq ((PH (ni (cE mL mW G.ya6 gn (aD (eM eC eD (ar 7) aU) (aD (mO G.ybe yj) a9)))) (Mh (iD (kc hr.units) j4 (eM eC eD (eM eC eD (ar 7) aU) aU) (ic [114,101,102,117,115,101,100]) rfl)))).dt (bj (eU (pW (kc hr.units) j4 (ar 7) (bR A8 C4 (ka (aD (eM eC eD (ar 7) aU) a9)) aU) rfl))) gd)
  (bo (gq (iD UX Rm (eM eC eD (ar 7) aU) pI rfl) (bj (eU (n_ (pW (kc hr.units) j4 (jk jn jm (ar 7) (fO aU) (fO aU)) (bR A8 C4 (ka (aD (sN (aD (ic [114,101,102,117,115,101,100]) (aD aU a9))) a9)) aU) rfl) (qG (cE mL mW G.ya6 gn (aD (eM eC eD (ar 7) aU) (aD (mO G.ya8 Bl) a9))))))) gd)
  (bo (gq (iD WD QN (eM eC eD (ar 7) aU) pI rfl) (bj (eU (pW (kc hr.units) j4 (jk jn jm (ar 7) (fO aU) (fO aU)) (bR A8 C4 (ka (aD (eM eC eD (ar 7) aU) a9)) aU) rfl))) gd)
  (bj (eU (n_ (cE mL mW G.ya6 gn (aD (eM eC eD (ar 7) aU) (aD (mO G.ya8 Bl) a9))) (qG (pW (kc hr.units) j4 (eM eC eD (ar 7) aU) (bR mH mI (cE gQ gT G.ya7 gP (aD (eM eC eD (ar 7) aU) a9)) aU) rfl))))))))))))))))))
end
end K21
namespace Mx
open L2 Pu
def dQ:Tx:=[97,98,99]
def fq:Nat->List Tx
 |0=>[[]]
 |k+1=>dQ.flatMap λc=>(fq k).map (c::·)
theorem tt:∀(k:Nat) (x:Tx),x∈fq k↔x.length=k/\∀c∈x,c∈dQ
 |0,x=>by
  simp only[fq,iq];constructor
  ·rintro rfl;simp
  ·rintro⟨h,_⟩;exact Lb.mp h
 |k+1,x=>by
  simp only[fq,Lc,dG];constructor
  ·rintro⟨c,hc,y,hy,rfl⟩;obtain⟨h1,h2⟩:=(tt k y).mp hy;refine⟨by simp[h1],λd hd=>?_⟩;rcases b8.mp hd with rfl|hd
   ·exact hc
   ·exact h2 d hd
  ·rintro⟨h1,h2⟩;cases x with
   |nil=>cases h1
   |cons c y=>exact⟨c,h2 c (by simp),y,(tt k y).mpr ⟨Eo h1,λd hd=>h2 d (by simp[hd])⟩,rfl⟩
theorem Dc:∀k:Nat,(fq k).length=3^k
 |0=>rfl
 |k+1=>by simp only[fq,dQ,qp,Ld,d_,dw,Dc k,rQ,rX];lia
theorem QR(i j:Nat):fq (i+j)=(fq i).flatMap λh=>(fq j).map (h++·):=by
 induction i with
 |zero=>simp[fq]
 |succ i ih=>rw[show i+1+j=(i+j)+1 by lia];simp only[fq,ih,List.flatMap_assoc,List.map_flatMap,List.flatMap_map,fK,Function.comp_def,Eu]
theorem CZ:∀k:Nat,(fq k).Pairwise (λa b=>a<b)
 |0=>by simp[fq]
 |k+1=>by
  simp only[fq];rw[List.pairwise_flatMap];refine⟨λc _=>?_,?_⟩
  ·rw[Ec];exact(CZ k).imp λh=>List.cons_lt_cons_iff.mpr (.inr ⟨rfl,h⟩)
  ·have:dQ.Pairwise (λa b=>a<b):=by decide
   refine this.imp λh=>?_;intro x hx y hy;obtain⟨x',_,rfl⟩:=dG.mp hx;obtain⟨y',_,rfl⟩:=dG.mp hy;exact List.cons_lt_cons_iff.mpr (.inl h)
theorem LS{a b:Tx}(h:a<b):ft a b=ai:=by simp only[ft,decide_eq_true_eq];exact List.le_of_lt h
theorem Mv(k:Nat):(fq k).Pairwise (λa b=>ft a b=ai):=(CZ k).imp LS
theorem HG(k:Nat):(fq k).Nodup:=(CZ k).imp λh z=>by subst z;exact List.lt_irrefl _ h
def aQ(z:Tx)(w:Nat):List Tx:=((bF z.length).filter λi=>decide (i+w<=z.length)).map λi=>(z.drop i).take w
theorem HW(w L:Nat):∀m:Nat,(bF m).filter (λi=>decide (i+w<=L))=bF (min m (L+1-w))
 |0=>by simp
 |m+1=>by
  rw[t9,ED,HW w L m];by_cases h:m+w<=L
  ·rw[show min m (L+1-w)=m by lia,show min (m+1) (L+1-w)=m+1 by lia,t9];simp[h]
  ·rw[show min (m+1) (L+1-w)=min m (L+1-w) by lia];simp[h]
theorem oh(z:Tx)(w:Nat)(hw:1<=w):aQ z w=(bF (z.length+1-w)).map λi=>(z.drop i).take w:=by unfold aQ;rw[HW,show min z.length (z.length+1-w)=z.length+1-w by lia]
def nw(w:Nat)(t:Tx):Tx->List Tx
 |[]=>[]
 |c::s=>(t.drop (t.length+1-w)++[c])::nw w (t++[c]) s
theorem Ju(w:Nat)(hw:1<=w):∀(s t:Tx),w<=t.length+1->nw w t s=(bF s.length).map λi=>((t++s).drop (t.length+1-w+i)).take w
 |[],t,_=>by simp[nw]
 |c::s,t,h=>by
  rw[nw,Ju w hw s (t++[c]) (by simp;lia),fi,rR,eZ,fK];congr 1
  ·show _=((t++c::s).drop (t.length+1-w)).take w;rw[List.drop_append_of_le_length ∅,List.take_append];have e1:(t.drop (t.length+1-w)).length=w-1:=by rw[ki];lia
   rw[e1,mn (by rw[e1];lia),show w-(w-1)=1 by lia];rfl
  ·refine iK λi _=>?_;simp only[uj];rw[d_,wm,show t.length+1+1-w+i=t.length+1-w+Nat.succ i by lia];simp
theorem FY{w:Nat}(hw:1<=w){h s:Tx}(hh:h.length=w-1):aQ (h++s) w=nw w h s:=by rw[oh _ _ hw,Ju w hw s h ∅,d_,show h.length+s.length+1-w=s.length by lia];refine iK λi _=>?_;rw[show h.length+1-w+i=i by lia]
theorem Gy{z:Tx}{w:Nat}{x:Tx}(hx:x∈aQ z w):x.length=w/\∀c∈x,c∈z:=by simp only[aQ,dG,nq,nr,decide_eq_true_eq]at hx;obtain⟨i,⟨_,h⟩,rfl⟩:=hx;exact⟨by rw[jN,ki];lia,λc hc=>rZ (oV hc)⟩
def iW(w:Nat):Nat->Tx->List Tx->List Tx
 |0,t,_=>[t]
 |r+1,t,q=>dQ.flatMap λc=>if t.drop (t.length+1-w)++[c]∈q then iW w r (t++[c]) (q.erase (t.drop (t.length+1-w)++[c]))else []
theorem Ft(w:Nat):∀(r:Nat) (t:Tx) (q:List Tx),q.length=r->iW w r t q=((fq r).filter λs=>(nw w t s).isPerm q).map (t++·)
 |0,t,q,hq=>by have:q=[]:=Lb.mp hq;subst this;simp[iW,fq,nw,List.isPerm]
 |r+1,t,q,hq=>by
  simp only[iW,fq,List.filter_flatMap,List.map_flatMap];congr 1;funext c;rw[EE,fK];by_cases h:t.drop (t.length+1-w)++[c]∈q
  ·rw[if_pos h,Ft w r (t++[c]) _ (by rw[Le h,hq];rfl)];have e:((λs=>(nw w t s).isPerm q) ∘ λx=>c::x)=λs=>(nw w (t++[c]) s).isPerm (q.erase (t.drop (t.length+1-w)++[c])):=by funext s;show(q.contains (t.drop (t.length+1-w)++[c])&&(nw w (t++[c]) s).isPerm (q.erase (t.drop (t.length+1-w)++[c])))=_;rw[List.contains_iff_mem.mpr h,D9]
   rw[e];refine iK λs _=>?_;simp
  ·rw[if_neg h];have e:((λs=>(nw w t s).isPerm q) ∘ λx=>c::x)=λ_=>am:=by
    funext s;show(q.contains (t.drop (t.length+1-w)++[c])&&(nw w (t++[c]) s).isPerm (q.erase (t.drop (t.length+1-w)++[c])))=_;have:q.contains (t.drop (t.length+1-w)++[c])=am:=by rw[KY];intro z;exact h (List.contains_iff_mem.mp z)
    rw[this,Bool.false_and]
   rw[e];simp
def kW(w:Nat)(ls:List Tx):List Tx:=(bp (cS (ls.map r8))).flatMap λh=>iW w ls.length h ls
theorem Rj{α β:Type}{l:List α}{f:α->List β}(p:α->Bool)(h:∀x∈l,p x=am->f x=[]):l.flatMap f=(l.filter p).flatMap f:=by
 induction l with
 |nil=>rfl
 |cons x l ih=>
  rw[qp,ih λy hy=>h y (by simp[hy]),At];cases e:p x with
  |true=>simp
  |false=>rw[h x (by simp) e];simp
theorem Jb{w:Nat}{ls:List Tx}(hw:1<=w)(hn:1<=ls.length)(hl:∀x∈ls,x.length=w/\∀c∈x,c∈dQ):kW w ls=(fq (w-1+ls.length)).filter λz=>(aQ z w).isPerm ls:=by
 rw[QR,List.filter_flatMap];have e1:(λh=>((fq ls.length).map (h++·)).filter λz=>(aQ z w).isPerm ls)=λh=>((fq ls.length).filter λs=>(aQ (h++s) w).isPerm ls).map (h++·):=by funext h;rw[EE];rfl
 rw[e1,Rj (λh=>decide (h∈ls.map r8))]
 ·have e2:(fq (w-1)).filter (λh=>decide (h∈ls.map r8))=bp (cS (ls.map r8)):=by
   refine vK ?_ ((Mv (w-1)).filter _);refine(List.perm_ext_iff_of_nodup ((HG (w-1)).filter _) (V5 _)).mpr λx=>?_;rw[nq,decide_eq_true_eq,sW,tt];refine⟨λh=>h.2,λh=>⟨?_,h⟩⟩;obtain⟨y,hy,rfl⟩:=dG.mp h;obtain⟨h1,h2⟩:=hl y hy;exact⟨by rw[Er,h1],λc hc=>h2 c ((List.dropLast_sublist _).mem hc)⟩
  rw[e2];unfold kW;have:∀l:List Tx,(∀h∈l,h.length=w-1)->l.flatMap (λh=>iW w ls.length h ls)=l.flatMap λh=>((fq ls.length).filter λs=>(aQ (h++s) w).isPerm ls).map (h++·):=by
   intro l
   induction l with
   |nil=>intro _;rfl
   |cons h l ih=>
    intro hh;rw[qp,qp,ih λy hy=>hh y (by simp[hy]),Ft w _ h ls rfl];have e3:(λs=>(nw w h s).isPerm ls)=λs=>(aQ (h++s) w).isPerm ls:=by funext s;rw[FY hw (hh h (by simp))]
    rw[e3]
  refine this _ λh hh=>?_;have hm:=(sW _ _).mp ((j2 _).mem_iff.mp hh);obtain⟨y,hy,rfl⟩:=dG.mp hm;rw[Er,(hl y hy).1]
 ·intro h hh hp;have cg:=((tt _ h).mp hh).1;rw[List.map_eq_nil_iff,List.filter_eq_nil_iff];intro s hs hq;have hsl:=((tt _ s).mp hs).1;rw[FY hw cg,EH]at hq;cases s with
  |nil=>rw[rQ]at hsl;lia
  |cons c s=>rw[nw,show h.length+1-w=0 by lia,z7]at hq;have:h++[c]∈ls:=hq.mem_iff.mp (by simp);rw[decide_eq_false_iff_not]at hp;exact hp (dG.mpr ⟨_,this,by simp⟩)
end Mx
namespace Sh
open L2 Pu Mx
theorem gR{α:Type}{f:List PV->Option α}{ds:aj->R (List PV)}{Z dM:aj}{xs:List PV}{v:α}(h:ds Z=.ok xs dM)(hf:f xs=aa v):dL f ds Z=.ok v dM:=by unfold dL;rw[h];show aV (f xs) dM=_;rw[hf];rfl
theorem dJ{d:aj->R PV}{ds:aj->R (List PV)}{Z dM Z2:aj}{x:PV}{xs:List PV}(h:d Z=.ok x dM)(hs:ds dM=.ok xs Z2):aw d ds Z=.ok (x::xs) Z2:=by unfold aw;rw[h];show(ds dM).bind _=_;rw[hs];rfl
theorem gJ{Z:aj}:aH Z=.ok [] Z:=rfl
theorem eG(pv:PV)(Z:aj):dC pv Z=.ok pv Z:=rfl
theorem dW{f:PV->PV->Option PV}{da db:aj->R PV}{Z dM Z2:aj}{x y z:PV}(h:da Z=.ok x dM)(h2:db dM=.ok y Z2)(hf:f x y=aa z):d2 f da db Z=.ok z Z2:=by unfold d2;rw[h];show(db dM).bind _=_;rw[h2];show aV (f x y) Z2=_;rw[hf];rfl
section
theorem Qd{ls:List Tx}(h:ls.length<=1000000):q_ [.lst (ap ls)]=aa (.lst (ap (bp ls))):=by show(g_ (ap ls)).bind _=_;rw[sJ,gW,if_pos h]
end
section
variable{a:Ad}
abbrev bZ(ns:List Int):Slot:=.val (.lst (ns.map .int))
theorem JK(ns:List Int)(k:Int)(h0:0<=k)(h:k<ns.length):∃v,fF (ns.map PV.int) k=aa (.int v):=by
 have hk:k.toNat<ns.length:=∅
 refine⟨ns[k.toNat],?_⟩;rw[IE h0 (by rw[dw];exact hk)];simp
theorem eq_nil(ns:List Int):Pu.eqT am (.lst (ns.map .int)) (.lst [])=aa (.bl ns.isEmpty):=by
 cases ns with
 |nil=>rfl
 |cons x xs=>
  have hd:∀l:List Int,iY (l.map .int)=0:=λl=>by induction l with|nil=>rfl|cons y l ih=>simp[iY,hZ,ih]
  have:iY ((x::xs).map .int)=0:=hd _;simp only[eZ]at this;simp[Pu.eqT,eN,cD,gZ,hZ,this]
theorem vz(neg:Bool)(i j:Int):Pu.eqT neg (.int i) (.int j)=aa (.bl (neg^^decide (i=j))):=by show(if re (V.int i) (V.int j)then aa (PV.bl (neg^^decide (V.int i=V.int j)))else ae)=_;have:re (V.int i) (V.int j)=ai:=rfl;rw[if_pos this];simp
theorem vb(neg:Bool)(x y:Tx):Pu.eqT neg (.str x) (.str y)=aa (.bl (neg^^decide (x=y))):=by show(if re (tV x) (tV y)then aa (PV.bl (neg^^decide (tV x=tV y)))else ae)=_;have:re (tV x) (tV y)=ai:=rfl;rw[if_pos this];have e:(tV x=tV y)=(x=y):=propext ⟨Po,λh=>by rw[h]⟩;simp only[e]
theorem MI(ns:List Int)(k:Int)(h0:0<=k):∃v,sY a [bZ ns,⇑k]=.ok (⇑v) [bZ ns,⇑k]:=by
 by_cases h:k<ns.length
 ·obtain⟨v,hv⟩:=JK ns k h0 h;refine⟨v,?_⟩;simp![sY,yaJ,bO,bq,hv,h]
 ·have e:=eq_nil ns;by_cases hn:ns=[]
  ·subst hn;refine⟨0,?_⟩;simp only[wn,Lf]at e;have h':¬k<0:=∅
   simp![sY,yaJ,bO,bq,e,h']
  ·have hpos:0<ns.length:=by cases ns with|nil=>exact absurd rfl hn|cons=>simp
   obtain⟨v,hv⟩:=JK ns (k % ns.length) (Ez _ ∅) (Ey _ ∅);refine⟨v*31+k,?_⟩;have e2:ns.isEmpty=am:=by cases ns with|nil=>exact absurd rfl hn|cons=>rfl
   rw[e2]at e;have hm:iR (.int k) (.int (ns.length:Int))=aa (.int (k % ns.length)):=by simp[iR];lia
   have Lr:h_ (.int v) (.int 31)=aa (.int (v*31)):=by simp[h_,vR]
   simp![sY,yaJ,bO,bq,h,e,hm,hv,Lr,bg]
theorem QT(ns:List Int)(k m:Int)(h0:0<=k)(hm:0<m):∃v,0<=v/\v<m/\zt a [bZ ns,⇑k,⇑m]=.ok (⇑v) [bZ ns,⇑k,⇑m]:=by
 obtain⟨c,hc⟩:=MI (a:=a) ns k h0;have d0:0<=(c*1103515245+7919*k+12345) % 2147483647:=Ez _ (by decide);have d1:(c*1103515245+7919*k+12345) % 2147483647<2147483647:=Ey _ (by decide);have m1:h_ (.int c) (.int 1103515245)=aa (.int (c*1103515245)):=by simp[h_,vR]
 have m2:h_ (.int 7919) (.int k)=aa (.int (7919*k)):=by simp[h_,vR]
 have m3:iR (.int (c*1103515245+7919*k+12345)) (.int 2147483647)=aa (.int ((c*1103515245+7919*k+12345) % 2147483647)):=by simp[iR]
 generalize (c*1103515245+7919*k+12345) % 2147483647=d at d0 d1 m3;have m4:va (.int d) (.int 5)=aa (.int (d^5)):=by
  have:d.natAbs<2^64:=∅
  simp[va,this]
 have m5:iR (.int (d^5)) (.int 2147483647)=aa (.int (d^5 % 2147483647)):=by simp[iR]
 generalize d^5 % 2147483647=d5 at m5;have m6:iR (.int d5) (.int 999983)=aa (.int (d5 % 999983)):=by simp[iR]
 generalize d5 % 999983=d6 at m6;have m7:iR (.int d6) (.int m)=aa (.int (d6 % m)):=by simp[iR,hm]
 refine⟨d6 % m,Ez _ ∅,Ey _ hm,?_⟩;simp![zt,yaL,hc,m1,m2,m3,m4,m5,m6,m7,bg]
theorem zw(ns:List Int)(xs:List PV)(m:Int)(hm:0<m)(hx:xs.length<=1000):∃v,0<=v/\v<m/\nh a [bZ ns,.own (.lst xs),⇑m]=.ok (⇑v) [bZ ns,.own (.lst (xs++[.int 0])),⇑m]:=by
 obtain⟨v,v0,v1,hv⟩:=QT (a:=a) ns ((xs.length:Int)+1) m ∅ hm;refine⟨v,v0,v1,?_⟩;have wW:xs.length<ce:=by unfold ce;lia
 simp![nh,yaK,bO,wW,hv]
theorem GO{α:Type}(ps:List α)(v:Int)(h0:0<=v)(h1:v<ps.length):∃x∈ps,fF ps v=aa x:=by
 have hk:v.toNat<ps.length:=∅
 exact⟨ps[v.toNat],Eb _,IE h0 hk⟩
theorem za(ns:List Int)(xs ps:List PV)(hx:xs.length<=1000)(hp:0<ps.length):∃x∈ps,kD a [bZ ns,.own (.lst xs),.val (.lst ps)]=.ok (.val x) [bZ ns,.own (.lst (xs++[.int 0])),.val (.lst ps)]:=by obtain⟨v,v0,v1,hv⟩:=zw (a:=a) ns xs (ps.length:Nat) ∅ hx;obtain⟨x,hm,nK⟩:=GO ps v v0 v1;refine⟨x,hm,?_⟩;simp![kD,yaM,bO,bq,hv,nK]
theorem y8{n:Nat}(h:n<=1000000):jF [.int n]=aa (gb 0 n):=by show(if(n:Int)<=1000000/\-1000000<=(n:Int)then aa (gb 0 (n:Int).toNat)else ae)=_;rw[if_pos ⟨∅,∅⟩];simp
theorem nY{x y:Tx}(h:x.length+y.length<=ce):bg (.str x) (.str y)=aa (.str (x++y)):=by show(if(x++y).length<=ce then aa (PV.str (x++y))else ae)=_;rw[if_pos (by rw[d_];exact h)]
theorem cK{d1 d2:aj->R aO}{Z dM:aj}(h:d1 Z=.ok .next dM):aJ d1 d2 Z=d2 dM:=by unfold aJ;rw[h]
theorem jL{i:Nat}{d:aj->R PV}{Z dM:aj}{x:PV}(h:d Z=.ok x dM):bv i d Z=.ok .next (dM.set i (.val x)):=by unfold bv;rw[h];rfl
theorem Gm{i:Nat}{db:aj->R aO}{I:Nat->aj->Prop}{N:Nat}(step:∀k Z x,k<N->I k Z->∃Z',db (Z.set i (.val x))=.ok .next Z'/\I (k+1) Z'):∀(xs:List PV) (k:Nat) (Z:aj),k+xs.length<=N->I k Z->∃Z',gx i db xs Z=.ok .next Z'/\I (k+xs.length) Z'
 |[],k,Z,_,h=>⟨Z,rfl,h⟩
 |x::xs,k,Z,hk,h=>by simp only[fi]at hk;obtain⟨dM,e1,h1⟩:=step k Z x ∅ h;obtain⟨Z2,e2,h2⟩:=Gm step xs (k+1) dM ∅ h1;refine⟨Z2,by unfold gx;rw[e1];exact e2,?_⟩;rw[fi,show k+(xs.length+1)=k+1+xs.length by lia];exact h2
theorem zv{i:Nat}{db:aj->R aO}{I:List PV->aj->Prop}(step:∀(x:PV) (r:List PV) Z,I (x::r) Z->∃Z',db (Z.set i (.val x))=.ok .next Z'/\I r Z'):∀(xs:List PV) (Z:aj),I xs Z->∃Z',gx i db xs Z=.ok .next Z'/\I [] Z'
 |[],Z,h=>⟨Z,rfl,h⟩
 |x::xs,Z,h=>by obtain⟨dM,e1,h1⟩:=step x xs Z h;obtain⟨Z2,e2,h2⟩:=zv step xs dM h1;exact⟨Z2,by unfold gx;rw[e1];exact e2,h2⟩
theorem Ir(ns:List Int)(xs:List PV)(low most:Nat)(hlm:low<=most)(hm:most<=100)(hx:xs.length<=500):∃(z:Tx) (ys:List PV),low<=z.length/\z.length<=most/\(∀c∈z,c∈dQ)/\ys.length<=xs.length+2+most /\ lJ a [bZ ns,.own (.lst xs),⇑low,⇑most]=.ok (↥z) [bZ ns,.own (.lst ys),⇑low,⇑most]:=by
 obtain⟨f,hf,hp⟩:=za (a:=a) ns xs [.int 1,.int 2,.int 2,.int 3,.int 3,.int 3] ∅ (by decide);obtain⟨few,rfl,f0,f1⟩:∃few:Int,f=.int few/\0<few/\few<=3:=by simp only[b8,ju,or_false]at hf;rcases hf with rfl|rfl|rfl|rfl|rfl|rfl <;> exact⟨_,rfl,by decide,by decide⟩
 obtain⟨m,m0,m1,hd⟩:=zw (a:=a) ns (xs++[.int 0]) ((most:Int)-low+1) ∅ (by simp;lia);obtain⟨n,hn⟩:∃n:Nat,(low:Int)+m=n:=⟨(low+m).toNat,∅⟩
 have hr:jF [.int ((low:Int)+m)]=aa (gb 0 n):=by rw[hn];exact y8 ∅
 have cg:(gb 0 n).length=n:=by simp[gb]
 obtain⟨Z',e1,ys,z,s6,rfl,hz,hy,EZ⟩:=Gm (i:=6) (db:=bv 5 (d2 bg (dV 5) (d2 bq (dC (.str [97,98,99])) (a6 (aL (nh a) (gV (dV 0) (gO 1 (gV (dV 4) (Pu.bG)))))))))
  (I:=λk Z=>∃ys z s6,Z=[bZ ns,.own (.lst ys),⇑low,⇑most,⇑few,↥z,s6]/\z.length=k/\ys.length<=xs.length+2+k/\∀c∈z,c∈dQ) (N:=n)
  (by
   rintro k Z x hk ⟨ys,z,s6,rfl,hz,hy,EZ⟩;obtain⟨v,v0,v1,hv⟩:=zw (a:=a) ns ys few f0 ∅;obtain⟨c,hc,ut⟩:=GO dQ v v0 (by simp[dQ];lia);refine⟨[bZ ns,.own (.lst (ys++[.int 0])),⇑low,⇑most,⇑few,↥(z++[c]),.val x],?_,ys++[.int 0],z++[c],.val x,rfl,by simp[hz],by simp;lia,λd hd=>?_⟩
   ·have hc3:bq (.str [97,98,99]) (.int v)=aa (.str [c]):=by
     show(fF dQ v).map _=_;rw[ut];rfl
    have qu:bg (.str z) (.str [c])=aa (.str (z++[c])):=nY (by simp[ce];lia);simp![hv,hc3,qu]
   ·simp only[gy,iq]at hd;rcases hd with hd|rfl
    ·exact EZ d hd
    ·exact hc)
  (gb 0 n) 0 [bZ ns,.own (.lst (xs++[.int 0]++[.int 0])),⇑low,⇑most,⇑few,.val (.str []),.none] ∅ ⟨xs++[.int 0]++[.int 0],[],.none,rfl,rfl,by simp,by simp⟩
 refine⟨z,ys,∅,∅,EZ,∅,?_⟩;have qr:eB (.int most) (.int low)=aa (.int ((most:Int)-low)):=rfl;have ha1:bg (.int ((most:Int)-low)) (.int 1)=aa (.int ((most:Int)-low+1)):=rfl;have ha2:bg (.int low) (.int m)=aa (.int ((low:Int)+m)):=rfl;simp only[kI,Eu,i5]at e1;simp![lJ,yaN,hp,qr,ha1,ha2,hd,fg,hr,dN,e1]
theorem nR{XM:List Nat}{dt:aj->R Bool}{de:aj->R PV}{Z:aj}(p:PV->Bool)(f:PV->PV):∀(xs:List PV),(∀x∈xs,bQ (fG XM dt x Z)=.ok (p x) Z/\(p x=ai->bQ (fG XM de x Z)=.ok (f x) Z))->∀aK,lV XM dt de xs aK Z=.ok (aK++(xs.filter p).map f) Z
 |[],_,aK=>by simp[lV]
 |x::xs,h,aK=>by
  have h1:=h x (by simp);have ih:=nR p f xs (λy hy=>h y (by simp[hy]));unfold lV;rw[h1.1];simp only[R.bind_ok];cases hp:p x with
  |false=>simp only[ih aK,At,hp];simp
  |true=>simp only[h1.2 hp,R.bind_ok,ih (aK++[f x]),At,hp];simp
theorem QB{z:Tx}{i w:Nat}(h:i+w<=z.length):eA z (aa (i:Int)) (aa ((i:Int)+w))=(z.drop i).take w:=by
 unfold eA;have e1:HT.sIx z.length 0 (aa (i:Int))=i:=by rw[HT.sIx_nat];lia
 have e2:HT.sIx z.length z.length (aa ((i:Int)+w))=i+w:=by rw[show(i:Int)+w=((i+w:Nat):Int) by lia,HT.sIx_nat];lia
 rw[e1,e2,EI]
theorem Fa{z:Tx}{w:Nat}:∀x∈aQ z w,x.length=w/\∀c∈x,c∈z:=by intro x hx;simp only[aQ,dG,nq,nr,decide_eq_true_eq]at hx;obtain⟨i,⟨_,h⟩,rfl⟩:=hx;exact⟨by rw[jN,ki];lia,λc hc=>rZ (oV hc)⟩
theorem Uq{z:Tx}{w m:Nat}(hw:1<=w)(h1:w<=z.length)(h2:z.length<=w+m):1<=(aQ z w).length/\(aQ z w).length<=m+1:=by
 unfold aQ;rw[dw];have:∀n,((bF n).filter λi=>decide (i+w<=z.length)).length=min n (z.length+1-w):=by
  intro n
  induction n with
  |zero=>simp
  |succ n ih=>
   rw[t9,ED,d_,ih];by_cases h:n+w<=z.length
   ·simp[List.filter,h];lia
   ·simp[List.filter,h];lia
 rw[this];lia
structure Good(l:Tx)(w:Nat)(ls:List Tx):Prop where
 len:∀x∈ls,x.length=w
 abc:∀x∈ls,∀c∈x,c∈l
 some:1<=ls.length
 few:ls.length<=9
theorem Good.perm{l:Tx}{w:Nat}{ls ms:List Tx}(g:Good l w ls)(p:ms.Perm ls):Good l w ms:=⟨λx h=>g.len x (p.mem_iff.mp h),λx h=>g.abc x (p.mem_iff.mp h),by rw[p.length_eq];exact g.some,by rw[p.length_eq];exact g.few⟩
theorem iV(ls:List Tx):(ap ls).length=ls.length:=by simp[ap]
theorem Vp{n:Nat}{v:Int}(h0:0<=v)(h1:v<n):kC n v=aa v.toNat:=by unfold kC;rw[if_pos h0,if_pos h1]
theorem JO(ls ms:List Tx):ap ls++ap ms=ap (ls++ms):=by simp[ap]
theorem GX{α:Type}(xs:List α)(n:Nat):eA xs ae (aa (n:Int))=xs.take n:=by
 unfold eA;have e1:HT.sIx xs.length 0 ae=0:=rfl;rw[e1,HT.sIx_nat,z7,Nat.sub_zero];by_cases h:n<=xs.length
 ·rw[Au h]
 ·rw[Lg ∅,mn (bn _),mn ∅]
theorem HP{α:Type}(xs:List α)(n:Nat):eA xs (aa (n:Int)) ae=xs.drop n:=by
 unfold eA;have e2:HT.sIx xs.length xs.length ae=xs.length:=rfl;rw[e2,HT.sIx_nat];by_cases h:n<=xs.length
 ·rw[Au h,mn (by rw[ki];lia)]
 ·rw[Lg ∅,EJ ∅,EJ ∅];simp
theorem jg{t T:String}{b:Bool}{x:PV}(h:tQ x=aa t)(e:gA [] (.type t) (.type T)=aa b):dZ [x,.raw (.ty T)]=aa (.bl b):=by show((tQ x).bind λt=>(gA [] (.type t) (.type T)).map λb=>PV.bl b)=_;rw[h,gW,e];rfl
theorem RX:gA [] (.type "int") (.type "int")=aa ai:=by decide +kernel
theorem UP:gA [] (.type "int") (.type "bool")=aa am:=by decide +kernel
theorem OK:gA [] (.type "bool") (.type "int")=aa ai:=by decide +kernel
theorem Wo:gA [] (.type "bool") (.type "bool")=aa ai:=by decide +kernel
theorem SU:gA [] (.type "str") (.type "int")=aa am:=by decide +kernel
theorem yD:gA [] (.type "str") (.type "str")=aa ai:=by decide +kernel
theorem xU:gA [] (.type "tuple") (.type "tuple")=aa ai:=by decide +kernel
theorem FU(bs:List Bool):kQ (bs.map .bl)=aa bs:=by
 induction bs with
 |nil=>rfl
 |cons b bs ih=>show(kQ (bs.map .bl)).map (b::·)=_;rw[ih];rfl
theorem GT(bs:List Bool):vB [.lst (bs.map .bl)]=aa (.bl (bs.all id)):=by show(kQ (bs.map .bl)).map _=_;rw[FU];rfl
theorem BU(z s:Tx):vS a [↥z,↥s]=.ok (.val (.bl (z.all s.contains))) [↥z,↥s]:=by
 have hc:=nR (XM:=[1]) (dt:=eQ) (de:=(d2 (sK am) (dV 0) (dV 1))) (Z:=[↥z,↥s]) (λ_=>ai) (λx=>match x with|.str [c]=>.bl (s.contains c)|_=>.non) (z.map λc=>.str [c])
  (by
   intro x hx;obtain⟨c,_,rfl⟩:=dG.mp hx;refine⟨by simp![fG,fE,bQ,eQ],λ_=>?_⟩;have fM:sK am (.str [c]) (.str s)=aa (.bl (s.contains c)):=by rw[←M6];simp[sK]
   simp![fG,fE,bQ,fM]) []
 have he:((z.map λc=>PV.str [c]).filter (λ_=>ai)).map (λx=>match x with|.str [c]=>PV.bl (s.contains c)|_=>.non)=(z.map s.contains).map .bl:=by rw[qo.mpr (by simp),fK,fK];rfl
 rw[i5,he]at hc;have km:(z.map s.contains).all id=z.all s.contains:=by rw[D7];rfl
 generalize z.map s.contains=bs at hc km;have ha:=GT bs;rw[km]at ha;simp![vS,yaz,fh,ff,pU,hc,ha]
def ku(w:Int)(s z:Tx):Bool:=decide ((z.length:Int)=w)&&z.all s.contains
theorem NB(z s:Tx)(w:Int):tG a [↥z,⇑w,↥s]=.ok (.val (.bl (ku w s z))) [↥z,⇑w,↥s]:=by
 have h1:dZ [.str z,.raw (.ty "str")]=aa (.bl ai):=jg rfl yD;have hh:=BU (a:=a) z s;have hl:bO [.str z]=aa (.int (z.length:Nat)):=rfl;have he:=vz am (z.length:Nat) w;unfold ku;by_cases h:((z.length:Nat):Int)=w
 ·simp only[h,decide_true,Bool.xor_true,Bool.not_false]at he;simp![tG,yaG,h1,hl,he,hh,h]
 ·simp only[h,decide_false,Bool.xor_false]at he;simp![tG,yaG,h1,hl,he,h]
theorem AY(ls ms:List Tx):gZ (ap ls) (ap ms)=aa (decide (ls=ms)):=by
 induction ls generalizing ms with
 |nil=>cases ms <;> simp[ap,gZ]
 |cons x ls ih=>
  cases ms with
  |nil=>simp[ap,gZ]
  |cons y ms=>
   show(cD (.str x) (.str y)).bind (λa=>(gZ (ap ls) (ap ms)).map λb=>a&&b)=_;rw[ih];have:cD (.str x) (.str y)=aa (decide (x=y)):=by
    show aa (tS x == tS y)=_;by_cases h:x=y
    ·subst h;simp
    ·have:tS x≠tS y:=λz=>h (qR z);simp[h,this]
   rw[this];simp[rY]
theorem A9(ls:List Tx):iY (ap ls)=0:=by
 induction ls with
 |nil=>rfl
 |cons x ls ih=>show max (hZ (.str x)) (iY (ap ls))=0;rw[ih];rfl
theorem VC(neg:Bool)(ls ms:List Tx):Pu.eqT neg (.lst (ap ls)) (.lst (ap ms))=aa (.bl (neg^^decide (ls=ms))):=by show(if hZ (.lst (ap ls))<=8 then(gZ (ap ls) (ap ms)).map (λk=>PV.bl (neg^^k))else ae)=_;rw[if_pos (by show iY (ap ls)+1<=8;rw[A9];decide),AY];rfl
theorem NY(ls:List Tx)(w:Int)(s:Tx)(h1:1<=ls.length)(h9:ls.length<=9):pJ a [.val (.tup (ap ls)),⇑w,↥s]=.ok (.val (.bl (ls.all (ku w s)&&decide (ls=bp ls)))) [.val (.tup (ap ls)),⇑w,↥s]:=by
 have k1:dZ [.tup (ap ls),.raw (.ty "tuple")]=aa (.bl ai):=jg rfl xU;have hl:bO [.tup (ap ls)]=aa (.int (ls.length:Nat)):=by simp[bO,iV]
 have c1:(1:Int)<=(ls.length:Nat):=∅
 have c2:((ls.length:Nat):Int)<=9:=∅
 have hc:=nR (XM:=[1,2]) (dt:=eQ) (de:=(a6 (aL (tG a) (gV (dV 0) (gV (dV 1) (gV (dV 2) (Pu.bG))))))) (Z:=[.val (.tup (ap ls)),⇑w,↥s]) (λ_=>ai) (λx=>match x with|.str z=>.bl (ku w s z)|_=>.non) (ap ls)
  (by intro x hx;obtain⟨z,_,rfl⟩:=dG.mp hx;refine⟨by simp![fG,fE,bQ,eQ],λ_=>?_⟩;have hw:=NB (a:=a) z s w;simp![fG,fE,bQ,hw]) []
 have he:((ap ls).filter (λ_=>ai)).map (λx=>match x with|.str z=>PV.bl (ku w s z)|_=>.non)=(ls.map (ku w s)).map .bl:=by rw[qo.mpr (by simp)];unfold ap;rw[fK,fK];rfl
 rw[i5,he]at hc;have km:(ls.map (ku w s)).all id=ls.all (ku w s):=by rw[D7];rfl
 generalize ls.map (ku w s)=bs at hc km;have ha:=GT bs;have jz:ls.length<=1000000:=∅
 have heq:=VC am ls (bp ls);cases hb:ls.all (ku w s)with
 |false=>rw[km,hb]at ha;simp![pJ,yao,k1,hl,c1,c2,fh,ff,pU,hc,ha]
 |true=>rw[km,hb]at ha;simp only[oU]at heq;simp![pJ,yao,k1,hl,c1,c2,fh,ff,pU,hc,ha,yQ,q_,sJ,jz,heq]
theorem Wj(ls:List Tx)(w:Int)(s:Tx)(h9:ls.length=0\/9<ls.length):pJ a [.val (.tup (ap ls)),⇑w,↥s]=.ok (.val (.bl am)) [.val (.tup (ap ls)),⇑w,↥s]:=by
 have k1:dZ [.tup (ap ls),.raw (.ty "tuple")]=aa (.bl ai):=jg rfl xU;have hl:bO [.tup (ap ls)]=aa (.int (ls.length:Nat)):=by simp[bO,iV]
 by_cases c1:(1:Int)<=(ls.length:Nat)
 ·have c2:¬((ls.length:Nat):Int)<=9:=∅
  simp![pJ,yao,k1,hl,c1,c2]
 ·simp![pJ,yao,k1,hl,c1]
theorem Uw(i:Int):lF a [⇑i]=.ok (.val (.bl ai)) [⇑i]:=by have h1:dZ [.int i,.raw (.ty "int")]=aa (.bl ai):=jg rfl RX;have h2:dZ [.int i,.raw (.ty "bool")]=aa (.bl am):=jg rfl UP;simp![lF,yaE,h1,h2]
theorem NE(b:Bool):lF a [.val (.bl b)]=.ok (.val (.bl am)) [.val (.bl b)]:=by have h1:dZ [.bl b,.raw (.ty "int")]=aa (.bl ai):=jg rfl OK;have h2:dZ [.bl b,.raw (.ty "bool")]=aa (.bl ai):=jg rfl Wo;simp![lF,yaE,h1,h2]
theorem OB(x:Tx):lF a [↥x]=.ok (.val (.bl am)) [↥x]:=by have h1:dZ [.str x,.raw (.ty "int")]=aa (.bl am):=jg rfl SU;simp![lF,yaE,h1]
theorem ye(i:Int):m_ a [⇑i]=.ok (.val (.bl (decide (1<=i/\i<=4)))) [⇑i]:=by
 have h:=Uw (a:=a) i;by_cases c1:1<=i
 ·by_cases c2:i<=4
  ·simp![m_,yaF,h,c1,c2]
  ·simp![m_,yaF,h,c1,c2]
 ·simp![m_,yaF,h,c1]
theorem BW{x:PV}(h:lF a [.val x]=.ok (.val (.bl am)) [.val x]):m_ a [.val x]=.ok (.val (.bl am)) [.val x]:=by simp![m_,yaF,h]
def uR(s:Tx)(w:Int)(ls:List Tx):Bool:=decide (1<=w/\w<=4)&&(decide (1<=ls.length/\ls.length<=9)&&(ls.all (ku w s)&&decide (ls=bp ls)))
theorem Wt(s:Tx)(w:Int)(ls:List Tx):ti a [.val (.tup [.int w,.tup (ap ls)]),↥s]=.ok (.val (.bl (uR s w ls))) [.val (.tup [.int w,.tup (ap ls)]),↥s]:=by
 have k1:dZ [.tup [.int w,.tup (ap ls)],.raw (.ty "tuple")]=aa (.bl ai):=jg rfl xU;have hl:bO [.tup [.int w,.tup (ap ls)]]=aa (.int 2):=rfl;have e2:=vz ai 2 2;simp only[decide_true,Bool.true_xor,Aq]at e2;have i0:bq (.tup [.int w,.tup (ap ls)]) (.int 0)=aa (.int w):=rfl;have i1:bq (.tup [.int w,.tup (ap ls)]) (.int 1)=aa (.tup (ap ls)):=rfl;have hw:=ye (a:=a) w;unfold uR;by_cases c:1<=w/\w<=4
 ·rw[decide_eq_true c]at hw ⊢;by_cases c2:1<=ls.length/\ls.length<=9
  ·have hh:=NY (a:=a) ls w s c2.1 c2.2;rw[decide_eq_true c2];simp![ti,yaD,k1,hl,e2,i0,i1,hw,hh]
  ·have hh:=Wj (a:=a) ls w s ∅;rw[decide_eq_false c2];simp![ti,yaD,k1,hl,e2,i0,i1,hw,hh]
 ·rw[decide_eq_false c]at hw ⊢;simp![ti,yaD,k1,hl,e2,i0,i1,hw]
abbrev vw(w:Int)(ls:List Tx):Bool:=uR dQ w ls
theorem O9(w:Int)(ls:List Tx):yS a [.val (.tup [.int w,.tup (ap ls)])]=.ok (.val (.bl (vw w ls))) [.val (.tup [.int w,.tup (ap ls)])]:=by have hv:=Wt (a:=a) dQ w ls;simp only[dQ]at hv;simp![yS,yaC,hv];rfl
theorem Uf{w:Int}{ls:List Tx}(h:vw w ls=ai):yk a [.val (.tup [.int w,.tup (ap ls)])]=.ok (.val .non) [.val (.tup [.int w,.tup (ap ls)])]:=by have hv:=O9 (a:=a) w ls;rw[h]at hv;simp![yk,yar,hv]
theorem Good.vw{w:Nat}{ls:List Tx}(g:Good dQ w ls)(w1:1<=w)(w4:w<=4)(hs:ls.Pairwise (λa b=>ft a b=ai)):vw w ls=ai:=by
 have e1:ls.all (ku w dQ)=ai:=by rw[t_];intro x hx;unfold ku;rw[g.len x hx,decide_eq_true rfl,D9,t_];intro c hc;simpa using g.abc x hx c hc
 have e2:decide (ls=bp ls)=ai:=decide_eq_true (Uc hs).symm;show uR dQ w ls=ai;unfold uR;rw[e1,e2,decide_eq_true (show 1<=(w:Int)/\(w:Int)<=4 by lia),decide_eq_true (show 1<=ls.length/\ls.length<=9 from⟨g.some,g.few⟩)];rfl
end
def bx(m:List (Tx×Int))(x:Tx):Option Int:=(m.find? λp=>decide (p.1=x)).map (·.2)
def dI(m:List (Tx×Int))(x:Tx)(n:Int):List (Tx×Int):=if(m.any λp=>decide (p.1=x))=ai then m.map (λp=>if p.1=x then(p.1,n)else p)else m++[(x,n)]
def dk(m:List (Tx×Int)):List (aS×PV):=m.map λp=>(Sum.inr (tS p.1),PV.int p.2)
theorem Dl(x y:Tx):((Sum.inr (tS x):aS)=Sum.inr (tS y))=(x=y):=propext ⟨λh=>qR (Sum.inr.inj h),λh=>by rw[h]⟩
theorem uO(m:List (Tx×Int))(x:Tx):lH (dk m) (Sum.inr (tS x))=(bx m x).map .int:=by
 induction m with
 |nil=>rfl
 |cons p m ih=>
  show((List.find? _ ((Sum.inr (tS p.1),PV.int p.2)::dk m)).map (·.2))=_;unfold bx;rw[f8,f8];simp only[Dl];by_cases h:p.1=x
  ·simp[h]
  ·simp only[h,decide_false];exact ih
theorem VH(m:List (Tx×Int))(x:Tx):((dk m).any λkv=>decide (kv.1=(Sum.inr (tS x):aS)))=m.any λp=>decide (p.1=x):=by unfold dk;rw[Ep];congr 1;funext p;simp only[uj,Dl]
theorem xW(m:List (Tx×Int))(x:Tx)(n:Int):sM (dk m) (Sum.inr (tS x)) (.int n)=dk (dI m x n):=by
 unfold sM dI;rw[VH];split
 ·unfold dk;rw[fK,fK];refine iK λp _=>?_;simp only[uj,Dl];split <;> rfl
 ·unfold dk;simp
theorem IB(m:List (Tx×Int)):ri (dk m)=aa (m.any λp=>decide (p.2≠0)):=by
 induction m with
 |nil=>rfl
 |cons p m ih=>show(ri (dk m)).map _=_;rw[ih];simp
theorem xK{m:List (Tx×Int)}{x:Tx}(h:(m.any λp=>decide (p.1=x))=am):bx m x=ae:=by unfold bx;rw[Option.map_eq_none_iff,Ap];intro p hp;have:=Ku.mp h p hp;simpa using this
theorem G8{m:List (Tx×Int)}{x y:Tx}{n:Int}(h:(m.any λp=>decide (p.1=x))=am):bx (m++[(x,n)]) y=if y=x then aa n else bx m y:=by
 have hn:=xK h;unfold bx at hn ⊢;rw[List.find?_append];by_cases e:y=x
 ·subst e;rw[Option.map_eq_none_iff]at hn;simp[hn]
 ·rw[if_neg e];have:¬x=y:=λz=>e z.symm;cases hf:m.find? (λp=>decide (p.1=y))with
  |none=>simp[this]
  |some p=>simp
theorem ME{m:List (Tx×Int)}{x y:Tx}{n:Int}:bx (m.map λp=>if p.1=x then(p.1,n)else p) y=(bx m y).map λz=>if y=x then n else z:=by
 induction m with
 |nil=>rfl
 |cons p m ih=>
  unfold bx at ih ⊢;rw[eZ,f8,f8];by_cases h:p.1=x
  ·rw[if_pos h];by_cases e:p.1=y
   ·simp[e,show y=x from e.symm.trans h]
   ·simp only[e,decide_false];exact ih
  ·rw[if_neg h];by_cases e:p.1=y
   ·simp[e,show ¬y=x from λz=>h (e.trans z)]
   ·simp only[e,decide_false];exact ih
theorem J4{m:List (Tx×Int)}{x:Tx}(h:(m.any λp=>decide (p.1=x))=ai):∃n,bx m x=aa n:=by
 unfold bx;cases hf:m.find? (λp=>decide (p.1=x))with
 |none=>rw[Ap]at hf;obtain⟨p,hp,hq⟩:=uk.mp h;exact absurd hq (hf p hp)
 |some p=>exact⟨_,rfl⟩
theorem AK(m:List (Tx×Int))(x y:Tx)(n:Int):bx (dI m x n) y=if y=x then aa n else bx m y:=by
 unfold dI;by_cases h:(m.any λp=>decide (p.1=x))=ai
 ·rw[if_pos h,ME];by_cases e:y=x
  ·subst e;obtain⟨k,hk⟩:=J4 h;rw[hk];simp
  ·simp[e]
 ·rw[if_neg h,G8 (KY.mpr h)]
structure pH(m:List (Tx×Int))(q:List Tx):Prop where
 nd:(m.map (·.1)).Nodup
 get:∀x,(bx m x).getD 0=(q.count x:Nat)
theorem pH.mem{m:List (Tx×Int)}{q:List Tx}(h:pH m q){p:Tx×Int}(hp:p∈m):bx m p.1=aa p.2:=by
 have nd:=h.nd;clear h
 induction m with
 |nil=>cases hp
 |cons r m ih=>
  unfold bx;rw[f8];rcases b8.mp hp with rfl|hp
  ·simp
  ·rw[eZ,kh]at nd;have:¬r.1=p.1:=λz=>nd.1 (dG.mpr ⟨p,hp,z.symm⟩);simp only[this,decide_false];exact ih hp nd.2
theorem Gp{m:List (Tx×Int)}{x:Tx}{n:Int}:(dI m x n).map (·.1)=if(m.any λp=>decide (p.1=x))=ai then m.map (·.1)else m.map (·.1)++[x]:=by
 unfold dI;split
 ·rw[fK];refine iK λp _=>?_;simp only[uj];split <;> rfl
 ·simp
theorem Ha{m:List (Tx×Int)}{x:Tx}{n:Int}(h:(m.map (·.1)).Nodup):((dI m x n).map (·.1)).Nodup:=by
 rw[Gp];split
 ·exact h
 ·rename_i hn;rw[Ae];refine⟨h,by simp,λa ha b hb=>?_⟩;rw[iq]at hb;subst hb;rintro rfl;obtain⟨p,hp,rfl⟩:=dG.mp ha;exact hn (uk.mpr ⟨p,hp,by simp⟩)
theorem pH.any{m:List (Tx×Int)}{q:List Tx}(h:pH m q):(m.any λp=>decide (p.2≠0))=!q.isEmpty:=by
 cases q with
 |nil=>rw[Lf,Aq,Ku];intro p hp;have h1:=h.get p.1;rw[h.mem hp]at h1;simpa using h1
 |cons x q=>
  rw[List.isEmpty_cons,Bool.not_false,uk];have h1:=h.get x;rw[List.count_cons_self]at h1;cases e:m.find? (λp=>decide (p.1=x))with
  |none=>unfold bx at h1;rw[e]at h1;simp at h1;lia
  |some p=>unfold bx at h1;rw[e]at h1;refine⟨p,List.mem_of_find?_eq_some e,?_⟩;simp at h1;simp;lia
theorem pH.dec{m:List (Tx×Int)}{q:List Tx}(h:pH m q){x:Tx}(hx:x∈q):∃n,bx m x=aa n/\0<n/\pH (dI m x (n-1)) (q.erase x)/\bx (dI m x (n-1)) x=aa (n-1)/\dI (dI m x (n-1)) x (n-1+1)=m:=by
 have h1:=h.get x;have hc:0<q.count x:=List.count_pos_iff.mpr hx;cases e:bx m x with
 |none=>rw[e]at h1;simp at h1;lia
 |some n=>
  rw[e]at h1;simp only[Ew]at h1;refine⟨n,rfl,∅,⟨Ha h.nd,λy=>?_⟩,by rw[AK,if_pos rfl],?_⟩
  ·rw[AK];by_cases c:y=x
   ·subst c;rw[if_pos rfl,List.count_erase_self];simp only[Ew];lia
   ·rw[if_neg c,List.count_erase_of_ne (fY (fY c))];exact h.get y
  ·have ha:(m.any λp=>decide (p.1=x))=ai:=by
    cases z:(m.any λp=>decide (p.1=x))with
    |true=>rfl
    |false=>rw[xK z]at e;cases e
   have hb:((dI m x (n-1)).any λp=>decide (p.1=x))=ai:=by unfold dI;rw[if_pos ha];obtain⟨p,hp,hq⟩:=uk.mp ha;refine uk.mpr ⟨_,dG.mpr ⟨p,hp,rfl⟩,?_⟩;rw[decide_eq_true_eq]at hq;rw[if_pos hq];simpa using hq
   have e1:dI (dI m x (n-1)) x (n-1+1)=(m.map λp=>if p.1=x then(p.1,n-1)else p).map λp=>if p.1=x then(p.1,n-1+1)else p:=by show(if((dI m x (n-1)).any λp=>decide (p.1=x))=ai then _ else _)=_;rw[if_pos hb];unfold dI;rw[if_pos ha]
   rw[e1,fK];have:∀p∈m,((λp:Tx×Int=>if p.1=x then(p.1,n-1+1)else p) ∘ λp:Tx×Int=>if p.1=x then(p.1,n-1)else p) p=p:=by
    intro p hp;simp only[uj];by_cases c:p.1=x
    ·rw[if_pos c,if_pos c];have h2:=h.mem hp;rw[c,e]at h2;cases h2;rw[show p.2-1+1=p.2 by lia]
    ·rw[if_neg c,if_neg c]
   rw[iK this,List.map_id''];intro p;rfl
theorem pH.zero{m:List (Tx×Int)}{q:List Tx}(h:pH m q){x:Tx}(hx:x∉q):(bx m x).getD 0=0:=by rw[h.get,WS hx];rfl
section
variable{a:Ad}
theorem U2(ls:List Tx)(hl:ls.length<=100):∃m,pH m ls/\m.length<=ls.length/\vW a [.val (.tup (ap ls))]=.ok (.own (.dK (dk m))) [.val (.tup (ap ls))]:=by
 obtain⟨Z',e1,m,s2,l,rfl,hm,uC,kL⟩:=zv (i:=2) (db:=(kr 1 (dV 2) (d2 bg (oi 1 (dV 2) (dC (.int 0))) (dC (.int 1)))))
  (I:=λr Z=>∃(m:List (Tx×Int)) (s2:Slot) (l:List Tx),Z=[.val (.tup (ap ls)),.own (.dK (dk m)),s2]/\pH m l/\m.length<=l.length/\∃q,ls=l++q/\r=ap q)
  (by
   rintro x r Z ⟨m,s2,l,rfl,hm,uC,q,hq,hr⟩;cases q with
   |nil=>cases hr
   |cons y q=>
    have gX:x::r=.str y::ap q:=hr;simp only[rY]at gX;obtain⟨rfl,rfl⟩:=gX;have cg:m.length<ce:=by have:=congrArg tX hq;simp at this;unfold ce;lia
    refine⟨[.val (.tup (ap ls)),.own (.dK (dk (dI m y ((bx m y).getD 0+1)))),↥y],?_,dI m y ((bx m y).getD 0+1),_,l++[y],rfl,⟨Ha hm.nd,λz=>?_⟩,?_,q,by rw[hq];simp,rfl⟩
    ·have hv:=uO m y;have hp:=xW m y ((bx m y).getD 0+1);have hd:(dk m).length<ce:=by unfold dk;rw[dw];exact cg
     have hg:((bx m y).map PV.int).getD (.int 0)=.int ((bx m y).getD 0):=by cases bx m y <;> rfl
     generalize dk m=D at hv hp hd;simp![kr,oi,dY,kB,hv,hg,bg,hd,hp]
    ·rw[AK];by_cases c:z=y
     ·subst c;rw[if_pos rfl,List.count_append,List.count_singleton_self];have:=hm.get z;simp only[Ew];lia
     ·rw[if_neg c,List.count_append,hm.get z];have:[y].count z=0:=WS (by simpa using c);rw[this];rfl
    ·have:(dI m y ((bx m y).getD 0+1)).length<=m.length+1:=by
      unfold dI;split <;> simp
     rw[d_,wm];lia)
  (ap ls) [.val (.tup (ap ls)),.own (.dK (dk [])),.none] ⟨[],.none,[],rfl,⟨by simp,λx=>by simp[bx]⟩,by simp,ls,by simp,rfl⟩
 obtain⟨q,hq,xu⟩:=kL;have:q=[]:=by cases q with|nil=>rfl|cons=>cases xu
 subst this;rw[iZ]at hq;subst hq;refine⟨m,hm,uC,?_⟩;have e0:dk []=[]:=rfl;rw[e0]at e1;simp![vW,yat,BK,fg,ff,pU,dN,e1,gv]
theorem R9{t:Tx}{w:Nat}(hw:w<=t.length+1)(h1:1<=w):cq (.str t) (aa ((t.length:Int)-w+1)) ae=aa (.str (t.drop (t.length+1-w))):=by show aa (PV.str (eA t _ ae))=_;rw[show((t.length:Int)-w+1)=((t.length+1-w:Nat):Int) by lia,HP]
def qY(c:Nat):PV:=.str [c]
theorem HQ(w:Nat)(w1:1<=w):∀(r bN:Nat) (t:Tx) (m:List (Tx×Int)) (q:List Tx) (dH:List Tx),r<bN->q.length=r->pH m q->w<=t.length+1->t.length+r<=1000->m.length<=1000->dH.length+(iW w r t q).length<=ce -> pX a bN [↥t,⇑w,.own (.dK (dk m)),.own (.lst (ap dH))]=.ok (.val .non) [↥t,⇑w,.own (.dK (dk m)),.own (.lst (ap (dH++iW w r t q)))]
 |0,0,_,_,_,_,h,_,_,_,_,_,_=>absurd h ∅
 |r+1,0,_,_,_,_,h,_,_,_,_,_,_=>absurd h ∅
 |0,bN+1,t,m,q,dH,_,hq,hm,hw,ht,uC,hs=>by
  have hq0:q=[]:=Lb.mp hq;subst hq0;have ha:=IB m;rw[hm.any]at ha;simp only[Lf,Aq]at ha;have hl:(ap dH).length<ce:=by rw[iV];simp only[iW,wm]at hs;lia
  have e:ap (dH++iW w 0 t [])=ap dH++[.str t]:=by simp[ap,iW]
  rw[e];generalize dk m=D at ha;generalize ap dH=L at hl;simp![pX,yam,vg,dY,ha,hl]
 |r+1,bN+1,t,m,q,dH,hf,hq,hm,hw,ht,uC,hs=>by
  have cQ:q.isEmpty=am:=by cases q with|nil=>cases hq|cons=>rfl
  have ha:=IB m;rw[hm.any,cQ]at ha;simp only[Bool.not_false]at ha;have hcut:=R9 (t:=t) hw w1;have bI:bO [.str t]=aa (.int (t.length:Nat)):=rfl;have qr:eB (.int (t.length:Nat)) (.int w)=aa (.int ((t.length:Int)-w)):=rfl;have qu:bg (.int ((t.length:Int)-w)) (.int 1)=aa (.int ((t.length:Int)-w+1)):=rfl
  let H:=t.drop (t.length+1-w)
  let f:=λc=>if H++[c]∈q then iW w r (t++[c]) (q.erase (H++[c]))else []
  have hE:iW w (r+1) t q=dQ.flatMap f:=rfl;have hH:H.length<=1000:=by simp only[H,ki];lia
  obtain⟨Z',e1,s5,s6,p,rest,hp,hr0,rfl⟩:=zv (i:=5) (db:=(aJ (bv 6 (d2 bg (dV 4) (dV 5)))
 (cN (dB (d2 (eP λi j=>decide (j<i)) (oi 2 (dV 6) (dC (.int 0))) (dC (.int 0)))) (aJ (kr 2 (dV 6) (d2 eB (rm 2 (dV 6)) (dC (.int 1))))
 (aJ (kg (aL (pX a bN) (gV (d2 bg (dV 0) (dV 5)) (gV (dV 1) (gO 2 (gO 3 (Pu.bG)))))))
 (kr 2 (dV 6) (d2 bg (rm 2 (dV 6)) (dC (.int 1)))))) (d4))))
   (I:=λr' Z=>∃(s5 s6:Slot) (p rest:Tx),dQ=p++rest/\r'=rest.map qY/\Z=[↥t,⇑w,.own (.dK (dk m)),.own (.lst (ap (dH++p.flatMap f))),↥H,s5,s6])
   (by
    rintro x r' Z ⟨s5,s6,p,rest,hp,gX,rfl⟩;cases rest with
    |nil=>cases gX
    |cons c rest=>
     have Lu:x::r'=qY c::rest.map qY:=gX;simp only[rY]at Lu;obtain⟨rfl,rfl⟩:=Lu;have qC:bg (.str H) (.str [c])=aa (.str (H++[c])):=nY (by simp[ce];lia);have nK:bg (.str t) (.str [c])=aa (.str (t++[c])):=nY (by simp[ce];lia);have WX:dH.length+(p.flatMap f).length+(f c).length<=ce:=by rw[hE,hp,List.flatMap_append,qp,d_,d_]at hs;lia
     have nJ:ap (dH++(p++[c]).flatMap f)=ap ((dH++p.flatMap f)++f c):=by simp
     by_cases hc:H++[c]∈q
     ·obtain⟨n,g1,g2,g3,g4,g5⟩:=hm.dec hc;have hfc:f c=iW w r (t++[c]) (q.erase (H++[c])):=if_pos hc;have ih:=HQ w w1 r bN (t++[c]) (dI m (H++[c]) (n-1)) (q.erase (H++[c])) (dH++p.flatMap f) ∅ (by rw[Le hc,hq];rfl) g3 (by simp;lia) (by simp;lia)
       (by
        have:(dI m (H++[c]) (n-1)).length=m.length:=by
         have:=congrArg tX (Gp (m:=m) (x:=H++[c]) (n:=n-1));have ha:(m.any λp=>decide (p.1=H++[c]))=ai:=by
          cases z:(m.any λp=>decide (p.1=H++[c]))with
          |true=>rfl
          |false=>rw[xK z]at g1;cases g1
         rw[if_pos ha]at this;simpa using this
        lia)
       (by rw[←hfc,d_];exact WX)
      rw[←hfc]at ih;have su:=uO m (H++[c]);rw[g1]at su;have iA:=xW m (H++[c]) (n-1);have hv2:=uO (dI m (H++[c]) (n-1)) (H++[c]);rw[g4]at hv2;have fR:=xW (dI m (H++[c]) (n-1)) (H++[c]) (n-1+1);rw[g5,show n-1+1=n by lia]at fR;have hd1:(dk m).length<ce:=by unfold dk;rw[dw];unfold ce;lia
      have r9:(dk (dI m (H++[c]) (n-1))).length<ce:=by
       unfold dk;rw[dw];have:(dI m (H++[c]) (n-1)).length<=m.length+1:=by unfold dI;split <;> simp
       unfold ce;lia
      have gt:(0:Int)<n:=g2;refine⟨[↥t,⇑w,.own (.dK (dk m)),.own (.lst (ap (dH++(p++[c]).flatMap f))),↥H,.val (.str [c]),↥(H++[c])],?_,_,_,p++[c],rest,by rw[hp];simp,rfl,rfl⟩;rw[nJ];have s1:eB (.int n) (.int 1)=aa (.int (n-1)):=rfl;have s2:bg (.int (n-1)) (.int 1)=aa (.int n):=by show aa (PV.int (n-1+1))=_;congr 2;lia
      simp only[nE]at su hv2;generalize dk m=D at su iA fR hd1;generalize dk (dI m (H++[c]) (n-1))=D2 at hv2 iA fR ih r9;generalize ap (dH++p.flatMap f)=L at ih;generalize ap ((dH++p.flatMap f)++f c)=L2 at ih;clear_value H f;simp![qY,qC,oi,rm,kr,dY,kB,su,gt,s1,hd1,iA,nK,ih,hv2,s2,r9,fR]
     ·have hfc:f c=[]:=if_neg hc;have hz:=hm.zero hc;have su:=uO m (H++[c]);have hg:((bx m (H++[c])).map PV.int).getD (.int 0)=.int 0:=by
       cases e:bx m (H++[c])with
       |none=>rfl
       |some k=>rw[e]at hz;simp at hz;subst hz;rfl
      refine⟨[↥t,⇑w,.own (.dK (dk m)),.own (.lst (ap (dH++(p++[c]).flatMap f))),↥H,.val (.str [c]),↥(H++[c])],?_,_,_,p++[c],rest,by rw[hp];simp,rfl,rfl⟩;rw[nJ,hfc,iZ];generalize dk m=D at su;generalize ap (dH++p.flatMap f)=L;clear_value H f;simp![qY,qC,oi,dY,kB,su,hg])
   (dQ.map qY) [↥t,⇑w,.own (.dK (dk m)),.own (.lst (ap (dH++([]:Tx).flatMap f))),↥H,.none,.none] ⟨.none,.none,[],dQ,by simp,rfl,rfl⟩
  have kP:rest=[]:=by cases rest with|nil=>rfl|cons=>cases hr0
  subst kP;rw[iZ]at hp;rw[hE];rw[←hp]at e1;simp only[Ld,iZ]at e1;have hits:pU (.str [97,98,99])=aa (dQ.map qY):=rfl;have W4:cq (.str t) (aa ((t.length:Int)-w+1)) ae=aa (.str H):=hcut;generalize dk m=D at ha e1;generalize ap dH=L at e1;generalize ap (dH++dQ.flatMap f)=L2 at e1;clear_value H f;simp![pX,yam,vg,dY,ha,cx,bB,dU,bI,qr,qu,W4,dN,fg,ff,hits,e1]
end
section
variable{a:Ad}
abbrev bS(w:Nat)(ls:List Tx):PV:=.tup [.int w,.tup (ap ls)]
theorem Rb{α:Type}(xs:List α):eA xs ae (aa (-1))=xs.dropLast:=by unfold eA;rw[show HT.sIx xs.length 0 ae=0 from rfl,z7,Nat.sub_zero,List.dropLast_eq_take];congr 1;show(HT.sIx xs.length xs.length (aa (-1)))=_;show(if(-1:Int)<0 then((-1:Int)+(xs.length:Int)).toNat else min (-1:Int).toNat xs.length)=_;rw[if_pos (by decide)];lia
theorem Rt{w:Nat}{ls:List Tx}(g:Good dQ w ls)(w1:1<=w)(w4:w<=4):(kW w ls).length<=531441:=by rw[Jb w1 g.some λx hx=>⟨g.len x hx,g.abc x hx⟩];refine dj (EC _ _) ?_;rw[Dc];exact dj (Nat.pow_le_pow_right (by decide) (show w-1+ls.length<=12 by have:=g.few;lia)) (by decide)
theorem Mo(V:PV)(ls:List Tx)(w:Nat)(s2 s3:Slot):lV [] eQ (cx cq (dV 0) dU (bB (d1 jd (dC (.int 1))))) (ap ls) [] [.val V,⇑w,s2,s3]=.ok (ap (ls.map r8)) [.val V,⇑w,s2,s3]:=by
 have hc:=nR (XM:=[]) (dt:=eQ) (de:=(cx cq (dV 0) dU (bB (d1 jd (dC (.int 1)))))) (Z:=[.val V,⇑w,s2,s3]) (λ_=>ai) (λx=>match x with|.str z=>.str z.dropLast|_=>.non) (ap ls)
  (by
   intro x hx;obtain⟨z,_,rfl⟩:=dG.mp hx;refine⟨by simp![fG,fE,bQ,eQ],λ_=>?_⟩;have hs:cq (.str z) ae (aa (-1))=aa (.str z.dropLast):=by show aa (PV.str (eA z ae (aa (-1))))=_;rw[Rb]
   have hn:jd (.int 1)=aa (.int (-1)):=rfl;simp![fG,fE,bQ,cx,dU,bB,hn,hs]) []
 rw[hc,i5,qo.mpr (by simp)];unfold ap;rw[fK,fK];rfl
theorem Vw{w:Nat}{ls:List Tx}(g:Good dQ w ls)(w1:1<=w)(w4:w<=4)(hs:ls.Pairwise (λa b=>ft a b=ai)):zg a [.val (bS w ls)]=.ok (.own (.lst (ap (kW w ls)))) [.val (bS w ls)]:=by
 have hck:=Uf (a:=a) (g.vw w1 w4 hs);have i0:bq (bS w ls) (.int 0)=aa (.int w):=rfl;have i1:bq (bS w ls) (.int 1)=aa (.tup (ap ls)):=rfl;obtain⟨m,hm,hml0,hcm⟩:=U2 (a:=a) ls (by have:=g.few;lia);have uC:m.length<=1000:=by have:=g.few;lia
 let hd:=bp (cS (ls.map r8))
 have ux:∀h∈hd,h.length=w-1:=λh hh=>by have hm:=(sW _ _).mp ((j2 _).mem_iff.mp hh);obtain⟨y,hy,rfl⟩:=dG.mp hm;rw[Er,g.len y hy]
 let f:=λh=>iW w ls.length h ls
 have hT:kW w ls=hd.flatMap f:=rfl;have hTl:=Rt g w1 w4;obtain⟨Z',e1,s3,p,rest,hp,hr0,rfl⟩:=zv (i:=3) (db:=(kg (uI (pX a 12) (sZ (dV 3) (sZ (dV 1) (gN (n5 (aL (vW a) (gV (d2 bq (dV 0) (dC (.int 1))) (Pu.bG)))) (gO 2 (Pu.bG))))))))
  (I:=λr Z=>∃(s3:Slot) (p rest:List Tx),hd=p++rest/\r=ap rest/\Z=[.val (bS w ls),⇑w,.own (.lst (ap (p.flatMap f))),s3])
  (by
   rintro x r Z ⟨s3,p,rest,hp,hr,rfl⟩;cases rest with
   |nil=>cases hr
   |cons h rest=>
    have gX:x::r=.str h::ap rest:=hr;simp only[rY]at gX;obtain⟨rfl,rfl⟩:=gX;have hh:h.length=w-1:=ux h (by rw[hp];simp);have ha:=HQ (a:=a) w w1 ls.length 12 h m ls (p.flatMap f) (by have:=g.few;lia) rfl hm ∅ (by have:=g.few;lia) uC (by rw[hT,hp,List.flatMap_append,qp,d_,d_]at hTl;show(p.flatMap f).length+(f h).length<=ce;unfold ce;lia);refine⟨[.val (bS w ls),⇑w,.own (.lst (ap ((p++[h]).flatMap f))),↥h],?_,_,p++[h],rest,by rw[hp];simp,rfl,rfl⟩;have e2:(p++[h]).flatMap f=p.flatMap f++iW w ls.length h ls:=by simp[f]
    rw[e2];generalize ap (p.flatMap f)=L at ha;generalize ap (p.flatMap f++iW w ls.length h ls)=L2 at ha;generalize dk m=D at ha hcm;simp only[bS]at i1 ⊢;generalize ap ls=T at hcm i1;clear_value f hd;simp![uI,sZ,gN,Hf,i1,hcm,ha])
  (ap hd) [.val (bS w ls),⇑w,.own (.lst (ap (([]:List Tx).flatMap f))),.none] ⟨.none,[],hd,by simp,rfl,rfl⟩
 have kP:rest=[]:=by cases rest with|nil=>rfl|cons=>cases hr0
 subst kP;rw[iZ]at hp;rw[←hp,←hT]at e1;simp only[Ld]at e1;have hco:=Mo (bS w ls) ls w (.own (.lst [])) .none;have o8:vQ [.lst (ap (ls.map r8))]=aa (.lst (ap hd)):=by show(g_ (ap _)).bind _=_;have h2:=g.few;rw[sJ,gW,if_pos (t8 (IH _) (by rw[dw];lia))]
 have e0:ap ([]:List Tx)=[]:=rfl;rw[e0]at e1;generalize ap (kW w ls)=L at e1;generalize ap hd=D at e1 o8;generalize ap (ls.map r8)=D0 at hco o8;simp only[bS]at hck i0 i1 hco e1 ⊢;generalize hTT:ap ls=T at hck i0 i1 hco e1;clear_value f hd;simp![zg,yaV,hck,i0,i1,dN,fg,ff,pU,fh,hco,o8,e1,gv]
theorem M8{w:Nat}{ls:List Tx}(g:Good dQ w ls)(w1:1<=w)(w4:w<=4)(hs:ls.Pairwise (λa b=>ft a b=ai)):pG a [.val (bS w ls)]=.ok (⇑((kW w ls).length:Nat)) [.val (bS w ls)]:=by
 have ht:=Vw (a:=a) g w1 w4 hs;have hl:bO [.lst (ap (kW w ls))]=aa (.int ((kW w ls).length:Nat)):=by simp[bO,iV]
 generalize ap (kW w ls)=L at ht hl;simp![pG,yaA,ht,hl]
end
end Sh
namespace Mx
open L2 Pu
def bC(z:Tx)(i:Nat):Nat:=z.getD (i % z.length) 0
def ro(z:Tx)(w i:Nat):Tx:=(bF w).map λk=>bC z (i+k)
def cw(z:Tx)(w:Nat):List Tx:=(bF z.length).map (ro z w)
def iS(z:Tx)(w:Nat):Tx:=((bK w z).flatten).take (z.length+w-1)
theorem yn{z:Tx}{i:Nat}(h:i<z.length):z[i]?=aa (bC z i):=by unfold bC;rw[qj h];simp[z5,h]
theorem FL(z:Tx)(i:Nat):bC z (z.length+i)=bC z i:=by unfold bC;rw[Nat.add_mod_left]
theorem JQ(z:Tx):∀(w i:Nat),i<w*z.length->(bK w z).flatten[i]?=aa (bC z i)
 |0,i,h=>∅
 |w+1,i,h=>by
  rw[ml,qb];by_cases c:i<z.length
  ·rw[fJ c,yn c]
  ·rw[jO ∅,JQ z w (i-z.length) (by rw[Nat.succ_mul]at h;lia)];congr 1;have:=FL z (i-z.length);rw[show z.length+(i-z.length)=i by lia]at this;exact this.symm
theorem HD(z:Tx)(w:Nat):(bK w z).flatten.length=w*z.length:=by simp
theorem yO{z:Tx}{w:Nat}(hn:1<=z.length)(hw:1<=w):(iS z w).length=z.length+w-1:=by
 unfold iS;rw[jN,HD];obtain⟨n,wR⟩:∃n,z.length=n+1:=⟨z.length-1,∅⟩
 obtain⟨v,rfl⟩:∃v,w=v+1:=⟨w-1,∅⟩
 rw[wR,Nat.add_mul,Nat.mul_add];have:=nB (v*n);lia
theorem rg{z:Tx}{w:Nat}(hn:1<=z.length)(hw:1<=w){i:Nat}(h:i<z.length+w-1):(iS z w)[i]?=aa (bC z i):=by have hl:=yO hn hw;unfold iS at hl ⊢;rw[jN,HD]at hl;rw[zR h,JQ z w i ∅]
theorem FQ{z:Tx}{w:Nat}(hn:1<=z.length)(hw:1<=w):aQ (iS z w) w=cw z w:=by
 rw[oh _ _ hw,yO hn hw,show z.length+w-1+1-w=z.length by lia];refine iK λi hi=>?_;have hi:i<z.length:=by simpa using hi
 refine lv λk=>?_;unfold ro;by_cases hk:k<w
 ·rw[zR hk,kJ,rg hn hw ∅,jP,D6 hk];rfl
 ·rw[jQ (by rw[jN];lia),jQ (by simp;lia)]
theorem M_{z:Tx}{w:Nat}(hn:1<=z.length)(hw:1<=w):(iS z w).take z.length=z:=by
 refine lv λk=>?_;by_cases hk:k<z.length
 ·rw[zR hk,rg hn hw ∅,yn hk]
 ·rw[jQ (by rw[jN];lia),jQ ∅]
def gS(i:Nat)(z:Tx):Tx:=z.drop i++z.take i
theorem nQ{i:Nat}{z:Tx}(h:i<=z.length):(gS i z).length=z.length:=by unfold gS;rw[d_,ki,jN];lia
theorem uP{z:Tx}{i:Nat}(h:i<=z.length)(hn:1<=z.length)(j:Nat):bC (gS i z) j=bC z (i+j):=by
 unfold bC;rw[nQ h];have hj:j % z.length<z.length:=rT _ ∅;rw[uh i j];generalize j % z.length=m at hj;by_cases hi:i=z.length
 ·subst hi;unfold gS;rw[KS,i5,Aj,Nat.mod_self,mq,qj hj]
 ·rw[qj (show i<z.length by lia)];unfold gS;rw[Ai,Ai];congr 1;by_cases c:i+m<z.length
  ·rw[qj c,fJ (by rw[ki];lia),kJ]
  ·have e:(i+m) % z.length=i+m-z.length:=by
    rw[Nat.mod_eq_sub_mod ∅,qj ∅]
   rw[e,jO (by rw[ki];lia),ki,zR ∅];congr 1;lia
theorem NO{x y:Tx}(h:x.length=y.length)(hn:1<=x.length)(ha:∀k,k<x.length->bC x k=bC y k):x=y:=by
 refine lv λk=>?_;by_cases hk:k<x.length
 ·rw[yn hk,yn ∅,ha k hk]
 ·rw[jQ ∅,jQ ∅]
theorem Mt{z:Tx}{i j:Nat}(hn:1<=z.length)(hi:i<z.length)(hj:j<z.length):gS j (gS i z)=gS ((i+j) % z.length) z:=by
 have hm:(i+j) % z.length<z.length:=rT _ ∅;have h1:(gS i z).length=z.length:=nQ ∅;refine NO ?_ ?_ λk hk=>?_
 ·rw[nQ ∅,h1,nQ ∅]
 ·rw[nQ ∅,h1];exact hn
 ·rw[uP ∅ ∅,uP ∅ hn,uP ∅ hn];unfold bC;congr 1;rw[←wy,uh ((i+j) % z.length) k,Nat.mod_mod,←uh]
theorem LU(z:Tx):gS 0 z=z:=by simp[gS]
theorem GD{f:Nat->Tx}{n:Nat}(hf:∀i,f (i+n)=f i):∀i,((bF n).map λj=>f (i+j)).Perm ((bF n).map f)
 |0=>by simp
 |i+1=>by
  refine List.Perm.trans ?_ (GD hf i);cases n with
  |zero=>simp
  |succ m=>
   have eL:(bF (m+1)).map (λj=>f (i+1+j))=(bF m).map (λj=>f (i+(j+1)))++[f (i+0)]:=by
    rw[t9,qg];congr 1
    ·refine iK λj _=>?_;congr 1;lia
    ·rw[eZ,wn];congr 1;show f (i+1+m)=f i;rw[←hf i];congr 1;lia
   have eR:(bF (m+1)).map (λj=>f (i+j))=f (i+0)::(bF m).map (λj=>f (i+(j+1))):=by rw[rR,eZ,fK];rfl
   rw[eL,eR];exact List.perm_append_singleton _ _
theorem Vl(z:Tx)(w i:Nat):ro z w (i+z.length)=ro z w i:=by unfold ro;refine iK λk _=>?_;rw[show i+z.length+k=z.length+(i+k) by lia,FL]
theorem WJ{z:Tx}{w i:Nat}(hi:i<z.length):(cw (gS i z) w).Perm (cw z w):=by
 have e:cw (gS i z) w=(bF z.length).map λj=>ro z w (i+j):=by unfold cw;rw[nQ ∅];refine iK λj _=>?_;unfold ro;refine iK λk _=>?_;rw[uP ∅ ∅,wy]
 rw[e];exact GD (λj=>Vl z w j) i
theorem LR{z:Tx}{w:Nat}{c:Nat}(h:c∈iS z w):c∈z:=by have:=oV h;rw[List.mem_flatten]at this;obtain⟨l,hl,hc⟩:=this;rw[List.mem_replicate]at hl;rw[hl.2]at hc;exact hc
theorem MG{z:Tx}{i c:Nat}(h:c∈gS i z):c∈z:=(gy.mp h).elim rZ oV
theorem len_sub{l m:List Tx}(nd:l.Nodup)(h:∀x∈l,x∈m):l.length<=m.length:=by
 induction l generalizing m with
 |nil=>simp
 |cons x l ih=>rw[kh]at nd;have hx:x∈m:=h x (by simp);have:=ih (m:=m.erase x) nd.2 λy hy=>(List.mem_erase_of_ne (λz=>nd.1 (by rw[←z];exact hy))).mpr (h y (by simp[hy]));rw[Le hx]at this;have h0:0<m.length:=List.length_pos_of_mem hx;rw[fi];lia
end Mx
namespace Sh
open L2 Pu Mx
section
variable{a:Ad}
theorem AE{z:Tx}(h1:1<=z.length)(h2:z.length<=12)(hc:∀c∈z,c∈dQ):pV a [↥z]=.ok (.val .non) [↥z]:=by
 have k1:dZ [.str z,.raw (.ty "str")]=aa (.bl ai):=jg rfl yD;have hh:=BU (a:=a) z dQ;have km:z.all dQ.contains=ai:=by rw[t_];intro c h;simpa using hc c h
 rw[km]at hh;simp only[dQ]at hh;have hl:bO [.str z]=aa (.int (z.length:Nat)):=rfl;have c1:(1:Int)<=(z.length:Nat):=∅
 have c2:((z.length:Nat):Int)<=12:=∅
 have ht:ke a [↥z,⇑12]=.ok (.val (.bl ai)) [↥z,⇑12]:=by simp![ke,yaB,k1,hl,c1,c2,hh]
 simp![pV,yaq,ht]
theorem JC{w:Nat}(w1:1<=w)(w4:w<=4):pT a [⇑w]=.ok (.val .non) [⇑w]:=by have h:=ye (a:=a) w;rw[decide_eq_true (show 1<=(w:Int)/\(w:Int)<=4 by lia)]at h;simp![pT,yas,h]
def eF(t:Tx)(v:Nat):List Tx:=(bF (t.length+1-v)).map λi=>(t.drop i).take v
theorem tw(t:Tx)(v:Nat):(eF t v).length=t.length+1-v:=by simp[eF]
theorem FF{t:Tx}{w:Nat}(hw:w<=t.length+1)(ht:t.length<=60):oq a [↥t,⇑w]=.ok (.own (.lst (ap (eF t w)))) [↥t,⇑w]:=by
 have hl:bO [.str t]=aa (.int (t.length:Nat)):=rfl;have hs:eB (.int (t.length:Nat)) (.int w)=aa (.int ((t.length:Int)-w)):=rfl;have ha:bg (.int ((t.length:Int)-w)) (.int 1)=aa (.int ((t.length+1-w:Nat):Int)):=by show aa (PV.int ((t.length:Int)-w+1))=_;congr 2;lia
 have hr:jF [.int ((t.length+1-w:Nat):Int)]=aa (gb 0 (t.length+1-w)):=y8 ∅;have hc:=nR (XM:=[0,1]) (dt:=eQ) (de:=(cx cq (dV 1) (bB (dV 0)) (bB (d2 bg (dV 0) (dV 2))))) (Z:=[↥t,⇑w]) (λ_=>ai) (λx=>match x with|.int i=>.str (eA t (aa i) (aa (i+w)))|_=>.non) (gb 0 (t.length+1-w))
  (by intro x hx;obtain⟨i,_,rfl⟩:=dG.mp hx;refine⟨by simp![fG,fE,bQ,eQ],λ_=>?_⟩;simp![fG,fE,bQ,bg,cx,bB,cq]) []
 have he:((gb 0 (t.length+1-w)).filter (λ_=>ai)).map (λx=>match x with|.int i=>PV.str (eA t (aa i) (aa (i+w)))|_=>.non)=ap (eF t w):=by
  rw[qo.mpr (by simp)];unfold gb ap eF;rw[fK,fK];refine iK λi hi=>?_;have hi:i<t.length+1-w:=by simpa using hi
  simp only[uj,Int.zero_add];rw[QB ∅]
 rw[i5,he]at hc;generalize ap (eF t w)=T at hc;generalize gb 0 (t.length+1-w)=RR at hr hc;generalize ((t.length+1-w:Nat):Int)=n at ha hr;simp![oq,yaQ,lD,fh,hl,hs,ha,hr,hc]
theorem yc{t:Tx}{w:Nat}(w1:1<=w):eF t w=aQ t w:=(oh t w w1).symm
theorem Hm{t:Tx}{w:Nat}(w1:1<=w)(hw:w<=t.length+1)(ht:t.length<=60):oq a [↥t,⇑w]=.ok (.own (.lst (ap (aQ t w)))) [↥t,⇑w]:=by rw[←yc w1];exact FF hw ht
theorem Uz{w:Nat}{ls:List Tx}(h1:1<=ls.length)(h9:ls.length<=9):rF a [⇑w,.val (.lst (ap ls))]=.ok (.val (bS w (bp ls))) [⇑w,.val (.lst (ap ls))]:=by
 have hl:bO [.lst (ap ls)]=aa (.int (ls.length:Nat)):=by simp[bO,iV]
 have c1:(1:Int)<=(ls.length:Nat):=∅
 have c2:((ls.length:Nat):Int)<=9:=∅
 have i8:q_ [.lst (ap ls)]=aa (.lst (ap (bp ls))):=Qd ∅;simp only[bS];generalize ap (bp ls)=T at i8;generalize ap ls=B at hl i8;simp![rF,yaZ,hl,c1,c2,i8,yF]
structure Tv(t:Tx)(w:Nat):Prop where
 w1:1<=w
 w4:w<=4
 h1:w<=t.length
 h9:t.length+1<=w+9
 abc:∀c∈t,c∈dQ
theorem Tv.good{t:Tx}{w:Nat}(h:Tv t w):Good dQ w (aQ t w):=by have hm:=Uq (m:=8) h.w1 h.h1 (by have:=h.h9;lia);exact⟨λx hx=>(Fa x hx).1,λx hx c hc=>h.abc c ((Fa x hx).2 c hc),hm.1,hm.2⟩
theorem mJ{t:Tx}{w:Nat}(h:Tv t w):dD a [↥t,⇑w]=.ok (.val (bS w (bp (aQ t w)))) [↥t,⇑w]:=by have b1:=h.w1;have b2:=h.w4;have b3:=h.h1;have b4:=h.h9;have e1:=AE (a:=a) (z:=t) ∅ ∅ h.abc;have e2:=JC (a:=a) h.w1 h.w4;have e4:=Hm (a:=a) (t:=t) h.w1 ∅ ∅;have e5:=Uz (a:=a) (w:=w) (ls:=aQ t w) h.good.some h.good.few;generalize bS w (bp (aQ t w))=V at e5;generalize ap (aQ t w)=C at e4 e5;simp![dD,yaU,e1,e2,e4,e5]
theorem Ou{z:Tx}{w:Nat}(w1:1<=w)(w4:w<=4)(hz:z.length<=60):sI a [↥z,⇑w]=.ok (↥(iS z w)) [↥z,⇑w]:=by
 have hm:h_ (.str z) (.int w)=aa (.str (bK w z).flatten):=by show(if 0<=(w:Int)/\(w:Int)<=100/\z.length<=100 then aa (PV.str (bK (w:Int).toNat z).flatten)else ae)=_;rw[if_pos ⟨∅,∅,∅⟩];rfl
 have hl:bO [.str z]=aa (.int (z.length:Nat)):=rfl;have ha:bg (.int (z.length:Nat)) (.int w)=aa (.int ((z.length:Int)+w)):=rfl;have hs:eB (.int ((z.length:Int)+w)) (.int 1)=aa (.int ((z.length+w-1:Nat):Int)):=by show aa (PV.int ((z.length:Int)+w-1))=_;congr 2;lia
 have hc:cq (.str (bK w z).flatten) ae (aa ((z.length+w-1:Nat):Int))=aa (.str (iS z w)):=by show aa (PV.str (eA _ ae (aa _)))=_;rw[GX];rfl
 generalize ((z.length+w-1:Nat):Int)=n at hs hc;generalize (bK w z).flatten=F at hm hc;simp![sI,yaX,cx,dU,bB,hm,hl,ha,hs,hc]
theorem vI{i:Nat}{db:aj->R aO}{Y:Type}(env:List Tx->Y->aj)(f:Nat->List Tx)(B:Nat):∀(xs:List Nat) (aK:List Tx) (s:Y),(aK++xs.flatMap f).length<=B->(∀x∈xs,∀aK s,(aK++f x).length<=B->∃s',db ((env aK s).set i (⇑x))=.ok .next (env (aK++f x) s')) -> ∃s',gx i db (xs.map λx=>.int (x:Nat)) (env aK s)=.ok .next (env (aK++xs.flatMap f) s')
 |[],aK,s,_,_=>⟨s,by simp[gx]⟩
 |x::xs,aK,s,hB,step=>by rw[qp]at hB ⊢;obtain⟨s1,e1⟩:=step x (by simp) aK s (by simp at hB ⊢;lia);obtain⟨s2,e2⟩:=vI env f B xs (aK++f x) s1 (by rw[kI];exact hB) λy hy=>step y (by simp[hy]);refine⟨s2,?_⟩;rw[eZ,gx,e1];simp only;rw[e2,kI]
def eu(lo hi:Nat):List Nat:=EK lo (hi-lo)
theorem TY{lo hi x:Nat}:x∈eu lo hi↔lo<=x/\x<hi:=by unfold eu;rw[List.mem_range'_1];lia
theorem JL(lo n:Nat):gb (lo:Nat) n=(EK lo n).map λx=>PV.int (x:Nat):=by unfold gb;rw[List.range'_eq_map_range,fK];refine iK λx _=>?_;simp
theorem zy{lo hi:Nat}(h1:lo<=1000)(h2:hi<=1000):lR [.int lo,.int hi]=aa ((eu lo hi).map λx=>.int (x:Nat)):=by show(if _ then _ else _)=_;rw[if_pos ⟨∅,∅,∅,∅⟩];congr 1;rw[show(((hi:Nat):Int)-((lo:Nat):Int)).toNat=hi-lo by lia];exact JL lo (hi-lo)
theorem RT{n:Nat}(h:n<=1000):jF [.int n]=aa ((eu 0 n).map λx=>.int (x:Nat)):=by rw[y8 ∅];congr 1;exact JL 0 n
def part(t:Tx)(i j:Nat):Tx:=(t.drop i).take (j-i)
theorem QZ(t:Tx)(i j:Nat):eA t (aa (i:Nat)) (aa (j:Nat))=part t i j:=by
 unfold eA part;rw[HT.sIx_nat,HT.sIx_nat];by_cases h:i<=t.length
 ·rw[Au h];by_cases h2:j<=t.length
  ·rw[Au h2]
  ·rw[Lg ∅,mn (by simp),mn (by simp;lia)]
 ·rw[show min i t.length=t.length by lia,EJ (bn _),EJ (show t.length<=i by lia)];simp
theorem BA(t:Tx)(i j:Nat):cq (.str t) (aa (i:Nat)) (aa (j:Nat))=aa (.str (part t i j)):=by show aa (PV.str (eA t (aa (i:Nat)) (aa (j:Nat))))=_;rw[QZ]
theorem Ch(t:Tx)(j:Nat):cq (.str t) ae (aa (j:Nat))=aa (.str (t.take j)):=by show aa (PV.str (eA t ae (aa (j:Nat))))=_;rw[GX]
theorem E6(t:Tx)(i:Nat):cq (.str t) (aa (i:Nat)) ae=aa (.str (t.drop i)):=by show aa (PV.str (eA t (aa (i:Nat)) ae))=_;rw[HP]
def bC(row:List Tx)(i:Nat):Tx:=row.getD i []
theorem uE{row:List Tx}{i:Nat}(h:i<row.length):bq (.lst (ap row)) (.int i)=aa (.str (bC row i)):=by show fF (ap row) ((i:Nat):Int)=_;unfold fF;rw[Vp ∅ (by rw[iV];lia)];simp[ap,bC,h]
def gw(t:Tx)(s e g l:Nat):Tx:=t.take s++part t g l++part t e g++part t s e++t.drop l
theorem A4(t:Tx)(i j:Nat):(part t i j).length<=t.length:=by unfold part;simp;lia
def og(t:Tx)(row:List Tx)(s g e:Nat):List Tx:=(eu (g+1) row.length).flatMap λl=>if bC row e=bC row l then [gw t s e g l] else []
def lQ(t:Tx)(row:List Tx)(s g:Nat):List Tx:=(eu (s+1) (g+1)).flatMap λe=>og t row s g e
def zJ:aj->R aO:=cN (dB (d2 (eqT am) (d2 bq (dV 1) (dV 5)) (d2 bq (dV 1) (dV 6)))) (kZ 4 (d2 bg (d2 bg (d2 bg (d2 bg (cx cq (dV 0) (dU) (bB (dV 2))) (cx cq (dV 0) (bB (dV 3)) (bB (dV 6)))) (cx cq (dV 0) (bB (dV 5)) (bB (dV 3)))) (cx cq (dV 0) (bB (dV 2)) (bB (dV 5)))) (cx cq (dV 0) (bB (dV 6)) (dU)))) (d4)
def J8:aj->R (List PV):=dL lR (aw (d2 bg (dV 3) (dC (.int 1))) (aw (dL bO (aw (dV 1) (aH))) (aH)))
def GU:aj->R aO:=fg 6 J8 zJ
def Fk:aj->R (List PV):=dL lR (aw (d2 bg (dV 2) (dC (.int 1))) (aw (d2 bg (dV 3) (dC (.int 1))) (aH)))
theorem U8:yax a=aJ (eI 4 (dL bV (aH))) (aJ (λZ=>dN (fg 5 Fk GU Z)) (gv 4)):=rfl
theorem Ss(t:Tx)(row:List Tx)(s g e:Nat)(ht:t.length<=20)(hr:row.length<=20)(he:e<row.length)(aK:List Tx)(s6:Slot)(hB:(aK++og t row s g e).length<=100000):∃sv, gx 6 zJ ((eu (g+1) row.length).map λx=>.int (x:Nat)) [↥t,.val (.lst (ap row)),⇑s,⇑g,.own (.lst (ap aK)),⇑e,s6]=.ok .next [↥t,.val (.lst (ap row)),⇑s,⇑g,.own (.lst (ap (aK++og t row s g e))),⇑e,sv]:=by
 refine vI (i:=6) (Y:=Slot) (λaK s6=>[↥t,.val (.lst (ap row)),⇑s,⇑g,.own (.lst (ap aK)),⇑e,s6]) (λl=>if bC row e=bC row l then [gw t s e g l] else []) 100000 _ aK s6 hB ?_;intro l hl aK s6 hB;obtain⟨l1,l2⟩:=TY.mp hl;refine⟨⇑l,?_⟩;have i1:=uE he;have i2:=uE l2;have he:=vb am (bC row e) (bC row l);simp only[oU]at he;by_cases q:bC row e=bC row l
 ·rw[decide_eq_true q]at he;rw[if_pos q]at hB ⊢;have c1:=Ch t s;have c2:=BA t g l;have c3:=BA t e g;have c4:=BA t s e;have c5:=E6 t l;have p1:=A4 t g l;have p2:=A4 t e g;have p3:=A4 t s e;have a1:bg (.str (t.take s)) (.str (part t g l))=aa (.str (t.take s++part t g l)):=nY (by unfold ce;simp;lia);have a2:bg (.str (t.take s++part t g l)) (.str (part t e g))=aa (.str (t.take s++part t g l++part t e g)):=nY (by unfold ce;simp;lia);have a3:bg (.str (t.take s++part t g l++part t e g)) (.str (part t s e))=aa (.str (t.take s++part t g l++part t e g++part t s e)):=nY (by unfold ce;simp;lia);have a4:bg (.str (t.take s++part t g l++part t e g++part t s e)) (.str (t.drop l))=aa (.str (gw t s e g l)):=nY (by unfold ce;simp;lia);have bI:(ap aK).length<ce:=by rw[iV];simp at hB;unfold ce;lia
  rw[show ap (aK++[gw t s e g l])=ap aK++[.str (gw t s e g l)] by simp[ap]];generalize gw t s e g l=X at a4;generalize t.take s++part t g l++part t e g++part t s e=A3 at a3 a4;generalize t.take s++part t g l++part t e g=A2 at a2 a3;generalize t.take s++part t g l=A1 at a1 a2;generalize t.take s=T0 at c1 a1;generalize t.drop l=T5 at c5 a4;generalize part t g l=T2 at c2 a1;generalize part t e g=T3 at c3 a2;generalize part t s e=T4 at c4 a3;generalize bC row e=R1 at i1 he;generalize bC row l=R2 at i2 he;generalize ap aK=AC at bI;generalize ap row=RW at i1 i2;generalize ((s:Nat):Int)=si at c1 c4;generalize ((g:Nat):Int)=gi at c2 c3;generalize ((e:Nat):Int)=ei at c3 c4 i1;generalize ((l:Nat):Int)=li at c2 c5 i2;simp![zJ,i1,i2,he,cx,bB,dU,c1,c2,c3,c4,c5,a1,a2,a3,a4,bI]
 ·rw[decide_eq_false q]at he;rw[if_neg q,iZ];generalize bC row e=R1 at i1 he;generalize bC row l=R2 at i2 he;generalize ap aK=AC;generalize ap row=RW at i1 i2;generalize ((s:Nat):Int)=si;generalize ((g:Nat):Int)=gi;generalize ((e:Nat):Int)=ei at i1;generalize ((l:Nat):Int)=li at i2;simp![zJ,i1,i2,he]
theorem RA{d:aj->R aO}{v0 v1 v2 v3:PV}{sl e4 e5 e6:Slot}(h:d [.val v0,.val v1,.val v2,.val v3,.none,.none,.none]=.ok (.ret sl) [.val v0,.val v1,.val v2,.val v3,e4,e5,e6]):br 4 [] (bu 3 d) [.val v0,.val v1,.val v2,.val v3]=.ok sl [.val v0,.val v1,.val v2,.val v3]:=by simp[br,eY,bu,bK,h,back,aV,R.bind]
theorem zz{i:Nat}{Z:aj}(h:i<Z.length):eI i (dL bV aH) Z=.ok .next (Z.set i (.own (.lst []))):=by simp[eI,dL,aH,bV,R.bind,aV,h]
theorem sR{i:Nat}{Z:aj}{po:PO}(h:Z[i]?=aa (.own po)):gv i Z=.ok (.ret (.own po)) (Z.set i .none):=by unfold gv;rw[h]
theorem yP{i:Nat}{di:aj->R (List PV)}{db:aj->R aO}{Z dM Z2:aj}{xs:List PV}(h:di Z=.ok xs dM)(h2:gx i db xs dM=.ok .next Z2):fg i di db Z=.ok .next Z2:=by unfold fg;rw[h];exact h2
theorem VQ{i:Nat}{di:aj->R (List PV)}{db:aj->R aO}{Z dM Z2:aj}{xs:List PV}(h:di Z=.ok xs dM)(h2:gx i db xs dM=.ok .next Z2):(λZ=>dN (fg i di db Z)) Z=.ok .next Z2:=by show dN _=_;rw[yP h h2];rfl
theorem Bc{i:Nat}{di:aj->R (List PV)}{db d2:aj->R aO}{Z dM Z2:aj}{xs:List PV}(h:di Z=.ok xs dM)(h2:gx i db xs dM=.ok .next Z2):aJ (λZ=>dN (fg i di db Z)) d2 Z=d2 Z2 :=cK (d1:=λZ=>dN (fg i di db Z)) (VQ h h2)
theorem VU(t:Tx)(row:List Tx)(s g:Nat)(ht:t.length<=20)(hr:row.length<=20)(hg:g<row.length)(hsg:s<=g)(hB:(lQ t row s g).length<=100000):vG a [↥t,.val (.lst (ap row)),⇑s,⇑g]=.ok (.own (.lst (ap (lQ t row s g)))) [↥t,.val (.lst (ap row)),⇑s,⇑g]:=by
 have r1:=zy (lo:=s+1) (hi:=g+1) ∅ ∅;have r2:=zy (lo:=g+1) (hi:=row.length) ∅ ∅;have as:bg (.int s) (.int 1)=aa (.int ((s+1:Nat):Int)):=by show aa (PV.int _)=_;congr 2
 have ag:bg (.int g) (.int 1)=aa (.int ((g+1:Nat):Int)):=by show aa (PV.int _)=_;congr 2
 have hl:bO [.lst (ap row)]=aa (.int (row.length:Nat)):=by show aa (PV.int _)=_;rw[iV]
 obtain⟨⟨s5,s6⟩,e1⟩:=vI (i:=5) (db:=GU) (Y:=Slot×Slot)
  (λaK p=>[↥t,.val (.lst (ap row)),⇑s,⇑g,.own (.lst (ap aK)),p.1,p.2]) (λe=>og t row s g e) 100000 (eu (s+1) (g+1)) [] (.none,.none) (by rw[i5];exact hB)
  (by
   intro e he aK p hB;obtain⟨e1,e2⟩:=TY.mp he;obtain⟨sv,h⟩:=Ss t row s g e ht hr ∅ aK p.2 hB;refine⟨(⇑e,sv),?_⟩;have hd:J8 [↥t,.val (.lst (ap row)),⇑s,⇑g,.own (.lst (ap aK)),⇑e,p.2] =
     .ok ((eu (g+1) row.length).map λx=>PV.int (x:Nat)) [↥t,.val (.lst (ap row)),⇑s,⇑g,.own (.lst (ap aK)),⇑e,p.2] :=
    gR (dJ (dW (x:=.int g) rfl (eG _ _) ag) (dJ (gR (dJ (x:=.lst (ap row)) rfl gJ) hl) gJ)) r2
   exact yP hd h)
 have ko:=e1;dsimp only at ko;rw[i5,show ap ([]:List Tx)=[] from rfl,show(eu (s+1) (g+1)).flatMap (λe=>og t row s g e)=lQ t row s g from rfl]at ko;clear e1;have hd:Fk [↥t,.val (.lst (ap row)),⇑s,⇑g,.own (.lst []),.none,.none] =
   .ok ((eu (s+1) (g+1)).map λx=>PV.int (x:Nat)) [↥t,.val (.lst (ap row)),⇑s,⇑g,.own (.lst []),.none,.none] :=
  gR (dJ (dW (x:=.int s) rfl (eG _ _) as) (dJ (dW (x:=.int g) rfl (eG _ _) ag) gJ)) r1
 clear r1 r2 as ag hl hB;have hb:yax a [↥t,.val (.lst (ap row)),⇑s,⇑g,.none,.none,.none]=.ok (.ret (.own (.lst (ap (lQ t row s g))))) [↥t,.val (.lst (ap row)),⇑s,⇑g,.none,s5,s6]:=by rw[U8];have h1:=zz (i:=4) (Z:=[↥t,.val (.lst (ap row)),⇑s,⇑g,.none,.none,.none]) (by simp);refine(cK h1).trans ?_;refine(Bc hd ko).trans ?_;exact sR rfl
 exact RA hb
end
section
variable{a:Ad}
theorem Dr(n:Nat):bg (.int n) (.int 1)=aa (.int ((n+1:Nat):Int)):=by show aa (PV.int _)=_;congr 2
theorem Fl(row:List Tx):bO [.lst (ap row)]=aa (.int (row.length:Nat)):=by show aa (PV.int _)=_;rw[iV]
theorem yR{f:Nat->List Tx}{c:Nat->Nat}:∀{l:List Nat},(∀x∈l,(f x).length<=c x)->(l.flatMap f).length<=(l.map c).sum
 |[],_=>by simp
 |x::l,h=>by have h1:=h x (by simp);have h2:=yR (f:=f) (c:=c) (l:=l) λy hy=>h y (by simp[hy]);rw[qp,d_,eZ,EL];lia
theorem HJ(c:Nat):∀(l:List Nat),(l.map λ_=>c).sum=l.length*c
 |[]=>by simp
 |x::l=>by rw[eZ,EL,HJ c l,fi,Nat.add_mul];lia
theorem GW{f:Nat->List Tx}{c:Nat}{l:List Nat}(h:∀x∈l,(f x).length<=c):(l.flatMap f).length<=l.length*c:=by have:=yR (f:=f) (c:=λ_=>c) h;rwa[HJ]at this
theorem Bw(lo hi:Nat):(eu lo hi).length=hi-lo:=by simp[eu]
theorem QX{p:Prop}[Decidable p]{x:Tx}:(if p then [x] else []).length<=1:=by split <;> simp
theorem Ua{p:Prop}[Decidable p]{x:List Tx}{n:Nat}(h:x.length<=n):(if p then x else []).length<=n:=by split <;> simp[h]
theorem RJ(t:Tx)(row:List Tx)(s g e:Nat):(og t row s g e).length<=row.length-(g+1):=by have:=GW (f:=λl=>if bC row e=bC row l then [gw t s e g l] else []) (c:=1) (l:=eu (g+1) row.length) λ_ _=>QX;rw[Bw]at this;unfold og;lia
theorem G0(t:Tx)(row:List Tx)(s g:Nat):(lQ t row s g).length<=(g-s)*(row.length-(g+1)):=by have:=GW (f:=og t row s g) (l:=eu (s+1) (g+1)) λe _=>RJ t row s g e;rw[Bw,show g+1-(s+1)=g-s by lia]at this;exact this
def sH(t:Tx)(row:List Tx)(s:Nat):List Tx:=(eu (s+1) row.length).flatMap λg=>if bC row s=bC row g then lQ t row s g else []
def n8(t:Tx)(row:List Tx):List Tx:=(eu 0 row.length).flatMap λs=>sH t row s
def SA(n:Nat):Nat:=((eu 0 n).map λs=>((eu (s+1) n).map λg=>(g-s)*(n-(g+1))).sum).sum
theorem UY:∀n,n<=10->SA n<=3000:=by decide +kernel
theorem Io{t:Tx}{row:List Tx}(h:row.length<=10):(n8 t row).length<=3000:=by refine dj (yR (c:=λs=>((eu (s+1) row.length).map λg=>(g-s)*(row.length-(g+1))).sum) λs _=>?_) (UY _ h);exact yR λg _=>Ua (G0 t row s g)
theorem Ug{t:Tx}{row:List Tx}(h:row.length<=10){s g:Nat}(hg:g<row.length):(lQ t row s g).length<=100:=by have:=G0 t row s g;have h2:(g-s)*(row.length-(g+1))<=10*10:=z_ ∅ ∅;lia
def xD(a:Ad):aj->R aO:=cN (dB (d2 (eqT am) (d2 bq (dV 1) (dV 3)) (d2 bq (dV 1) (dV 4)))) (pP 2 (a6 (aL (vG a) (gV (dV 0) (gV (dV 1) (gV (dV 3) (gV (dV 4) (Pu.bG)))))))) (d4)
def FE:aj->R (List PV):=dL lR (aw (d2 bg (dV 3) (dC (.int 1))) (aw (dL bO (aw (dV 1) (aH))) (aH)))
def Ib(a:Ad):aj->R aO:=fg 4 FE (xD a)
def JU:aj->R (List PV):=dL jF (aw (dL bO (aw (dV 1) (aH))) (aH))
theorem U5:yaw a=aJ (eI 2 (dL bV (aH))) (aJ (λZ=>dN (fg 3 JU (Ib a) Z)) (gv 2)):=rfl
theorem cb{i:Nat}{Z:aj}{v:PV}(h:Z[i]?=aa (.val v)):dV i Z=.ok v Z:=by unfold dV;rw[h]
theorem fk{d:aj->R PV}{dg:aj->R (List b0)}{Z dM Z2:aj}{x:PV}{as:List b0}(h:d Z=.ok x dM)(h2:dg dM=.ok as Z2):gV d dg Z=.ok (.inl x::as) Z2:=by unfold gV;rw[h,R.bind_ok,h2];rfl
theorem nW{Z:aj}:Pu.bG Z=.ok [] Z:=rfl
theorem O8{G:aj->R Slot}{Z:aj}{i0 i1 i2 i3:Nat}{v0 v1 v2 v3:PV}{r:Slot}(h0:Z[i0]?=aa (.val v0))(h1:Z[i1]?=aa (.val v1))(h2:Z[i2]?=aa (.val v2))(h3:Z[i3]?=aa (.val v3))(hG:G [.val v0,.val v1,.val v2,.val v3]=.ok r [.val v0,.val v1,.val v2,.val v3]):aL G (gV (dV i0) (gV (dV i1) (gV (dV i2) (gV (dV i3) (Pu.bG))))) Z=.ok r Z:=by unfold aL;rw[fk (cb h0) (fk (cb h1) (fk (cb h2) (fk (cb h3) nW))),R.bind_ok];simp[cu,c_,R.bind,aV,hG,ef,eh,dX]
theorem rG{d:aj->R Slot}{Z dM:aj}{xs:List PV}(h:d Z=.ok (.own (.lst xs)) dM):a6 d Z=.ok (.lst xs) dM:=by unfold a6;rw[h];rfl
theorem Nz{i:Nat}{de:aj->R PV}{Z dM:aj}{xs0 xs ys:List PV}(h0:eX Z i=aa xs0)(h:de Z=.ok (.lst ys) dM)(h1:eX dM i=aa xs)(hl:xs.length+ys.length<=ce):pP i de Z=.ok .next (dM.set i (.own (.lst (xs++ys)))):=by unfold pP;rw[h0];simp only[c8,R.bind_ok];rw[h];simp only[R.bind_ok];rw[h1];simp only[c8,R.bind_ok];rw[if_pos hl]
theorem pK{α:Type}{c:aj->R Bool}{d1 d2:aj->R α}{Z dM:aj}(h:c Z=.ok ai dM):cN c d1 d2 Z=d1 dM:=by unfold cN;rw[h];rfl
theorem lU{α:Type}{c:aj->R Bool}{d1 d2:aj->R α}{Z dM:aj}(h:c Z=.ok am dM):cN c d1 d2 Z=d2 dM:=by unfold cN;rw[h];rfl
theorem ge{d:aj->R PV}{b:Bool}{Z dM:aj}(h:d Z=.ok (.bl b) dM):dB d Z=.ok b dM:=by unfold dB;rw[h];rfl
theorem OO(t:Tx)(row:List Tx)(s:Nat)(ht:t.length<=20)(hr:row.length<=10)(hs:s<row.length)(aK:List Tx)(s4:Slot)(hB:(aK++sH t row s).length<=100000):∃s4', gx 4 (xD a) ((eu (s+1) row.length).map λx=>.int (x:Nat)) [↥t,.val (.lst (ap row)),.own (.lst (ap aK)),⇑s,s4]=.ok .next [↥t,.val (.lst (ap row)),.own (.lst (ap (aK++sH t row s))),⇑s,s4']:=by
 refine vI (i:=4) (Y:=Slot) (λaK s4=>[↥t,.val (.lst (ap row)),.own (.lst (ap aK)),⇑s,s4]) (λg=>if bC row s=bC row g then lQ t row s g else []) 100000 _ aK s4 hB ?_;intro g hg aK s4 hB;obtain⟨l1,l2⟩:=TY.mp hg;refine⟨⇑g,?_⟩;have i1:=uE hs;have i2:=uE l2;have he:=vb am (bC row s) (bC row g);simp only[oU]at he;by_cases q:bC row s=bC row g
 ·rw[decide_eq_true q]at he;rw[if_pos q]at hB ⊢;have hc:=VU (a:=a) t row s g ht ∅ l2 ∅ (by have:=Ug (t:=t) hr (s:=s) l2;lia);have bI:(ap aK).length+(ap (lQ t row s g)).length<=ce:=by rw[iV,iV];simp at hB;unfold ce;lia
  rw[←JO];generalize ap (lQ t row s g)=EF at hc bI;generalize bC row s=R1 at i1 he;generalize bC row g=R2 at i2 he;generalize ap aK=AC at bI;generalize ap row=RW at i1 i2 hc;generalize ((s:Nat):Int)=si at i1 hc;generalize ((g:Nat):Int)=gi at i2 hc;have hx:a6 (aL (vG a) (gV (dV 0) (gV (dV 1) (gV (dV 3) (gV (dV 4) (Pu.bG)))))) [↥t,.val (.lst RW),.own (.lst AC),⇑si,⇑gi]=.ok (.lst EF) [↥t,.val (.lst RW),.own (.lst AC),⇑si,⇑gi]:=rG (O8 rfl rfl rfl rfl hc);have bL:dB (d2 (eqT am) (d2 bq (dV 1) (dV 3)) (d2 bq (dV 1) (dV 4))) [↥t,.val (.lst RW),.own (.lst AC),⇑si,⇑gi]=.ok ai [↥t,.val (.lst RW),.own (.lst AC),⇑si,⇑gi]:=by simp![i1,i2,he]
  unfold xD;exact(pK bL).trans (Nz rfl hx rfl bI)
 ·rw[decide_eq_false q]at he;rw[if_neg q,iZ];generalize bC row s=R1 at i1 he;generalize bC row g=R2 at i2 he;generalize ap aK=AC;generalize ap row=RW at i1 i2;generalize ((s:Nat):Int)=si at i1;generalize ((g:Nat):Int)=gi at i2;simp![xD,i1,i2,he]
theorem M7{d:aj->R aO}{v0 v1:PV}{sl e4 e5 e6:Slot}(h:d [.val v0,.val v1,.none,.none,.none]=.ok (.ret sl) [.val v0,.val v1,e4,e5,e6]):br 2 [] (bu 3 d) [.val v0,.val v1]=.ok sl [.val v0,.val v1]:=by simp[br,eY,bu,bK,h,back,aV,R.bind]
theorem Nh(t:Tx)(row:List Tx)(ht:t.length<=20)(hr:row.length<=10):AL a [↥t,.val (.lst (ap row))]=.ok (.own (.lst (ap (n8 t row)))) [↥t,.val (.lst (ap row))]:=by
 have r1:=RT (n:=row.length) ∅;have hl:=Fl row;have hB:=Io (t:=t) hr;obtain⟨⟨s3,s4⟩,e1⟩:=vI (i:=3) (db:=Ib a) (Y:=Slot×Slot)
  (λaK p=>[↥t,.val (.lst (ap row)),.own (.lst (ap aK)),p.1,p.2]) (λs=>sH t row s) 100000 (eu 0 row.length) [] (.none,.none) (by rw[i5];exact dj hB (by decide))
  (by
   intro s he aK p hB;obtain⟨e1,e2⟩:=TY.mp he;obtain⟨s4',h⟩:=OO (a:=a) t row s ht hr e2 aK p.2 hB;refine⟨(⇑s,s4'),?_⟩;have r2:=zy (lo:=s+1) (hi:=row.length) ∅ ∅;have hd:FE [↥t,.val (.lst (ap row)),.own (.lst (ap aK)),⇑s,p.2] =
     .ok ((eu (s+1) row.length).map λx=>PV.int (x:Nat)) [↥t,.val (.lst (ap row)),.own (.lst (ap aK)),⇑s,p.2] :=
    gR (dJ (dW (x:=.int s) rfl (eG _ _) (Dr s)) (dJ (gR (dJ (x:=.lst (ap row)) rfl gJ) hl) gJ)) r2
   exact yP hd h)
 have ko:=e1;dsimp only at ko;rw[i5,show ap ([]:List Tx)=[] from rfl,show(eu 0 row.length).flatMap (λs=>sH t row s)=n8 t row from rfl]at ko;clear e1;have hd:JU [↥t,.val (.lst (ap row)),.own (.lst []),.none,.none]=.ok ((eu 0 row.length).map λx=>PV.int (x:Nat)) [↥t,.val (.lst (ap row)),.own (.lst []),.none,.none] :=gR (dJ (gR (dJ (x:=.lst (ap row)) rfl gJ) hl) gJ) r1;have hb:yaw a [↥t,.val (.lst (ap row)),.none,.none,.none]=.ok (.ret (.own (.lst (ap (n8 t row))))) [↥t,.val (.lst (ap row)),.none,s3,s4]:=by rw[U5];have h1:=zz (i:=2) (Z:=[↥t,.val (.lst (ap row)),.none,.none,.none]) (by simp);refine(cK h1).trans ?_;refine(Bc hd ko).trans ?_;exact sR rfl
 exact M7 hb
theorem Q5{row:List Tx}(h:1<=row.length):bq (.lst (ap row)) (.int (-1))=aa (.str (bC row (row.length-1))):=by
 show fF (ap row) (-1)=_;unfold fF;have:kC (ap row).length (-1)=aa (row.length-1):=by unfold kC;rw[iV,if_neg (by decide),if_pos ∅];congr 1;lia
 rw[this];have h2:row.length-1<row.length:=∅
 simp[ap,bC,h2]
def sA(t:Tx)(m w:Nat):List Tx:=(eu 1 m).map λp=>iS ((t.take m).drop p++(t.take m).take p) w
theorem Ql(t:Tx)(m w:Nat)(w1:1<=w)(w4:w<=4)(ht:t.length<=20)(hm:m<=t.length)(RW:PV):lV [3,2] eQ (a6 (aL (sI a) (gV (d2 bg (cx cq (dV 1) (bB (dV 0)) (dU)) (cx cq (dV 1) (dU) (bB (dV 0)))) (gV (dV 2) (Pu.bG))))) ((eu 1 m).map λx=>.int (x:Nat)) [] [↥t,.val RW,⇑w,↥(t.take m)]=.ok (ap (sA t m w)) [↥t,.val RW,⇑w,↥(t.take m)]:=by
 have hc:=nR (XM:=[3,2]) (dt:=eQ) (de:=(a6 (aL (sI a) (gV (d2 bg (cx cq (dV 1) (bB (dV 0)) (dU)) (cx cq (dV 1) (dU) (bB (dV 0)))) (gV (dV 2) (Pu.bG)))))) (Z:=[↥t,.val RW,⇑w,↥(t.take m)])
  (λ_=>ai) (λx=>match x with|.int i=>.str (iS ((t.take m).drop i.toNat++(t.take m).take i.toNat) w)|_=>.non) ((eu 1 m).map λx=>.int (x:Nat))
  (by intro x hx;obtain⟨i,_,rfl⟩:=dG.mp hx;refine⟨by simp![fG,fE,bQ,eQ],λ_=>?_⟩;have s1:=E6 (t.take m) i;have s2:=Ch (t.take m) i;have h1:bg (.str ((t.take m).drop i)) (.str ((t.take m).take i))=aa (.str ((t.take m).drop i++(t.take m).take i)):=nY (by unfold ce;simp;lia);have h2:=Ou (a:=a) (z:=(t.take m).drop i++(t.take m).take i) w1 w4 (by simp;lia);simp only[nA];generalize iS ((t.take m).drop i++(t.take m).take i) w=U at h2;generalize (t.take m).drop i++(t.take m).take i=ld at h1 h2;generalize (t.take m).drop i=A1 at s1 h1;generalize (t.take m).take i=A2 at s2 h1;generalize t.take m=TM at s1 s2;generalize ((i:Nat):Int)=ii at s1 s2;simp![fG,fE,bQ,cx,bB,dU,s1,s2,h1,h2]) []
 rw[hc,i5,qo.mpr (by simp)];congr 1;unfold ap sA;rw[fK,fK];refine iK λi _=>?_;simp
def kU(t:Tx)(row:List Tx)(w:Nat):List Tx:=if bC row 0=bC row (row.length-1)then sA t (row.length-1) w else []
theorem Nm(t:Tx)(row:List Tx)(w:Nat)(w1:1<=w)(w4:w<=4)(ht:t.length<=20)(hr:1<=row.length)(oX:row.length<=t.length+1):vq a [↥t,.val (.lst (ap row)),⇑w]=.ok (.own (.lst (ap (kU t row w)))) [↥t,.val (.lst (ap row)),⇑w]:=by
 have i1:bq (.lst (ap row)) (.int 0)=aa (.str (bC row 0)):=uE (i:=0) ∅;have i2:=Q5 hr;have he:=vb ai (bC row 0) (bC row (row.length-1));have Lw:jd (.int 1)=aa (.int (-1)):=rfl;unfold kU;by_cases q:bC row 0=bC row (row.length-1)
 ·rw[decide_eq_true q]at he;rw[if_pos q];have hl:=Fl row;have hs:eB (.int (row.length:Nat)) (.int 1)=aa (.int ((row.length-1:Nat):Int)):=by show aa (PV.int _)=_;congr 2;lia
  have s1:=Ch t (row.length-1);have kL:bO [.str (t.take (row.length-1))]=aa (.int ((row.length-1:Nat):Int)):=by show aa (PV.int _)=_;congr 2;simp;lia
  have r1:=zy (lo:=1) (hi:=row.length-1) ∅ ∅;have hc:=Ql (a:=a) t (row.length-1) w w1 w4 ht ∅ (.lst (ap row));generalize ap (sA t (row.length-1) w)=TT at hc;generalize (eu 1 (row.length-1)).map (λx=>PV.int (x:Nat))=RG at r1 hc;generalize t.take (row.length-1)=T1 at s1 kL hc;generalize ((row.length-1:Nat):Int)=m at hs s1 kL r1;generalize ((row.length:Nat):Int)=n at hl hs;generalize bC row 0=R1 at i1 he;generalize bC row (row.length-1)=R2 at i2 he;generalize ap row=RW at i1 i2 hl hc;simp only[Bool.xor_true,Aq]at he;have r1':lR [.int 1,.int m]=aa RG:=r1;clear r1;simp![vq,yaW,i1,i2,Lw,he,hl,hs,cx,dU,bB,s1,lD,fh,kL,r1',hc]
 ·rw[decide_eq_false q]at he;rw[if_neg q];generalize bC row 0=R1 at i1 he;generalize bC row (row.length-1)=R2 at i2 he;generalize ap row=RW at i1 i2;simp only[Bool.xor_false]at he;simp![vq,yaW,i1,i2,Lw,he,lD,show ap ([]:List Tx)=[] from rfl]
def jb(t:Tx)(w:Nat):List Tx:=n8 t (eF t (w-1))++kU t (eF t (w-1)) w
def bA(t:Tx)(w:Nat):List Tx:=bp (lg (cS (jb t w)) t)
theorem WG(t:Tx)(row:List Tx)(w:Nat):(kU t row w).length<=row.length:=by
 unfold kU;split
 ·unfold sA;rw[dw,Bw];lia
 ·simp
theorem yZ(t:Tx)(w:Nat)(h:Tv t w)(h9:t.length+2<=w+10):kw a [↥t,⇑w]=.ok (.own (.lst (ap (bA t w)))) [↥t,⇑w]:=by
 have b1:=h.w1;have b2:=h.w4;have b3:=h.h1;have hs:eB (.int w) (.int 1)=aa (.int ((w-1:Nat):Int)):=by show aa (PV.int _)=_;congr 2;lia
 have e1:=FF (a:=a) (t:=t) (w:=w-1) ∅ ∅;have hrl:=tw t (w-1);have e2:=Nh (a:=a) t (eF t (w-1)) ∅ ∅;have e3:=Nm (a:=a) t (eF t (w-1)) w b1 b2 ∅ ∅ ∅;have l1:=Io (t:=t) (row:=eF t (w-1)) ∅;have l2:=WG t (eF t (w-1)) w;have qu:bg (.lst (ap (n8 t (eF t (w-1))))) (.lst (ap (kU t (eF t (w-1)) w)))=aa (.lst (ap (jb t w))):=by show(if _ then _ else _)=_;rw[if_pos (by rw[iV,iV];unfold ce;lia),JO];rfl
 have hu:tE [.lst (ap (jb t w))]=aa (cS (jb t w)):=by show(g_ (ap (jb t w))).bind _=_;have:=IH (jb t w);rw[sJ,gW,if_pos (by unfold jb at this;rw[d_]at this;unfold jb;lia)]
 unfold bA;generalize cS (jb t w)=UL at hu;generalize ap (jb t w)=SL at qu hu;generalize ap (n8 t (eF t (w-1)))=EA at e2 qu;generalize ap (kU t (eF t (w-1)) w)=TA at e3 qu;generalize ap (eF t (w-1))=RW at e1 e2 e3;generalize ((w-1:Nat):Int)=wi at hs e1;simp![kw,yaP,lD,hs,e1,e2,e3,Cp,qu,hu]
theorem VL(t:Tx)(w:Nat)(h:Tv t w)(h9:t.length+2<=w+10):pQ a [↥t,⇑w]=.ok (.own (.lst (ap (bA t w)))) [↥t,⇑w]:=by have e1:=mJ (a:=a) h;have e2:=yZ (a:=a) t w h h9;generalize ap (bA t w)=O at e2;generalize bS w (bp (aQ t w))=V at e1;simp![pQ,yav,e1,e2]
def Nv(t:Tx)(m:Nat):List Tx:=(eu 1 m).map λp=>part (bK 3 (t.take m)).flatten p (p+t.length)
def kT(t:Tx)(row:List Tx):List Tx:=if bC row 0=bC row (row.length-1)then Nv t (row.length-1)else []
end
theorem Kh{p:Prop}[Decidable p]{z:Tx}{L:List Tx}:z∈(if p then L else [])↔p/\z∈L:=by split <;> simp[*]
def pe(t:Tx)(row:List Tx)(z:Tx):Prop:=∃s e g l,s<e/\e<=g/\g<l/\l<row.length/\bC row s=bC row g/\bC row e=bC row l/\z=gw t s e g l
theorem MK{t:Tx}{row:List Tx}{z:Tx}:z∈n8 t row↔pe t row z:=by
 unfold n8 sH lQ og pe;simp only[Lc,TY,Kh,iq];constructor
 ·rintro⟨s,hs,g,hg,q1,e,he,l,hl,q2,rfl⟩;exact⟨s,e,g,l,∅,∅,∅,hl.2,q1,q2,rfl⟩
 ·rintro⟨s,e,g,l,h1,h2,h3,h4,q1,q2,rfl⟩;exact⟨s,⟨∅,∅⟩,g,⟨∅,∅⟩,q1,e,⟨∅,∅⟩,l,⟨∅,h4⟩,q2,rfl⟩
section
variable{a:Ad}
theorem B9{t:aj->R Bool}{db:aj->R aO}{n:Nat}{Z dM Z2:aj}(h:t Z=.ok ai dM)(h2:db dM=.ok .next Z2):fH t db (n+1) Z=fH t db n Z2:=by rw[fH,h,R.bind_ok];simp only;rw[h2]
theorem C1{t:aj->R Bool}{db:aj->R aO}{n:Nat}{Z dM:aj}(h:t Z=.ok am dM):fH t db (n+1) Z=.ok .next dM:=by rw[fH,h,R.bind_ok]
end
end Sh
namespace Mx
open L2 Pu
theorem ze{z:Tx}{w:Nat}(hw:1<=w):(aQ z w).length=z.length+1-w:=by rw[oh z w hw];simp
def cY(t:Tx)(w:Nat):List Tx:=(fq t.length).filter λz=>(aQ z w).isPerm (aQ t w)
theorem Xe{t z:Tx}{w:Nat}:z∈cY t w↔z.length=t.length/\(∀c∈z,c∈dQ)/\(aQ z w).Perm (aQ t w):=by unfold cY;rw[nq,tt,EH];exact⟨λ⟨⟨a,b⟩,c⟩=>⟨a,b,c⟩,λ⟨a,b,c⟩=>⟨⟨a,b⟩,c⟩⟩
theorem SV(t:Tx)(w:Nat):(cY t w).Nodup:=(HG _).filter _
theorem MZ{t:Tx}{w:Nat}(hw:1<=w)(h1:w<=t.length)(ha:∀c∈t,c∈dQ):kW w (bp (aQ t w))=cY t w:=by
 have hp:=j2 (aQ t w);have hl:(bp (aQ t w)).length=t.length+1-w:=by rw[hp.length_eq,ze hw]
 have h:=Jb (w:=w) (ls:=bp (aQ t w)) hw ∅ λx hx=>by obtain⟨a,b⟩:=Gy (hp.mem_iff.mp hx);exact⟨a,λc hc=>ha c (b c hc)⟩
 rw[h,hl];unfold cY;rw[show w-1+(tX t+1-w)=tX t by lia];refine La λz _=>?_;rw[p8,EH,EH];exact⟨λq=>q.trans hp,λq=>q.trans hp.symm⟩
end Mx
namespace Sh
open L2 Pu Mx
def sg(s e g l i:Nat):Nat:=if i<s then i else if i<s+(l-g)then g+(i-s)else if i<s+(l-g)+(g-e)then e+(i-(s+(l-g)))else if i<l then s+(i-(s+(l-g)+(g-e)))else i
theorem tz{t:Tx}{i j:Nat}(h:j<=t.length):(part t i j).length=j-i:=by unfold part;simp;lia
theorem Bj{t:Tx}{i j k:Nat}(h:k<j-i):(part t i j)[k]?=t[i+k]?:=by unfold part;rw[jS,if_pos h,kJ]
theorem xR{t:Tx}{s e g l:Nat}(h1:s<e)(h2:e<=g)(h3:g<l)(h4:l<=t.length):(gw t s e g l).length=t.length:=by unfold gw;rw[d_,d_,d_,d_,tz h4,tz ∅,tz ∅,jN,ki];lia
theorem y_{t:Tx}{s e g l:Nat}(h1:s<e)(h2:e<=g)(h3:g<l)(h4:l<=t.length)(i:Nat):(gw t s e g l)[i]?=t[sg s e g l i]?:=by
 have e1:(t.take s).length=s:=by simp;lia
 have e2:=tz (t:=t) (i:=g) (j:=l) h4;have e3:=tz (t:=t) (i:=e) (j:=g) ∅;have e4:=tz (t:=t) (i:=s) (j:=e) ∅;unfold gw sg;by_cases c1:i<s
 ·rw[if_pos c1,kI,kI,kI,fJ ∅,jS,if_pos c1]
 ·rw[if_neg c1,kI,kI,kI,jO ∅,e1];by_cases c2:i<s+(l-g)
  ·rw[if_pos c2,fJ ∅,Bj ∅]
  ·rw[if_neg c2,jO ∅,e2];by_cases c3:i<s+(l-g)+(g-e)
   ·rw[if_pos c3,fJ ∅,Bj ∅,show i-s-(l-g)=i-(s+(l-g)) by lia]
   ·rw[if_neg c3,jO ∅,e3];by_cases c4:i<l
    ·rw[if_pos c4,fJ ∅,Bj ∅];congr 1;lia
    ·rw[if_neg c4,jO ∅,e4,kJ];congr 1;lia
theorem uY{s e g l i:Nat}(h:i<s):sg s e g l i=i:=if_pos h
theorem rE{s e g l i:Nat}(a:¬i<s)(h:i<s+(l-g)):sg s e g l i=g+(i-s):=by unfold sg;rw[if_neg a,if_pos h]
theorem tJ{s e g l i:Nat}(a:¬i<s+(l-g))(h:i<s+(l-g)+(g-e)):sg s e g l i=e+(i-(s+(l-g))):=by unfold sg;rw[if_neg λz=>a (ul _ z),if_neg a,if_pos h]
theorem sX{s e g l i:Nat}(a:¬i<s+(l-g)+(g-e))(h:i<l):sg s e g l i=s+(i-(s+(l-g)+(g-e))):=by unfold sg;rw[if_neg λz=>a (ul _ (ul _ z)),if_neg λz=>a (ul _ z),if_neg a,if_pos h]
theorem uN{s e g l i:Nat}(a:¬i<s+(l-g)+(g-e))(h:¬i<l):sg s e g l i=i:=by unfold sg;rw[if_neg λz=>a (ul _ (ul _ z)),if_neg λz=>a (ul _ z),if_neg a,if_neg h]
theorem V0{s e g l:Nat}(h1:s<e)(h2:e<=g)(h3:g<l)(i:Nat):sg s e g l (i+1)=sg s e g l i+1\/(sg s e g l (i+1)=g/\sg s e g l i+1=s)\/(sg s e g l (i+1)=e/\sg s e g l i+1=l)\/(sg s e g l (i+1)=s/\sg s e g l i+1=l/\e=g)\/(sg s e g l (i+1)=s/\sg s e g l i+1=g)\/(sg s e g l (i+1)=l/\sg s e g l i+1=e):=by
 by_cases a1:i+1<s
 ·exact .inl (by rw[uY a1,uY (Ar a1)])
 by_cases a2:i+1<s+(l-g)
 ·by_cases b:i<s
  ·exact .inr (.inl ⟨by rw[rE a1 a2];lia,by rw[uY b];lia⟩)
  ·exact .inl (by rw[rE a1 a2,rE b (Ar a2)];lia)
 by_cases a3:i+1<s+(l-g)+(g-e)
 ·by_cases b:i<s+(l-g)
  ·exact .inr (.inr (.inl ⟨by rw[tJ a2 a3];lia,by rw[rE ∅ b];lia⟩))
  ·exact .inl (by rw[tJ a2 a3,tJ b (Ar a3)];lia)
 by_cases a4:i+1<l
 ·by_cases b:i<s+(l-g)+(g-e)
  ·have q:sg s e g l (i+1)=s:=by rw[sX a3 a4];lia
   by_cases c:i<s+(l-g)
   ·exact .inr (.inr (.inr (.inl ⟨q,by rw[rE ∅ c];lia,∅⟩)))
   ·exact .inr (.inr (.inr (.inr (.inl ⟨q,by rw[tJ c b];lia⟩))))
  ·exact .inl (by rw[sX a3 a4,sX b (Ar a4)];lia)
 ·by_cases b:i<l
  ·exact .inr (.inr (.inr (.inr (.inr ⟨by rw[uN a3 a4];lia,by rw[sX ∅ b];lia⟩))))
  ·exact .inl (by rw[uN a3 a4,uN ∅ b])
theorem Bi{s e g l:Nat}(h1:s<e)(h2:e<=g)(h3:g<l)(j:Nat):sg s e g l (sg s (s+(l-g)) (s+(l-g)+(g-e)) l j)=j:=by
 obtain⟨q,hq⟩:∃q,q=s+(l-g):=⟨_,rfl⟩
 obtain⟨r,hr⟩:∃r,r=q+(g-e):=⟨_,rfl⟩
 rw[←hq,←hr];have c1:s+(l-r)=e:=∅
 have c2:e+(r-q)=g:=∅
 by_cases a1:j<s
 ·rw[uY a1,uY a1]
 by_cases a2:j<s+(l-r)
 ·rw[rE a1 a2,sX (by rw[←hq,←hr];exact rW.mpr (Lh ..)) ∅,←hq,←hr,EI];exact Li (rW.mp a1)
 by_cases a3:j<s+(l-r)+(r-q)
 ·rw[tJ a2 a3,tJ (by rw[←hq];exact rW.mpr (Lh ..)) ∅,←hq,EI,c1];exact Li ∅
 by_cases a4:j<l
 ·rw[sX a3 a4,rE (rW.mpr (Lh ..)) ∅,EI,c1,c2];exact Li ∅
 ·rw[uN a3 a4,uN ∅ a4]
theorem IX{s e g l m:Nat}(h1:s<e)(h2:e<=g)(h3:g<l)(h4:l<=m){i:Nat}(h:i<m):sg s e g l i<m:=by
 unfold sg
 (repeat' split) <;> lia
theorem R_{s e g l:Nat}(h1:s<e)(h2:e<=g)(h3:g<l){i j:Nat}(h:sg s e g l i=sg s e g l j):i=j:=by
 have r:∀k,sg s (s+(l-g)) (s+(l-g)+(g-e)) l (sg s e g l k)=k:=λk=>by have:=Bi (s:=s) (e:=s+(l-g)) (g:=s+(l-g)+(g-e)) (l:=l) ∅ ∅ ∅ k;rwa[show s+(l-(s+(l-g)+(g-e)))=e by lia,show e+(s+(l-g)+(g-e)-(s+(l-g)))=g by lia]at this
 rw[←r i,h,r j]
theorem PP{s e g l m:Nat}(h1:s<e)(h2:e<=g)(h3:g<l)(h4:l<=m):((bF m).map (sg s e g l)).Perm (bF m):=by
 rw[List.perm_ext_iff_of_nodup ?_ List.nodup_range]
 ·intro j;rw[dG,nr];constructor
  ·rintro⟨i,hi,rfl⟩;exact IX h1 h2 h3 h4 (nr.mp hi)
  ·intro hj;exact⟨sg s (s+(l-g)) (s+(l-g)+(g-e)) l j,nr.mpr (IX ∅ ∅ ∅ h4 hj),Bi h1 h2 h3 j⟩
 ·show List.Pairwise _ _;rw[Ec];exact List.Pairwise.imp (λcQ heq=>cQ (R_ h1 h2 h3 heq)) (List.nodup_range (n:=m))
def Pc(t:Tx)(v i j:Nat):Prop:=∀k,k<v->t[i+k]?=t[j+k]?
theorem yB{t:Tx}{v s e g l:Nat}(h1:s<e)(h2:e<=g)(h3:g<l)(h4:l<=t.length)(p1:Pc t v s g)(p2:Pc t v e l):∀k,k<=v->∀i,(gw t s e g l)[i+k]?=t[sg s e g l i+k]?
 |0,_,i=>y_ h1 h2 h3 h4 i
 |k+1,hk,i=>by
  have ih:=yB h1 h2 h3 h4 p1 p2 k ∅ (i+1);rw[show i+(k+1)=i+1+k by lia,ih,show sg s e g l i+(k+1)=sg s e g l i+1+k by lia];rcases V0 h1 h2 h3 i with q|⟨q,r⟩|⟨q,r⟩|⟨q,r,u⟩|⟨q,r⟩|⟨q,r⟩ <;> rw[q]
  ·rw[r];exact(p1 k ∅).symm
  ·rw[r];exact p2 k ∅
  ·rw[r,p1 k ∅,←u];exact p2 k ∅
  ·rw[r];exact p1 k ∅
  ·rw[r];exact(p2 k ∅).symm
theorem rq{t z:Tx}{i j w:Nat}(h:∀k,k<w->z[i+k]?=t[j+k]?):(z.drop i).take w=(t.drop j).take w:=by
 refine lv λk=>?_;rw[jS,jS];split
 ·rename_i hk;rw[kJ,kJ];exact h k hk
 ·rfl
theorem q8{t:Tx}{v i j:Nat}(h:(t.drop i).take v=(t.drop j).take v):Pc t v i j:=λk hk=>by have:=congrArg (λl:Tx=>l[k]?) h;simpa[jS,hk,kJ]using this
theorem pY{t:Tx}{v i:Nat}(h:i<t.length+1-v):bC (eF t v) i=(t.drop i).take v:=by unfold Sh.bC eF;simp[h]
theorem Pn{t:Tx}{w s e g l:Nat}(w1:1<=w)(h1:s<e)(h2:e<=g)(h3:g<l)(h4:l+w<=t.length+1)(p1:Pc t (w-1) s g)(p2:Pc t (w-1) e l):(aQ (gw t s e g l) w).Perm (aQ t w):=by
 have hl:l<=t.length:=∅
 rw[oh _ _ w1,oh _ _ w1,xR h1 h2 h3 hl];have:(bF (t.length+1-w)).map (λi=>((gw t s e g l).drop i).take w)=((bF (t.length+1-w)).map (sg s e g l)).map λj=>(t.drop j).take w:=by rw[fK];refine iK λi _=>?_;exact rq λk hk=>yB h1 h2 h3 hl p1 p2 k ∅ i
 rw[this];exact(PP h1 h2 h3 ∅).map _
theorem Hs{s e g l:Nat}(h1:s<e)(h2:e<=g)(h3:g<l):sg s e g l s=g:=by unfold sg;(repeat' split) <;> lia
theorem Nl{s e g l:Nat}(h1:s<e)(h2:e<=g)(h3:g<l):sg s e g l (s+(l-g)+(g-e))=s:=by unfold sg;(repeat' split) <;> lia
theorem Sg{s e g l:Nat}(h1:s<e)(h2:e<=g)(h3:g<l):sg s e g l l=l:=by unfold sg;(repeat' split) <;> lia
theorem Nb{s e g l:Nat}(h1:s<e)(h2:e<=g)(h3:g<l):sg s e g l (s+(l-g))=e\/(sg s e g l (s+(l-g))=s/\e=g):=by unfold sg;(repeat' split) <;> lia
theorem Pq{t:Tx}{s e g l:Nat}(h1:s<e)(h2:e<=g)(h3:g<l)(h4:l<=t.length):gw (gw t s e g l) s (s+(l-g)) (s+(l-g)+(g-e)) l=t:=by refine lv λi=>?_;rw[y_ ∅ ∅ ∅ (by rw[xR h1 h2 h3 h4];exact h4),y_ h1 h2 h3 h4,Bi h1 h2 h3]
theorem xL{t:Tx}{w:Nat}(w1:1<=w){z:Tx}:pe t (eF t (w-1)) z↔∃s e g l,s<e/\e<=g/\g<l/\l+w<=t.length+1/\Pc t (w-1) s g/\Pc t (w-1) e l/\z=gw t s e g l:=by
 unfold pe;rw[tw];constructor
 ·rintro⟨s,e,g,l,h1,h2,h3,h4,q1,q2,rfl⟩;rw[pY ∅,pY ∅]at q1 q2;exact⟨s,e,g,l,h1,h2,h3,∅,q8 q1,q8 q2,rfl⟩
 ·rintro⟨s,e,g,l,h1,h2,h3,h4,q1,q2,rfl⟩;refine⟨s,e,g,l,h1,h2,h3,∅,?_,?_,rfl⟩
  ·rw[pY ∅,pY ∅];exact rq q1
  ·rw[pY ∅,pY ∅];exact rq q2
theorem TK{t z:Tx}{w:Nat}(w1:1<=w)(h:pe t (eF t (w-1)) z):pe z (eF z (w-1)) t:=by
 obtain⟨s,e,g,l,h1,h2,h3,h4,q1,q2,rfl⟩:=(xL w1).mp h;have hl:l<=t.length:=∅
 have hw:=λk hk i=>yB h1 h2 h3 hl q1 q2 k hk i;refine(xL w1).mpr ⟨s,s+(l-g),s+(l-g)+(g-e),l,∅,∅,∅,by rw[xR h1 h2 h3 hl];exact h4,λk hk=>?_,λk hk=>?_,(Pq h1 h2 h3 hl).symm⟩
 ·rw[hw k ∅,hw k ∅,Hs h1 h2 h3,Nl h1 h2 h3];exact(q1 k hk).symm
 ·rw[hw k ∅,hw k ∅,Sg h1 h2 h3];rcases Nb h1 h2 h3 with q|⟨q,r⟩ <;> rw[q]
  ·exact q2 k hk
  ·rw[q1 k hk,←r];exact q2 k hk
theorem E9{t z:Tx}{w:Nat}(w1:1<=w)(h:pe t (eF t (w-1)) z):z.length=t.length/\(aQ z w).Perm (aQ t w)/\∀c∈z,c∈t:=by
 obtain⟨s,e,g,l,h1,h2,h3,h4,q1,q2,rfl⟩:=(xL w1).mp h;refine⟨xR h1 h2 h3 ∅,Pn w1 h1 h2 h3 h4 q1 q2,λc hc=>?_⟩;unfold gw part at hc;simp only[gy]at hc;rcases hc with(((hc|hc)|hc)|hc)|hc
 ·exact oV hc
 ·exact rZ (oV hc)
 ·exact rZ (oV hc)
 ·exact rZ (oV hc)
 ·exact rZ hc
theorem JZ{t:Tx}{m w:Nat}(w1:1<=w)(hm:m+w=t.length+1)(m1:1<=m)(h:Pc t (w-1) 0 m):t=iS (t.take m) w:=by
 have hr:(t.take m).length=m:=by simp;lia
 have key:∀i,i<t.length->t[i]?=aa (Mx.bC (t.take m) i):=by
  intro i
  induction i using Nat.strongRecOn with
  |ind i ih=>
   intro hi;by_cases c:i<m
   ·have:=Mx.yn (z:=t.take m) (i:=i) ∅;rw[←this,jS,if_pos c]
   ·have h1:=h (i-m) ∅;rw[show 0+(i-m)=i-m by lia,show m+(i-m)=i by lia]at h1;rw[←h1,ih (i-m) ∅ ∅];have:=Mx.FL (t.take m) (i-m);rw[hr,show m+(i-m)=i by lia]at this;rw[this]
 have hl:(iS (t.take m) w).length=t.length:=by rw[yO ∅ w1,hr];lia
 refine lv λi=>?_;by_cases c:i<t.length
 ·rw[key i c,rg ∅ w1 ∅]
 ·rw[jQ ∅,jQ ∅]
theorem AJ{t:Tx}{w:Nat}(w1:1<=w)(h1:w<=t.length){z:Tx}:z∈kU t (eF t (w-1)) w↔Pc t (w-1) 0 (t.length+1-w)/\∃p,1<=p/\p<t.length+1-w/\z=iS (gS p (t.take (t.length+1-w))) w:=by
 unfold kU sA;rw[Kh,tw,show t.length+1-(w-1)-1=t.length+1-w by lia,pY ∅,pY ∅,dG];constructor
 ·rintro⟨q,p,hp,rfl⟩;obtain⟨p1,p2⟩:=TY.mp hp;exact⟨q8 q,p,p1,p2,rfl⟩
 ·rintro⟨q,p,p1,p2,rfl⟩;exact⟨rq q,p,TY.mpr ⟨p1,p2⟩,rfl⟩
theorem GG{t z:Tx}{w:Nat}(w1:1<=w)(h1:w<=t.length)(h:z∈kU t (eF t (w-1)) w):z.length=t.length/\(aQ z w).Perm (aQ t w)/\(∀c∈z,c∈t)/\t∈kU z (eF z (w-1)) w:=by
 obtain⟨q,p,p1,p2,rfl⟩:=(AJ w1 h1).mp h;generalize hm:t.length+1-w=m at q p2;have ht:=JZ w1 (m:=m) ∅ ∅ q;have hr:(t.take m).length=m:=by simp;lia
 generalize hR:t.take m=R at ht hr;have hrl:(gS p R).length=m:=by rw[nQ ∅,hr]
 have hzl:(iS (gS p R) w).length=t.length:=by rw[yO ∅ w1,hrl];lia
 refine⟨hzl,?_,λc hc=>?_,?_⟩
 ·rw[FQ ∅ w1,ht,FQ ∅ w1];exact WJ ∅
 ·have:=MG (LR hc);rw[←hR]at this;exact oV this
 ·rw[AJ w1 ∅,hzl,hm];refine⟨λk hk=>?_,m-p,∅,∅,?_⟩
  ·rw[rg ∅ w1 ∅,rg ∅ w1 ∅];have:=Mx.FL (gS p R) k;rw[hrl]at this;rw[this,mq]
  ·have wS:=M_ (z:=gS p R) (w:=w) ∅ w1;rw[hrl]at wS;rw[wS,Mt ∅ ∅ ∅,hr,show(p+(m-p)) % m=0 by rw[show p+(m-p)=m by lia,Nat.mod_self],LU];exact ht
theorem Xf{t:Tx}{w:Nat}{z:Tx}:z∈bA t w↔z∈jb t w/\z≠t:=by unfold bA;rw[(j2 _).mem_iff];unfold lg;rw[nq,sW,decide_eq_true_eq]
theorem HR{t z:Tx}{w:Nat}(h:Tv t w)(hz:z∈jb t w):Tv z w/\z.length=t.length/\(aQ z w).Perm (aQ t w)/\t∈jb z w:=by
 unfold jb at hz ⊢;rcases gy.mp hz with hz|hz
 ·rw[MK]at hz;obtain⟨a1,a2,a3⟩:=E9 h.w1 hz;exact⟨⟨h.w1,h.w4,by rw[a1];exact h.h1,by rw[a1];exact h.h9,λc hc=>h.abc c (a3 c hc)⟩,a1,a2,gy.mpr (.inl (MK.mpr (TK h.w1 hz)))⟩
 ·obtain⟨a1,a2,a3,a4⟩:=GG h.w1 h.h1 hz;exact⟨⟨h.w1,h.w4,by rw[a1];exact h.h1,by rw[a1];exact h.h9,λc hc=>h.abc c (a3 c hc)⟩,a1,a2,gy.mpr (.inr a4)⟩
theorem Hw{t z:Tx}{w:Nat}(h:Tv t w)(hz:z∈bA t w):Tv z w/\z.length=t.length/\bp (aQ z w)=bp (aQ t w)/\z≠t/\t∈bA z w:=by obtain⟨h1,h2⟩:=Xf.mp hz;obtain⟨a1,a2,a3,a4⟩:=HR h h1;exact⟨a1,a2,vK ((j2 _).trans a3) (zf _),h2,Xf.mpr ⟨a4,λe=>h2 e.symm⟩⟩
abbrev gr(t:Tx)(v i:Nat):Tx:=(t.drop i).take v
theorem Gw{t:Tx}{v i k:Nat}(h:k<v):(gr t v i)[k]?=t[i+k]?:=by unfold gr;rw[jS,if_pos h,kJ]
theorem u6{t:Tx}{v i:Nat}:(gr t (v+1) i).take v=gr t v i:=by unfold gr;rw[List.take_take,Au ∅]
theorem qT{t:Tx}{v i:Nat}:(gr t (v+1) i).tail=gr t v (i+1):=by
 unfold gr;refine lv λk=>?_;rw[List.getElem?_tail,jS,jS,kJ,kJ];by_cases h:k<v
 ·rw[if_pos ∅,if_pos h];congr 1;lia
 ·rw[if_neg ∅,if_neg h]
theorem zL{t:Tx}{v i:Nat}(h:i+v<t.length):(aQ t (v+1))[i]?=aa (gr t (v+1) i):=by rw[oh _ _ ∅,jP,D6 ∅];rfl
theorem Gy{t:Tx}{v:Nat}{x:Tx}:x∈aQ t (v+1)↔∃i,i+v<t.length/\x=gr t (v+1) i:=by
 rw[oh _ _ ∅,dG];constructor
 ·rintro⟨i,hi,rfl⟩;exact⟨i,by have:=nr.mp hi;lia,rfl⟩
 ·rintro⟨i,hi,rfl⟩;exact⟨i,nr.mpr ∅,rfl⟩
theorem Xc{t:Tx}{v p:Nat}{x:Tx}:x∈(aQ t (v+1)).drop p↔∃i,p<=i/\i+v<t.length/\x=gr t (v+1) i:=by
 have hl:(aQ t (v+1)).length=t.length+1-(v+1):=ze ∅;rw[List.mem_iff_getElem?];constructor
 ·rintro⟨j,hj⟩;rw[kJ]at hj;have bI:p+j<(aQ t (v+1)).length:=(d9.mp hj).1;rw[zL ∅]at hj;exact⟨p+j,∅,∅,(eV hj).symm⟩
 ·rintro⟨i,h1,h2,rfl⟩;refine⟨i-p,?_⟩;rw[kJ,show p+(i-p)=i by lia,zL h2]
theorem L8{t z:Tx}{v p:Nat}(hl:z.length=t.length)(h:t.take (v+p)=z.take (v+p)):(aQ t (v+1)).take p=(aQ z (v+1)).take p:=by
 refine lv λi=>?_;rw[jS,jS];split
 ·rename_i hi;by_cases hv:i+v<t.length
  ·rw[zL hv,zL ∅];congr 1;refine rq λk hk=>?_;have:=congrArg (λl:Tx=>l[i+k]?) h;simpa[jS,show i+k<v+p by lia]using this
  ·rw[jQ (by rw[ze ∅];lia),jQ (by rw[ze ∅];lia)]
 ·rfl
theorem C7{t z:Tx}{n i:Nat}(h:t.take n=z.take n)(hi:i<n):t[i]?=z[i]?:=by have:=congrArg (λl:Tx=>l[i]?) h;simpa[jS,hi]using this
theorem Ht{t z:Tx}{n:Nat}(h:∀i,i<n->t[i]?=z[i]?):t.take n=z.take n:=by
 refine lv λi=>?_;rw[jS,jS];split
 ·rename_i hi;exact h i hi
 ·rfl
theorem OM{t z:Tx}{v p:Nat}(hl:z.length=t.length)(hp:p+v<t.length)(hw:(aQ z (v+1)).Perm (aQ t (v+1)))(h:t.take (v+p)=z.take (v+p)):∃t',(t'=t\/pe t (eF t v) t')/\t'.take (v+(p+1))=z.take (v+(p+1)):=by
 by_cases q:t[p+v]?=z[p+v]?
 ·refine⟨t,.inl rfl,Ht λi hi=>?_⟩;by_cases c:i<v+p
  ·exact C7 h c
  ·rw[show i=p+v by lia];exact q
 ·have hd:((aQ z (v+1)).drop p).Perm ((aQ t (v+1)).drop p):=by
   have h1:=L8 hl h;have h2:((aQ t (v+1)).take p++(aQ z (v+1)).drop p).Perm ((aQ t (v+1)).take p++(aQ t (v+1)).drop p):=by
    rw[wB]
    conv=>lhs;rw[h1,wB]
    exact hw
   exact(List.perm_append_left_iff _).mp h2
  have hz:gr z (v+1) p∈(aQ t (v+1)).drop p:=hd.mem_iff.mp (Xc.mpr ⟨p,bn _,∅,rfl⟩);obtain⟨g,g1,g2,eg⟩:=Xc.mp hz;have fj:∀k,k<=v->z[p+k]?=t[g+k]?:=λk hk=>by have:=congrArg (λl:Tx=>l[k]?) eg;rw[Gw ∅,Gw ∅]at this;exact this
  have hgp:p<g:=by
   rcases Nat.lt_or_ge p g with c|c
   ·exact c
   ·have e:g=p:=∅
    rw[e]at fj;exact absurd (fj v (bn _)).symm q
  have psg:Pc t v p g:=λk hk=>by rw[←fj k ∅];exact C7 h ∅
  have qA:∃e l,p<e/\e<=g/\g<l/\l+v<=t.length/\gr t v e=gr t v l:=by
   refine Av λno=>?_;have no':∀e l,p<e->e<=g->g<l->l+v<=t.length->gr t v e≠gr t v l:=λe l a b c d q=>no ⟨e,l,a,b,c,d,q⟩
   let V:Tx->Prop:=λy=>∃e,p<e/\e<=g/\gr t v e=y
   have hV:∀i,p<=i->i+v<t.length->(V (gr t v (i+1))->i<g)/\(i<g->V (gr t v i)):=λi a b=>by
    refine⟨λ⟨e,e1,e2,e3⟩=>?_,λc=>?_⟩
    ·rcases Nat.lt_or_ge i g with c|c
     ·exact c
     ·exact absurd e3 (no' e (i+1) e1 e2 ∅ ∅)
    ·by_cases d:i=p
     ·exact⟨g,hgp,bn _,by rw[d];exact rq λk hk=>(psg k hk).symm⟩
     ·exact⟨i,∅,∅,rfl⟩
   have step:∀k,p+k+v<z.length->¬V (gr z v (p+k+1)):=by
    intro k
    induction k with
    |zero=>
     intro hk hv;have e:gr z v (p+0+1)=gr t v (g+1):=by rw[Nat.add_zero,←qT,eg,qT]
     rw[e]at hv;have:=(hV g g1 g2).1 hv;lia
    |succ k ih=>
     intro hk hv;have ih:=ih ∅;have hm:gr z (v+1) (p+(k+1))∈(aQ t (v+1)).drop p:=hd.mem_iff.mp (Xc.mpr ⟨p+(k+1),∅,∅,rfl⟩);obtain⟨i,i1,i2,ei⟩:=Xc.mp hm;have e1:gr z v (p+(k+1))=gr t v i:=by rw[←u6,ei,u6]
     have e2:gr z v (p+(k+1)+1)=gr t v (i+1):=by rw[←qT,ei,qT]
     rw[e2]at hv;have:=(hV i i1 i2).2 ((hV i i1 i2).1 hv);rw[←e1]at this;exact ih this
   have hm:gr t (v+1) p∈(aQ z (v+1)).drop p:=hd.mem_iff.mpr (Xc.mpr ⟨p,bn _,∅,rfl⟩);obtain⟨i,i1,i2,ei⟩:=Xc.mp hm;have hk:=step (i-p) ∅;rw[show p+(i-p)+1=i+1 by lia]at hk;refine hk ?_;rw[←qT,←ei,qT];exact⟨p+1,∅,∅,rfl⟩
  obtain⟨e,l,e1,e2,l1,l2,el⟩:=qA;refine⟨gw t p e g l,.inr ?_,Ht λi hi=>?_⟩
  ·have:=(xL (t:=t) (w:=v+1) ∅ (z:=gw t p e g l)).mpr ⟨p,e,g,l,e1,e2,l1,∅,psg,q8 el,rfl⟩;exact this
  ·have hw':=λk hk i=>yB (v:=v) e1 e2 l1 ∅ psg (q8 el) k hk i;by_cases c:i<p
   ·rw[y_ e1 e2 l1 ∅];have:sg p e g l i=i:=by unfold sg;rw[if_pos c]
    rw[this];exact C7 h ∅
   ·have:=hw' (i-p) ∅ p;rw[Hs e1 e2 l1,show p+(i-p)=i by lia]at this;rw[this,←fj (i-p) ∅,show p+(i-p)=i by lia]
theorem JR{v:Nat}{y:Tx}:∀(k:Nat) (t:Tx) (i:Nat),((EK i k).map λj=>if gr t v j=y then 1 else 0).sum+(if gr t v (i+k)=y then 1 else 0)=((EK i k).map λj=>if gr t v (j+1)=y then 1 else 0).sum+(if gr t v i=y then 1 else 0)
 |0,t,i=>by simp
 |k+1,t,i=>by have ih:=JR (v:=v) (y:=y) k t (i+1);rw[List.range'_succ,eZ,eZ,EL,EL,show i+(k+1)=i+1+k by lia];lia
theorem Ws{t z:Tx}{v:Nat}(hl:z.length=t.length)(hv:v<t.length)(hw:(aQ z (v+1)).Perm (aQ t (v+1))):gr t v 0=gr z v 0\/gr t v 0=gr t v (t.length-v):=by
 have hc:∀u:Tx,u.length=t.length->((aQ u (v+1)).map λx=>if x.take v=gr t v 0 then 1 else 0).sum+(if gr u v (u.length-v)=gr t v 0 then 1 else 0)=((aQ u (v+1)).map λx=>if x.tail=gr t v 0 then 1 else 0).sum+(if gr u v 0=gr t v 0 then 1 else 0):=by
  intro u hu;have:=JR (v:=v) (y:=gr t v 0) (u.length-v) u 0;rw[mq]at this;rw[oh _ _ ∅,fK,fK,show u.length+1-(v+1)=u.length-v by lia,List.range_eq_range'];have e1:∀j,((λx:Tx=>if x.take v=gr t v 0 then 1 else 0) ∘ λi=>(u.drop i).take (v+1)) j=if gr u v j=gr t v 0 then 1 else 0:=λj=>by show(if(gr u (v+1) j).take v=_ then 1 else 0)=_;rw[u6]
  have e2:∀j,((λx:Tx=>if x.tail=gr t v 0 then 1 else 0) ∘ λi=>(u.drop i).take (v+1)) j=if gr u v (j+1)=gr t v 0 then 1 else 0:=λj=>by show(if(gr u (v+1) j).tail=_ then 1 else 0)=_;rw[qT]
  rw[iK λj _=>e1 j,iK λj _=>e2 j];exact this
 have h1:=hc t rfl;have h2:=hc z hl;have p1:=((hw.map λx:Tx=>if x.take v=gr t v 0 then 1 else 0)).sum_nat;have p2:=((hw.map λx:Tx=>if x.tail=gr t v 0 then 1 else 0)).sum_nat;rw[p1,p2]at h2;rw[if_pos rfl]at h1;by_cases c:gr z v 0=gr t v 0
 ·exact .inl c.symm
 ·right;rw[if_neg c]at h2;by_cases d:gr t v (t.length-v)=gr t v 0
  ·exact d.symm
  ·rw[if_neg d]at h1;lia
inductive WN(w:Nat):Nat->Tx->Tx->Prop
 |here (n:Nat) (t:Tx):WN w n t t
 |on {n:Nat}{t u z:Tx}:WN w n t u->z∈jb u w->WN w (n+1) t z
theorem WN.more{w n:Nat}{t z:Tx}(h:WN w n t z):WN w (n+1) t z:=by
 induction h with
 |here n t=>exact .here _ _
 |on _ hz ih=>exact .on ih hz
theorem WN.mono{w n:Nat}{t z:Tx}(h:WN w n t z):∀k,WN w (n+k) t z
 |0=>h
 |k+1=>(h.mono k).more
theorem WN.cons{w n:Nat}{t u z:Tx}(hu:u∈jb t w)(h:WN w n u z):WN w (n+1) t z:=by
 induction h with
 |here n u=>exact .on (.here n t) hu
 |on _ hz ih=>exact .on (ih hu) hz
theorem Di{v:Nat}{z:Tx}:∀(k p:Nat) (t:Tx),p+k+v=t.length->z.length=t.length->(aQ z (v+1)).Perm (aQ t (v+1))->t.take (v+p)=z.take (v+p)->WN (v+1) k t z
 |0,p,t,hk,hl,_,h=>by
  have:t=z:=by have h1:t.take (v+p)=t:=mn ∅;have h2:z.take (v+p)=z:=mn ∅;rw[←h1,h,h2]
  rw[this];exact .here 0 z
 |k+1,p,t,hk,hl,hw,h=>by
  obtain⟨t',ht,hn⟩:=OM hl ∅ hw h;rcases ht with rfl|ht
  ·exact(Di k (p+1) t' ∅ hl hw hn).more
  ·obtain⟨a1,a2,_⟩:=E9 (w:=v+1) ∅ ht;exact .cons (gy.mpr (.inl (MK.mpr ht))) (Di k (p+1) t' ∅ ∅ (hw.trans a2.symm) hn)
theorem TB{t z:Tx}{w:Nat}(h:Tv t w)(hl:z.length=t.length)(hw:(aQ z w).Perm (aQ t w)):WN w 10 t z:=by
 obtain⟨v,rfl⟩:∃v,w=v+1:=⟨w-1,by have:=h.w1;lia⟩
 have hv:=h.h1;have h9:=h.h9;have from0:∀u:Tx,u.length=t.length->(aQ z (v+1)).Perm (aQ u (v+1))->gr u v 0=gr z v 0->WN (v+1) 9 u z:=λu hu hp hg=>by have:=(Di (u.length-v) 0 u ∅ ∅ hp (by simpa[gr]using hg)).mono (9-(u.length-v));rwa[show u.length-v+(9-(u.length-v))=9 by lia]at this
 by_cases c:gr t v 0=gr z v 0
 ·exact(from0 t rfl hw c).more
 ·have jX:gr t v 0=gr t v (t.length-v):=(Ws hl ∅ hw).resolve_left c;have hm:gr z (v+1) 0∈aQ t (v+1):=hw.mem_iff.mp (Gy.mpr ⟨0,∅,rfl⟩);obtain⟨p,hp,ep⟩:=Gy.mp hm;have eg:gr z v 0=gr t v p:=by rw[←u6,ep,u6]
  have p1:1<=p:=by
   rcases Nat.eq_zero_or_pos p with e|e
   ·rw[e]at eg;exact absurd eg.symm c
   ·exact e
  have qt:iS (gS p (t.take (t.length+1-(v+1)))) (v+1)∈kU t (eF t (v+1-1)) (v+1):=(AJ ∅ h.h1).mpr ⟨q8 (by rw[show v+1-1=v by lia,show t.length+1-(v+1)=t.length-v by lia];exact jX),p,p1,∅,rfl⟩;obtain⟨a1,a2,a3,a4⟩:=GG ∅ h.h1 qt;refine .cons (gy.mpr (.inr qt)) (from0 _ a1 (hw.trans a2.symm) ?_);rw[eg];refine rq λk hk=>?_;generalize hmm:t.length+1-(v+1)=m;have hr:(t.take m).length=m:=by simp;lia
  have ht:=JZ (t:=t) (m:=m) (w:=v+1) ∅ ∅ ∅ (q8 (by rw[show v+1-1=v by lia,←hmm,show t.length+1-(v+1)=t.length-v by lia];exact jX));rw[mq,rg (by rw[nQ ∅];lia) ∅ (by rw[nQ ∅];lia),uP ∅ ∅]
  conv=>rhs;rw[ht]
  rw[rg ∅ ∅ ∅]
theorem WN.good{w n:Nat}{t z:Tx}(h:WN w n t z)(ht:Tv t w):Tv z w/\z.length=t.length/\(aQ z w).Perm (aQ t w):=by
 induction h with
 |here n t=>exact⟨ht,rfl,.refl _⟩
 |on _ hz ih=>obtain⟨a1,a2,a3⟩:=ih ht;obtain⟨b1,b2,b3,_⟩:=HR a1 hz;exact⟨b1,∅,b3.trans a3⟩
theorem WN.like{w n:Nat}{t z:Tx}(h:WN w n t z)(ht:Tv t w):z∈cY t w:=by obtain⟨a1,a2,a3⟩:=h.good ht;exact Xe.mpr ⟨a2,a1.abc,a3⟩
def Lv(w:Nat)(t:Tx)(k:Nat)(z:Tx):Prop:=WN w k t z/\∀j,j+1=k->¬WN w j t z
theorem T9{w:Nat}{t z:Tx}:Lv w t 0 z↔z=t:=by
 constructor
 ·rintro⟨h,_⟩;cases h;rfl
 ·rintro rfl;exact⟨.here _ _,λj hj=>∅⟩
theorem PU{w:Nat}{t z:Tx}:WN w 0 t z↔z=t:=by
 constructor
 ·intro h;cases h;rfl
 ·rintro rfl;exact .here _ _
theorem Pr{w k:Nat}{t z:Tx}:WN w (k+1) t z↔WN w k t z\/∃u,Lv w t k u/\z∈bA u w:=by
 constructor
 ·intro h;by_cases c:WN w k t z
  ·exact .inl c
  ·right;cases h with
   |here=>exact absurd (.here _ _) c
   |@on _ _ u _ hu hz=>
    have cQ:z≠u:=by rintro rfl;exact c hu
    refine⟨u,⟨hu,λj hj hw=>?_⟩,Xf.mpr ⟨hz,cQ⟩⟩;subst hj;exact c (.on hw hz)
 ·rintro(h|⟨u,hu,hz⟩)
  ·exact h.more
  ·exact .on hu.1 (Xf.mp hz).1
theorem Ph{w n j:Nat}{t z:Tx}(h:WN w n t z):¬WN w j t z->∃y,Lv w t (j+1) y:=by
 induction h with
 |here n t=>exact λc=>absurd (.here _ _) c
 |@on n t u z hu hz ih=>
  intro c;by_cases d:WN w j t u
  ·refine⟨z,.on d hz,λi hi hw=>?_⟩;have:i=j:=∅
   subst this;exact c hw
  ·exact ih d
def Full(w:Nat)(t:Tx)(k:Nat):Prop:=∀z∈cY t w,WN w k t z
theorem CI{w:Nat}{t:Tx}(h:Tv t w):Full w t 10:=λz hz=>by obtain⟨a,b,c⟩:=Xe.mp hz;exact TB h a c
theorem P5{w:Nat}{t:Tx}(h:Tv t w):∃K,K<=10/\Full w t K/\∀k,k<K->¬Full w t k:=by
 have key:∀n,n<=10->(∃K,K<=10/\Full w t K/\∀k,k<K->¬Full w t k)\/∀k,k<n->¬Full w t k:=by
  intro n
  induction n with
  |zero=>intro _;exact .inr λk hk=>∅
  |succ n ih=>
   intro hn;rcases ih ∅with q|q
   ·exact .inl q
   ·by_cases c:Full w t n
    ·exact .inl ⟨n,∅,c,q⟩
    ·refine .inr λk hk=>?_;by_cases d:k=n
     ·rw[d];exact c
     ·exact q k ∅
 rcases key 10 (bn _)with q|q
 ·exact q
 ·exact⟨10,bn _,CI h,q⟩
theorem Qr{w k:Nat}{t:Tx}(h:Tv t w)(hf:¬Full w t k):∃y,Lv w t (k+1) y:=by
 obtain⟨z,hz,hn⟩:∃z,z∈cY t w/\¬WN w k t z:=by refine Av λno=>hf λz hz=>Av λc=>no ⟨z,hz,c⟩
 exact Ph (CI h z hz) hn
theorem CF{i:Nat}{db:aj->R aO}{Y τ:Type}(env:Y->τ->aj)(f:Y->Tx->Y)(P:Y->Prop):∀(xs:List Tx) (st:Y) (s:τ),P st -> (∀x∈xs,∀st s,P st->P (f st x)/\∃s',db ((env st s).set i (↥x))=.ok .next (env (f st x) s'))->∃s',gx i db (ap xs) (env st s)=.ok .next (env (xs.foldl f st) s')/\P (xs.foldl f st)
 |[],st,s,h,_=>⟨s,rfl,h⟩
 |x::xs,st,s,h,step=>by obtain⟨h1,s1,e1⟩:=step x (by simp) st s h;obtain⟨s2,e2,h2⟩:=CF env f P xs (f st x) s1 h1 λy hy=>step y (by simp[hy]);refine⟨s2,?_,h2⟩;show gx i db (.str x::ap xs) _=_;rw[gx,e1];exact e2
abbrev ks(m:List (Tx×Int)):List Tx:=m.map (·.1)
theorem B5(m:List (Tx×Int))(z:Tx):(m.any λp=>decide (p.1=z))=decide (z∈ks m):=by rw[p8,uk,decide_eq_true_eq,dG];exact⟨λ⟨p,h1,h2⟩=>⟨p,h1,of_decide_eq_true h2⟩,λ⟨p,h1,h2⟩=>⟨p,h1,decide_eq_true h2⟩⟩
theorem I_(m:List (Tx×Int))(z:Tx):(bx m z).isSome=decide (z∈ks m):=by
 rw[←B5];cases h:m.any λp=>decide (p.1=z)with
 |false=>rw[xK h];rfl
 |true=>obtain⟨n,e⟩:=J4 h;rw[e];rfl
theorem M9{m:List (Tx×Int)}{z:Tx}{n:Int}(h:z∉ks m):dI m z n=m++[(z,n)]:=by unfold dI;rw[B5,decide_eq_false h];rfl
theorem MW{m:List (Tx×Int)}(nd:(ks m).Nodup){z:Tx}{n:Int}:bx m z=aa n↔(z,n)∈m:=by
 induction m with
 |nil=>simp[bx]
 |cons p m ih=>
  change ((p::m).map (·.1)).Nodup at nd;rw[eZ,kh]at nd;unfold bx at ih ⊢;rw[f8];by_cases c:p.1=z
  ·simp only[c,decide_true,nE,b8];constructor
   ·intro e;left;rw[←eV e,←c]
   ·rintro(e|e)
    ·rw[←e]
    ·exact absurd (dG.mpr ⟨(z,n),e,rfl⟩) (by rw[←c];exact nd.1)
  ·simp only[c,decide_false,b8];rw[ih nd.2];constructor
   ·exact .inr
   ·rintro(e|e)
    ·exact absurd (by rw[←e]) c
    ·exact e
theorem Ia(m:List (Tx×Int)):(dk m).length=m.length:=by simp[dk]
theorem Bq{neg:Bool}{i:Nat}{db:aj->R PV}{Z dM:aj}{z:Tx}{m:List (Tx×Int)}(hb:db Z=.ok (.str z) dM)(ho:dY dM i=aa (dk m)):iE neg i db Z=.ok (.bl (neg^^decide (z∈ks m))) dM:=by unfold iE;rw[hb,R.bind_ok,ho];simp only[c8,R.bind_ok];show aV (aa (PV.bl (neg^^(lH (dk m) (.inr (tS z))).isSome))) dM=_;rw[uO,D1,I_];rfl
theorem Nc{i:Nat}{db de:aj->R PV}{Z dM Z2:aj}{z:Tx}{n:Int}{m:List (Tx×Int)}(he:de Z=.ok (.int n) dM)(hb:db dM=.ok (.str z) Z2)(nM:∃x,dY dM i=aa x)(ho:dY Z2 i=aa (dk m))(hl:m.length<ce):kr i db de Z=.ok .next (Z2.set i (.own (.dK (dk (dI m z n))))):=by unfold kr;obtain⟨x,hx⟩:=nM;rw[he,R.bind_ok,hx];simp only[c8,R.bind_ok];rw[hb,R.bind_ok,ho];simp only[c8,R.bind_ok];show(aV (aa (Sum.inr (tS z))) Z2).bind _=_;simp only[c8,R.bind_ok];rw[Ia,if_pos hl,xW]
theorem G_{i:Nat}{de:aj->R PV}{Z dM:aj}{x:PV}{xs0 xs:List PV}(h0:eX Z i=aa xs0)(h:de Z=.ok x dM)(h1:eX dM i=aa xs)(hl:xs.length<ce):kZ i de Z=.ok .next (dM.set i (.own (.lst (xs++[x])))):=by unfold kZ;rw[h0];simp only[c8,R.bind_ok];rw[h];simp only[R.bind_ok];rw[h1];simp only[c8,R.bind_ok];rw[if_pos hl]
def sf(k:Int)(st:List (Tx×Int)×List Tx)(z:Tx):List (Tx×Int)×List Tx:=if z∈ks st.1 then st else(st.1++[(z,k)],st.2++[z])
theorem G4(k:Int):∀(zs:List Tx) (st:List (Tx×Int)×List Tx) (z:Tx),z∈ks (zs.foldl (sf k) st).1↔z∈ks st.1\/z∈zs
 |[],st,z=>by simp
 |x::zs,st,z=>by
  rw[jt,G4 k zs];unfold sf;by_cases c:x∈ks st.1
  ·rw[if_pos c,b8];exact⟨λh=>h.elim .inl λh=>.inr (.inr h),λh=>h.elim .inl λh=>h.elim (λe=>.inl (by rw[e];exact c)) .inr⟩
  ·rw[if_neg c];show z∈(st.1++[(x,k)]).map (·.1)\/z∈zs↔_;simp[or_assoc]
theorem Dj(k:Int):∀(zs:List Tx) (st:List (Tx×Int)×List Tx) (z:Tx),z∈(zs.foldl (sf k) st).2↔z∈st.2\/(z∈zs/\z∉ks st.1)
 |[],st,z=>by simp
 |x::zs,st,z=>by
  rw[jt,Dj k zs];unfold sf;by_cases c:x∈ks st.1
  ·rw[if_pos c,b8];constructor
   ·rintro(h|⟨h,q⟩)
    ·exact .inl h
    ·exact .inr ⟨.inr h,q⟩
   ·rintro(h|⟨h|h,q⟩)
    ·exact .inl h
    ·exact absurd (by rw[h];exact c) q
    ·exact .inr ⟨h,q⟩
  ·rw[if_neg c,b8];show z∈st.2++[x]\/(z∈zs/\z∉(st.1++[(x,k)]).map (·.1))↔_;rw[gy,iq,qg,gy];constructor
   ·rintro((h|h)|⟨h,q⟩)
    ·exact .inl h
    ·exact .inr ⟨.inl h,by rw[h];exact c⟩
    ·exact .inr ⟨.inr h,λy=>q (.inl y)⟩
   ·rintro(h|⟨h|h,q⟩)
    ·exact .inl (.inl h)
    ·exact .inl (.inr h)
    ·by_cases e:z=x
     ·exact .inl (.inr e)
     ·exact .inr ⟨h,λy=>y.elim q λy=>e (by simpa using y)⟩
structure SP(U:List Tx)(st:List (Tx×Int)×List Tx):Prop where
 nd:(ks st.1).Nodup
 sub:∀z∈ks st.1,z∈U
 len:st.2.length<=st.1.length
theorem SP.few{U:List Tx}{st:List (Tx×Int)×List Tx}(h:SP U st):st.1.length<=U.length:=by have:=len_sub h.nd h.sub;rwa[dw]at this
theorem SP.step{U:List Tx}{st:List (Tx×Int)×List Tx}(h:SP U st){z:Tx}(hz:z∈U)(k:Int):SP U (sf k st z):=by
 unfold sf;by_cases c:z∈ks st.1
 ·rw[if_pos c];exact h
 ·rw[if_neg c];refine⟨?_,λy hy=>?_,?_⟩
  ·show((st.1++[(z,k)]).map (·.1)).Nodup;rw[qg];exact Ae.mpr ⟨h.nd,by simp,λa ha b hb e=>by simp at hb;subst hb;subst e;exact c ha⟩
  ·have hy:y∈(st.1++[(z,k)]).map (·.1):=hy;rw[qg,gy]at hy;rcases hy with hy|hy
   ·exact h.sub y hy
   ·simp at hy;rw[hy];exact hz
  ·have:=h.len;simp;lia
theorem IA{Y:Type}(f:Y->Tx->Y)(g:Tx->List Tx):∀(l:List Tx) (st:Y),(l.flatMap g).foldl f st=l.foldl (λst u=>(g u).foldl f st) st
 |[],st=>rfl
 |u::l,st=>by rw[qp,KM,IA f g l,jt]
section
variable{a:Ad}
theorem uK{G:aj->R Slot}{Z:aj}{i0 i1:Nat}{v0 v1:PV}{r:Slot}(h0:Z[i0]?=aa (.val v0))(h1:Z[i1]?=aa (.val v1))(hG:G [.val v0,.val v1]=.ok r [.val v0,.val v1]):aL G (gV (dV i0) (gV (dV i1) (Pu.bG))) Z=.ok r Z:=by unfold aL;rw[fk (cb h0) (fk (cb h1) nW),R.bind_ok];simp[cu,c_,R.bind,aV,hG,ef,eh,dX]
theorem yi{d:aj->R Slot}{Z dM:aj}{x:PV}(h:d Z=.ok (.val x) dM):a6 d Z=.ok x dM:=by unfold a6;rw[h];rfl
theorem yt{d:aj->R PV}{Z dM:aj}{xs:List PV}(h:d Z=.ok (.lst xs) dM):ff d Z=.ok xs dM:=by unfold ff;rw[h];rfl
def xZ:aj->R aO:=cN (dB (iE ai 3 (dV 6))) (aJ (kr 3 (dV 6) (d2 bg (dV 2) (dC (.int 1)))) (kZ 4 (dV 6))) (d4)
def II(a:Ad):aj->R aO:=fg 6 (ff (a6 (aL (kw a) (gV (dV 5) (gV (dV 1) (Pu.bG)))))) xZ
theorem Tf:yaS a=aJ (eI 4 (dL bV (aH))) (aJ (λZ=>dN (fg 5 (ff (dV 0)) (II a) Z)) (gv 4)):=rfl
def nS(N:PV)(w k:Nat)(st:List (Tx×Int)×List Tx)(p:Slot×Slot):aj:=[.val N,⇑w,⇑k,.own (.dK (dk st.1)),.own (.lst (ap st.2)),p.1,p.2]
theorem JV{t:Tx}{w:Nat}(h:Tv t w):(cY t w).length<=531441:=by
 have h12:t.length<=12:=by have:=h.h9;have:=h.w4;lia
 refine dj (EC _ _) ?_;rw[Dc];exact dj (Nat.pow_le_pow_right (by decide) h12) (by decide)
theorem N1(U:List Tx)(hU:U.length<=531441)(N:PV)(w k:Nat)(s5:Slot)(zs:List Tx)(hz:∀z∈zs,z∈U)(st:List (Tx×Int)×List Tx)(s6:Slot)(h:SP U st):∃sv,gx 6 xZ (ap zs) (nS N w k st (s5,s6))=.ok .next (nS N w k (zs.foldl (sf ((k:Int)+1)) st) (s5,sv))/\SP U (zs.foldl (sf ((k:Int)+1)) st):=by
 refine CF (i:=6) (λst s6=>nS N w k st (s5,s6)) (sf ((k:Int)+1)) (SP U) zs st s6 h ?_;intro z hz' st s6 h;refine⟨h.step (hz z hz') _,↥z,?_⟩;have Lm:=h.few;have cg:=h.len;have fM:=Bq (neg:=ai) (i:=3) (db:=dV 6) (Z:=[.val N,⇑w,⇑k,.own (.dK (dk st.1)),.own (.lst (ap st.2)),s5,↥z]) (z:=z) (m:=st.1) (cb rfl) rfl;show xZ [.val N,⇑w,⇑k,.own (.dK (dk st.1)),.own (.lst (ap st.2)),s5,↥z]=_;unfold xZ sf;by_cases c:z∈ks st.1
 ·rw[decide_eq_true c]at fM;rw[if_pos c];exact(lU (ge fM)).trans rfl
 ·rw[decide_eq_false c]at fM;rw[if_neg c];refine(pK (ge fM)).trans ?_;have ha:bg (.int k) (.int 1)=aa (.int ((k:Int)+1)):=rfl;have Lx:=Nc (i:=3) (db:=dV 6) (de:=d2 bg (dV 2) (dC (.int 1))) (Z:=[.val N,⇑w,⇑k,.own (.dK (dk st.1)),.own (.lst (ap st.2)),s5,↥z]) (z:=z) (n:=(k:Int)+1) (m:=st.1) (dW (x:=.int k) (cb rfl) (eG _ _) ha) (cb rfl) ⟨_,rfl⟩ rfl (by unfold ce;lia);rw[M9 c]at Lx;refine(cK Lx).trans ?_;have happ:=G_ (i:=4) (de:=dV 6) (Z:=[.val N,⇑w,⇑k,.own (.dK (dk (st.1++[(z,(k:Int)+1)]))),.own (.lst (ap st.2)),s5,↥z]) (x:=.str z) (xs0:=ap st.2) (xs:=ap st.2) rfl (cb rfl) rfl (by rw[iV];unfold ce;lia);refine happ.trans ?_;show R.ok _ [.val N,⇑w,⇑k,.own (.dK (dk (st.1++[(z,(k:Int)+1)]))),.own (.lst (ap st.2++[.str z])),s5,↥z]=_;rw[show ap st.2++[.str z]=ap (st.2++[z]) by simp[ap]];rfl
theorem Ja(U:List Tx)(hU:U.length<=531441)(w k:Nat)(new:List Tx)(hn:∀u∈new,Tv u w/\u.length+2<=w+10/\∀z∈bA u w,z∈U)(m:List (Tx×Int))(h:SP U (m,[])):om a [.val (.lst (ap new)),⇑w,⇑k,.own (.dK (dk m))]=.ok (.own (.lst (ap ((new.flatMap λu=>bA u w).foldl (sf ((k:Int)+1)) (m,[])).2))) [.val (.lst (ap new)),⇑w,⇑k,.own (.dK (dk ((new.flatMap λu=>bA u w).foldl (sf ((k:Int)+1)) (m,[])).1))] /\ SP U ((new.flatMap λu=>bA u w).foldl (sf ((k:Int)+1)) (m,[])):=by
 obtain⟨⟨s5,s6⟩,e1,h1⟩:=CF (i:=5) (db:=II a) (λst p=>nS (.lst (ap new)) w k st p) (λst u=>(bA u w).foldl (sf ((k:Int)+1)) st) (SP U) new (m,[]) (.none,.none) h
  (by intro u hu st p h;obtain⟨t1,t2,t3⟩:=hn u hu;obtain⟨sv,e,h'⟩:=N1 U hU (.lst (ap new)) w k (↥u) (bA u w) t3 st p.2 h;refine⟨h',(↥u,sv),?_⟩;have hc:=yZ (a:=a) u w t1 t2;have hd:ff (a6 (aL (kw a) (gV (dV 5) (gV (dV 1) (Pu.bG))))) (nS (.lst (ap new)) w k st (↥u,p.2))=.ok (ap (bA u w)) (nS (.lst (ap new)) w k st (↥u,p.2)):=yt (rG (uK (v0:=.str u) (v1:=.int w) rfl rfl hc));exact yP hd e)
 rw[←IA]at e1 h1;refine⟨?_,h1⟩;have k1:eI 4 (dL bV aH) [.val (.lst (ap new)),⇑w,⇑k,.own (.dK (dk m)),.none,.none,.none]=.ok .next (nS (.lst (ap new)) w k (m,[]) (.none,.none)):=zz (by simp);have hd:ff (dV 0) (nS (.lst (ap new)) w k (m,[]) (.none,.none))=.ok (ap new) (nS (.lst (ap new)) w k (m,[]) (.none,.none)):=yt (cb rfl);generalize (new.flatMap λu=>bA u w).foldl (sf ((k:Int)+1)) (m,[])=st at e1;have hb:yaS a [.val (.lst (ap new)),⇑w,⇑k,.own (.dK (dk m)),.none,.none,.none]=.ok (.ret (.own (.lst (ap st.2)))) [.val (.lst (ap new)),⇑w,⇑k,.own (.dK (dk st.1)),.none,s5,s6]:=by rw[Tf];refine(cK k1).trans ?_;refine(Bc hd e1).trans ?_;exact sR rfl
 unfold om;generalize yaS a=D at hb;generalize ap st.2=B at hb;generalize dk st.1=C at hb;generalize dk m=A at hb;generalize ap new=N at hb;simp[br,eY,bu,bK,hb,back,aV,R.bind,je]
end
theorem VE{i:Nat}{dg:aj->R (List b0)}{Z Z2:aj}{po:PO}{as:List b0}(h:Z[i]?=aa (.own po))(h2:dg Z=.ok as Z2):gO i dg Z=.ok (.inr i::as) Z2:=by unfold gO;rw[h];simp only;rw[h2];rfl
theorem Iy{G:aj->R Slot}{Z:aj}{i0 i1 i2 i3:Nat}{v0 v1 v2:PV}{po po':PO}{r:Slot}(h0:Z[i0]?=aa (.val v0))(h1:Z[i1]?=aa (.val v1))(h2:Z[i2]?=aa (.val v2))(h3:Z[i3]?=aa (.own po))(hG:G [.val v0,.val v1,.val v2,.own po]=.ok r [.val v0,.val v1,.val v2,.own po']):aL G (gV (dV i0) (gV (dV i1) (gV (dV i2) (gO i3 (Pu.bG))))) Z=.ok r (Z.set i3 (.own po')):=by unfold aL;rw[fk (cb h0) (fk (cb h1) (fk (cb h2) (VE h3 nW))),R.bind_ok];simp[cu,c_,R.bind,aV,hG,ef,eh,dX,h3]
structure Bst(t:Tx)(w k:Nat)(m:List (Tx×Int))(new:List Tx):Prop where
 nd:(ks m).Nodup
 key:∀z,z∈ks m↔WN w k t z
 new:∀z,z∈new↔Lv w t k z
theorem Bst.sp{t:Tx}{w k:Nat}{m:List (Tx×Int)}{new:List Tx}(h:Bst t w k m new)(ht:Tv t w):SP (cY t w) (m,[]):=⟨h.nd,λz hz=>((h.key z).mp hz).like ht,by simp⟩
theorem Bst.near{t:Tx}{w k:Nat}{m:List (Tx×Int)}{new:List Tx}(h:Bst t w k m new)(ht:Tv t w)(h9:t.length+2<=w+10):∀u∈new,Tv u w/\u.length+2<=w+10/\∀z∈bA u w,z∈cY t w:=λu hu=>by have hl:=(h.new u).mp hu;obtain⟨a1,a2,a3⟩:=hl.1.good ht;exact⟨a1,∅,λz hz=>(Pr.mpr (.inr ⟨u,hl,hz⟩)).like ht⟩
theorem ID{t:Tx}{w k:Nat}{m:List (Tx×Int)}{new:List Tx}(h:Bst t w k m new)(z:Tx):z∈(new.flatMap λu=>bA u w)↔∃u,Lv w t k u/\z∈bA u w:=by rw[Lc];exact⟨λ⟨u,a,b⟩=>⟨u,(h.new u).mp a,b⟩,λ⟨u,a,b⟩=>⟨u,(h.new u).mpr a,b⟩⟩
theorem Bst.next{t:Tx}{w k:Nat}{m:List (Tx×Int)}{new:List Tx}(h:Bst t w k m new){st:List (Tx×Int)×List Tx}(e:(new.flatMap λu=>bA u w).foldl (sf ((k:Int)+1)) (m,[])=st)(hs:SP (cY t w) st):Bst t w (k+1) st.1 st.2:=by
 refine⟨hs.nd,λz=>?_,λz=>?_⟩
 ·rw[←e,G4,Pr,ID h];show z∈ks m\/_↔_;rw[h.key]
 ·rw[←e,Dj,ID h];show z∈[]\/(_/\z∉ks m)↔_;rw[h.key];constructor
  ·rintro(q|⟨q,r⟩)
   ·simp at q
   ·exact⟨Pr.mpr (.inr q),λj hj=>(show k=j by lia) ▸ r⟩
  ·rintro⟨q,r⟩;have r':=r k rfl;exact .inr ⟨(Pr.mp q).resolve_left r',r'⟩
theorem Bst.len{t:Tx}{w k:Nat}{m:List (Tx×Int)}{new:List Tx}(h:Bst t w k m new)(ht:Tv t w):m.length<(cY t w).length↔¬Full w t k:=by
 have hkl:(ks m).length=m.length:=dw _;constructor
 ·intro hl hf;have:=len_sub (SV t w) (m:=ks m) λz hz=>(h.key z).mpr (hf z hz);lia
 ·intro hf;refine Av λc=>hf λz hz=>Av λd=>?_;have hn:z∉ks m:=λq=>d ((h.key z).mp q);have:=len_sub (l:=z::ks m) (m:=cY t w) (kh.mpr ⟨hn,h.nd⟩) λy hy=>by
   rcases b8.mp hy with rfl|hy
   ·exact hz
   ·exact((h.key y).mp hy).like ht
  rw[fi]at this;lia
section
variable{a:Ad}
def fC:aj->R Bool:=dB (d2 (eP λi j=>decide (i<j)) (vF 3) (dV 2))
def fB(a:Ad):aj->R aO:=aJ (bv 4 (a6 (aL (om a) (gV (dV 4) (gV (dV 1) (gV (dV 5) (gO 3 (Pu.bG)))))))) (bv 5 (d2 bg (dV 5) (dC (.int 1))))
theorem SZ:yay a=aJ (bv 2 (a6 (aL (pG a) (gV (a6 (aL (dD a) (gV (dV 0) (gV (dV 1) (Pu.bG))))) (Pu.bG))))) (aJ (eI 3 (pC 0 0)) (aJ (bv 4 (dF (dL bV (aw (dV 0) (aH))))) (aJ (bv 5 (dC (.int 0))) (aJ (λZ=>dN (fH fC (fB a) 1000 Z)) (cP (dL jj (aw (dV 5) (aw (dL sO (aw (dV 4) (aH))) (aH))))))))):=rfl
def ji(t:Tx)(w c:Nat)(m:List (Tx×Int))(new:List Tx)(k:Nat):aj:=[↥t,⇑w,⇑c,.own (.dK (dk m)),.val (.lst (ap new)),⇑k]
theorem E_(t:Tx)(w c:Nat)(m:List (Tx×Int))(new:List Tx)(k:Nat):fC (ji t w c m new k)=.ok (decide (m.length<c)) (ji t w c m new k):=by
 have h1:vF 3 (ji t w c m new k)=.ok (.int (m.length:Nat)) (ji t w c m new k):=by show R.ok (PV.int ((dk m).length:Nat)) _=_;rw[Ia]
 have hd:decide (((m.length:Nat):Int)<(c:Nat))=decide (m.length<c):=by
  by_cases q:m.length<c
  ·rw[decide_eq_true q,decide_eq_true ∅]
  ·rw[decide_eq_false q,decide_eq_false ∅]
 refine ge (dW h1 (cb (v:=.int c) rfl) ?_);show aa (PV.bl (decide (((m.length:Nat):Int)<(c:Nat))))=_;rw[hd]
theorem Tu(t:Tx)(w:Nat)(ht:Tv t w)(c k:Nat)(m:List (Tx×Int))(new:List Tx)(h:Bst t w k m new):∃m' new',Bst t w (k+1) m' new'/\fB a (ji t w c m new k)=.ok .next (ji t w c m' new' (k+1)):=by obtain⟨e,hs⟩:=Ja (a:=a) (cY t w) (JV ht) w k new (h.near ht (by have:=ht.h9;lia)) m (h.sp ht);generalize i8:(new.flatMap λu=>bA u w).foldl (sf ((k:Int)+1)) (m,[])=st at e hs;refine⟨st.1,st.2,h.next i8 hs,?_⟩;have k1:bv 4 (a6 (aL (om a) (gV (dV 4) (gV (dV 1) (gV (dV 5) (gO 3 (Pu.bG))))))) (ji t w c m new k)=.ok .next [↥t,⇑w,⇑c,.own (.dK (dk st.1)),.val (.lst (ap st.2)),⇑k] :=jL (rG (Iy (Z:=ji t w c m new k) (v0:=.lst (ap new)) (v1:=.int w) (v2:=.int k) (po:=.dK (dk m)) rfl rfl rfl rfl e));unfold fB;refine(cK k1).trans ?_;exact jL (dW (x:=.int k) (cb rfl) (eG _ _) (Dr k))
theorem HZ(t:Tx)(w:Nat)(ht:Tv t w)(K:Nat)(hK:Full w t K)(o9:∀k,k<K->¬Full w t k):∀(j k bN:Nat) (m:List (Tx×Int)) (new:List Tx),k+j=K->j<bN->Bst t w k m new -> ∃m' new',Bst t w K m' new'/\fH fC (fB a) bN (ji t w (cY t w).length m new k)=.ok .next (ji t w (cY t w).length m' new' K)
 |0,k,bN,m,new,hj,hf,h=>by
  obtain⟨f,rfl⟩:∃f,bN=f+1:=⟨bN-1,∅⟩
  have e:k=K:=∅
  subst e;have c:=E_ t w (cY t w).length m new k;rw[decide_eq_false (λq=>(h.len ht).mp q hK)]at c;exact⟨m,new,h,C1 c⟩
 |j+1,k,bN,m,new,hj,hf,h=>by
  obtain⟨f,rfl⟩:∃f,bN=f+1:=⟨bN-1,∅⟩
  have c:=E_ t w (cY t w).length m new k;rw[decide_eq_true ((h.len ht).mpr (o9 k ∅))]at c;obtain⟨m1,n1,h1,e1⟩:=Tu (a:=a) t w ht (cY t w).length k m new h;obtain⟨m2,n2,h2,e2⟩:=HZ t w ht K hK o9 j (k+1) f m1 n1 ∅ ∅ h1;exact⟨m2,n2,h2,(B9 c e1).trans e2⟩
theorem Fu(t:Tx)(w:Nat):Bst t w 0 [(t,0)] [t]:=⟨by simp,λz=>by rw[PU];simp,λz=>by rw[T9];simp⟩
theorem TF{t:Tx}{w K:Nat}(ht:Tv t w)(o9:∀k,k<K->¬Full w t k):∃y,Lv w t K y:=by
 cases K with
 |zero=>exact⟨t,T9.mpr rfl⟩
 |succ K=>exact Qr ht (o9 K ∅)
theorem UD(t:Tx)(w:Nat)(ht:Tv t w)(K:Nat)(Ly:K<=10)(hK:Full w t K)(o9:∀k,k<K->¬Full w t k):∃new:List Tx,(∀z,z∈new↔Lv w t K z)/\pc a [↥t,⇑w]=.ok (.val (.tup [.int K,.str (iB new)])) [↥t,⇑w]:=by
 obtain⟨m',new,hb,hw⟩:=HZ (a:=a) t w ht K hK o9 K 0 1000 [(t,0)] [t] ∅ ∅ (Fu t w);refine⟨new,hb.new,?_⟩;have e1:=mJ (a:=a) ht;have hg:Good dQ w (bp (aQ t w)):=ht.good.perm (j2 _);have e2:=M8 (a:=a) hg ht.w1 ht.w4 (zf _);rw[MZ ht.w1 ht.h1 ht.abc]at e2;have k1:bv 2 (a6 (aL (pG a) (gV (a6 (aL (dD a) (gV (dV 0) (gV (dV 1) (Pu.bG))))) (Pu.bG)))) [↥t,⇑w,.none,.none,.none,.none]=.ok .next [↥t,⇑w,⇑((cY t w).length:Nat),.none,.none,.none]:=by have hv:a6 (aL (dD a) (gV (dV 0) (gV (dV 1) (Pu.bG)))) [↥t,⇑w,.none,.none,.none,.none]=.ok (bS w (bp (aQ t w))) [↥t,⇑w,.none,.none,.none,.none]:=yi (uK rfl rfl e1);refine jL (x:=.int ((cY t w).length:Nat)) (dM:=[↥t,⇑w,.none,.none,.none,.none]) (yi ?_);generalize a6 (aL (dD a) (gV (dV 0) (gV (dV 1) (Pu.bG))))=D at hv ⊢;generalize pG a=G at e2 ⊢;generalize bS w (bp (aQ t w))=V at hv e2;unfold aL;rw[fk hv nW,R.bind_ok];simp[cu,c_,R.bind,aV,e2,ef,eh,dX]
 have k2:eI 3 (pC 0 0) [↥t,⇑w,⇑((cY t w).length:Nat),.none,.none,.none]=.ok .next [↥t,⇑w,⇑((cY t w).length:Nat),.own (.dK (dk [(t,0)])),.none,.none]:=rfl;have k3:bv 4 (dF (dL bV (aw (dV 0) (aH)))) [↥t,⇑w,⇑((cY t w).length:Nat),.own (.dK (dk [(t,0)])),.none,.none]=.ok .next [↥t,⇑w,⇑((cY t w).length:Nat),.own (.dK (dk [(t,0)])),.val (.lst (ap [t])),.none]:=rfl;have k4:bv 5 (dC (.int 0)) [↥t,⇑w,⇑((cY t w).length:Nat),.own (.dK (dk [(t,0)])),.val (.lst (ap [t])),.none]=.ok .next (ji t w (cY t w).length [(t,0)] [t] 0):=rfl;have cQ:new≠[]:=by obtain⟨y,hy⟩:=TF ht o9;intro q;have:=(hb.new y).mpr hy;rw[q]at this;simp at this
 have wQ:sO [.lst (ap new)]=aa (.str (iB new)):=by show(g_ (ap new)).bind _=_;rw[sJ,gW,if_pos cQ]
 have k6:cP (dL jj (aw (dV 5) (aw (dL sO (aw (dV 4) (aH))) (aH)))) (ji t w (cY t w).length m' new K)=.ok (.ret (.val (.tup [.int K,.str (iB new)]))) (ji t w (cY t w).length m' new K):=by have:=gR (f:=jj) (dJ (x:=.int K) (Z:=ji t w (cY t w).length m' new K) (d:=dV 5) (cb rfl) (dJ (gR (dJ (x:=.lst (ap new)) (d:=dV 4) (cb rfl) gJ) wQ) gJ)) (v:=.tup [.int K,.str (iB new)]) rfl;unfold cP;rw[this];rfl
 have fN:yay a [↥t,⇑w,.none,.none,.none,.none]=.ok (.ret (.val (.tup [.int K,.str (iB new)]))) (ji t w (cY t w).length m' new K):=by rw[SZ];refine(cK k1).trans ?_;refine(cK k2).trans ?_;refine(cK k3).trans ?_;refine(cK k4).trans ?_;refine(cK (d1:=λZ=>dN (fH fC (fB a) 1000 Z)) (by show dN _=_;rw[hw];rfl)).trans ?_;exact k6
 unfold pc;unfold ji at fN;generalize yay a=D at fN;generalize dk m'=A at fN;generalize ap new=B at fN;simp[br,eY,bu,bK,fN,back,aV,R.bind,je]
end
theorem xH{w i j:Nat}{t z:Tx}(h1:Lv w t i z)(h2:Lv w t j z):i=j:=by
 rcases Nat.lt_trichotomy i j with c|c|c
 ·have:=h1.1.mono (j-1-i);rw[show i+(j-1-i)=j-1 by lia]at this;exact absurd this (h2.2 (j-1) ∅)
 ·exact c
 ·have:=h2.1.mono (i-1-j);rw[show j+(i-1-j)=i-1 by lia]at this;exact absurd this (h1.2 (i-1) ∅)
theorem Xk{w:Nat}{t z:Tx}:∀{k:Nat},WN w k t z↔∃i,i<=k/\Lv w t i z
 |0=>⟨λh=>⟨0,bn _,T9.mpr (PU.mp h)⟩,λ⟨i,h1,h2⟩=>by
   have:i=0:=∅
   subst this;exact h2.1⟩
 |k+1=>by
  constructor
  ·intro h;by_cases c:WN w k t z
   ·obtain⟨i,h1,h2⟩:=Xk.mp c;exact⟨i,∅,h2⟩
   ·exact⟨k+1,bn _,h,λj hj=>(show k=j by lia) ▸ c⟩
  ·rintro⟨i,h1,h2⟩;have:=h2.1.mono (k+1-i);rwa[show i+(k+1-i)=k+1 by lia]at this
theorem Sw{m:List (Tx×Int)}{z:Tx}(h:z∉ks m):bx m z=ae:=by have:=I_ m z;rw[decide_eq_false h]at this;exact Option.isNone_iff_eq_none.mp (by simpa using this)
theorem Ki(k:Int):∀(zs:List Tx) (st:List (Tx×Int)×List Tx) (z:Tx),bx (zs.foldl (sf k) st).1 z=if z∈ks st.1 then bx st.1 z else if z∈zs then aa k else ae
 |[],st,z=>by
  by_cases c:z∈ks st.1
  ·simp[c]
  ·simp[c,Sw c]
 |x::zs,st,z=>by
  rw[jt,Ki k zs];unfold sf;by_cases c:x∈ks st.1
  ·rw[if_pos c];by_cases d:z∈ks st.1
   ·rw[if_pos d,if_pos d]
   ·rw[if_neg d,if_neg d];have:z≠x:=λe=>d (e ▸ c);simp[this]
  ·rw[if_neg c];have hk:∀y,y∈ks (st.1++[(x,k)])↔y∈ks st.1\/y=x:=λy=>by show y∈(st.1++[(x,k)]).map (·.1)↔_;simp
   have hg:bx (st.1++[(x,k)]) z=if z=x then aa k else bx st.1 z:=G8 (by rw[B5,decide_eq_false c])
   by_cases d:z∈ks st.1
   ·have:z≠x:=λe=>c (e ▸ d);rw[if_pos ((hk z).mpr (.inl d)),if_pos d];show bx (st.1++[(x,k)]) z=_;rw[hg,if_neg this]
   ·by_cases e:z=x
    ·rw[if_pos ((hk z).mpr (.inr e)),if_neg d];show bx (st.1++[(x,k)]) z=_;rw[hg,if_pos e];simp[e]
    ·rw[if_neg (λq=>((hk z).mp q).elim d e),if_neg d];simp[e]
structure kR(t:Tx)(w k:Nat)(m:List (Tx×Int))(new:List Tx):Prop extends Bst t w k m new where
 get:∀z (n:Int),bx m z=aa n↔∃i:Nat,n=i/\i<=k/\Lv w t i z
theorem Mi(t:Tx)(w:Nat)(z:Tx)(n:Int):bx [(t,0)] z=aa n↔∃i:Nat,n=i/\i<=0/\Lv w t i z:=by
 rw[MW (by simp)];simp only[iq,Prod.mk.injEq];constructor
 ·rintro⟨rfl,rfl⟩;exact⟨0,rfl,bn _,T9.mpr rfl⟩
 ·rintro⟨i,rfl,h1,h2⟩;have:i=0:=∅
  subst this;exact⟨T9.mp h2,rfl⟩
theorem SD(t:Tx)(w:Nat):kR t w 0 [(t,0)] [t]:=⟨Fu t w,Mi t w⟩
theorem kR.next{t:Tx}{w k:Nat}{m:List (Tx×Int)}{new:List Tx}(h:kR t w k m new){st:List (Tx×Int)×List Tx}(e:(new.flatMap λu=>bA u w).foldl (sf ((k:Int)+1)) (m,[])=st)(hs:SP (cY t w) st):kR t w (k+1) st.1 st.2:=by
 have hb:=h.toBst.next e hs;refine⟨hb,λz n=>?_⟩;rw[←e,Ki];show(if z∈ks m then bx m z else _)=aa n↔_;by_cases c:z∈ks m
 ·rw[if_pos c,h.get];constructor
  ·rintro⟨i,e1,h1,h2⟩;exact⟨i,e1,∅,h2⟩
  ·rintro⟨i,e1,h1,h2⟩;obtain⟨i',i6,i7⟩:=Xk.mp ((h.key z).mp c);have:=xH h2 i7;subst this;exact⟨i,e1,i6,h2⟩
 ·rw[if_neg c];have hiff:z∈(new.flatMap λu=>bA u w)↔Lv w t (k+1) z:=by
   have:=hb.new z;rw[←e,Dj]at this;rw[←this];constructor
   ·exact λq=>.inr ⟨q,c⟩
   ·rintro(q|⟨q,_⟩)
    ·simp at q
    ·exact q
  constructor
  ·intro q;by_cases d:z∈(new.flatMap λu=>bA u w)
   ·rw[if_pos d]at q;exact⟨k+1,by rw[←eV q];rfl,bn _,hiff.mp d⟩
   ·rw[if_neg d]at q;cases q
  ·rintro⟨i,rfl,h1,h2⟩;have hi:i=k+1:=by
    rcases Nat.lt_or_ge k i with q|q
    ·lia
    ·exact absurd ((h.key z).mpr (Xk.mpr ⟨i,q,h2⟩)) c
   subst hi;rw[if_pos (hiff.mpr h2)];rfl
theorem Hc(m:List (Tx×Int))(x:Tx):c7 m x=bx m x:=rfl
theorem sP{m:List (Tx×Int)}{c:Int}:∀(r:List Tx) (b:Tx) (kb:Int),bx m b=aa kb->(∀y∈r,∃k,bx m y=aa k/\c<=k)->c<=kb -> (kb=c->r.foldl (λb y=>b.bind λb=>(c7 m b).bind λkb=>(c7 m y).map λky=>if ky<kb then y else b) (aa b)=aa b) /\ (kb≠c->(∃y∈r,bx m y=aa c)->r.foldl (λb y=>b.bind λb=>(c7 m b).bind λkb=>(c7 m y).map λky=>if ky<kb then y else b) (aa b)=r.find? λy=>decide (bx m y=aa c))
 |[],b,kb,_,_,_=>⟨λ_=>rfl,λ_ ⟨y,hy,_⟩=>by simp at hy⟩
 |x::r,b,kb,hb,hr,hc=>by
  obtain⟨kx,hx,xz⟩:=hr x (by simp);have gX:=λy (hy:y∈r)=>hr y (by simp[hy]);have estep:((aa b).bind λb=>(c7 m b).bind λkb=>(c7 m x).map λky=>if ky<kb then x else b)=aa (if kx<kb then x else b):=by simp only[gW,Hc,hb,hx,nE]
  refine⟨λe=>?_,λne qA=>?_⟩
  ·rw[jt,estep,if_neg ∅];exact(sP r b kb hb gX hc).1 e
  ·rw[jt,estep];by_cases q:kx=c
   ·rw[if_pos ∅,f8,decide_eq_true (by rw[hx,q])];exact(sP r x kx hx gX xz).1 q
   ·have Lz:∃y∈r,bx m y=aa c:=by
     obtain⟨y,hy,e⟩:=qA;rcases b8.mp hy with rfl|hy
     ·rw[hx]at e;exact absurd (eV e) q
     ·exact⟨y,hy,e⟩
    rw[f8,decide_eq_false (by rw[hx];intro e;exact q (eV e))];by_cases d:kx<kb
    ·rw[if_pos d];exact(sP r x kx hx gX xz).2 q Lz
    ·rw[if_neg d];exact(sP r b kb hb gX hc).2 ne Lz
theorem SQ{m:List (Tx×Int)}{c:Int}{ls:List Tx}(h:∀y∈ls,∃k,bx m y=aa k/\c<=k)(qA:∃y∈ls,bx m y=aa c):sF m ls=ls.find? λy=>decide (bx m y=aa c):=by
 cases ls with
 |nil=>obtain⟨y,hy,_⟩:=qA;simp at hy
 |cons x r=>
  obtain⟨kx,hx,xz⟩:=h x (by simp);have gX:=λy (hy:y∈r)=>h y (by simp[hy]);show r.foldl _ ((c7 m x).map λ_=>x)=_;rw[Hc,hx,nE,f8];by_cases q:kx=c
  ·rw[decide_eq_true (by rw[hx,q])];exact(sP r x kx hx gX xz).1 q
  ·rw[decide_eq_false (by rw[hx];intro e;exact q (eV e))];refine(sP r x kx hx gX xz).2 q ?_;obtain⟨y,hy,e⟩:=qA;rcases b8.mp hy with rfl|hy
   ·rw[hx]at e;exact absurd (eV e) q
   ·exact⟨y,hy,e⟩
theorem xT{t u:Tx}{w d:Nat}(ht:Tv t w)(h:Lv w t (d+1) u):∃v,Lv w t d v/\v∈bA u w:=by obtain⟨v,h1,h2⟩:=(Pr.mp h.1).resolve_left (h.2 d rfl);exact⟨v,h1,(Hw (h1.1.good ht).1 h2).2.2.2.2⟩
theorem IN{t u v:Tx}{w d j:Nat}(ht:Tv t w)(hu:Lv w t d u)(hv:v∈bA u w)(hj:Lv w t j v):d<=j+1:=by have hb:=(Hw (hu.1.good ht).1 hv).2.2.2.2;have:WN w (j+1) t u:=Pr.mpr (.inr ⟨v,hj,hb⟩);obtain⟨i,h1,h2⟩:=Xk.mp this;rw[xH hu h2];exact h1
def lc(t:Tx)(w d:Nat)(u:Tx):Tx:=open Classical in ((bA u w).find? λz=>decide (Lv w t d z)).getD u
def lG(t:Tx)(w:Nat):Nat->Tx->List Tx
 |0,u=>[u]
 |d+1,u=>u::lG t w d (lc t w d u)
theorem QF{t u:Tx}{w d:Nat}(ht:Tv t w)(h:Lv w t (d+1) u):Lv w t d (lc t w d u)/\lc t w d u∈bA u w:=by
 classical
 obtain⟨v,h1,h2⟩:=xT ht h;unfold lc;cases e:(bA u w).find? λz=>decide (Lv w t d z)with
 |none=>exact absurd h1 (by have:=Ap.mp e v h2;simpa using this)
 |some z=>show Lv w t d z/\z∈bA u w;exact⟨by have:=List.find?_some e;simpa using this,List.mem_of_find?_eq_some e⟩
theorem Vu{t u:Tx}{w d:Nat}{m:List (Tx×Int)}(ht:Tv t w)(h:Lv w t (d+1) u)(hm:∀z∈bA u w,bx m z=aa (d:Int)↔Lv w t d z):(bA u w).find? (λz=>decide (bx m z=aa (d:Int)))=aa (lc t w d u):=by
 classical
 have e1:(bA u w).find? (λz=>decide (bx m z=aa (d:Int)))=(bA u w).find? λz=>decide (Lv w t d z):=by
  have:∀l:List Tx,(∀z∈l,bx m z=aa (d:Int)↔Lv w t d z)->l.find? (λz=>decide (bx m z=aa (d:Int)))=l.find? λz=>decide (Lv w t d z):=by
   intro l
   induction l with
   |nil=>intro _;rfl
   |cons x l ih=>
    intro hl;rw[f8,f8,ih λz hz=>hl z (by simp[hz])];have:=hl x (by simp);by_cases c:Lv w t d x
    ·rw[decide_eq_true c,decide_eq_true (this.mpr c)]
    ·rw[decide_eq_false c,decide_eq_false (λq=>c (this.mp q))]
  exact this _ hm
 obtain⟨v,h1,h2⟩:=xT ht h;rw[e1];unfold lc;cases e:(bA u w).find? λz=>decide (Lv w t d z)with
 |none=>exact absurd h1 (by have:=Ap.mp e v h2;simpa using this)
 |some z=>rfl
theorem CG(t:Tx)(w:Nat):∀(d:Nat) (u:Tx),(lG t w d u).length=d+1
 |0,u=>rfl
 |d+1,u=>by rw[lG,fi,CG t w d]
section
variable{a:Ad}
def gC:aj->R Bool:=j0 (dB (dL vN (aw (dF (fh [4] (ff (dV 3)) (eQ) (iE am 1 (dV 0)))) (aH))))
def gB(a:Ad):aj->R aO:=aJ (bv 5 (a6 (aL (om a) (gV (dV 5) (gV (dV 2) (gV (dV 6) (gO 4 (Pu.bG)))))))) (bv 6 (d2 bg (dV 6) (dC (.int 1))))
theorem P4:yau a=aJ (bv 3 (a6 (aL (kw a) (gV (dV 1) (gV (dV 2) (Pu.bG)))))) (aJ (eI 4 (pC 0 0)) (aJ (bv 5 (dF (dL bV (aw (dV 0) (aH))))) (aJ (bv 6 (dC (.int 0))) (aJ (λZ=>dN (fH gC (gB a) 1000 Z)) (gv 4))))):=rfl
def j_(g s:Tx)(w:Nat)(near:List Tx)(m:List (Tx×Int))(new:List Tx)(k:Nat):aj:=[↥g,↥s,⇑w,.val (.lst (ap near)),.own (.dK (dk m)),.val (.lst (ap new)),⇑k]
theorem Gu(g s:Tx)(w:Nat)(near:List Tx)(m:List (Tx×Int))(new:List Tx)(k:Nat):gC (j_ g s w near m new k)=.ok (!(near.map λz=>decide (z∈ks m)).any id) (j_ g s w near m new k):=by
 have hc:=nR (XM:=[4]) (dt:=eQ) (de:=iE am 1 (dV 0)) (Z:=j_ g s w near m new k) (λ_=>ai) (λx=>match x with|.str z=>.bl (decide (z∈ks m))|_=>.non) (ap near)
  (by intro x hx;obtain⟨z,_,rfl⟩:=dG.mp hx;have fM:=Bq (neg:=am) (i:=1) (db:=dV 0) (Z:=[↥z,.own (.dK (dk m))]) (z:=z) (m:=m) (cb rfl) rfl;rw[oU]at fM;generalize iE am 1 (dV 0)=D at fM ⊢;unfold j_;generalize dk m=DM at fM ⊢;exact⟨by simp[fG,fE,bQ,R.bind,aV,cu,c_,eQ,ef,eh,dX],λ_=>by simp[fG,fE,bQ,R.bind,aV,cu,c_,fM,ef,eh,dX]⟩) []
 rw[i5,qo.mpr (by simp)]at hc;have hm:(ap near).map (λx=>match x with|.str z=>PV.bl (decide (z∈ks m))|_=>.non)=(near.map λz=>decide (z∈ks m)).map .bl:=by unfold ap;rw[fK,fK];rfl
 rw[hm]at hc;have hx:dF (fh [4] (ff (dV 3)) (eQ) (iE am 1 (dV 0))) (j_ g s w near m new k)=.ok (.lst ((near.map λz=>decide (z∈ks m)).map .bl)) (j_ g s w near m new k):=by unfold dF fh;rw[yt (xs:=ap near) (cb rfl),R.bind_ok,hc];rfl
 have hany:vN [.lst ((near.map λz=>decide (z∈ks m)).map .bl)]=aa (.bl ((near.map λz=>decide (z∈ks m)).any id)):=by show(kQ _).map _=_;rw[FU];rfl
 have:=ge (gR (dJ hx gJ) hany);unfold gC j0;rw[this];rfl
theorem Iv{g s:Tx}{w D k:Nat}{m:List (Tx×Int)}{new:List Tx}(hg:Tv g w)(hs:Lv w g (D+1) s)(h:kR g w k m new):(((bA s w).map λz=>decide (z∈ks m)).any id)=decide (D<=k):=by
 rw[p8,decide_eq_true_eq,Ep,uk];constructor
 ·rintro⟨v,hv,q⟩;have hq:v∈ks m:=of_decide_eq_true q;obtain⟨i,h1,h2⟩:=Xk.mp ((h.key v).mp hq);have:=IN hg hs hv h2;lia
 ·intro hk;obtain⟨v,h1,h2⟩:=xT hg hs;exact⟨v,h2,decide_eq_true ((h.key v).mpr (Xk.mpr ⟨D,hk,h1⟩))⟩
theorem Rn(g s:Tx)(w:Nat)(ht:Tv g w)(near:List Tx)(k:Nat)(m:List (Tx×Int))(new:List Tx)(h:kR g w k m new):∃m' new',kR g w (k+1) m' new'/\gB a (j_ g s w near m new k)=.ok .next (j_ g s w near m' new' (k+1)):=by obtain⟨e,hs⟩:=Ja (a:=a) (cY g w) (JV ht) w k new (h.toBst.near ht (by have:=ht.h9;lia)) m (h.toBst.sp ht);generalize i8:(new.flatMap λu=>bA u w).foldl (sf ((k:Int)+1)) (m,[])=st at e hs;refine⟨st.1,st.2,h.next i8 hs,?_⟩;have k1:bv 5 (a6 (aL (om a) (gV (dV 5) (gV (dV 2) (gV (dV 6) (gO 4 (Pu.bG))))))) (j_ g s w near m new k)=.ok .next (j_ g s w near st.1 st.2 k) :=jL (rG (Iy (Z:=j_ g s w near m new k) (v0:=.lst (ap new)) (v1:=.int w) (v2:=.int k) (po:=.dK (dk m)) rfl rfl rfl rfl e));unfold gB;refine(cK k1).trans ?_;exact jL (dW (x:=.int k) (cb rfl) (eG _ _) (Dr k))
theorem HB(g s:Tx)(w:Nat)(ht:Tv g w)(D:Nat)(hs:Lv w g (D+1) s):∀(j k bN:Nat) (m:List (Tx×Int)) (new:List Tx),k+j=D->j<bN->kR g w k m new -> ∃m' new',kR g w D m' new'/\fH gC (gB a) bN (j_ g s w (bA s w) m new k)=.ok .next (j_ g s w (bA s w) m' new' D)
 |0,k,bN,m,new,hj,hf,h=>by
  obtain⟨f,rfl⟩:∃f,bN=f+1:=⟨bN-1,∅⟩
  have e:k=D:=∅
  subst e;have c:=Gu g s w (bA s w) m new k;rw[Iv ht hs h,decide_eq_true (bn _)]at c;exact⟨m,new,h,C1 c⟩
 |j+1,k,bN,m,new,hj,hf,h=>by
  obtain⟨f,rfl⟩:∃f,bN=f+1:=⟨bN-1,∅⟩
  have c:=Gu g s w (bA s w) m new k;rw[Iv ht hs h,decide_eq_false ∅]at c;obtain⟨m1,n1,h1,e1⟩:=Rn (a:=a) g s w ht (bA s w) k m new h;obtain⟨m2,n2,h2,e2⟩:=HB g s w ht D hs j (k+1) f m1 n1 ∅ ∅ h1;exact⟨m2,n2,h2,(B9 c e1).trans e2⟩
theorem Tj(g s:Tx)(w:Nat)(ht:Tv g w)(D:Nat)(hD:D<=20)(hs:Lv w g (D+1) s):∃m new,kR g w D m new/\qL a [↥g,↥s,⇑w]=.ok (.own (.dK (dk m))) [↥g,↥s,⇑w]:=by
 obtain⟨m,new,hb,hw⟩:=HB (a:=a) g s w ht D hs D 0 1000 [(g,0)] [g] ∅ ∅ (SD g w);refine⟨m,new,hb,?_⟩;obtain⟨s1,s2,_⟩:=hs.1.good ht;have E2:=yZ (a:=a) s w s1 (by have:=ht.h9;lia);have k0:bv 3 (a6 (aL (kw a) (gV (dV 1) (gV (dV 2) (Pu.bG))))) [↥g,↥s,⇑w,.none,.none,.none,.none]=.ok .next [↥g,↥s,⇑w,.val (.lst (ap (bA s w))),.none,.none,.none]:=jL (rG (uK (v0:=.str s) (v1:=.int w) rfl rfl E2));have k1:eI 4 (pC 0 0) [↥g,↥s,⇑w,.val (.lst (ap (bA s w))),.none,.none,.none]=.ok .next [↥g,↥s,⇑w,.val (.lst (ap (bA s w))),.own (.dK (dk [(g,0)])),.none,.none]:=rfl;have k2:bv 5 (dF (dL bV (aw (dV 0) (aH)))) [↥g,↥s,⇑w,.val (.lst (ap (bA s w))),.own (.dK (dk [(g,0)])),.none,.none]=.ok .next [↥g,↥s,⇑w,.val (.lst (ap (bA s w))),.own (.dK (dk [(g,0)])),.val (.lst (ap [g])),.none]:=rfl;have k3:bv 6 (dC (.int 0)) [↥g,↥s,⇑w,.val (.lst (ap (bA s w))),.own (.dK (dk [(g,0)])),.val (.lst (ap [g])),.none]=.ok .next (j_ g s w (bA s w) [(g,0)] [g] 0):=rfl;have fN:yau a [↥g,↥s,⇑w,.none,.none,.none,.none]=.ok (.ret (.own (.dK (dk m)))) [↥g,↥s,⇑w,.val (.lst (ap (bA s w))),.none,.val (.lst (ap new)),⇑D]:=by rw[P4];refine(cK k0).trans ?_;refine(cK k1).trans ?_;refine(cK k2).trans ?_;refine(cK k3).trans ?_;refine(cK (d1:=λZ=>dN (fH gC (gB a) 1000 Z)) (by show dN _=_;rw[hw];rfl)).trans ?_;exact sR rfl
 unfold qL;generalize yau a=DD at fN;generalize dk m=A at fN;generalize ap (bA s w)=B at fN;generalize ap new=C at fN;simp[br,eY,bu,bK,fN,back,aV,R.bind,je]
def uZ:aj->R PV:=qF bq 3 (d1 jd (dC (.int 1)))
def rC:aj->R Bool:=dB (d2 (eqT ai) uZ (dV 1))
def Cq(a:Ad):aj->R PV:=dF (fh [4] (ff (a6 (aL (kw a) (gV uZ (gV (dV 2) (Pu.bG)))))) (dB (iE am 1 (dV 0))) (dV 0))
def rB(a:Ad):aj->R aO:=aJ (bv 5 (Cq a)) (kZ 3 (qJ 5 4))
theorem SI:yaR a=aJ (kg (aL (jK a) (gV (dV 0) (gV (dV 1) (gV (dV 2) (Pu.bG)))))) (aJ (eI 3 (dL bV (aw (dV 0) (aH)))) (aJ (cN (dB (d2 (eqT am) (dV 0) (dV 1))) (gv 3) (d4)) (aJ (eI 4 (n5 (aL (qL a) (gV (dV 1) (gV (dV 0) (gV (dV 2) (Pu.bG))))))) (aJ (λZ=>dN (fH rC (rB a) 1000 Z)) (gv 3))))):=rfl
def gm(u t:Tx)(w:Nat)(way:List Tx)(m:List (Tx×Int))(s5:Slot):aj:=[↥u,↥t,⇑w,.own (.lst (ap way)),.own (.dK (dk m)),s5]
theorem JE(u t:Tx)(w:Nat)(pre:List Tx)(v:Tx)(m:List (Tx×Int))(s5:Slot):uZ (gm u t w (pre++[v]) m s5)=.ok (.str v) (gm u t w (pre++[v]) m s5):=by
 have hix:kC (ap (pre++[v])).length (-1)=aa pre.length:=by unfold kC ap;rw[dw,d_,wm,if_neg ∅,if_pos ∅];congr 1;lia
 have hat:pF (bq (.lst (ap (pre++[v]))) (.int (-1)))=aa (.str v):=by
  have:bq (.lst (ap (pre++[v]))) (.int (-1))=aa (.str v):=by show fF _ _=_;unfold fF;rw[hix];unfold ap;simp
  rw[this];rfl
 unfold uZ qF gm;generalize ap (pre++[v])=L at hat ⊢;generalize dk m=M;simp[eX,aV,R.bind,d1,dC,jd,hat]
theorem IY(u t:Tx)(w:Nat)(pre:List Tx)(v:Tx)(m:List (Tx×Int))(s5:Slot):rC (gm u t w (pre++[v]) m s5)=.ok (decide (v≠t)) (gm u t w (pre++[v]) m s5):=by have h:=dW (f:=eqT ai) (z:=.bl (decide (v≠t))) (JE u t w pre v m s5) (cb (i:=1) (v:=.str t) rfl) (by rw[vb,Bool.true_xor];congr 2;simp);exact ge h
theorem MP(u t:Tx)(w:Nat)(pre:List Tx)(v:Tx)(m:List (Tx×Int))(s5:Slot)(hv:Tv v w):Cq a (gm u t w (pre++[v]) m s5)=.ok (.lst (ap ((bA v w).filter λz=>decide (z∈ks m)))) (gm u t w (pre++[v]) m s5):=by
 have E2:=yZ (a:=a) v w hv (by have:=hv.h9;lia);have W5:aL (kw a) (gV uZ (gV (dV 2) (Pu.bG))) (gm u t w (pre++[v]) m s5)=.ok (.own (.lst (ap (bA v w)))) (gm u t w (pre++[v]) m s5):=by unfold aL;rw[fk (JE u t w pre v m s5) (fk (cb (i:=2) (v:=.int w) rfl) nW),R.bind_ok];simp[cu,c_,R.bind,aV,E2,ef,eh,dX]
 have hc:=nR (XM:=[4]) (dt:=dB (iE am 1 (dV 0))) (de:=dV 0) (Z:=gm u t w (pre++[v]) m s5) (λx=>match x with|.str z=>decide (z∈ks m)|_=>am) id (ap (bA v w))
  (by intro x hx;obtain⟨z,_,rfl⟩:=dG.mp hx;have fM:=Bq (neg:=am) (i:=1) (db:=dV 0) (Z:=[↥z,.own (.dK (dk m))]) (z:=z) (m:=m) (cb rfl) rfl;rw[oU]at fM;have E3:=ge fM;generalize dB (iE am 1 (dV 0))=D at E3 ⊢;unfold gm;generalize dk m=DM at E3 ⊢;exact⟨by simp[fG,fE,bQ,R.bind,aV,cu,c_,E3,ef,eh,dX],λ_=>by simp[fG,fE,bQ,R.bind,aV,cu,c_,dV,ef,eh,dX]⟩) []
 rw[i5,List.map_id]at hc;have hf:(ap (bA v w)).filter (λx=>match x with|.str z=>decide (z∈ks m)|_=>am)=ap ((bA v w).filter λz=>decide (z∈ks m)):=by unfold ap;rw[EE];rfl
 rw[hf]at hc;unfold Cq dF fh;rw[yt (rG W5),R.bind_ok,hc];rfl
theorem LH{t v:Tx}{w D j:Nat}{m:List (Tx×Int)}{new:List Tx}(ht:Tv t w)(h:kR t w D m new)(hj:j<=D)(hv:Lv w t (j+1) v):sF m ((bA v w).filter λz=>decide (z∈ks m))=aa (lc t w j v):=by
 have hlv:∀z,z∈ks m->∃i,bx m z=aa ((i:Nat):Int)/\Lv w t i z:=λz hz=>by obtain⟨i,h1,h2⟩:=Xk.mp ((h.key z).mp hz);exact⟨i,(h.get z _).mpr ⟨i,rfl,h1,h2⟩,h2⟩
 have qt:∀z,bx m z=aa ((j:Nat):Int)↔Lv w t j z:=λz=>by
  rw[h.get];constructor
  ·rintro⟨i,e,_,q⟩;have:j=i:=∅
   subst this;exact q
  ·exact λq=>⟨j,rfl,hj,q⟩
 have inks:∀z,Lv w t j z->z∈ks m:=λz q=>(h.key z).mpr (Xk.mpr ⟨j,hj,q⟩);rw[SQ (c:=(j:Int))]
 ·rw[←Vu (m:=m) ht hv λz _=>qt z];have:∀l:List Tx,(l.filter λz=>decide (z∈ks m)).find? (λy=>decide (bx m y=aa ((j:Nat):Int)))=l.find? λy=>decide (bx m y=aa ((j:Nat):Int)):=by
   intro l
   induction l with
   |nil=>rfl
   |cons x l ih=>
    by_cases c:x∈ks m
    ·rw[At,if_pos (decide_eq_true c),f8,f8,ih]
    ·rw[At,if_neg (by simpa using c),ih,f8,decide_eq_false λq=>c (inks x ((qt x).mp q))]
  exact this _
 ·intro y hy;obtain⟨h1,h2⟩:=nq.mp hy;obtain⟨i,e,q⟩:=hlv y (of_decide_eq_true h2);have:=IN ht hv h1 q;exact⟨i,e,∅⟩
 ·obtain⟨z,h1,h2⟩:=xT ht hv;exact⟨z,nq.mpr ⟨h2,decide_eq_true (inks z h1)⟩,(qt z).mpr h1⟩
theorem Ox(m:List (Tx×Int)):sL (dk m)=aa m:=by
 unfold dk
 induction m with
 |nil=>rfl
 |cons p m ih=>obtain⟨x,n⟩:=p;rw[eZ];show(sL _).map _=_;rw[ih];simp[tS]
theorem L9(u t:Tx)(w:Nat)(ht:Tv t w){D j:Nat}{m:List (Tx×Int)}{new:List Tx}(h:kR t w D m new)(hj:j<=D)(pre:List Tx)(v:Tx)(hl:pre.length<=100)(hv:Lv w t (j+1) v)(s5:Slot):∃s5',rB a (gm u t w (pre++[v]) m s5)=.ok .next (gm u t w ((pre++[v])++[lc t w j v]) m s5'):=by
 obtain⟨hT,hT2,_⟩:=hv.1.good ht;refine⟨.val (.lst (ap ((bA v w).filter λz=>decide (z∈ks m)))),?_⟩;unfold rB;refine(cK (jL (MP u t w pre v m s5 hT))).trans ?_;have hk:qJ 5 4 (gm u t w (pre++[v]) m (.val (.lst (ap ((bA v w).filter λz=>decide (z∈ks m))))))=.ok (.str (lc t w j v)) (gm u t w (pre++[v]) m (.val (.lst (ap ((bA v w).filter λz=>decide (z∈ks m)))))):=by have e1:=sJ ((bA v w).filter λz=>decide (z∈ks m));have e2:=Ox m;have e3:=LH ht h hj hv;unfold qJ gm;generalize (bA v w).filter (λz=>decide (z∈ks m))=L at e1 e3 ⊢;generalize ap L=TL at e1 ⊢;generalize dk m=DM at e2 ⊢;simp[e1,e2,e3,dY,aV,R.bind]
 have:=G_ (i:=3) (de:=qJ 5 4) (xs0:=ap (pre++[v])) (xs:=ap (pre++[v])) rfl hk rfl (by unfold ap;rw[dw,d_,wm];exact t8 (show pre.length+1<=101 by lia) (by decide));refine this.trans ?_;unfold gm;rw[show ap ((pre++[v])++[lc t w j v])=ap (pre++[v])++[.str (lc t w j v)] by unfold ap;rw[qg];rfl];rfl
theorem Ic(u t:Tx)(w:Nat)(ht:Tv t w){D:Nat}{m:List (Tx×Int)}{new:List Tx}(h:kR t w D m new):∀(j bN:Nat) (pre:List Tx) (v:Tx) (s5:Slot),j<=D+1->j<bN->pre.length+j<=100->Lv w t j v -> ∃s5',fH rC (rB a) bN (gm u t w (pre++[v]) m s5)=.ok .next (gm u t w (pre++lG t w j v) m s5')
 |0,bN,pre,v,s5,hj,hf,hl,hv=>by
  obtain⟨f,rfl⟩:∃f,bN=f+1:=⟨bN-1,∅⟩
  have e:v=t:=T9.mp hv;have c:=IY u t w pre v m s5;rw[decide_eq_false (λq=>q e)]at c;exact⟨s5,C1 c⟩
 |j+1,bN,pre,v,s5,hj,hf,hl,hv=>by
  obtain⟨f,rfl⟩:∃f,bN=f+1:=⟨bN-1,∅⟩
  have ne:v≠t:=λe=>by subst e;have:=xH hv (T9.mpr rfl);lia
  have c:=IY u t w pre v m s5;rw[decide_eq_true ne]at c;obtain⟨s1,e1⟩:=L9 (a:=a) u t w ht h ∅ pre v ∅ hv s5;obtain⟨s2,e2⟩:=Ic u t w ht h j f (pre++[v]) (lc t w j v) s1 ∅ ∅ (by simp;lia) (QF ht hv).1;refine⟨s2,(B9 c e1).trans (e2.trans ?_)⟩;rw[lG,kI];rfl
end
section
variable{a:Ad}
theorem Q8(neg:Bool)(w:Nat)(ls:List Tx):Pu.eqT neg (bS w ls) (bS w ls)=aa (.bl (!neg)):=by
 have d:hZ (bS w ls)<=8:=by simp[bS,hZ,iY,A9]
 have e:cD (bS w ls) (bS w ls)=aa ai:=by
  show(cD (.int w) (.int w)).bind (λa=>((cD (.tup (ap ls)) (.tup (ap ls))).bind (λa=>(aa ([]:List PV).isEmpty).map λb=>a&&b)).map λb=>a&&b)=_;have h1:cD (.int w) (.int w)=aa ai:=by show aa ((w:Int) == w)=_;simp
  have h2:cD (.tup (ap ls)) (.tup (ap ls))=aa ai:=by show gZ _ _=_;rw[AY];simp
  rw[h1,h2];rfl
 show(if hZ (bS w ls)<=8 then(cD (bS w ls) (bS w ls)).map (λk=>PV.bl (neg^^k))else ae)=_;rw[if_pos d,e];cases neg <;> rfl
theorem OF{u t:Tx}{w:Nat}(hu:Tv u w)(ht:Tv t w)(e:bp (aQ u w)=bp (aQ t w)):jK a [↥u,↥t,⇑w]=.ok (.val .non) [↥u,↥t,⇑w]:=by
 have h1:=mJ (a:=a) hu;have h2:=mJ (a:=a) ht;rw[e]at h1;have he:=Q8 ai w (bp (aQ t w));have k1:bv 3 (a6 (aL (dD a) (gV (dV 0) (gV (dV 2) (Pu.bG))))) [↥u,↥t,⇑w,.none]=.ok .next [↥u,↥t,⇑w,.val (bS w (bp (aQ t w)))]:=jL (yi (uK (v0:=.str u) (v1:=.int w) rfl rfl h1));have k2:=ge (dW (f:=eqT ai) (da:=dV 3) (db:=a6 (aL (dD a) (gV (dV 1) (gV (dV 2) (Pu.bG))))) (Z:=[↥u,↥t,⇑w,.val (bS w (bp (aQ t w)))]) (x:=bS w (bp (aQ t w))) (cb rfl) (yi (uK (v0:=.str t) (v1:=.int w) rfl rfl h2)) he);have fN:yap a [↥u,↥t,⇑w,.none]=.ok .next [↥u,↥t,⇑w,.val (bS w (bp (aQ t w)))]:=by unfold yap;refine(cK k1).trans ?_;exact lU k2
 unfold jK;generalize yap a=DD at fN;generalize bS w (bp (aQ t w))=V at fN;simp[br,eY,bu,bK,fN,back,aV,R.bind]
theorem Kg(t u:Tx)(w:Nat)(ht:Tv t w)(d:Nat)(hd:d<=20)(hu:Lv w t d u):kS a [↥u,↥t,⇑w]=.ok (.own (.lst (ap (lG t w d u)))) [↥u,↥t,⇑w]:=by
 obtain⟨g1,g2,g3⟩:=hu.1.good ht;have ha:=OF (a:=a) g1 ht (vK ((j2 _).trans g3) (zf _));have k1:kg (aL (jK a) (gV (dV 0) (gV (dV 1) (gV (dV 2) (Pu.bG))))) [↥u,↥t,⇑w,.none,.none,.none]=.ok .next [↥u,↥t,⇑w,.none,.none,.none]:=by generalize jK a=G at ha ⊢;unfold kg aL;rw[fk (cb (i:=0) (v:=.str u) rfl) (fk (cb (i:=1) (v:=.str t) rfl) (fk (cb (i:=2) (v:=.int w) rfl) nW)),R.bind_ok];simp[cu,c_,R.bind,aV,ha,ef,eh,dX]
 have k2:eI 3 (dL bV (aw (dV 0) (aH))) [↥u,↥t,⇑w,.none,.none,.none]=.ok .next [↥u,↥t,⇑w,.own (.lst (ap [u])),.none,.none]:=rfl;have wM:=ge (dW (f:=eqT am) (da:=dV 0) (db:=dV 1) (Z:=[↥u,↥t,⇑w,.own (.lst (ap [u])),.none,.none]) (x:=.str u) (y:=.str t) (cb rfl) (cb rfl) (vb am u t));rw[oU]at wM;have fN:∃s4 s5,yaR a [↥u,↥t,⇑w,.none,.none,.none]=.ok (.ret (.own (.lst (ap (lG t w d u))))) [↥u,↥t,⇑w,.none,s4,s5]:=by
  rw[SI];cases d with
  |zero=>have e:u=t:=T9.mp hu;rw[decide_eq_true e]at wM;refine⟨.none,.none,?_⟩;refine(cK k1).trans ?_;refine(cK k2).trans ?_;have k3:cN (dB (d2 (eqT am) (dV 0) (dV 1))) (gv 3) (d4) [↥u,↥t,⇑w,.own (.lst (ap [u])),.none,.none]=.ok (.ret (.own (.lst (ap [u])))) [↥u,↥t,⇑w,.none,.none,.none]:=(pK wM).trans (sR rfl);unfold aJ;rw[k3];rfl
  |succ D=>
   have ne:u≠t:=λe=>by subst e;have:=xH hu (T9.mpr rfl);lia
   rw[decide_eq_false ne]at wM;obtain⟨m,new,hb,ER⟩:=Tj (a:=a) t u w ht D ∅ hu;obtain⟨s5,hw⟩:=Ic (a:=a) u t w ht hb (D+1) 1000 [] u .none ∅ ∅ (by simp;lia) hu;rw[i5,i5]at hw;have k4:eI 4 (n5 (aL (qL a) (gV (dV 1) (gV (dV 0) (gV (dV 2) (Pu.bG)))))) [↥u,↥t,⇑w,.own (.lst (ap [u])),.none,.none]=.ok .next (gm u t w [u] m .none):=by
    generalize qL a=G at ER ⊢;unfold gm;generalize dk m=M at ER ⊢;generalize ap [u]=L;have hc:aL G (gV (dV 1) (gV (dV 0) (gV (dV 2) (Pu.bG)))) [↥u,↥t,⇑w,.own (.lst L),.none,.none]=.ok (.own (.dK M)) [↥u,↥t,⇑w,.own (.lst L),.none,.none]:=by unfold aL;rw[fk (cb (i:=1) (v:=.str t) rfl) (fk (cb (i:=0) (v:=.str u) rfl) (fk (cb (i:=2) (v:=.int w) rfl) nW)),R.bind_ok];simp[cu,c_,R.bind,aV,ER,ef,eh,dX]
    unfold eI n5;rw[hc];rfl
   refine⟨.own (.dK (dk m)),s5,?_⟩;refine(cK k1).trans ?_;refine(cK k2).trans ?_;refine(cK ((lU wM).trans rfl)).trans ?_;refine(cK k4).trans ?_;refine(cK (d1:=λZ=>dN (fH rC (rB a) 1000 Z)) (by show dN _=_;rw[hw];rfl)).trans ?_;exact sR rfl
 obtain⟨s4,s5,fN⟩:=fN;unfold kS;generalize yaR a=DD at fN;generalize ap (lG t w d u)=A at fN;simp[br,eY,bu,bK,fN,back,aV,R.bind,je]
theorem Wp(t u:Tx)(w:Nat)(ht:Tv t w)(d:Nat)(hd:d<=20)(hu:Lv w t d u):pM a [↥u,↥t,⇑w]=.ok (⇑d) [↥u,↥t,⇑w]:=by
 have hr:=Kg (a:=a) t u w ht d hd hu;have hl:bO [.lst (ap (lG t w d u))]=aa (.int ((d:Int)+1)):=by show aa (PV.int _)=_;unfold ap;rw[dw,CG];simp
 have fN:yaT a [↥u,↥t,⇑w]=.ok (.ret (⇑d)) [↥u,↥t,⇑w]:=by
  have hc:a6 (aL (kS a) (gV (dV 0) (gV (dV 1) (gV (dV 2) (Pu.bG))))) [↥u,↥t,⇑w]=.ok (.lst (ap (lG t w d u))) [↥u,↥t,⇑w]:=by refine rG ?_;generalize kS a=G at hr ⊢;generalize ap (lG t w d u)=A at hr ⊢;unfold aL;rw[fk (cb (i:=0) (v:=.str u) rfl) (fk (cb (i:=1) (v:=.str t) rfl) (fk (cb (i:=2) (v:=.int w) rfl) nW)),R.bind_ok];simp[cu,c_,R.bind,aV,hr,ef,eh,dX]
  have:=dW (f:=eB) (z:=.int d) (gR (dJ hc gJ) hl) (eG (.int 1) _) (by show aa (PV.int _)=_;congr 2;lia);unfold yaT cP;rw[this];rfl
 unfold pM;generalize yaT a=DD at fN;simp[br,eY,bu,bK,fN,back,aV,R.bind]
theorem Pj{t:Tx}{w:Nat}(h:Tv t w):ot a [↥t,⇑w]=.ok (.val (bS w (bp (aQ t w)))) [↥t,⇑w]:=by have e:=mJ (a:=a) h;generalize bS w (bp (aQ t w))=V at e;simp![ot,yaY,e]
theorem MJ{t z:Tx}{w:Nat}(ht:Tv t w)(h:z∈cY t w):∃d,d<=10/\Lv w t d z:=by obtain⟨d,h1,h2⟩:=Xk.mp (CI ht z h);exact⟨d,h1,h2⟩
end
structure Vd where
 w:Nat
 ls:List Tx
def tx(v:Vd):List Tx:=kW v.w v.ls
end Sh
namespace K21
open L2 Pu Mx Sh
section
variable{a:Ad}
theorem O5{x:PV}(h:ke a [.val x,⇑12]=.ok (.val (.bl am)) [.val x,⇑12]):pV a [.val x]=.er (.ref a.NoText) [.val x]:=by simp![pV,yaq,h,lK,bQ]
theorem AV{x:PV}{t:String}(h:tQ x=aa t)(e:gA [] (.type t) (.type "str")=aa am):ke a [.val x,⇑12]=.ok (.val (.bl am)) [.val x,⇑12]:=by have k1:=jg (T:="str") h e;simp![ke,yaB,k1]
theorem JY{z:Tx}(h:z.length=0\/12<z.length):ke a [↥z,⇑12]=.ok (.val (.bl am)) [↥z,⇑12]:=by
 have k1:dZ [.str z,.raw (.ty "str")]=aa (.bl ai):=jg rfl yD;have hl:bO [.str z]=aa (.int (z.length:Nat)):=rfl;by_cases c1:(1:Int)<=(z.length:Nat)
 ·have c2:¬((z.length:Nat):Int)<=12:=∅
  simp![ke,yaB,k1,hl,c1,c2]
 ·simp![ke,yaB,k1,hl,c1]
theorem Ww{z:Tx}(h:z.all dQ.contains=am):ke a [↥z,⇑12]=.ok (.val (.bl am)) [↥z,⇑12]:=by
 have k1:dZ [.str z,.raw (.ty "str")]=aa (.bl ai):=jg rfl yD;have hl:bO [.str z]=aa (.int (z.length:Nat)):=rfl;have hh:=BU (a:=a) z dQ;rw[h]at hh;simp only[dQ]at hh;by_cases c1:(1:Int)<=(z.length:Nat)
 ·by_cases c2:((z.length:Nat):Int)<=12
  ·simp![ke,yaB,k1,hl,c1,c2,hh]
  ·simp![ke,yaB,k1,hl,c1,c2]
 ·simp![ke,yaB,k1,hl,c1]
def nN:List PV:=[.non,.str [],.str [97,98,100],.int 5,.str (bK 13 97),.tup [.str [97]]]
theorem Ux:∀x∈nN,pV a [.val x]=.er (.ref a.NoText) [.val x]:=λx hx=>by
 refine O5 ?_;simp only[nN,b8,ju,or_false]at hx;rcases hx with rfl|rfl|rfl|rfl|rfl|rfl
 ·exact AV (t:="NoneType") rfl (by decide +kernel)
 ·exact JY (.inl rfl)
 ·exact Ww (by decide)
 ·exact AV (t:="int") rfl (by decide +kernel)
 ·exact JY (.inr (by decide))
 ·exact AV (t:="tuple") rfl (by decide +kernel)
def ph:List PV:=[.int 0,.int 5,.bl ai,.non,.str [50]]
theorem NL{x:PV}(h:m_ a [.val x]=.ok (.val (.bl am)) [.val x]):pT a [.val x]=.er (.ref a.NoWidth) [.val x]:=by simp![pT,yas,h,lK,bQ]
theorem Sn:lF a [.val .non]=.ok (.val (.bl am)) [.val .non]:=by have h1:dZ [.non,.raw (.ty "int")]=aa (.bl am):=jg (t:="NoneType") rfl (by decide +kernel);simp![lF,yaE,h1]
theorem Uv:∀x∈ph,pT a [.val x]=.er (.ref a.NoWidth) [.val x]:=λx hx=>by
 refine NL ?_;simp only[ph,b8,ju,or_false]at hx;rcases hx with rfl|rfl|rfl|rfl|rfl
 ·exact(ye (a:=a) 0).trans (by rfl)
 ·exact(ye (a:=a) 5).trans (by rfl)
 ·exact BW (NE ai)
 ·exact BW Sn
 ·exact BW (OB [50])
theorem Uk{w:Nat}{ls:List Tx}(h:ls.length=0\/9<ls.length):rF a [⇑w,.val (.lst (ap ls))]=.er (.ref a.NoView) [⇑w,.val (.lst (ap ls))]:=by
 have hl:bO [.lst (ap ls)]=aa (.int (ls.length:Nat)):=by simp[bO,iV]
 by_cases c1:(1:Int)<=(ls.length:Nat)
 ·have c2:¬((ls.length:Nat):Int)<=9:=∅
  generalize ap ls=L at hl ⊢;generalize ((ls.length:Nat):Int)=n at hl c1 c2;simp![rF,yaZ,hl,c1,c2,lK,bQ]
 ·generalize ap ls=L at hl ⊢;generalize ((ls.length:Nat):Int)=n at hl c1;simp![rF,yaZ,hl,c1,lK,bQ]
theorem Ng{t:Tx}{w:Nat}(h:t.length+1<w)(w4:w<=4):oq a [↥t,⇑w]=.ok (.own (.lst (ap []))) [↥t,⇑w]:=by
 have hl:bO [.str t]=aa (.int (t.length:Nat)):=rfl;have hs:eB (.int (t.length:Nat)) (.int w)=aa (.int ((t.length:Int)-w)):=rfl;have ha:bg (.int ((t.length:Int)-w)) (.int 1)=aa (.int ((t.length:Int)-w+1)):=rfl;have hr:jF [.int ((t.length:Int)-w+1)]=aa []:=by show(if _ then aa (gb 0 _)else ae)=_;rw[if_pos ∅,show((t.length:Int)-w+1).toNat=0 by lia];rfl
 show _=R.ok (Slot.own (PO.lst [])) _;generalize (t.length:Int)-w+1=n at ha hr;generalize (t.length:Int)-w=m at hs ha;simp![oq,yaQ,lD,fh,lV,hl,hs,ha,hr]
theorem Ri{t:Tx}{w:Nat}(h1:1<=t.length)(h2:t.length<=12)(hc:∀c∈t,c∈dQ)(w1:1<=w)(w4:w<=4)(h:¬Tv t w):dD a [↥t,⇑w]=.er (.ref a.NoView) [↥t,⇑w]:=by
 have e1:=AE (a:=a) h1 h2 hc;have e2:=JC (a:=a) w1 w4;have h':t.length<w\/w+9<t.length+1:=by
  by_cases q1:w<=t.length
  ·by_cases q2:t.length+1<=w+9
   ·exact absurd ⟨w1,w4,q1,q2,hc⟩ h
   ·exact .inr ∅
  ·exact .inl ∅
 obtain⟨ls,hp,hl⟩:∃ls:List Tx,oq a [↥t,⇑w]=.ok (.own (.lst (ap ls))) [↥t,⇑w]/\(ls.length=0\/9<ls.length):=by
  by_cases q:w<=t.length+1
  ·refine⟨aQ t w,Hm w1 q ∅,?_⟩;rw[←yc w1,tw];lia
  ·exact⟨[],Ng ∅ w4,.inl rfl⟩
 have e3:=Uk (a:=a) (w:=w) hl;generalize ap ls=L at hp e3;simp![dD,yaU,e1,e2,hp,e3]
theorem TN{x y:PV}(h:pV a [.val x]=.er (.ref a.NoText) [.val x]):dD a [.val x,.val y]=.er (.ref a.NoText) [.val x,.val y]:=by simp![dD,yaU,h]
theorem Ub{t:Tx}{y:PV}(h1:1<=t.length)(h2:t.length<=12)(hc:∀c∈t,c∈dQ)(h:pT a [.val y]=.er (.ref a.NoWidth) [.val y]):dD a [↥t,.val y]=.er (.ref a.NoWidth) [↥t,.val y]:=by have e1:=AE (a:=a) h1 h2 hc;simp![dD,yaU,e1,h]
def pR(x:PV):Prop:=(∃t:Tx,x=.str t/\1<=t.length/\t.length<=12/\∀c∈t,c∈dQ)\/x∈nN
def Cc(y:PV):Prop:=(∃w:Nat,y=.int w/\1<=w/\w<=4)\/y∈ph
inductive vr(a:Ad):ah->Int->Prop
 |t:vr a a.NoText 0
 |w:vr a a.NoWidth 1
 |v:vr a a.NoView 2
theorem Gr{x y:PV}(hx:pR x)(hy:Cc y):(∃(t:Tx) (w:Nat),x=.str t/\y=.int w/\Tv t w)\/∃c n,vr a c n/\dD a [.val x,.val y]=.er (.ref c) [.val x,.val y]:=by
 rcases hx with⟨t,rfl,h1,h2,hc⟩|hx
 ·rcases hy with⟨w,rfl,w1,w4⟩|hy
  ·by_cases q:Tv t w
   ·exact .inl ⟨t,w,rfl,rfl,q⟩
   ·exact .inr ⟨_,_,.v,Ri h1 h2 hc w1 w4 q⟩
  ·exact .inr ⟨_,_,.w,Ub h1 h2 hc (Uv y hy)⟩
 ·exact .inr ⟨_,_,.t,TN (Ux x hx)⟩
section
variable{x o y:PV}{c:ak}
theorem O3(h:dD a [.val x,.val y]=.er c [.val x,.val y]):ot a [.val x,.val y]=.er c [.val x,.val y]:=by simp![ot,yaY,h]
theorem Ps(h:dD a [.val x,.val y]=.er c [.val x,.val y]):pQ a [.val x,.val y]=.er c [.val x,.val y]:=by simp![pQ,yav,h]
theorem U_(h:dD a [.val x,.val y]=.er c [.val x,.val y]):pc a [.val x,.val y]=.er c [.val x,.val y]:=by
 have hb:yay a [.val x,.val y,.none,.none,.none,.none]=.er c [.val x,.val y,.none,.none,.none,.none]:=by
  unfold yay aJ;have:bv 2 (a6 (aL (pG a) (gV (a6 (aL (dD a) (gV (dV 0) (gV (dV 1) (Pu.bG))))) (Pu.bG)))) [.val x,.val y,.none,.none,.none,.none]=.er c [.val x,.val y,.none,.none,.none,.none]:=by simp![h]
  rw[this]
 unfold pc;generalize yay a=D at hb;simp[br,eY,bu,bK,hb,back,aV,R.bind]
theorem P_(h:dD a [.val x,.val y]=.er c [.val x,.val y]):mM a [.val x,.val o,.val y]=.er c [.val x,.val o,.val y]:=by simp![mM,yan,h]
theorem UG(h:dD a [.val x,.val y]=.er c [.val x,.val y]):jK a [.val x,.val o,.val y]=.er c [.val x,.val o,.val y]:=by simp![jK,yap,h]
theorem AW(h:jK a [.val x,.val o,.val y]=.er c [.val x,.val o,.val y]):kS a [.val x,.val o,.val y]=.er c [.val x,.val o,.val y]:=by
 have hb:yaR a [.val x,.val o,.val y,.none,.none,.none]=.er c [.val x,.val o,.val y,.none,.none,.none]:=by
  unfold yaR aJ;have:kg (aL (jK a) (gV (dV 0) (gV (dV 1) (gV (dV 2) (Pu.bG))))) [.val x,.val o,.val y,.none,.none,.none]=.er c [.val x,.val o,.val y,.none,.none,.none]:=by simp![h]
  rw[this]
 unfold kS;generalize yaR a=D at hb;simp[br,eY,bu,bK,hb,back,aV,R.bind]
theorem A0(h:kS a [.val x,.val o,.val y]=.er c [.val x,.val o,.val y]):pM a [.val x,.val o,.val y]=.er c [.val x,.val o,.val y]:=by simp![pM,yaT,h]
theorem Tp{V:PV}(h:dD a [.val x,.val y]=.ok (.val V) [.val x,.val y])(h2:dD a [.val o,.val y]=.er c [.val o,.val y]):mM a [.val x,.val o,.val y]=.er c [.val x,.val o,.val y]:=by simp![mM,yan,h,h2]
theorem QC{V:PV}(h:dD a [.val x,.val y]=.ok (.val V) [.val x,.val y])(h2:dD a [.val o,.val y]=.er c [.val o,.val y]):jK a [.val x,.val o,.val y]=.er c [.val x,.val o,.val y]:=by simp![jK,yap,h,h2]
end
end
section
variable{a:Ad}
def rf(n:Int):PV:=.tup [.str [114,101,102,117,115,101,100],.int n]
def Wh(a:Ad):Prop:=[lX a [.val (.exc (.ref a.NoText))],lX a [.val (.exc (.ref a.NoWidth))],lX a [.val (.exc (.ref a.NoView))],lX a [.val (.exc (.ref a.Unlike))]] =
 [.ok (.val (rf 0)) [.val (.exc (.ref a.NoText))],.ok (.val (rf 1)) [.val (.exc (.ref a.NoWidth))],.ok (.val (rf 2)) [.val (.exc (.ref a.NoView))],.ok (.val (rf 7)) [.val (.exc (.ref a.Unlike))]]
theorem Xs (h:[lX a [.val (.exc (.ref a.NoText))],lX a [.val (.exc (.ref a.NoWidth))],lX a [.val (.exc (.ref a.NoView))],lX a [.val (.exc (.ref a.Unlike))]]=[.ok (.val (rf 0)) [.val (.exc (.ref a.NoText))],.ok (.val (rf 1)) [.val (.exc (.ref a.NoWidth))],.ok (.val (rf 2)) [.val (.exc (.ref a.NoView))],.ok (.val (rf 7)) [.val (.exc (.ref a.Unlike))]]):Wh a:=h
def pB(a:Ad)(c:ah)(n:Int):Prop:=nO a (.ref c)=ai/\lX a [.val (.exc (.ref c))]=.ok (.val (rf n)) [.val (.exc (.ref c))]
theorem Fi(h:Wh a){c:ah}{n:Int}(r:vr a c n):pB a c n:=by
 unfold Wh at h;simp only[rY,and_true]at h;cases r
 ·exact⟨by simp[nO,g8],h.1⟩
 ·exact⟨by simp[nO,g8],h.2.1⟩
 ·exact⟨by simp[nO,g8],h.2.2.1⟩
theorem JW(h:Wh a):pB a a.Unlike 7:=by unfold Wh at h;simp only[rY,and_true]at h;exact⟨by simp[nO,g8],h.2.2.2⟩
section
variable{x o y:PV}{c:ah}{n:Int}{s:Slot}
theorem Fj(h:mM a [.val x,.val o,.val y]=.ok s [.val x,.val o,.val y]):cT a [⇑0,.val x,.val o,.val y]=.ok s [⇑0,.val x,.val o,.val y]:=by have l:eP (λi j=>decide (i<j)) (.int 0) (.int 3)=aa (.bl ai):=rfl;simp![cT,yaI,jI,jM,jh,gu,bQ,l,h]
theorem Iz(w:pB a c n)(h:mM a [.val x,.val o,.val y]=.er (.ref c) [.val x,.val o,.val y]):cT a [⇑0,.val x,.val o,.val y]=.ok (.val (rf n)) [⇑0,.val x,.val o,.val y]:=by obtain⟨w1,w2⟩:=w;have l:eP (λi j=>decide (i<j)) (.int 0) (.int 3)=aa (.bl ai):=rfl;generalize rf n=RF at w2 ⊢;simp![cT,yaI,jI,jM,jh,gu,bQ,l,h,w1,w2]
theorem Qn(h:kS a [.val x,.val o,.val y]=.ok s [.val x,.val o,.val y]):cT a [⇑1,.val x,.val o,.val y]=.ok s [⇑1,.val x,.val o,.val y]:=by have l:eP (λi j=>decide (i<j)) (.int 1) (.int 3)=aa (.bl ai):=rfl;simp![cT,yaI,jI,jM,jh,gu,bQ,l,h]
theorem BD(w:pB a c n)(h:kS a [.val x,.val o,.val y]=.er (.ref c) [.val x,.val o,.val y]):cT a [⇑1,.val x,.val o,.val y]=.ok (.val (rf n)) [⇑1,.val x,.val o,.val y]:=by obtain⟨w1,w2⟩:=w;have l:eP (λi j=>decide (i<j)) (.int 1) (.int 3)=aa (.bl ai):=rfl;generalize rf n=RF at w2 ⊢;simp![cT,yaI,jI,jM,jh,gu,bQ,l,h,w1,w2]
theorem RB(h:pM a [.val x,.val o,.val y]=.ok s [.val x,.val o,.val y]):cT a [⇑2,.val x,.val o,.val y]=.ok s [⇑2,.val x,.val o,.val y]:=by have l:eP (λi j=>decide (i<j)) (.int 2) (.int 3)=aa (.bl ai):=rfl;simp![cT,yaI,jI,jM,jh,gu,bQ,l,h]
theorem Ce(w:pB a c n)(h:pM a [.val x,.val o,.val y]=.er (.ref c) [.val x,.val o,.val y]):cT a [⇑2,.val x,.val o,.val y]=.ok (.val (rf n)) [⇑2,.val x,.val o,.val y]:=by obtain⟨w1,w2⟩:=w;have l:eP (λi j=>decide (i<j)) (.int 2) (.int 3)=aa (.bl ai):=rfl;generalize rf n=RF at w2 ⊢;simp![cT,yaI,jI,jM,jh,gu,bQ,l,h,w1,w2]
theorem Cj(h:ot a [.val x,.val y]=.ok s [.val x,.val y]):cT a [⇑3,.val x,.val o,.val y]=.ok s [⇑3,.val x,.val o,.val y]:=by have l:eP (λi j=>decide (i<j)) (.int 3) (.int 3)=aa (.bl am):=rfl;have m:eB (.int 3) (.int 3)=aa (.int 0):=rfl;simp![cT,yaI,jI,jM,jh,gu,bQ,l,m,h]
theorem Tk(w:pB a c n)(h:ot a [.val x,.val y]=.er (.ref c) [.val x,.val y]):cT a [⇑3,.val x,.val o,.val y]=.ok (.val (rf n)) [⇑3,.val x,.val o,.val y]:=by obtain⟨w1,w2⟩:=w;have l:eP (λi j=>decide (i<j)) (.int 3) (.int 3)=aa (.bl am):=rfl;have m:eB (.int 3) (.int 3)=aa (.int 0):=rfl;generalize rf n=RF at w2 ⊢;simp![cT,yaI,jI,jM,jh,gu,bQ,l,m,h,w1,w2]
theorem Bt(h:pQ a [.val x,.val y]=.ok s [.val x,.val y]):cT a [⇑4,.val x,.val o,.val y]=.ok s [⇑4,.val x,.val o,.val y]:=by have l:eP (λi j=>decide (i<j)) (.int 4) (.int 3)=aa (.bl am):=rfl;have m:eB (.int 4) (.int 3)=aa (.int 1):=rfl;simp![cT,yaI,jI,jM,jh,gu,bQ,l,m,h]
theorem U6(w:pB a c n)(h:pQ a [.val x,.val y]=.er (.ref c) [.val x,.val y]):cT a [⇑4,.val x,.val o,.val y]=.ok (.val (rf n)) [⇑4,.val x,.val o,.val y]:=by obtain⟨w1,w2⟩:=w;have l:eP (λi j=>decide (i<j)) (.int 4) (.int 3)=aa (.bl am):=rfl;have m:eB (.int 4) (.int 3)=aa (.int 1):=rfl;generalize rf n=RF at w2 ⊢;simp![cT,yaI,jI,jM,jh,gu,bQ,l,m,h,w1,w2]
theorem CV(h:pc a [.val x,.val y]=.ok s [.val x,.val y]):cT a [⇑5,.val x,.val o,.val y]=.ok s [⇑5,.val x,.val o,.val y]:=by have l:eP (λi j=>decide (i<j)) (.int 5) (.int 3)=aa (.bl am):=rfl;have m:eB (.int 5) (.int 3)=aa (.int 2):=rfl;simp![cT,yaI,jI,jM,jh,gu,bQ,l,m,h]
theorem Mc(w:pB a c n)(h:pc a [.val x,.val y]=.er (.ref c) [.val x,.val y]):cT a [⇑5,.val x,.val o,.val y]=.ok (.val (rf n)) [⇑5,.val x,.val o,.val y]:=by obtain⟨w1,w2⟩:=w;have l:eP (λi j=>decide (i<j)) (.int 5) (.int 3)=aa (.bl am):=rfl;have m:eB (.int 5) (.int 3)=aa (.int 2):=rfl;generalize rf n=RF at w2 ⊢;simp![cT,yaI,jI,jM,jh,gu,bQ,l,m,h,w1,w2]
end
def Told(a:Ad)(x o y:PV)(L:List PV):Prop:=L.length=6/\∀k:Nat,k<6->∃s v,cT a [⇑k,.val x,.val o,.val y]=.ok s [⇑k,.val x,.val o,.val y]/\m9 s=aa v/\L[k]?=aa v
theorem xY{x o y:PV}{s0 s1 s2 s3 s4 s5:Slot}{v0 v1 v2 v3 v4 v5:PV}(h0:cT a [⇑0,.val x,.val o,.val y]=.ok s0 [⇑0,.val x,.val o,.val y])(h1:cT a [⇑1,.val x,.val o,.val y]=.ok s1 [⇑1,.val x,.val o,.val y])(h2:cT a [⇑2,.val x,.val o,.val y]=.ok s2 [⇑2,.val x,.val o,.val y]) (h3:cT a [⇑3,.val x,.val o,.val y]=.ok s3 [⇑3,.val x,.val o,.val y])(h4:cT a [⇑4,.val x,.val o,.val y]=.ok s4 [⇑4,.val x,.val o,.val y]) (h5:cT a [⇑5,.val x,.val o,.val y]=.ok s5 [⇑5,.val x,.val o,.val y])(f0:m9 s0=aa v0) (f1:m9 s1=aa v1) (f2:m9 s2=aa v2) (f3:m9 s3=aa v3) (f4:m9 s4=aa v4) (f5:m9 s5=aa v5):Told a x o y [v0,v1,v2,v3,v4,v5]:=⟨rfl,λk hk=>by
 match k,hk with
 |0,_=>exact⟨s0,v0,h0,f0,rfl⟩
 |1,_=>exact⟨s1,v1,h1,f1,rfl⟩
 |2,_=>exact⟨s2,v2,h2,f2,rfl⟩
 |3,_=>exact⟨s3,v3,h3,f3,rfl⟩
 |4,_=>exact⟨s4,v4,h4,f4,rfl⟩
 |5,_=>exact⟨s5,v5,h5,f5,rfl⟩⟩
theorem P7{G:aj->R Slot}{Z:aj}{v0 v1 v2 v3:PV}{r:Slot}(h0:Z[0]?=aa (.val v0))(h1:Z[1]?=aa (.val v1))(h2:Z[2]?=aa (.val v2))(h3:Z[3]?=aa (.val v3))(hg:G [.val v0,.val v1,.val v2,.val v3]=.ok r [.val v0,.val v1,.val v2,.val v3]):aL G (gV (dV 0) (gV (dV 1) (gV (dV 2) (gV (dV 3) (Pu.bG))))) Z=.ok r Z:=by unfold aL;rw[fk (cb h0) (fk (cb h1) (fk (cb h2) (fk (cb h3) nW))),R.bind_ok];simp[cu,c_,R.bind,aV,hg,ef,eh,dX]
def tC(a:Ad):aj->R PV:=dF (fh [5,6,4] (dL jF (aw (dC (.int 6)) (aH))) (eQ) (a6 (aL (cT a) (gV (dV 0) (gV (dV 1) (gV (dV 2) (gV (dV 3) (Pu.bG))))))))
theorem Up{Z:aj}{x o y:PV}{L:List PV}(h5:Z[5]?=aa (.val x))(h6:Z[6]?=aa (.val o))(h4:Z[4]?=aa (.val y))(h:Told a x o y L):tC a Z=.ok (.lst L) Z:=by
 have hr:jF [.int 6]=aa (gb 0 6):=y8 (n:=6) ∅;have hc:=nR (XM:=[5,6,4]) (dt:=eQ) (de:=(a6 (aL (cT a) (gV (dV 0) (gV (dV 1) (gV (dV 2) (gV (dV 3) (Pu.bG)))))))) (Z:=Z) (λ_=>ai) (λx=>match x with|.int k=>(L[k.toNat]?).getD .non|_=>.non) (gb 0 6)
  (by
   intro z hz;obtain⟨k,hk,rfl⟩:=dG.mp hz;have hk6:k<6:=by simpa using hk
   obtain⟨s,v,e1,e2,e3⟩:=h.2 k hk6;have hb:a6 (aL (cT a) (gV (dV 0) (gV (dV 1) (gV (dV 2) (gV (dV 3) (Pu.bG)))))) [⇑k,.val x,.val o,.val y]=.ok v [⇑k,.val x,.val o,.val y]:=by unfold a6;rw[P7 (v0:=.int k) (v1:=x) (v2:=o) (v3:=y) rfl rfl rfl rfl e1,R.bind_ok,e2];rfl
   have hv:(L[((0:Int)+(k:Nat)).toNat]?).getD .non=v:=by rw[show((0:Int)+(k:Nat)).toNat=k by lia,e3];rfl
   refine⟨by simp![fG,fE,bQ,eQ,h5,h6,h4],λ_=>?_⟩;show bQ (fG _ _ (PV.int ((0:Int)+(k:Nat))) Z)=.ok ((L[((0:Int)+(k:Nat)).toNat]?).getD .non) Z;rw[hv,Int.zero_add];generalize a6 (aL (cT a) (gV (dV 0) (gV (dV 1) (gV (dV 2) (gV (dV 3) (Pu.bG))))))=D at hb;simp[fG,fE,bQ,h5,h6,h4,R.bind,aV,cu,c_,hb,ef,eh,dX]) []
 have he:((gb 0 6).filter (λ_=>ai)).map (λx=>match x with|.int k=>(L[k.toNat]?).getD PV.non|_=>.non)=L:=by
  rw[qo.mpr (by simp)];obtain⟨hl,_⟩:=h
  match L,hl with
  |[_,_,_,_,_,_],_=>rfl
 rw[i5,he]at hc;have:fh [5,6,4] (dL jF (aw (dC (.int 6)) (aH))) (eQ) (a6 (aL (cT a) (gV (dV 0) (gV (dV 1) (gV (dV 2) (gV (dV 3) (Pu.bG))))))) Z=.ok (.lst L) Z:=by unfold fh;rw[gR (dJ (eG (.int 6) Z) gJ) hr,R.bind_ok,hc];rfl
 unfold tC dF;rw[this];rfl
end
section
variable{a:Ad}
def q1:aj->R Bool:=uU (dB (dL dZ (aw (d2 bq (dV 7) (dC (.int 3))) (aw (dC (.raw (.ty "tuple"))) (aH))))) (dB (d2 (eqT am) (d2 bq (d2 bq (dV 7) (dC (.int 3))) (dC (.int 0))) (dC (.str [114,101,102,117,115,101,100]))))
def q2:aj->R Bool:=dB (d2 (pA am) (d2 bq (dV 7) (dC (.int 0))) (dC (.bl am)))
def q3:aj->R Bool:=dB (d2 (pA ai) (d2 bq (dV 7) (dC (.int 0))) (dC (.bl ai)))
def fin:aj->R aO:=aJ (cN q1 (cP (d2 (eqT am) (dV 7) (d2 mX (dF (dL bV (aw (d2 bq (dV 7) (dC (.int 3))) (aH)))) (dC (.int 6))))) (d4))
 (aJ (cN q2 (cP (j1 (d2 (eqT am) (cx cq (dV 7) (bB (dC (.int 1))) (bB (dC (.int 3)))) (d2 mX (dF (dL bV (aw (dL jj (aw (dC (.str [114,101,102,117,115,101,100])) (aw (dC (.int 7)) (aH)))) (aH)))) (dC (.int 2)))) (dL dZ (aw (d2 bq (dV 7) (dC (.int 4))) (aw (dC (.raw (.ty "list"))) (aH)))))) (d4))
 (aJ (cN q3 (cP (d2 (eqT am) (cx cq (dV 7) (bB (dC (.int 1))) (bB (dC (.int 3)))) (d2 mX (dF (dL bV (aw (d2 bq (dV 7) (dC (.int 0))) (aH)))) (dC (.int 2))))) (d4))
 (cP (j1 (dL dZ (aw (d2 bq (dV 7) (dC (.int 1))) (aw (dC (.raw (.ty "list"))) (aH)))) (d2 (eqT am) (d2 bq (dV 7) (dC (.int 2))) (d2 eB (dL bO (aw (d2 bq (dV 7) (dC (.int 1))) (aH))) (dC (.int 1))))))))
theorem Pe{n:Int}(h:n=0\/n=1\/n=2):Pu.eqT am (.lst [rf n,rf n,rf n,rf n,rf n,rf n]) (.lst [rf n,rf n,rf n,rf n,rf n,rf n])=aa (.bl ai):=by rcases h with rfl|rfl|rfl <;> rfl
theorem HC{n:Int}(h:n=0\/n=1\/n=2\/n=7):Pu.eqT am (.lst [rf n,rf n]) (.lst [rf n,rf n])=aa (.bl ai):=by rcases h with rfl|rfl|rfl|rfl <;> rfl
def uL(L:List PV):Prop:=∀Z:aj,Z[7]?=aa (.val (.lst L))->fin Z=.ok (.ret (.val (.bl ai))) Z
theorem J9(xs:List PV):dZ [.tup xs,.raw (.ty "tuple")]=aa (.bl ai):=jg rfl xU
theorem Jr(xs:List PV):dZ [.lst xs,.raw (.ty "list")]=aa (.bl ai):=jg (t:="list") rfl (by decide +kernel)
theorem jB{Z:aj}{L:List PV}{k:Int}{v:PV}(h:Z[7]?=aa (.val (.lst L)))(hk:bq (.lst L) (.int k)=aa v):d2 bq (dV 7) (dC (.int k)) Z=.ok v Z:=dW (cb h) (eG _ _) hk
theorem Gi{Z:aj}{v0 v1 v2 v3 v4 v5:PV}(h:Z[7]?=aa (.val (.lst [v0,v1,v2,v3,v4,v5]))):cx cq (dV 7) (bB (dC (.int 1))) (bB (dC (.int 3))) Z=.ok (.lst [v1,v2]) Z:=by unfold cx;rw[cb h,R.bind_ok,show bB (dC (.int 1)) Z=.ok (aa 1) Z from rfl,R.bind_ok,show bB (dC (.int 3)) Z=.ok (aa 3) Z from rfl,R.bind_ok];rfl
theorem Bn{Z:aj}{d:aj->R PV}{v:PV}(k:Nat)(k1:1<=k)(k9:k<=9)(hd:d Z=.ok v Z):d2 mX (dF (dL bV (aw d (aH)))) (dC (.int k)) Z=.ok (.lst (bK k v)) Z:=by
 have h1:dF (dL bV (aw d (aH))) Z=.ok (.lst [v]) Z:=by unfold dF;rw[gR (f:=bV) (dJ hd gJ) rfl];rfl
 refine dW h1 (eG _ _) ?_;show(if [v]≠[]/\1<=((k:Nat):Int)/\((k:Nat):Int)<=1000/\[v].length<=1000 then aa (PV.lst (bK ((k:Nat):Int).toNat [v]).flatten)else ae)=_;rw[if_pos ⟨by simp,∅,∅,by simp⟩,nA];congr 2;clear k1 k9
 induction k with
 |zero=>rfl
 |succ k ih=>rw[ml,qb,ih,ml];rfl
theorem yY{d:aj->R PV}{Z:aj}(h:d Z=.ok (.bl ai) Z):cP d Z=.ok (.ret (.val (.bl ai))) Z:=by unfold cP;rw[h];rfl
theorem Dt{d1 d2:aj->R aO}{Z dM:aj}{s:Slot}(h:d1 Z=.ok (.ret s) dM):aJ d1 d2 Z=.ok (.ret s) dM:=by unfold aJ;rw[h]
theorem PZ{Z:aj}{n:Int}{v0 v1 v2 v4 v5:PV}(h:Z[7]?=aa (.val (.lst [v0,v1,v2,rf n,v4,v5]))):q1 Z=.ok ai Z:=by unfold q1 uU;rw[ge (gR (dJ (jB h rfl) (dJ (eG _ _) gJ)) (J9 _)),R.bind_ok];exact ge (dW (dW (jB h rfl) (eG _ _) rfl) (eG _ _) rfl)
theorem CA{Z:aj}{w:Nat}{ls:List Tx}{v0 v1 v2 v4 v5:PV}(h:Z[7]?=aa (.val (.lst [v0,v1,v2,bS w ls,v4,v5]))):q1 Z=.ok am Z:=by unfold q1 uU;rw[ge (gR (dJ (jB h rfl) (dJ (eG _ _) gJ)) (J9 _)),R.bind_ok];exact ge (dW (dW (jB h rfl) (eG _ _) rfl) (eG _ _) rfl)
theorem SN{n:Int}(hn:n=0\/n=1\/n=2):uL [rf n,rf n,rf n,rf n,rf n,rf n]:=λZ h=>by unfold fin;refine Dt ((pK (PZ h)).trans (yY ?_));exact dW (cb h) (Bn 6 (by decide) (by decide) (jB h rfl)) (Pe hn)
theorem O_{n:Int}(hn:n=0\/n=1\/n=2){w:Nat}{ls:List Tx}{v4 v5:PV}:uL [rf n,rf n,rf n,bS w ls,v4,v5]:=λZ h=>by unfold fin;refine(cK (lU (CA h))).trans ?_;refine(cK (lU (show q2 Z=.ok am Z from ge (dW (jB h rfl) (eG _ _) rfl)))).trans ?_;refine Dt ((pK (show q3 Z=.ok ai Z from ge (dW (jB h rfl) (eG _ _) rfl))).trans (yY ?_));exact dW (Gi h) (Bn 2 (by decide) (by decide) (jB h rfl)) (HC ∅)
theorem Ry{w:Nat}{ls:List Tx}{xs:List PV}{v5:PV}:uL [.bl am,rf 7,rf 7,bS w ls,.lst xs,v5]:=λZ h=>by unfold fin;refine(cK (lU (CA h))).trans ?_;refine Dt ((pK (show q2 Z=.ok ai Z from ge (dW (jB h rfl) (eG _ _) rfl))).trans (yY ?_));unfold j1;have hm:d2 mX (dF (dL bV (aw (dL jj (aw (dC (.str [114,101,102,117,115,101,100])) (aw (dC (.int 7)) (aH)))) (aH)))) (dC (.int 2)) Z=.ok (.lst [rf 7,rf 7]) Z:=Bn 2 (by decide) (by decide) (gR (f:=jj) (dJ (eG _ _) (dJ (eG _ _) gJ)) rfl);rw[ge (dW (Gi h) hm (HC (n:=7) ∅)),R.bind_ok];exact gR (dJ (jB h rfl) (dJ (eG _ _) gJ)) (Jr _)
theorem Sv{w:Nat}{ls:List Tx}{xs:List PV}{d:Nat}(hd:xs.length=d+1){v4 v5:PV}:uL [.bl ai,.lst xs,.int d,bS w ls,v4,v5]:=λZ h=>by
 unfold fin;refine(cK (lU (CA h))).trans ?_;refine(cK (lU (show q2 Z=.ok am Z from ge (dW (jB h rfl) (eG _ _) rfl)))).trans ?_;refine(cK (lU (show q3 Z=.ok am Z from ge (dW (jB h rfl) (eG _ _) rfl)))).trans ?_;refine yY ?_;unfold j1;rw[ge (gR (dJ (jB h rfl) (dJ (eG _ _) gJ)) (Jr _)),R.bind_ok];have hl:bO [.lst xs]=aa (.int ((d:Int)+1)):=by show aa (PV.int (xs.length:Nat))=_;rw[hd];rfl
 exact dW (jB h rfl) (dW (f:=eB) (z:=.int d) (gR (dJ (jB h rfl) gJ) hl) (eG _ _) (by show aa (PV.int _)=_;congr 2;lia)) (by rw[vz];simp)
theorem Gd(neg:Bool)(w:Nat)(ls ms:List Tx):Pu.eqT neg (bS w ls) (bS w ms)=aa (.bl (neg^^decide (ls=ms))):=by
 have d:hZ (bS w ls)<=8:=by simp[bS,hZ,iY,A9]
 have e:cD (bS w ls) (bS w ms)=aa (decide (ls=ms)):=by
  show(cD (.int w) (.int w)).bind (λa=>((cD (.tup (ap ls)) (.tup (ap ms))).bind (λa=>(aa ([]:List PV).isEmpty).map λb=>a&&b)).map λb=>a&&b)=_;have h1:cD (.int w) (.int w)=aa ai:=by show aa ((w:Int) == w)=_;simp
  have h2:cD (.tup (ap ls)) (.tup (ap ms))=aa (decide (ls=ms)):=by show gZ _ _=_;rw[AY]
  rw[h1,h2];simp
 show(if hZ (bS w ls)<=8 then(cD (bS w ls) (bS w ms)).map (λk=>PV.bl (neg^^k))else ae)=_;rw[if_pos d,e];rfl
theorem N6{t u:Tx}{w:Nat}(ht:Tv t w)(hu:Tv u w):mM a [↥t,↥u,⇑w]=.ok (.val (.bl (decide (bp (aQ t w)=bp (aQ u w))))) [↥t,↥u,⇑w]:=by have h1:=mJ (a:=a) ht;have h2:=mJ (a:=a) hu;have he:=Gd am w (bp (aQ t w)) (bp (aQ u w));rw[oU]at he;generalize bS w (bp (aQ t w))=V1 at h1 he;generalize bS w (bp (aQ u w))=V2 at h2 he;simp![mM,yan,h1,h2,he]
theorem UI{t u:Tx}{w:Nat}(ht:Tv t w)(hu:Tv u w)(ne:¬bp (aQ t w)=bp (aQ u w)):jK a [↥t,↥u,⇑w]=.er (.ref a.Unlike) [↥t,↥u,⇑w]:=by have h1:=mJ (a:=a) ht;have h2:=mJ (a:=a) hu;have he:=Gd ai w (bp (aQ t w)) (bp (aQ u w));rw[decide_eq_false ne,Bool.xor_false]at he;generalize bS w (bp (aQ t w))=V1 at h1 he;generalize bS w (bp (aQ u w))=V2 at h2 he;simp![jK,yap,h1,h2,he,lK,bQ]
theorem MR{t u:Tx}{w:Nat}(ht:Tv t w)(hu:Tv u w)(e:bp (aQ t w)=bp (aQ u w)):t∈cY u w:=by have hp:(aQ t w).Perm (aQ u w):=(j2 _).symm.trans (by rw[e];exact j2 _);have hl:=hp.length_eq;rw[←yc ht.w1,←yc hu.w1,tw,tw]at hl;exact Xe.mpr ⟨by have:=ht.h1;have:=hu.h1;lia,ht.abc,hp⟩
theorem Te(wh:Wh a){x o y:PV}(hx:pR x)(ho:pR o)(hy:Cc y):∃L,Told a x o y L/\uL L:=by
 rcases Gr (a:=a) hx hy with⟨t,w,rfl,rfl,T⟩|⟨c,n,r,h⟩
 ·have hv:=mJ (a:=a) T;have e3:ot a [↥t,⇑w]=.ok (.val (bS w (bp (aQ t w)))) [↥t,⇑w]:=Pj T;have e4:=VL (a:=a) t w T (by have:=T.h9;lia);obtain⟨K,Ly,hK,o9⟩:=P5 T;obtain⟨new,_,e5⟩:=UD (a:=a) t w T K Ly hK o9;rcases Gr (a:=a) ho hy with⟨u,w',rfl,hw',U⟩|⟨c,n,r,h⟩
  ·obtain rfl:w=w':=by
    have:((w:Nat):Int)=((w':Nat):Int):=by simpa using hw'
    lia
   have e0:=N6 (a:=a) T U;by_cases e:bp (aQ t w)=bp (aQ u w)
   ·rw[decide_eq_true e]at e0;obtain⟨d,hd,hl⟩:=MJ U (MR T U e);have e1:=Kg (a:=a) u t w U d ∅ hl;have e2:=Wp (a:=a) u t w U d ∅ hl;exact⟨_,xY (Fj e0) (Qn e1) (RB e2) (Cj e3) (Bt e4) (CV e5) rfl rfl rfl rfl rfl rfl,Sv (by rw[iV,CG])⟩
   ·rw[decide_eq_false e]at e0;have e1:=AW (UI (a:=a) T U e);exact⟨_,xY (Fj e0) (BD (JW wh) e1) (Ce (JW wh) (A0 e1)) (Cj e3) (Bt e4) (CV e5) rfl rfl rfl rfl rfl rfl,Ry⟩
  ·have wc:=Fi wh r;have e1:=AW (QC hv h);exact⟨_,xY (Iz wc (Tp hv h)) (BD wc e1) (Ce wc (A0 e1)) (Cj e3) (Bt e4) (CV e5) rfl rfl rfl rfl rfl rfl,O_ (by cases r <;> simp)⟩
 ·have wc:=Fi wh r;have e1:=AW (UG (o:=o) h);exact⟨_,xY (Iz wc (P_ h)) (BD wc e1) (Ce wc (A0 e1)) (Tk wc (O3 h)) (U6 wc (Ps h)) (Mc wc (U_ h)) rfl rfl rfl rfl rfl rfl,SN (by cases r <;> simp)⟩
theorem CP{G:aj->R Slot}{Z:aj}{d:aj->R PV}{L:List PV}{v0 r:PV}{p0 p p':PO}{dM:aj}(h0:Z[0]?=aa (.val v0))(h1:∃q,Z[1]?=aa (.own q))(hd:d Z=.ok (.lst L) dM)(e1:dM[1]?=aa (.own p))(hg:G [.val v0,.own p,.val (.lst L)]=.ok (.val r) [.val v0,.own p',.val (.lst L)]):a6 (aL G (gV (dV 0) (gO 1 (gV d (Pu.bG))))) Z=.ok r (dM.set 1 (.own p')):=by obtain⟨q,h1⟩:=h1;simp[a6,aL,gV,gO,Pu.bG,dV,h0,h1,hd,e1,R.bind,aV,cu,c_,hg,ef,dX,eh,m9]
theorem G9{G:aj->R Slot}{Z:aj}{v0 r:PV}{p p':PO}(h0:Z[0]?=aa (.val v0))(h1:Z[1]?=aa (.own p))(hg:G [.val v0,.own p,⇑1,⇑9]=.ok (.val r) [.val v0,.own p',⇑1,⇑9]):a6 (aL G (gV (dV 0) (gO 1 (gV (dC (.int 1)) (gV (dC (.int 9)) (Pu.bG)))))) Z=.ok r (Z.set 1 (.own p')):=by simp[a6,aL,gV,gO,Pu.bG,dV,dC,h0,h1,R.bind,aV,cu,c_,hg,ef,dX,eh,m9]
def Cd:aj->R PV:=dF (dL bV (aw (dC .non) (aw (dC (.str [])) (aw (dC (.str [97,98,100])) (aw (dC (.int 5)) (aw (d2 h_ (dC (.str [97])) (dC (.int 13))) (aw (dC (.str [97])) (aw (d2 h_ (dC (.str [97,98])) (dC (.int 6))) (aw (dL jj (aw (dC (.str [97])) (aH))) (aw (d2 h_ (dC (.str [97,98,99])) (dC (.int 4))) (aH)))))))))))
def uX:List PV:=[.non,.str [],.str [97,98,100],.int 5,.str (bK 13 97),.str [97],.str [97,98,97,98,97,98,97,98,97,98,97,98],.tup [.str [97]],.str [97,98,99,97,98,99,97,98,99,97,98,99]]
theorem Ro(Z:aj):Cd Z=.ok (.lst uX) Z:=rfl
theorem Sj:∀x∈uX,pR x:=λx hx=>by
 simp only[uX,b8,ju,or_false]at hx;rcases hx with rfl|rfl|rfl|rfl|rfl|rfl|rfl|rfl|rfl
 ·exact .inr (by simp[nN])
 ·exact .inr (by simp[nN])
 ·exact .inr (by simp[nN])
 ·exact .inr (by simp[nN])
 ·exact .inr (by simp[nN])
 ·exact .inl ⟨_,rfl,by decide,by decide,by decide⟩
 ·exact .inl ⟨_,rfl,by decide,by decide,by decide⟩
 ·exact .inr (by simp[nN])
 ·exact .inl ⟨_,rfl,by decide,by decide,by decide⟩
def vh:List PV:=[.int 1,.int 2,.int 2,.int 3,.int 4,.int 0,.int 5,.bl ai,.non,.str [50]]
def Ct:aj->R PV:=dF (dL bV (aw (dC (.int 1)) (aw (dC (.int 2)) (aw (dC (.int 2)) (aw (dC (.int 3)) (aw (dC (.int 4)) (aw (dC (.int 0)) (aw (dC (.int 5)) (aw (dC (.bl ai)) (aw (dC .non) (aw (dC (.str [50])) (aH))))))))))))
theorem VW(Z:aj):Ct Z=.ok (.lst vh) Z:=rfl
theorem TD:∀x∈vh,Cc x:=λx hx=>by
 simp only[vh,b8,ju,or_false]at hx;rcases hx with rfl|rfl|rfl|rfl|rfl|rfl|rfl|rfl|rfl|rfl
 ·exact .inl ⟨1,rfl,by decide,by decide⟩
 ·exact .inl ⟨2,rfl,by decide,by decide⟩
 ·exact .inl ⟨2,rfl,by decide,by decide⟩
 ·exact .inl ⟨3,rfl,by decide,by decide⟩
 ·exact .inl ⟨4,rfl,by decide,by decide⟩
 ·exact .inr (by simp[ph])
 ·exact .inr (by simp[ph])
 ·exact .inr (by simp[ph])
 ·exact .inr (by simp[ph])
 ·exact .inr (by simp[ph])
def xE(a:Ad):aj->R PV:=dF (dL bV (aw (a6 (aL (lJ a) (gV (dV 0) (gO 1 (gV (dC (.int 1)) (gV (dC (.int 9)) (Pu.bG))))))) (aw (vt (dV 5) (bB (d1 jd (dC (.int 1))))) (aw (dV 5) (aw (d2 bg (cx cq (dV 5) (bB (dC (.int 1))) (dU)) (cx cq (dV 5) (dU) (bB (dC (.int 1))))) (aH))))))
theorem UF(z:Tx):cq (.str z) (aa 1) ae=aa (.str (z.drop 1))/\cq (.str z) ae (aa 1)=aa (.str (z.take 1)):=by
 constructor
 ·show aa (PV.str (eA z (aa 1) ae))=_;unfold eA;rw[show HT.sIx z.length 0 (aa 1)=min 1 z.length from HT.sIx_nat _ _ 1,show HT.sIx z.length z.length ae=z.length from rfl];congr 2;cases z with
  |nil=>rfl
  |cons c z=>simp
 ·show aa (PV.str (eA z ae (aa 1)))=_;unfold eA;rw[show HT.sIx z.length z.length (aa 1)=min 1 z.length from HT.sIx_nat _ _ 1,show HT.sIx z.length 0 ae=0 from rfl];congr 2;cases z with
  |nil=>rfl
  |cons c z=>simp
theorem Sf{Z:aj}{v0:PV}{p p':PO}{z z2:Tx}(hz:z.length<=9)(h0:Z[0]?=aa (.val v0))(h1:Z[1]?=aa (.own p))(h5:Z[5]?=aa (↥z))(hl:5<Z.length)(hg:lJ a [.val v0,.own p,⇑1,⇑9]=.ok (↥z2) [.val v0,.own p',⇑1,⇑9]):xE a Z=.ok (.lst [.str z2,.str z.reverse,.str z,.str (z.drop 1++z.take 1)]) (Z.set 1 (.own p')):=by
 have ht:=G9 h0 h1 hg;have h5':(Z.set 1 (.own p'))[5]?=aa (↥z):=by rw[fA (by decide)];exact h5
 have hr:vt (dV 5) (bB (d1 jd (dC (.int 1)))) (Z.set 1 (.own p'))=.ok (.str z.reverse) (Z.set 1 (.own p')):=by unfold vt;rw[cb h5',R.bind_ok];rfl
 obtain⟨c1,c2⟩:=UF z;have ha:bg (.str (z.drop 1)) (.str (z.take 1))=aa (.str (z.drop 1++z.take 1)):=nY (by simp[ce];lia);have o6:cx cq (dV 5) (bB (dC (.int 1))) (dU) (Z.set 1 (.own p'))=.ok (.str (z.drop 1)) (Z.set 1 (.own p')):=by unfold cx dU;rw[cb h5',R.bind_ok,show bB (dC (.int 1)) (Z.set 1 (.own p'))=.ok (aa 1) (Z.set 1 (.own p'))from rfl,R.bind_ok,R.bind_ok,c1];rfl
 have lz:cx cq (dV 5) (dU) (bB (dC (.int 1))) (Z.set 1 (.own p'))=.ok (.str (z.take 1)) (Z.set 1 (.own p')):=by unfold cx dU;rw[cb h5',R.bind_ok,R.bind_ok,show bB (dC (.int 1)) (Z.set 1 (.own p'))=.ok (aa 1) (Z.set 1 (.own p'))from rfl,R.bind_ok,c2];rfl
 unfold xE dF;rw[gR (f:=bV) (dJ ht (dJ hr (dJ (cb h5') (dJ (dW o6 lz ha) gJ)))) rfl];rfl
theorem QI(wh:Wh a)(ns:List Int):uW a [bZ ns]=.ok (.val (.bl ai)) [bZ ns]:=by
 obtain⟨c,c0,c1,xy⟩:=zw (a:=a) ns [] 6 (by decide) (by decide);obtain⟨Y1,xi⟩:∃Y1:List PV,Y1=[]++[.int 0]:=⟨_,rfl⟩
 rw[←xi]at xy;have l1:Y1.length=1:=by rw[xi];rfl
 obtain⟨od,hod,uy⟩:=za (a:=a) ns Y1 uX ∅ (by decide);obtain⟨Y2,xj⟩:∃Y2:List PV,Y2=Y1++[.int 0]:=⟨_,rfl⟩
 rw[←xj]at uy;have l2:Y2.length=2:=by rw[xj,d_,l1];rfl
 obtain⟨y,hyd,hpy⟩:=za (a:=a) ns Y2 vh ∅ (by decide);obtain⟨Y3,hY3⟩:∃Y3:List PV,Y3=Y2++[.int 0]:=⟨_,rfl⟩
 rw[←hY3]at hpy;have l3:Y3.length=3:=by rw[hY3,d_,l2];rfl
 clear xi xj hY3;obtain⟨z,y1,z1,z2,zc,hy1,htz⟩:=Ir (a:=a) ns Y3 1 9 (by decide) (by decide) ∅;have htz:lJ a [bZ ns,.own (.lst Y3),⇑1,⇑9]=.ok (↥z) [bZ ns,.own (.lst y1),⇑1,⇑9]:=htz;obtain⟨z',y2,z1',z2',zc',hy2,E4⟩:=Ir (a:=a) ns y1 1 9 (by decide) (by decide) ∅;have E4:lJ a [bZ ns,.own (.lst y1),⇑1,⇑9]=.ok (↥z') [bZ ns,.own (.lst y2),⇑1,⇑9]:=E4;obtain⟨o0,ho0,hpo0⟩:=za (a:=a) ns y2 [.str z',.str z.reverse,.str z,.str (z.drop 1++z.take 1)] ∅ (by simp);have az:pR (.str z):=.inl ⟨z,rfl,z1,∅,zc⟩;have ao0:pR o0:=by
  simp only[b8,ju,or_false]at ho0;rcases ho0 with rfl|rfl|rfl|rfl
  ·exact .inl ⟨z',rfl,z1',∅,zc'⟩
  ·exact .inl ⟨_,rfl,by simpa using z1,by simp;lia,λc hc=>zc c (by simpa using hc)⟩
  ·exact az
  ·refine .inl ⟨_,rfl,by simp;lia,by simp;lia,λc hc=>?_⟩;rcases gy.mp hc with h|h
   ·exact zc c (rZ h)
   ·exact zc c (oV h)
 have aod:=Sj od hod;have ay:=TD y hyd;obtain⟨x,hxe⟩:∃x:PV,x=if c=0 then od else .str z:=⟨_,rfl⟩
 obtain⟨o,hoe⟩:∃o:PV,o=if c=1 then od else o0:=⟨_,rfl⟩
 have ax:pR x:=by rw[hxe];split <;> assumption
 have ao:pR o:=by rw[hoe];split <;> assumption
 obtain⟨L,hT,hF⟩:=Te wh ax ao ay;have k1:eI 1 (dL bV aH) [bZ ns,.none,.none,.none,.none,.none,.none,.none]=.ok .next [bZ ns,.own (.lst []),.none,.none,.none,.none,.none,.none]:=zz (by simp);have k2:bv 2 (a6 (aL (nh a) (gV (dV 0) (gO 1 (gV (dC (.int 6)) (Pu.bG)))))) [bZ ns,.own (.lst []),.none,.none,.none,.none,.none,.none]=.ok .next [bZ ns,.own (.lst Y1),⇑c,.none,.none,.none,.none,.none]:=by generalize nh a=G at xy ⊢;simp![xy]
 have k3:bv 3 (a6 (aL (kD a) (gV (dV 0) (gO 1 (gV Cd (Pu.bG)))))) [bZ ns,.own (.lst Y1),⇑c,.none,.none,.none,.none,.none]=.ok .next [bZ ns,.own (.lst Y2),⇑c,.val od,.none,.none,.none,.none]:=by have h:=CP (G:=kD a) (Z:=[bZ ns,.own (.lst Y1),⇑c,.none,.none,.none,.none,.none]) (dM:=[bZ ns,.own (.lst Y1),⇑c,.none,.none,.none,.none,.none]) (d:=Cd) (L:=uX) (v0:=.lst (ns.map .int)) (r:=od) (p0:=.lst []) (p:=.lst Y1) (p':=.lst Y2) rfl ⟨_,rfl⟩ (Ro _) rfl uy;exact jL (i:=3) h
 have k4:bv 4 (a6 (aL (kD a) (gV (dV 0) (gO 1 (gV Ct (Pu.bG)))))) [bZ ns,.own (.lst Y2),⇑c,.val od,.none,.none,.none,.none]=.ok .next [bZ ns,.own (.lst Y3),⇑c,.val od,.val y,.none,.none,.none]:=by have h:=CP (G:=kD a) (Z:=[bZ ns,.own (.lst Y2),⇑c,.val od,.none,.none,.none,.none]) (dM:=[bZ ns,.own (.lst Y2),⇑c,.val od,.none,.none,.none,.none]) (d:=Ct) (L:=vh) (v0:=.lst (ns.map .int)) (r:=y) (p0:=.lst []) (p:=.lst Y2) (p':=.lst Y3) rfl ⟨_,rfl⟩ (VW _) rfl hpy;exact jL (i:=4) h
 have k5:bv 5 (a6 (aL (lJ a) (gV (dV 0) (gO 1 (gV (dC (.int 1)) (gV (dC (.int 9)) (Pu.bG))))))) [bZ ns,.own (.lst Y3),⇑c,.val od,.val y,.none,.none,.none]=.ok .next [bZ ns,.own (.lst y1),⇑c,.val od,.val y,↥z,.none,.none]:=by have h:=G9 (G:=lJ a) (Z:=[bZ ns,.own (.lst Y3),⇑c,.val od,.val y,.none,.none,.none]) (v0:=.lst (ns.map .int)) (r:=.str z) (p:=.lst Y3) (p':=.lst y1) rfl rfl htz;exact jL (i:=5) h
 have k6:bv 6 (a6 (aL (kD a) (gV (dV 0) (gO 1 (gV (xE a) (Pu.bG)))))) [bZ ns,.own (.lst y1),⇑c,.val od,.val y,↥z,.none,.none]=.ok .next [bZ ns,.own (.lst (y2++[.int 0])),⇑c,.val od,.val y,↥z,.val o0,.none]:=by have h1:=Sf (a:=a) (Z:=[bZ ns,.own (.lst y1),⇑c,.val od,.val y,↥z,.none,.none]) (v0:=.lst (ns.map .int)) (p:=.lst y1) (p':=.lst y2) (z:=z) (z2:=z') ∅ rfl rfl rfl (by simp) E4;have h:=CP (G:=kD a) (Z:=[bZ ns,.own (.lst y1),⇑c,.val od,.val y,↥z,.none,.none]) (dM:=[bZ ns,.own (.lst y2),⇑c,.val od,.val y,↥z,.none,.none]) (d:=xE a) (L:=[.str z',.str z.reverse,.str z,.str (z.drop 1++z.take 1)]) (v0:=.lst (ns.map .int)) (r:=o0) (p0:=.lst []) (p:=.lst y2) (p':=.lst (y2++[.int 0])) rfl ⟨_,rfl⟩ h1 rfl hpo0;exact jL (i:=6) h
 have e0:=vz am c 0;have e1:=vz am c 1;rw[oU]at e0 e1;have k7:bv 5 (cN (dB (d2 (eqT am) (dV 2) (dC (.int 0)))) (dV 3) (dV 5)) [bZ ns,.own (.lst (y2++[.int 0])),⇑c,.val od,.val y,↥z,.val o0,.none]=.ok .next [bZ ns,.own (.lst (y2++[.int 0])),⇑c,.val od,.val y,.val x,.val o0,.none]:=by
  refine jL (i:=5) (x:=x) (dM:=[bZ ns,.own (.lst (y2++[.int 0])),⇑c,.val od,.val y,↥z,.val o0,.none]) ?_;have hb:=ge (dW (cb (i:=2) (v:=.int c) (Z:=[bZ ns,.own (.lst (y2++[.int 0])),⇑c,.val od,.val y,↥z,.val o0,.none]) rfl) (eG (.int 0) _) e0);by_cases q:c=0
  ·rw[decide_eq_true q]at hb;rw[hxe,if_pos q];exact(pK hb).trans rfl
  ·rw[decide_eq_false q]at hb;rw[hxe,if_neg q];exact(lU hb).trans rfl
 have k8:bv 6 (cN (dB (d2 (eqT am) (dV 2) (dC (.int 1)))) (dV 3) (dV 6)) [bZ ns,.own (.lst (y2++[.int 0])),⇑c,.val od,.val y,.val x,.val o0,.none]=.ok .next [bZ ns,.own (.lst (y2++[.int 0])),⇑c,.val od,.val y,.val x,.val o,.none]:=by
  refine jL (i:=6) (x:=o) (dM:=[bZ ns,.own (.lst (y2++[.int 0])),⇑c,.val od,.val y,.val x,.val o0,.none]) ?_;have hb:=ge (dW (cb (i:=2) (v:=.int c) (Z:=[bZ ns,.own (.lst (y2++[.int 0])),⇑c,.val od,.val y,.val x,.val o0,.none]) rfl) (eG (.int 1) _) e1);by_cases q:c=1
  ·rw[decide_eq_true q]at hb;rw[hoe,if_pos q];exact(pK hb).trans rfl
  ·rw[decide_eq_false q]at hb;rw[hoe,if_neg q];exact(lU hb).trans rfl
 have k9:bv 7 (tC a) [bZ ns,.own (.lst (y2++[.int 0])),⇑c,.val od,.val y,.val x,.val o,.none]=.ok .next [bZ ns,.own (.lst (y2++[.int 0])),⇑c,.val od,.val y,.val x,.val o,.val (.lst L)]:=jL (Up rfl rfl rfl hT);have hb:yaH a [bZ ns,.none,.none,.none,.none,.none,.none,.none]=.ok (.ret (.val (.bl ai))) [bZ ns,.own (.lst (y2++[.int 0])),⇑c,.val od,.val y,.val x,.val o,.val (.lst L)]:=by show aJ _ (aJ _ (aJ _ (aJ _ (aJ _ (aJ _ (aJ _ (aJ _ (aJ _ fin)))))))) _=_;refine(cK k1).trans ?_;refine(cK k2).trans ?_;refine(cK k3).trans ?_;refine(cK k4).trans ?_;refine(cK k5).trans ?_;refine(cK k6).trans ?_;refine(cK k7).trans ?_;refine(cK k8).trans ?_;refine(cK k9).trans ?_;exact hF _ rfl
 unfold uW;generalize yaH a=D at hb;simp[br,eY,bu,bK,hb,back,aV,R.bind,je]
end
open L2 Pu Sh
def vO(K:aC)(a:Ad):Bool:=qi K a.SlitError vm "ValueError.__new__" && (g8 a).all (λx=>qi K x vm "ValueError.__new__" && subB K a.SlitError x&&yH K x&&(g8 a).all (λd=>gA K (.ref x) (.ref d) == aa (x == d))&&gA K (.ref x) (.type "ValueError") == aa ai)&&AF K&&decide (g8 a).Nodup
section
variable{K:aC}{h base:aI}{mg:Str->Option ak}{a:Ad}
theorem u0(h:vO K a=ai):qi K a.SlitError vm "ValueError.__new__" = ai/\(∀x∈g8 a,qi K x vm "ValueError.__new__" = ai/\subB K a.SlitError x=ai/\yH K x=ai/\(∀d∈g8 a,gA K (.ref x) (.ref d)=aa (x == d))/\gA K (.ref x) (.type "ValueError")=aa ai)/\AF K=ai/\(g8 a).Nodup:=by unfold vO at h;simp only[f7,t_,beq_iff_eq,decide_eq_true_eq]at h;obtain⟨⟨⟨h1,h2⟩,h3⟩,h4⟩:=h;exact⟨h1,λx hx=>⟨(h2 x hx).1.1.1.1,(h2 x hx).1.1.1.2,(h2 x hx).1.1.2,(h2 x hx).1.2,(h2 x hx).2⟩,h3,h4⟩
theorem RV(h:vO K a=ai):BB K (jJ a):=by
 obtain⟨_,h2,_,_⟩:=u0 h;intro c D b e;unfold jJ at e;split at e
 ·rename_i x d;split at e
  ·rename_i hc;rw[f7]at hc;cases e;have hx:x∈g8 a:=by simpa using hc.1
   have hd:d∈g8 a:=by simpa using hc.2
   exact⟨x,.ref d,rfl,Gz (h2 x hx).2.2.1,rfl,(h2 x hx).2.2.2.1 d hd⟩
  ·cases e
 ·rename_i x T;split at e
  ·rename_i hc;rw[f7]at hc;cases e;have hx:x∈g8 a:=by simpa using hc.1
   have hT:T = "ValueError":=by simpa using hc.2
   subst hT;exact⟨x,.type "ValueError",rfl,Gz (h2 x hx).2.2.1,rfl,(h2 x hx).2.2.2.2⟩
  ·cases e
 ·cases e
theorem S6(X:K.In base)(h:vO K a=ai):∀c,nO a c=ai->Under base a.SlitError c:=by
 obtain⟨_,h2,_,_⟩:=u0 h;intro c e;unfold nO at e;split at e
 ·rename_i x;have hx:x∈g8 a:=by simpa using e
  exact Op X (h2 x hx).1 (h2 x hx).2.1
 ·cases e
structure Top(K:aC)(a:Ad):Prop where
 yaJ:cH K "_law_cell_at" AZ
 yaL:cH K "_law_mixed" AM
 yaK:cH K "_law_draw" B7
 yaM:cH K "_law_pick" Df
 yaN:cH K "_law_text" BM
 yaO:cH K "_law_which" BH
 yaz:cH K "has_only" ya
 yaB:cH K "is_text_up_to" C6
 yaq:cH K "check_text" Do
 yaE:cH K "is_whole_number" Br
 yaF:cH K "is_width" Ds
 yas:cH K "check_width" Dy
 yaZ:cH K "view_of" Bm
 yaQ:cH K "pieces" yv
 yaU:cH K "text_view" Bo
 yaY:cH K "view" Db
 yax:cH K "exchanges_from" BP
 yaw:cH K "exchanges" By
 yaX:cH K "unrolled" Cu
 yaW:cH K "turns" zr
 yaP:cH K "one_step_off" Dp
 yav:cH K "exchanged" De
 yaG:cH K "is_window" CW
 yao:cH K "are_windows" yf
 yaD:cH K "is_view_with" CN
 yaC:cH K "is_view" Cn
 yar:cH K "check_view" Dv
 yam:cH K "add_endings" BF
 yat:cH K "counted" Bf
 yaV:cH K "texts" zC
 yaA:cH K "how_many" BQ
 yaS:cH K "spread" A_
 yay:cH K "farthest" B3
 yan:cH K "alike" AN
 yap:cH K "check_alike" Bk
 yau:cH K "distances" yg
 yaR:cH K "road" zG
 yaT:cH K "steps" CT
 yaI:cH K "_law_ask" Bp
 yaH:cH K "law" uF
 ya1:dq K cf "ValueError" = aa ae
 ya2:dq K cf "all" = aa ae
 ya3:dq K cf "any" = aa ae
 ya4:dq K cf "bool" = aa ae
 ya5:dq K cf "int" = aa ae
 ya6:dq K cf "isinstance" = aa ae
 ya7:dq K cf "len" = aa ae
 ya8:dq K cf "list" = aa ae
 ya9:dq K cf "min" = aa ae
 yba:dq K cf "range" = aa ae
 ybb:dq K cf "set" = aa ae
 ybc:dq K cf "sorted" = aa ae
 ybd:dq K cf "str" = aa ae
 ybe:dq K cf "tuple" = aa ae
 ybj:∃t,dq K cf "LETTERS" = aa (aa (.str (tS [97,98,99]) t))
 ybk:∃t,dq K cf "MOST_LETTERS" = aa (aa (.int 12 t))
 ybl:∃t,dq K cf "MOST_WINDOWS" = aa (aa (.int 9 t))
 ybm:∃t,dq K cf "WIDEST" = aa (aa (.int 4 t))
 yak:dq K cf "SlitError" = aa (aa (.ref a.SlitError))
 yaf:dq K cf "NoText" = aa (aa (.ref a.NoText))
 yah:dq K cf "NoWidth" = aa (aa (.ref a.NoWidth))
 yag:dq K cf "NoView" = aa (aa (.ref a.NoView))
 yai:dq K cf "NoWindow" = aa (aa (.ref a.NoWindow))
 yac:dq K cf "Never" = aa (aa (.ref a.Never))
 yab:dq K cf "Full" = aa (aa (.ref a.Full))
 yaj:dq K cf "Nothing" = aa (aa (.ref a.Nothing))
 yal:dq K cf "Unlike" = aa (aa (.ref a.Unlike))
 yae:dq K cf "NoPlace" = aa (aa (.ref a.NoPlace))
 yad:dq K cf "NoLetters" = aa (aa (.ref a.NoLetters))
 yaa:dq K cf "BadText" = aa (aa (.ref a.BadText))
 ck:vO K a=ai
 z_road:l_ K "road" = aa (361,359)/\zX K 361 359=ai/\K.lookup 359=ae
 wh:Wh a
theorem OC(T:Top K a)(X:K.In base)(G:base.Ns cf mg):cL K mg base a:=by
 have C:=(u0 T.ck).2.1;have E1:=UU X (u0 T.ck).1;have U1:=S6 X T.ck;have T1:=RV T.ck;have Z1:=T.z_road;cases T;constructor
 all_goals first|assumption|exact cH.at (by assumption) X G|exact PySem.W.mg_none_of X G (by assumption)|exact wz X G (by assumption)|exact NH X (wz X G (by assumption)) (C _ (by simp[g8])).1|exact⟨_,_,S5 X G Z1.1 Z1.2.1⟩|exact Exists.imp (λ_ e=>wz X G e) (by assumption)
theorem PR{l:D3}{w:aT}{fa:ah}(X:K.In h)(G:h.Ns cf mg)(hfa:mg "law" = aa (.ref fa))(T:Top K a):∃fd:gD,(∀(s:aq) (v:ak),BindsTo s fd ⟨[v],[]⟩ [("_law_script",v)])/\∀base:aI,K.In base->base.Ns cf mg->j5 l.prog w K mg base (bU l.prog w) 18 fa fd ["_law_script"] (bz K (uW a)):=by
 obtain⟨f,oc,od,kV,dc,pm,an,cd,ct,sl,e1,e2,e3,e4⟩:=T.yaH;have e:=hfa.symm.trans (wz X G e1);cases e;exact⟨_,λs v=>.of_eq rfl,λbase XB GB=>QS (OC T XB GB) (IV e2 e3 e4)⟩
theorem Bz{l:D3}{q:aZ}{XJ:List Str}{XP:(Str->Option ak)->aI->Prop}{YP:aT->aI->Prop}{d:DefRec}{K:Params->aC}(hn:l.most=aa 63)(r_:d.params.defaults=[])(hnm:d.name = "law")(hY:∀(w:aT) (h:aI),YP w h->(K w.params).In h/\h.get? 359=aa (PySem.W.tabObj #[])) {a:Ad} (T:∀w:aT,Top (K w.params) a):PySem.W.WalkO q XJ XP YP l.row.toRowW d [] (λf vs=>PySem.call f vs) :=
 L2.Xy (n:=63) (k:=18) (x:="_law_script") (K:=K) (CX:=λw=>bU l.prog w) (sp:=λw=>bz (K w.params) (uW a)) hn (by decide) r_ ⟨rfl,by decide,by decide⟩ (λw h ld=>⟨(hY w h ld).1,λc P e=>by rw[(T w).z_road.1]at e;cases e;exact⟨(T w).z_road.2.1,(T w).z_road.2.2,(hY w h ld).2⟩⟩)
  (λw mg fa h KX G wU=>PR KX G (by rw[←hnm];exact wU) (T w))
  (λw H b ns hl _ hS=>Vn (Uj (u0 (T w).ck).2.2.1 hS) (QI (T w).wh ns))
  (λw H s e s' z=>by obtain⟨_,_,_,_,_,_,_,_,_,_,_,f⟩:=z;exact f)
theorem Xt{l:D3}{q:aZ}{XJ:List Str}{XP:(Str->Option ak)->aI->Prop}{YP:aT->aI->Prop}{d:DefRec}{K:Params->aC}{yak yaf yah yag yai yac yab yaj yal yae yad yaa:ah}(hn:l.most=aa 63)(r_:d.params.defaults=[])(hnm:d.name = "law")(hY:∀(w:aT) (h:aI),YP w h->(K w.params).In h/\h.get? 359=aa (PySem.W.tabObj #[])) (T:∀w:aT,Top (K w.params) ⟨yak,yaf,yah,yag,yai,yac,yab,yaj,yal,yae,yad,yaa,0,0⟩):PySem.W.WalkO q XJ XP YP l.row.toRowW d [] (λf vs=>PySem.call f vs):=Bz hn r_ hnm hY T
end
end K21
set_option genInjectivity false in
structure PySem.W.Fast:Prop where(tw15988906006290264693 tw776758149852698001 tw11460352675060295889 tw5890917597993255493 tw2158911003948505324 tw13987016176110270812 tw16205086194903366652 tw12636040414608210947 tw4266884261243388761 tw13076148617524306849 tw13085637501944909823 tw13927870301090382603 tw11459981473445102666 tw10380311762714361565 tw5501633498713878796 tw14164680707199098939 tw7555018668663358754 tw9114884604278470727 tw17435808943406724247 tw18427824947100702211 tw9958768071470427055 tw4815653315249055900 tw12119185048208836101 tw1383313444947195018 tw8834029408287778662 tw12861169911491102443 tw4182980687122658994 tw9978587691205019321 tw14173526318358515448 tw316225399580573218 tw8017110214338541903 tw18132615340760438485 tw7118509277316809585 tw5131533035298780811 tw3470636286863414772 tw13613426691299987499 tw8115651401806769663 tw18294086583579246551 tw819698074349495106 tw6027304159637532401 tw17634544292096669820 tw5819528997960175944 tw908411288872812105 tw11025431655434594761 tw12797849342077293937 tw583754443324117884 tw10617079233963594280 tw17787008186517171682 tw4962700192307561146 tw14860983800532452844 tw12237373857683535548 tw7393535348187876430 tw8384247805680720850 tw18233962402580484691 tw808155812369301735 tw10210091584055930793 tw14044186001856148467 tw8050082190872793378 tw11167135881085981092 tw5302643820706529980 tw5267616551756557518 tw15999177433290147408 tw11863693825111266997 tw1069557029243619944 tw3178757668470479080 tw4636361914718906580 tw9770813269015662996 tw13462579389757020531 tw2598317179685302211 tw14343984737584281819 tw5738153588324540922 tw2052582380703343861 tw17730268622046357858 tw3644193810095343628 tw3728151950433926329 tw11104924155721360610 tw13862230793749153041 tw16604734220850475826 tw449108543931764261 tw14077405612566772066 tw2769362127672258844 tw10520687326908053302 tw13245237208127396365 tw6977249879056693235 tw9300589446801308209 tw6163818793167610873 tw15831141350544375287 tw11041731054888811505 tw5944310844977754927 tw1940336744854380812 tw16894180169587281245 tw1454289535378187591 tw12462556597180343007 tw17759671062543436520 tw17034600571562109699 tw14819965719669681562 tw2167451701609009956 tw6056509306640104616 tw4525780668401348485 tw3780342616470066834 tw13186921216992922849 tw396566287578863857 tw5018396829775498383 tw17351200351271909645 tw13947895173667206537 tw12604636950277088342 tw2804692452418355676 tw1092108118696565372 tw1711374675289009894 tw6238308159542116147 tw9706849566112964200 tw7562786298440117061 tw17787787639854511838 tw12430360590848005379 tw6114689339002914575 tw7454012313395632148 tw9404610781163044946 tw12250420584416782852 tw7361802998321590973 tw4951802419842476969 tw16090517538645911853 tw5846769546693532495 tw17802110545278003838 tw9920635282924091890 tw6122954111656901057 tw12295820751406630710 tw10908579097297553959 tw2566471601780975022 tw1579481908597159813 tw2735526974112050709 tw11242026785851143172 tw12463154765283536487 tw5483875135079306875 tw500477429015575716 tw14792759518729881969 tw1148555137531913083 tw17155579459897794146 tw8776172892951159467 tw11085398729571281716 tw7805203431370406363 tw2160885779763830357 tw16214942205018414209 tw12856357151415967894 tw6320167694387647906 tw5801894715220321045 tw14952021420788549059 tw8548001393184860636 tw4063517879280783956 tw17621255960717080402 tw12874228656990287293 tw15441884841669833540 tw16353799466596780406 tw5387549062058744674 tw8333812285819543943 tw5008785922386966400 tw8338347387316833424 tw9112641888658777137 tw16763320672669943964 tw149947292462064725 tw8162750621351310312 tw1776959182946377644 tw2258077249736734028 tw10760408830266481010 tw544866598028292193 tw1986295216043012088 tw17662368889339551231 tw10689760321625882386 tw11558584206848012508 tw14013923853892684196 tw8972509091932757228 tw14187259069052805588 tw18140277251576071336 tw14395740505047562342 tw10015587674988933422 tw17816577783981013980 tw6884172647533383879 tw13581739984297094730 tw2280174098451002510 tw314781170475986086 tw2024882213936395253 tw8549247459284703004 tw1578663565401724993 tw16814468696657928814 tw8803288819576806937 tw12017423668012583741 tw14417304847153403356 tw11506108253922283965 tw7832312314072658244 tw14574044419261870116 tw122788689627654668 tw8199805893293375471 tw11598445720122939431 tw385129623887725486 tw1701795550395188577 tw16648909951948291444 tw6062039052228677274 tw9357779116701180653 tw7960165538720121756 tw3277283922725338617 tw8561263762225125346 tw14728350717670149137 tw12613465539681426315 tw2195819737335535815 tw1816233719739321203 tw18396973999384321793 tw1021015717179633677 tw15528059036024858088 tw10443302597488742153 tw6110478279828875940 tw11467282512409298222 tw18190682048968777647 tw3468284732350360199 tw4573916572708584605 tw1649299592514820869 tw8626695461368474399 tw15355509233813052654 tw7008490939197336551 tw2273584207734986420 tw6068660529291530948 tw16768806221966313710 tw13512025618908496380 tw2322849004787201138 tw8462825233443306206 tw13212713974797131701 tw17833088708682989525 tw7567743732197187623 tw326208315185626625 tw11172911175165516769 tw10574871013924160058 tw10972626456818880742 tw12333725657436920153 tw9027020935761781518 tw8087863881922667891 tw5750767152558531040 tw16285651668707933291 tw994172410632242660 tw17092395798577877022 tw10925904308913631341 tw13565288880529341346 tw13436482961886211050 tw14579019950609892729 tw6295848319503400226 tw400902833236701249 tw8825271626725245712 tw344176115921091330 tw10938907384371959739 tw9845274421360384653 tw11343989093924002827 tw3468814342235788982 tw11929449820901369706 tw9559389504801892363 tw2112819965102491646 tw8928506961181873724 tw8626818171651814483 tw2851192953712690058 tw14072675212599607162 tw2873656309410104646 tw786110485649573349 tw654787239110230116 tw13483740480291083049 tw10778091574502215359 tw11683584646799935607 tw15449842323557744794 tw4870304171084601863 tw17468574417786229969 tw4791443056427828606 tw10940385811041733713 tw4506389023552395953 tw2980672670225642385 tw11416409109042464539 tw15751728589391913986 tw18442831601599029766 tw17794166011102065839 tw3529742905218921575 tw6859063944402145197 tw12080777297230807034 tw6690644183176673933 tw5126289739546808076 tw15862272411372470998 tw5356694073039973693 tw13735554804517487679 tw14107372407261280285 tw1161384793661668151 tw12302377522250106374 tw6408366250781586229 tw8017693191717205676 tw5011468709201920791 tw7830837364575989708 tw9752786088836528506 tw17506232245878106867 tw17708264557957324127 tw11779535533622618132 tw2348072939963009402 tw9748691231544325712 tw13513557107697948957 tw16153316065787152818 tw5808065260405045777 tw660723445962748700 tw6025237670024452110 tw15751355633070456707 tw15696665384462430104 tw7814482747138604574 tw17391786791275722699:True)
open PySem PySem.W PyProof.Rows
set_option maxRecDepth 100000 in
set_option maxHeartbeats 0 in
theorem PySem.Challenge.cw_slitview_k21_unlike_views_holds : PySem.Challenge.rw_slitview_k21_unlike_views.Holds := by
 w_on; o_law; k_head; (case hw=>w_witness2)
 k_fill
 refine' K21.Xt (l:=PySem.Challenge.rw_slitview_k21_unlike_views) rfl rfl rfl (fun w h ld=>⟨PySem.W.km_in_of ld,PySem.W.km_tabs_of ld _ (by simp)⟩) ?T
 case T =>
  intro w
  constructor
  iterate 40 (case _=>refine' Pu.W6 ?qa ?ql ?qc ?qk; (case qa=>k_is); (case ql=>k_is); (case qc=>k_is); (case qk=>k_is))
  iterate 14 (case _=>k_is)
  (case _=>refine' Pu.Xm ?e; (case e=>k_is))
  iterate 3 (case _=>refine' Pu.Xr ?e; (case e=>k_is))
  iterate 12 (case _=>k_is)
  (case ck=>kernel_rfl)
  (case z_road=>refine⟨?u1,?u2,?u3⟩; (case u1=>kernel_rfl); (case u2=>kernel_rfl); (case u3=>kernel_rfl))
  (case wh=>refine K21.Xs ?_; kernel_rfl)
