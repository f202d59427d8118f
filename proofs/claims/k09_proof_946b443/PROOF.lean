import PyProof.Rows.All
import Wide.All
import OpenK.AllK
import Wide.FinOn
import Lean
import PyProof.EqAt
import PyProof.EqKinds
import PyProof.TupleCall
import KE.KIntText
import KE.KDictList
import KE.KDictSum
import PyProof.Rows.Range3
import PyProof.DictWalks
import KE.KMinKey
import KE.KSortTup
import PyProof.EnumStmt
import PyProof.EnumMake
import PyProof.EnumFor
import PyProof.Draws
import PyProof.Rows.TupDisplay
import PySem.Challenge.RW_slitview_k09_whole_through
noncomputable section
set_option compiler.extract_closed false
local macro_rules | `(tactic| eq_refl) => `(tactic| first | exact Or.inl rfl | exact Or.inr (Or.inl rfl) | exact Or.inr (Or.inr rfl))
local macro_rules | `(∅) => `(by first | lia | omega)
set_option Elab.async false
set_option bootstrap.genMatcherCode false
set_option genSizeOf false
set_option linter.all false
set_option maxRecDepth 100000
local macro_rules | `(tactic| ac_nf) => `(tactic| exact ⟨rfl,rfl,rfl,by decide +kernel,rfl,by decide +kernel,by decide +kernel⟩)
open Option renaming some->aa,none->ae,bind_some->g8,map_eq_some_iff->lx,map_some->oE,getD_none->HA,isSome_map->HG,bind_eq_some_iff->Ik,getD_some->Iw
open PySem renaming Addr->ag,Value->aj,Shared->ao,wpAny_bind->ap,wpAny->ar,model->au,Expr->ay,Heap->aC,wpAny_pure->aF,World->aL,Program->aR,Around->aY,starEach->aZ,eval->bi,sizeLine->bn,Stmt->bo,mainGlobals->cR,rawInt->dr,Paired->d7,compareOp->d9,Scope->eC,backTo->eO,bootBuiltins->fg,wpAny_mono->f8,cellsFrom->f9,NameKind->gH,bindArgs->g6,binaryOp->iR,FuncData->iS,swapsWith->jj,sysModules->jF,wpAny_newObj_type->jI,SetTable->ka,strKind->kb,wpAny_holding->kE,foldedSetIterable->lp,mem_of_lookup->lu,wpAny_call_entry->lv,setField->ly,pyNext->l5,wpAny_field->l8,isTrue->mY,pyIter->mZ,IsPart->m9,Keyword->ng,wpAny_rule->nh,setNext->ni,wpAny_setField->nj,wpAny_truthy_bool->ot,holding->ou,assign->ox,builtinsNs->p6,behindInMarks->p8,codeAny->p_,getItem->qc,attributeBase->qe,newExc->qh,tupleKind->sr,assignEach->su,wpAny_passesOwn->sv,sizeLine_eq->sw,wpAny_loadPart'->sx,sliceBounds->sA,valueAt->sB,callerA->sC,DictEntry->sD,relayAll->sG,wpAny_setState_of->sH,wpAny_askSetting->sJ,PassesOwn->vp,wpAny_callSpecial?_slot->vt,lookup_relabel_local->vz,codeAny_builtin->vD,raiseNew->vE,pickOrder->vF,firstArgMember->vG,codeAny_mono->yI,keywordEach->yM,setsByText->yZ,wpAny_ite_split->y0,wpAny_execs_nil->Bv,letOwnedTupleGo->Bw,subscripted->BC,tupleKind_room_in1->BF,wpAny_newList->BK,plainId_quiet->BO,wpAny_of_eq->BP,wpAny_attempt->BQ,wpAny_pyIter_tuple->BW,wpAny_typeNameOfWhole_keyiter->Ca,wpAny_typeNameOf_keyiter->Cb,wpAny_Call_Name_kw->Hu,noFill_tuple_add->Hv,wpAny_pyIter_list->HJ,wpAny_pyIter_slot->HQ,wpAny_isInstance->HR,wpAny_dictEntries->Im
open Bool renaming true->ah,false->ak,false_ne_true->eT,and_eq_true->iT,eq_iff_iff->jG,false_eq_true->jK,true_and->oB,false_xor->vJ,or_eq_true->yU,true_xor->zb,not_true->zc,false_and->By,not_false->Ce,not_eq_true'->H_
open PySem.W renaming Frag->ax,nsIn->e_,kitOne->jH,fnOf->kG,mg_none_of->kP,kia_one->l6,mg_of->nr,tabIn->p7,excIn->sM,keepIn->vq,findIn->yH,codeIn->yK,OpenLaw->BH,methodObj->Ho
open PyProof.Rows renaming wpS_bind->aK,wpS_pure->aQ,pendingOf->bz,SortSt->bJ,StrsAre->eE,seqObj->fM,SortKind->gI,wpS_mono->gJ,wpS_forRange->gK,size_push'->jl,envOfC->kF,pairsOf->kN,wpS_get->lz,AllBare->mW,wpS_modify->nt,wpS_lift->sN,listUpdate_at->BS,callWith_type1->Hr,slot_tuple_getitem->RU
open Nat renaming le_refl->a6,le_trans->cq,ne_of_lt->c0,lt_irrefl->fA,lt_of_lt_of_le->iq,zero_le->kJ,lt_succ_of_lt->kL,le_of_lt->lm,le_of_eq->l9,lt_succ_self->nk,ne_of_gt->p9,zero_add->sL,le_succ->vy,lt_of_le_of_lt->yQ,pow_le_pow_right->za,add_comm->BD,lt_trans->BE,mul_le_mul->BM,add_assoc->BY,add_right_comm->HZ,eq_zero_or_pos->Iy
open PySem.Heap renaming get?_push_of_some->bE,lt_size->bG,get?_push_size->cG,SameBut->kD,get?_update_self->nc,get?_update_other->qd,size_push->vx,get?_none_of_le->Hq,get?_update_ne->HU,size_update->HW
open List renaming mem_cons->bI,length_map->b7,map_cons->b8,mem_map->cb,getElem?_eq_some_iff->cE,range->cJ,getElem?_set_ne->cN,size_toArray->cO,length_append->dD,replicate->dP,map_map->dQ,getElem?_set_self->d8,getElem?_map->eD,length_cons->eU,getElem?_eq_getElem->fh,nil_append->f_,length_set->gs,append_assoc->gu,append_nil->gG,foldl_cons->g7,sum_cons->g9,mem_append_right->ir,mem_singleton->iu,mem_append->iP,mem_filter->ji,getElem?_append_left->jk,map_congr_left->jJ,not_mem_nil->jL,any_eq_true->jM,mem_cons_of_mem->j8,nodup_cons->j9,find?_cons->kI,lookup_cons->kK,mem_cons_self->ln,any_cons->lw,all_eq_true->l_,length_eq_zero_iff->me,filter_cons->mf,mem_append_left->mX,length->m8,length_drop->m_,filter_map->nv,mem_of_getElem?->oy,all_cons->oz,take_append_drop->oA,take_of_length_le->oC,getElem?_eq_none->oG,flatMap_cons->oH,dropLast->oI,filter_eq_self->oJ,length_take->qa,getElem?_append_right->qb,length_nil->qf,ext_getElem?->qi,drop_eq_getElem_cons->qj,mem_reverse->qm,cons_append->qo,map_id'->sP,mem_range->vn,filterMap_cons->vo,all_map->vA,eq_nil_of_length_eq_zero->vB,nodup_append->vH,any_map->vI,mem_flatMap->vK,flatMap_append->vL,of_mem_zip->yJ,length_singleton->yN,map_nil->yP,range_succ_eq_map->yR,range_succ->yS,map_append->yT,pairwise_map->yV,foldl_append->yW,drop_length->y3,getElem_of_mem->y9,length_filter_le->y_,filter_congr->zd,nodup_nil->BG,lookup->BI,drop_append_of_le_length->BJ,getElem_mem->BN,getElem?_cons_succ->BR,getElem?_drop->BU,take_zero->BV,count_cons->BX,length_dropLast->BZ,getElem_drop->B2,getElem_take->B3,singleton_append->B4,drop_eq_nil_iff->B5,cons_lt_cons_iff->B7,length_erase_of_mem->Cc,count_append->Cd,mem_map_of_mem->Cf,filter_filter->Cg,any_eq_false->Hs,replicate_succ->HF,lookup_append->HI,length_range->HK,getElem?_of_mem->HX,getElem?_cons_zero->HY,pairwise_append->Ia,pairwise_iff_getElem->Ib,reverse_append->Ic,reverse_perm->Ie,pairwise_reverse->Ig,take_length->Ih,getElem?_take->Ii,toList_toArray->Ij,map_snd_zip->Il,flatMap_nil->Io,take_append_of_le_length->Ip,isEmpty_nil->Iq,mem_or_eq_of_mem_set->Iu,drop_of_length_le->Iv,dropLast_eq_take->Ix,perm_middle->IA,count_eq_zero_of_not_mem->R4
open Option.some renaming inj->cQ
open Ne renaming symm->c_
open Array renaming length_toList->iQ,toList_append->jm,getElem_extract->nu,getElem?_toList->oF,getElem?_eq_some_iff->sE,getElem?_eq_getElem->sK,toList_push->vC,perm_iff_toList_perm->B6,toArray_toList->HN
open PySem.PassesOwn renaming never->iU
open PySem.Obj renaming mapSeq->j_,mapFields->nq,data_mapFields->ql,isFreed_of_fields->y4,cls_mapFields->HV
open Int renaming toNat_natCast->kH,emod_lt_of_pos->Ir
open Iff renaming rfl->kM
open PySem.Str renaming empty->lq,ofString->sy
open PyProof.Rows.KeyOrd renaming kle_of_klt->lA,kle_refl->ma,kle_trans->sO
open List.cons renaming injEq->lB
open False renaming elim->l7
open PySem.Paired renaming length->mV,snoc->yO
open PySem.Heap.SameBut renaming update->oD
open List.Perm renaming refl->qg,append_left->yY
open Function renaming comp->qp,comp_def->sF
open PySem.SetTable renaming grown->sI,below->RY
open PySem.Value renaming isStrOf->vm
open PySem.Builtin.Str renaming occurrences->yG
open PySem.SeqAt renaming EqAt->yL
open PySem.Around renaming under_plainId->yX
open Nat.succ renaming inj->y6
open Exists renaming elim->y8
open PySem.Calls renaming spliced_cons->Bz,spliced_nil->Ht,callWith_builtin->HB,evalArgs_plain->HD,call_function_entry->HL
open PySem.Builtin.Slice renaming slicePlaces->BA,sliceAdjust->Hz
open PySem.Builtin.Tuple renaming tupleExact->BB
open PySem.Builtin.SmallTypes renaming nextOf->B8
open PySem.F renaming slot_tuple_iterator_next->B9,slot_dict_keyiterator_next->B_,slot_tuple_add->Hw,entry_tuple_add->Hx,args_tuple_add_2->Hy,slot_dict_get->HH,entry_dict_keyiterator_next->RZ,args_dict_keyiterator_next_1->R3
open PySem.Builtin.List renaming listTooLong->HE
open PySem.Builtin renaming sorted->HM
open PyProof.Rows.F renaming plain_set_update_loop->HP,entry_set_update_loop->RW
open PySem.SetTable.below renaming go->HS
open Classical renaming byContradiction->Iz
open PySem PySem.Spec PyProof.Rows
namespace L2
abbrev aE:=Sum Int Str
def rM:aE->aj->Bool
 |.inl k,v=>Value.isInt k v
 |.inr x,v=>vm x v
def Rw(w:aL):aE->Int
 |.inl k=>hashInt k
 |.inr x=>hashStr w x
theorem mR:∀{k:aE}{v:aj},rM k v=ah->(∃i t,k=Sum.inl i/\v=Value.int i t)\/(∃x t,k=Sum.inr x/\v=Value.str x t)
 |.inl i,v,h=>by obtain⟨t,e⟩:=Value.isInt_shape (k:=i) (v:=v) h;exact .inl ⟨i,t,rfl,e⟩
 |.inr x,v,h=>by obtain⟨t,e⟩:=Value.isStrOf_shape (x:=x) (v:=v) h;exact .inr ⟨x,t,rfl,e⟩
theorem JO(i:Int)(t:Tok):rM (.inl i) (.int i t)=ah:=by simp[rM,Value.isInt]
theorem OZ(x:Str)(t:Tok):rM (.inr x) (.str x t)=ah:=by simp[rM,vm]
theorem QG(a b:Int):decide ((Sum.inl a:aE)=Sum.inl b)=(a == b):=by
 by_cases e:a=b
 .subst e;simp
 .have h:¬(Sum.inl a:aE)=Sum.inl b:=λq=>e (Sum.inl.inj q);rw[decide_eq_false h];exact(beq_eq_false_iff_ne.mpr e).symm
theorem QZ(a b:Str):decide ((Sum.inr a:aE)=Sum.inr b)=decide (a=b):=by
 by_cases e:a=b
 .subst e;simp
 .have h:¬(Sum.inr a:aE)=Sum.inr b:=λq=>e (Sum.inr.inj q);rw[decide_eq_false h,decide_eq_false e]
theorem KW(a:Int)(b:Str):decide ((Sum.inl a:aE)=Sum.inr b)=ak:=decide_eq_false (λq=>nomatch q)
theorem Lb(a:Str)(b:Int):decide ((Sum.inr a:aE)=Sum.inl b)=ak:=decide_eq_false (λq=>nomatch q)
def gi(c:aR)(w:aL):PySem.KeyKind c w aE where
 is:=rM
 hash:=Rw w
 inj:=λv a b l f=>by
  rcases mR l with⟨i,t,rfl,rfl⟩|⟨x,t,rfl,rfl⟩
  .rcases mR f with⟨j,u,rfl,e⟩|⟨y,u,rfl,e⟩
   .injection e with e1 _;rw[e1]
   .exact nomatch e
  .rcases mR f with⟨j,u,rfl,e⟩|⟨y,u,rfl,e⟩
   .exact nomatch e
   .injection e with e1 _;rw[e1]
 byValue:=λk v h=>by rcases mR h with⟨i,t,rfl,rfl⟩|⟨x,t,rfl,rfl⟩ <;> rfl
 pyHash:=λd h=>by
  rcases mR d with⟨i,t,rfl,rfl⟩|⟨x,t,rfl,rfl⟩
  .exact wpAny_pyHash_int h
  .exact wpAny_pyHash_str h
 eqBool:=λg d h=>by
  rcases mR g with⟨i,t,rfl,rfl⟩|⟨x,t,rfl,rfl⟩
  .rcases mR d with⟨j,u,rfl,rfl⟩|⟨y,u,rfl,rfl⟩
   .rw[QG]at h;exact wpAny_eqBool_int h
   .rw[KW]at h;exact SeqAt.EqAt.int_str i t y u _ _ _ _ h
  .rcases mR d with⟨j,u,rfl,rfl⟩|⟨y,u,rfl,rfl⟩
   .rw[Lb]at h;exact SeqAt.EqAt.str_int x t j u _ _ _ _ h
   .rw[QZ]at h;exact wpAny_eqBool_str h
 «strs»:=λk x t v h=>by
  rcases mR h with⟨i,u,rfl,e⟩|⟨y,u,rfl,e⟩
  .exact nomatch e
  .injection e with e1 _;subst e1;cases v <;> rfl
theorem Jn(a:aR)(w:aL)(i:Int)(t:Tok):(gi a w).is (.inl i) (.int i t)=ah:=JO i t
theorem Lc(a:aR)(w:aL)(x:Str)(t:Tok):(gi a w).is (.inr x) (.str x t)=ah:=OZ x t
inductive V where
 |non|bl (b:Bool)|int (i:Int)|str (x:Str)|byt (b:Array UInt8)|flt (b:UInt64)|ref (a:ag)|ty (n:String)
 deriving DecidableEq
def RelV:V->aj->Prop
 |.non,u=>u=Value.none
 |.bl b,u=>u=Value.bool b
 |.int i,u=>∃t,u=Value.int i t
 |.str x,u=>∃t,u=Value.str x t
 |.byt b,u=>∃t,u=Value.bytes b t
 |.flt b,u=>∃t,u=Value.float b t
 |.ref a,u=>u=Value.ref a
 |.ty n,u=>u=Value.type n
abbrev bL:List V->List aj->Prop:=d7 RelV
theorem bL.length{xs:List V}{a:List aj}(r:bL xs a):xs.length=a.length:=mV r
theorem bL.get:∀{a:List V}{b:List aj}{i:Nat}{x:V},bL a b->a[i]?=aa x->∃u,b[i]?=aa u/\RelV x u
 |_,_,_,_,.nil,e=>by simp at e
 |_,_,0,_,.cons r _,e=>by simp at e;subst e;exact⟨_,rfl,r⟩
 |_,_,i+1,x,.cons _ t,e=>by obtain⟨u,d,c⟩:=bL.get (i:=i) (x:=x) t (by simpa using e);exact⟨u,by simpa using d,c⟩
theorem bL.set{x:V}{u:aj}(r:RelV x u):∀{a:List V}{b:List aj} (i:Nat),bL a b->bL (a.set i x) (b.set i u)
 |_,_,_,.nil=>.nil
 |_,_,0,.cons _ t=>.cons r t
 |_,_,i+1,.cons q t=>.cons q (bL.set r i t)
theorem bL.append:∀{b a:List V}{d c:List aj},bL b d->bL a c->bL (b++a) (d++c)
 |_,_,_,_,.nil,s=>s
 |_,_,_,_,.cons r t,s=>.cons r (bL.append t s)
theorem bL.take:∀{a:List V}{b:List aj} (n:Nat),bL a b->bL (a.take n) (b.take n)
 |_,_,0,_=>.nil
 |_,_,_+1,.nil=>.nil
 |_,_,n+1,.cons r t=>.cons r (bL.take n t)
theorem bL.drop:∀{a:List V}{b:List aj} (n:Nat),bL a b->bL (a.drop n) (b.drop n)
 |_,_,0,r=>r
 |_,_,_+1,.nil=>.nil
 |_,_,n+1,.cons _ t=>bL.drop n t
def oq:Option V->Option aj->Prop
 |some v,aa u=>RelV v u
 |none,ae=>True
 |_,_=>False
def KV{a:Type}:List (a×V)->List (a×aj)->Prop:=d7 λ(p:a×V) (q:a×aj)=>p.1=q.1/\RelV p.2 q.2
def kV:aE->V
 |.inl i=>.int i
 |.inr x=>.str x
inductive HO where
 |lst (xs:List V)
 |tup (xs:List V)
 |dK (kvs:List (aE×V))|dT (kvs:List (List aE×V))
 |set (S:Int->Bool) (n:Nat)
 |ins (C dx:ag) (fs:List (Str×V))
 |own (x:ag)
 |xd (fs:List (Str×V))
 |met (f x:ag)
 |rng (lo hi:Int)
 |frz (o:Obj) (u:HO)
 |tbl (q:Str)
 |ext (φ:aC->Prop)
abbrev Hp:=ag->Option HO
def upd(H:Hp)(a:ag)(o:HO):Hp:=λb=>if b=a then aa o else H b
theorem upd_same{H:Hp}{a:ag}{o:HO}:upd H a o a=aa o:=by unfold upd;rw[if_pos rfl]
theorem bh{H:Hp}{a b:ag}{o:HO}(h:b≠a):upd H a o b=H b:=by unfold upd;rw[if_neg h]
theorem wC{H:Hp}{a b:ag}{o u:HO}(h:H a=aa o)(h':H b=aa u)(d:o≠u):a≠b:=by intro e;subst e;rw[h]at h';exact d (cQ h')
theorem rf{H:Hp}{a b:ag}{o:HO}(h:H a=aa o)(c:H b=ae):a≠b:=by
 intro e;subst e;rw[h]at c;cases c
def Hl(h:aC)(a:ag)(b:Array aj):Prop:=IsTup h a b/\∃o,h.get? a=aa o/\o.dict=ae
theorem Hl.new(h:aC)(its:Array aj):Hl (h.push {cls:=.type "tuple",data:=.seq its}) h.objs.size its:=⟨IsTup.new _ _,_,cG _ rfl,rfl⟩
section
variable(P:aR)(w:aL)
def cn(H:Hp)(h:aC)(a:ag):HO->Prop
 |.lst g=>g.length<=bn/\∃(d:List aj) (n:Nat),bL g d/\h.get? a=aa {cls:=.type "list",data:=.seq d.toArray n}
 |.tup g=>g.length<=bn/\∃d:List aj,bL g d/\Hl h a d.toArray
 |.dK b=>b.length<=bn/\(a == jF)=ak/\∃y,KV b y/\h.DictOf (gi P w) a y
 |.dT b=>b.length<=bn/\(a == jF)=ak/\∃g:List (List aE×ag×aj),
   d7 (λ(p:List aE×V) (q:List aE×ag×aj)=>p.1=q.1/\H q.2.1=aa (.tup (p.1.map kV))/\RelV p.2 q.2.2) b g /\
   ∃o es ep,h.get? a=aa o/\o.ExactDict/\o.data=.dict es ep/\es.toList=g.map (entryOfKey (sr (gi P w)))/\(g.map (·.1)).Nodup
 |.set S n=>h.SetOf (intKind P w) a S n
 |.ins C j fs=>H j=aa (.own a)/\fs.length<=1000/\j≠a/\h.get? a=aa (PySem.W.instObj C j) /\
   ∃i,h.Ns1 j i/\(∀f,oq (fs.lookup f) (i f))/\PySem.Within i (fs.map (·.1))
 |.own _=>∃o,h.get? a=aa o
 |.xd fs=>∃i,h.Ns1 a i/\∀f,oq (fs.lookup f) (i f)
 |.rng B D=>∃t u v,h.get? a=aa {cls:=.type "range",data:=.fields #[.int B t,.int D u,.int 1 v]}
 |.frz o u=>h.get? a=aa o/\cn H h a u
 |.tbl q=>∃m:Array aj,h.get? a=aa {cls:=.none,data:=.fields m}/\TriplesOk m.toList/\∀r s,codeAmong r m.toList=aa s->∃c,s=.ref c/\H c=aa (.own a)/\h.CodeRec s q
 |.met f x=>h.get? a=aa (Ho (.ref f) (.ref x))
 |.ext l=>l h/\(∃o,h.get? a=aa o)/\∀A z:aC,l A->(∀o,A.get? a=aa o->z.get? a=aa o)->l z
def dH(H:Hp)(h:aC):Prop:=∀a o,H a=aa o->cn P w H h a o
end
section
variable{P:aR}{w:aL}{H i:Hp}{h h':aC}{a:ag}{o:HO}
theorem cn.lt(x:cn P w H h a o):a<h.objs.size:=by
 cases o with
 |lst c=>obtain⟨_,_,_,_,e⟩:=x;exact bG e
 |tup c=>obtain⟨_,_,_,p,_⟩:=x;exact p.lt
 |dK b=>obtain⟨_,_,_,_,o,_,_,e,_⟩:=x;exact bG e
 |dT b=>obtain⟨_,_,_,_,o,_,_,e,_⟩:=x;exact bG e
 |set S n=>obtain⟨o,_,_,_,e,_⟩:=x;exact bG e
 |ins C m fs=>obtain⟨_,_,_,e,_⟩:=x;exact bG e
 |own y=>obtain⟨_,e⟩:=x;exact bG e
 |xd fs=>obtain⟨_,⟨_,_,_,e,_⟩,_⟩:=x;exact bG e
 |rng j l=>obtain⟨_,_,_,e⟩:=x;exact bG e
 |frz g u=>obtain⟨e,_⟩:=x;exact bG e
 |tbl q=>obtain⟨_,e,_⟩:=x;exact bG e
 |met f y=>exact bG (show h.get? a=aa _ from x)
 |ext d=>obtain⟨_,⟨_,e⟩,_⟩:=x;exact bG e
theorem Paired.mapP{j g:Type}{F G:j->g->Prop}:∀{d:List j}{c:List g},d7 F d c->(∀a b,F a b->G a b)->d7 G d c
 |_,_,.nil,_=>.nil
 |_,_,.cons r t,f=>.cons (f _ _ r) (Paired.mapP t f)
theorem cn.stay(x:cn P w H h a o)(k:∀b u,(b=a\/H b=aa (.own a))->h.get? b=aa u->h'.get? b=aa u)(K:∀b,H b=aa (.own a)->i b=aa (.own a)) (X:∀b A,H b=aa (.tup A)->i b=aa (.tup A)):cn P w i h' a o:=by
 induction o with
 |lst A=>obtain⟨z,s,n,r,e⟩:=x;exact⟨z,s,n,r,k _ _ (.inl rfl) e⟩
 |tup A=>obtain⟨z,s,r,⟨j,e,c⟩,Q,B,M⟩:=x;exact⟨z,s,r,⟨j,k _ _ (.inl rfl) e,c⟩,Q,k _ _ (.inl rfl) B,M⟩
 |dK I=>obtain⟨z,y,D,r,j,l,m,e,c⟩:=x;exact⟨z,y,D,r,j,l,m,k _ _ (.inl rfl) e,c⟩
 |dT I=>obtain⟨z,y,A,r,j,l,m,e,c⟩:=x;exact⟨z,y,A,Paired.mapP r λp q z=>⟨z.1,X _ _ z.2.1,z.2.2⟩,j,l,m,k _ _ (.inl rfl) e,c⟩
 |set S n=>obtain⟨j,l,m,t,e,c⟩:=x;exact⟨j,l,m,t,k _ _ (.inl rfl) e,c⟩
 |ins C dx fs=>obtain⟨d,z,T,e,G,⟨F,l,m,B,c⟩,r⟩:=x;exact⟨K _ d,z,T,k _ _ (.inl rfl) e,G,⟨F,l,m,k _ _ (.inr d) B,c⟩,r⟩
 |own y=>obtain⟨j,e⟩:=x;exact⟨j,k _ _ (.inl rfl) e⟩
 |xd fs=>obtain⟨G,⟨F,l,m,e,c⟩,r⟩:=x;exact⟨G,⟨F,l,m,k _ _ (.inl rfl) e,c⟩,r⟩
 |rng lo hi=>obtain⟨t,u,v,e⟩:=x;exact⟨t,u,v,k _ _ (.inl rfl) e⟩
 |frz j u W=>obtain⟨e,q⟩:=x;exact⟨k _ _ (.inl rfl) e,W q⟩
 |tbl q=>
  obtain⟨O,e,t,g⟩:=x;refine⟨O,k a _ (.inl rfl) e,t,λE cv Y=>?_⟩;obtain⟨c,rfl,L,M,o,D,N,B,Z,r⟩:=g E cv Y;cases B;exact⟨c,rfl,K c L,c,o,D,N,rfl,k c _ (.inr L) Z,r⟩
 |met f y=>have e:h.get? a=aa (Ho (.ref f) (.ref y)):=x;show h'.get? a=aa (Ho (.ref f) (.ref y));exact k a _ (.inl rfl) e
 |ext φ=>obtain⟨p,⟨o,e⟩,J⟩:=x;exact⟨J _ _ p λo q=>k _ _ (.inl rfl) q,⟨o,k _ _ (.inl rfl) e⟩,J⟩
theorem dH.lt(x:dH P w H h)(e:H a=aa o):a<h.objs.size:=(x a o e).lt
theorem dH.fresh(x:dH P w H h)(e:h.objs.size<=a):H a=ae:=by
 cases q:H a with
 |none=>rfl
 |some u=>exact absurd (iq (x.lt q) e) (fA _)
theorem dH.kept(x:dH P w H h)(k:∀b u,h.get? b=aa u->h'.get? b=aa u):dH P w H h':=λa o e=>(x a o e).stay (λb u _ q=>k b u q) (λ_ q=>q) λ_ _ q=>q
theorem dH.laid(x:dH P w H h)(k:∀b u,h.get? b=aa u->h'.get? b=aa u)(f:h.objs.size<=a)(new:cn P w (upd H a o) h' a o):dH P w (upd H a o) h':=λb u e=>by
 have hn:=x.fresh f;by_cases d:b=a
 .subst d;rw[upd_same]at e;cases e;exact new
 .rw[bh d]at e;exact(x b u e).stay (λc v _ q=>k c v q) (λc q=>by rw[bh (rf q hn)];exact q) λc g q=>by rw[bh (rf q hn)];exact q
end
def Rd(H:Hp)(a:ag)(u:HO):Prop:=H a=aa u\/∃o,H a=aa (.frz o u)
theorem Rd.ok{P:aR}{w:aL}{H:Hp}{h:aC}{a:ag}{u:HO}(r:Rd H a u)(x:dH P w H h):cn P w H h a u:=by
 rcases r with r|⟨o,r⟩
 .exact x a u r
 .obtain⟨_,q⟩:=x a _ r;exact q
def ug:Option HO->Prop
 |some (.lst _)=>True
 |some (.dK _)=>True
 |some (.dT _)=>True
 |some (.set _ _)=>True
 |some (.ins _ _ _)=>True
 |some (.ext _)=>True
 |_=>False
section
variable{P:aR}{w:aL}{H:Hp}{h a:aC}{x e:ag}{d:HO}
theorem dH.write(ok:dH P w H h)(j:ug (H x))(p:e=x\/H e=aa (.own x))(k:∀b u,b≠e->h.get? b=aa u->a.get? b=aa u)(s:∃u,a.get? e=aa u)(new:cn P w (upd H x d) a x d):dH P w (upd H x d) a:=λb u q=>by
 have f:∀c y,H c=aa (.own y)->c≠x:=λc y r z=>by subst z;rw[r]at j;exact j
 have g:∀c i,H c=aa (.tup i)->c≠x:=λc i r z=>by subst z;rw[r]at j;exact j
 by_cases n:b=x
 .subst n;rw[upd_same]at q;cases q;exact new
 .rw[bh n]at q;by_cases l:b=e
  .have o:H b=aa (.own x):=by
    rcases p with z|z
    .exact absurd (l.trans z) n
    .rw[l];exact z
   rw[q]at o;cases o;obtain⟨v,A⟩:=s;exact⟨v,by rw[l];exact A⟩
  .refine(ok b u q).stay (λc v m r=>k c v ?_ r) (λc r=>by rw[bh (f c b r)];exact r) λc i r=>by rw[bh (g c i r)];exact r
   rcases m with rfl|m
   .exact l
   .rintro rfl;rcases p with z|z
    .exact f c b m z
    .rw[m]at z;cases z;exact n rfl
end
structure Un(fs ex:List ag)(H H':Hp)(h h':aC):Prop where
 keep:∀b o,h.get? b=aa o->H b=ae->b∉fs->b∉ex->h'.get? b=aa o
 slot:∀b o,h.get? b=aa o->H b=ae->b∈fs->b∉ex->∃sl,h'.get? b=aa {o with slots:=sl}
 free:∀b o,h.get? b=aa o->H b=ae->b∉ex->H' b=ae
 there:∀b o,h.get? b=aa o->b∉ex->∃o',h'.get? b=aa o'
 tups:∀b xs,H b=aa (.tup xs)->H' b=aa (.tup xs)
 frzs:∀b o u,H b=aa (.frz o u)->H' b=aa (.frz o u)
 tbls:∀b q,H b=aa (.tbl q)->H' b=aa (.tbl q)
section
variable{fs d ex f:List ag}{H g j:Hp}{h c i h':aC}{a x e:ag}{o:HO}
theorem Un.any(u:Un fs ex H g h c){b:ag}{l:Obj}(q:h.get? b=aa l)(n:H b=ae)(m:b∉ex):∃r,c.get? b=aa {l with slots:=r}:=by
 by_cases p:b∈fs
 .exact u.slot b l q n p m
 .exact⟨l.slots,u.keep b l q n p m⟩
theorem Un.kept(k:∀b u,h.get? b=aa u->h'.get? b=aa u):Un fs ex H H h h' :=⟨λb l q _ _ _=>k b l q,λb l q _ _ _=>⟨l.slots,k b l q⟩,λ_ _ _ n _=>n,λb l q _=>⟨l,k b l q⟩,λ_ _ q=>q,λ_ _ _ q=>q,λ_ _ q=>q⟩
theorem Un.refl:Un fs ex H H h h:=Un.kept λ_ _ q=>q
theorem Un.laid(k:∀b u,h.get? b=aa u->h'.get? b=aa u)(m:h.objs.size<=a)(hn:H a=ae):Un fs ex H (upd H a o) h h' where
 keep:=λb u q _ _ _=>k b u q
 slot:=λb u q _ _ _=>⟨u.slots,k b u q⟩
 free:=λb u q n _=>by rw[bh (c0 (iq (bG q) m))];exact n
 there:=λb u q _=>⟨u,k b u q⟩
 tups:=λb l q=>by rw[bh (rf q hn)];exact q
 frzs:=λb u l q=>by rw[bh (rf q hn)];exact q
 tbls:=λb p q=>by rw[bh (rf q hn)];exact q
theorem Un.write(l:ug (H x))(B:e=x\/H e=aa (.own x))(k:∀b u,b≠e->h.get? b=aa u->h'.get? b=aa u)(y:∃u,h'.get? e=aa u):Un fs ex H (upd H x o) h h':=by
 have s:∀b,H b=ae->b≠x:=λb n z=>by subst z;rw[n]at l;exact l
 have v:∀b,H b=ae->b≠e:=λb n z=>by
  subst z;rcases B with r|r
  .exact s b n r
  .rw[n]at r;cases r
 have m:∀b u,H b=aa u->¬ug (aa u)->b≠x:=λb u q A z=>by subst z;rw[q]at l;exact A l
 refine⟨λb u q n _ _=>k b u (v b n) q,λb u q n _ _=>⟨u.slots,k b u (v b n) q⟩,λb u q n _=>by rw[bh (s b n)];exact n,λb u q _=>?_,
  λb w q=>by rw[bh (m b _ q λz=>z)];exact q,λb u w q=>by rw[bh (m b _ q λz=>z)];exact q,λb C q=>by rw[bh (m b _ q λz=>z)];exact q⟩
 by_cases p:b=e
 .subst p;exact y
 .exact⟨u,k b u p q⟩
end
def xR(h:aC)(H:Hp):List ag:=(cJ h.objs.size).filter λa=>(H a).isSome
def mH(h:aC)(H:Hp):aC:=PySem.W.hideAll h (xR h H)
theorem IR(h:aC)(H:Hp):(mH h H).objs.size=h.objs.size:=PySem.W.hideAll_size _ _
theorem MI{h:aC}{H:Hp}{b:ag}{o:Obj}(e:h.get? b=aa o)(n:H b=ae):(mH h H).get? b=aa o :=PySem.W.hideAll_get _ e λa=>by have q:(H b).isSome=ah:=(ji.mp a).2;rw[n]at q;simp at q
theorem RO{h:aC}{H:Hp}{b:ag}{o:Obj}(e:(mH h H).get? b=aa o):h.get? b=aa o/\H b=ae:=by
 have a:h.get? b=aa o:=PySem.W.of_hideAll (xR h H) e;refine⟨a,?_⟩;cases q:H b with
 |none=>rfl
 |some x=>
  have c:b∈xR h H:=ji.mpr ⟨vn.mpr (bG a),by simp[q]⟩;have z:(mH h H).get? b=ae:=PySem.W.hideAll_none (xR h H) c;rw[z]at e;cases e
def OD(g h:aC)(L:ag):List (ag×Obj):=(cJ h.objs.size).filterMap λa=>if a=L\/(g.get? a).isSome=ah then ae else(h.get? a).map λo=>(a,o)
def rest(g h:aC)(L d:ag):List (ag×Obj):=(OD g h L).filter λp=>decide (p.1≠d)
structure Mod(K:ax)(mg:Str->Option aj)(base:aC):Prop where
 kin:K.In base
 glob:base.Ns cR mg
 blt:∃mb,base.Ns p6 mb/\∀x:Str,x≠"__name__"->mb x=fg x
 nolimit:base.NoLimit
 bm:∃bm ob,mg "__builtins__"=aa (.ref bm)/\bm≠p6/\base.get? bm=aa ob/\ob.cls=.type "module"/\ob.dict=aa p6/\ob.data=.plain
set_option genInjectivity false in
structure Cx where
 prog:aR
 w:aL
 K:ax
 mg:Str->Option aj
 base:aC
 A:aY
 N:List Str
 s₀:ao
 H₀:Hp
 env:Env
 outer:List Env
 stack:List Env
 ex:List ag
 fn:Str->Bool
 calm:Bool
 pn:List (ag×Obj)
 xe:aj->ao->Prop
def gg(l:List Env):List ag:=l.filterMap (·.frame)
abbrev Cx.fs(X:Cx):List ag:=gg X.outer
def eJ(a:eC)(x:Str):Prop:=a.names.lookup x=aa .local\/a.names.lookup x=aa .cell\/a.names.lookup x=aa .free
def Loc(a:eC)(x:Str):Prop:=a.names.lookup x=aa .local\/a.names.lookup x=aa .cell
def Look(a:Env)(h:aC)(m:Str->Option aj)(x:Str)(u:aj):Prop :=(a.kindOf x=aa .local/\m x=aa u)\/((a.kindOf x=aa .cell\/a.kindOf x=aa .free)/\∃c,a.cells.lookup x=aa c/\h.IsCell c (aa u))
def Bi:List Str:=["road"]
def wx(K:ax)(H:Hp):Prop:=∀x∈Bi,∀c P,p7 K x=aa (c,P)->H P=aa (.tbl (x++".<locals>.<lambda>"))
set_option genInjectivity false in
structure Cx.Ok(X:Cx):Prop where
 mod:Mod X.K X.mg X.base
 kind:X.env.scope.kind=.function
 glob:X.env.globals=cR
 blt:X.env.builtins=p6
 above:X.s₀.heap.objs.size<=X.env.locals
 inj:∀x y c,X.env.cells.lookup x=aa c->X.env.cells.lookup y=aa c->x=y
 has:∀x,(X.env.kindOf x=aa .cell\/X.env.kindOf x=aa .free)->∃c,X.env.cells.lookup x=aa c
 cab:∀x c,X.fn x=ah->X.env.cells.lookup x=aa c->X.s₀.heap.objs.size<=c
 hd:X.calm=ah->X.A.handled=ae
 frames:X.A.frames=aa X.stack
 stk:X.stack=X.outer\/(X.stack=X.env::X.outer/\X.env.frame=aa X.env.locals)
 exf:∀b∈X.ex,b≠X.env.locals/\∀x c,X.env.cells.lookup x=aa c->c≠b
 bs:∀b o,X.base.get? b=aa o->X.s₀.heap.get? b=aa o/\X.H₀ b=ae
 bsz:X.base.objs.size<=X.s₀.heap.objs.size
 noex:∀b o,X.base.get? b=aa o->b∉X.ex
 exfs:∀b∈X.ex,b∉X.fs
 funs:X.s₀.heap.FunFrames X.base X.outer
 frf:∀b∈X.fs,X.H₀ b=ae
 tab:wx X.K X.H₀
structure Inv(X:Cx)(af:List (ag×Obj))(σ:List (Option V))(H:Hp)(s:ao):Prop where
 ok:X.Ok
 os:s.os=X.s₀.os
 bare:mW s.gens
 base:Un X.fs X.ex X.H₀ H X.s₀.heap s.heap
 loc:∃m,s.heap.Ns X.env.locals m/\∀(i:Nat) (x:Str) (v:V),X.N[i]?=aa x->σ[i]?=aa (aa v)->eJ X.env.scope x->∃u,RelV v u/\Look X.env s.heap m x u
 cell:∀x c,X.env.cells.lookup x=aa c->∃v,s.heap.IsCell c v
 free:H X.env.locals=ae
 freeC:∀x c,X.env.cells.lookup x=aa c->H c=ae
 pin:∀p∈X.pn++af,s.heap.get? p.1=aa p.2/\H p.1=ae/\p.1≠X.env.locals/\p.1∉X.fs/\∀v,p.2.data≠.cell v
 hok:dH X.prog X.w H s.heap
 len:σ.length=X.N.length
section
variable{X:Cx}{f:List (ag×Obj)}{g:List (Option V)}{H w:Hp}{s:ao}{h':aC}
theorem Cx.Ok.nofr(ok:X.Ok){b:ag}{o:Obj}(e:X.base.get? b=aa o):b∉X.fs:=λa=>by
 have:=(ok.funs.mem a).1;rw[e]at this;cases this
theorem Inv.bs(I:Inv X f g H s):∀b o,X.base.get? b=aa o->s.heap.get? b=aa o/\H b=ae:=λb o e=>⟨I.base.keep b o (I.ok.bs b o e).1 (I.ok.bs b o e).2 (I.ok.nofr e) (I.ok.noex b o e),I.base.free b o (I.ok.bs b o e).1 (I.ok.bs b o e).2 (I.ok.noex b o e)⟩
theorem Inv.bk(I:Inv X f g H s):∀b o,X.base.get? b=aa o->s.heap.get? b=aa o:=λb o e=>(I.bs b o e).1
theorem Inv.mod(I:Inv X f g H s):Mod X.K X.mg X.base:=I.ok.mod
theorem Inv.kIn(I:Inv X f g H s):X.K.In s.heap:=I.ok.mod.kin.keeps I.bk
theorem Inv.lt(I:Inv X f g H s):X.env.locals<s.heap.objs.size:=let ⟨_,hn,_⟩:=I.loc;hn.lt
theorem Inv.sz(I:Inv X f g H s):X.s₀.heap.objs.size<=s.heap.objs.size:=cq I.ok.above (lm I.lt)
theorem Inv.nofs(I:Inv X f g H s){a:ag}(h:s.heap.objs.size<=a):a∉X.fs:=λc=>by obtain⟨_,o,b,_⟩:=I.ok.funs.mem c;exact absurd (iq (bG b) (cq I.sz h)) (fA _)
theorem Inv.cne(I:Inv X f g H s):∀x c,X.env.cells.lookup x=aa c->c≠X.env.locals:=λx c e z=>by
 obtain⟨v,o,a,b⟩:=I.cell x c e;obtain⟨m,⟨i,j,l,h,d,_⟩,_⟩:=I.loc;rw[z,h]at a;cases a;rw[d]at b;cases b
theorem Inv.tab(I:Inv X f g H s):wx X.K H:=λx a c P h=>I.base.tbls P _ (I.ok.tab x a c P h)
theorem Inv.funs(I:Inv X f g H s):s.heap.FunFrames X.base X.outer:=by
 have all:∀(l:List Env),(∀b∈gg l,b∈X.fs)->X.s₀.heap.FunFrames X.base l->s.heap.FunFrames X.base l:=by
  intro l
  induction l with
  |nil=>intro _ _;trivial
  |cons v r i=>intro h p;obtain⟨q,⟨L,o,a,n,m,u⟩,j⟩:=p;have d:L∈X.fs:=h L (by unfold gg;rw[vo,a];exact ln);obtain⟨x,e⟩:=I.base.slot L o m (I.ok.frf L d) d λz=>I.ok.exfs L z d;exact⟨q,⟨L,_,a,n,e,u⟩,i (λb c=>h b (by unfold gg;rw[vo,a];exact j8 _ c)) j⟩
 exact all X.outer (λ_ c=>c) I.ok.funs
theorem Inv.stack(I:Inv X f g H s):s.heap.FunFrames X.base X.stack:=by
 rcases I.ok.stk with e|⟨e,b⟩
 .rw[e];exact I.funs
 .rw[e];obtain⟨m,a,_⟩:=I.loc;refine .cons (by rw[I.ok.kind];decide) b a ?_ I.funs;exact Hq (cq I.ok.bsz I.ok.above)
theorem Inv.stkSub(I:Inv X f g H s):∀b∈gg X.stack,b∈X.env.locals::X.fs:=λb a=>by
 rcases I.ok.stk with e|⟨e,c⟩
 .rw[e]at a;exact j8 _ a
 .rw[e]at a;unfold gg at a;rw[vo,c]at a;exact a
theorem Inv.stkFree(I:Inv X f g H s):∀b∈gg X.stack,H b=ae:=λb a=>by
 rcases bI.mp (I.stkSub b a)with e|a
 .rw[e];exact I.free
 .obtain⟨_,o,c,_⟩:=I.ok.funs.mem a;exact I.base.free b o c (I.ok.frf b a) λz=>I.ok.exfs b z a
theorem Inv.step{g':Array GenState}{t':Nat}{d':Drawn}{ch:List ag}(I:Inv X f g H s)(M:∀b∈ch,(b∈X.ex\/X.s₀.heap.objs.size<=b)/\b≠X.env.locals/\(∀x c,X.env.cells.lookup x=aa c->c≠b)/\∀p∈X.pn++f,p.1≠b)(keep:∀b o,b≠X.env.locals->b∉X.fs->b∉ch->s.heap.get? b=aa o->H b=ae->h'.get? b=aa o)(B:∀b o,b≠X.env.locals->b∈X.fs->b∉ch->s.heap.get? b=aa o->H b=ae->∃P,h'.get? b=aa {o with slots:=P}) (free:∀b o,b∉ch->s.heap.get? b=aa o->H b=ae->w b=ae)(C:∀b o,b∉ch->s.heap.get? b=aa o->∃K,h'.get? b=aa K)(G:∀b A,H b=aa (.tup A)->w b=aa (.tup A)) (N:∀b o u,H b=aa (.frz o u)->w b=aa (.frz o u)) (J:∀b q,H b=aa (.tbl q)->w b=aa (.tbl q))(ns:∀m,s.heap.Ns X.env.locals m->h'.Ns X.env.locals m) (Q:dH X.prog X.w w h') (hg:mW g'):Inv X f g w {s with heap:=h',gens:=g',drawn:=d',toks:=t'}:=by
 have L:∀b o,X.s₀.heap.get? b=aa o->b≠X.env.locals:=λb o e=>c0 (iq (bG e) I.ok.above);have y:∀b o,X.s₀.heap.get? b=aa o->b∉X.ex->b∉ch:=λb o e a D=>by
  rcases(M b D).1 with z|z
  .exact a z
  .exact absurd (iq (bG e) z) (fA _)
 have j:∀x c,X.env.cells.lookup x=aa c->∀v,s.heap.IsCell c v->h'.IsCell c v:=λx c e v ⟨o,F,S⟩=>by
  have h:c∉ch:=λz=>(M c z).2.2.1 x c e rfl;by_cases hc:c∈X.fs
  .obtain⟨P,q⟩:=B c o (I.cne x c e) hc h F (I.freeC x c e);exact⟨_,q,S⟩
  .exact⟨o,keep c o (I.cne x c e) hc h F (I.freeC x c e),S⟩
 refine⟨I.ok,I.os,hg,⟨λb o e n D a=>?_,λb o e n D a=>?_,λb o e n a=>?_,λb o e a=>?_,λb A e=>G b A (I.base.tups b A e),λb o A e=>N b o A (I.base.frzs b o A e),λb ps e=>?_⟩,?_,λx c e=>?_,?_,λx c e=>?_,λp Z=>?_,Q,I.len⟩
 .exact keep b o (L b o e) D (y b o e a) (I.base.keep b o e n D a) (I.base.free b o e n a)
 .obtain⟨P,E⟩:=I.base.slot b o e n D a;obtain⟨O,T⟩:=B b _ (L b o e) D (y b o e a) E (I.base.free b o e n a);exact⟨O,T⟩
 .obtain⟨K,E⟩:=I.base.there b o e a;exact free b K (y b o e a) E (I.base.free b o e n a)
 .obtain⟨K,E⟩:=I.base.there b o e a;exact C b K (y b o e a) E
 .exact J b _ (I.base.tbls b ps e)
 .obtain⟨m,hn,hl⟩:=I.loc;refine⟨m,ns m hn,λi x v E T e3=>?_⟩;obtain⟨u,r,l⟩:=hl i x v E T e3;refine⟨u,r,?_⟩;rcases l with l|⟨k,c,e,z⟩
  .exact .inl l
  .exact .inr ⟨k,c,e,j x c e _ z⟩
 .obtain⟨v,z⟩:=I.cell x c e;exact⟨v,j x c e v z⟩
 .obtain⟨m,⟨o,_,_,F,_⟩,_⟩:=I.loc;exact free _ o (λz=>(M _ z).2.1 rfl) F I.free
 .obtain⟨v,o,F,S⟩:=I.cell x c e;exact free c o (λz=>(M c z).2.2.1 x c e rfl) F (I.freeC x c e)
 .obtain⟨e,n,Y,W,d⟩:=I.pin p Z;have h:p.1∉ch:=λz=>(M p.1 z).2.2.2 p Z rfl;exact⟨keep p.1 p.2 Y W h e n,free p.1 p.2 h e n,Y,W,d⟩
theorem Inv.un{t':Nat}(I:Inv X f g H s)(u:Un X.fs [] H w s.heap h')(a:dH X.prog X.w w h'):Inv X f g w {s with heap:=h',toks:=t'}:=by
 obtain⟨m,⟨o,A,B,i,r⟩,_⟩:=id I.loc;obtain⟨v,q⟩:=u.any i I.free (by simp);exact I.step (g':=s.gens) (d':=s.drawn) (ch:=[]) (λ_ z=>nomatch z) (λb o _ c _ e n=>u.keep b o e n c (by simp)) (λb o _ c _ e n=>u.slot b o e n c (by simp)) (λb o _ e n=>u.free b o e n (by simp)) (λb o _ e=>u.there b o e (by simp)) u.tups u.frzs u.tbls (λy p=>by
  obtain⟨x,d,h,j,l⟩:=p;rw[i]at j;cases j;exact⟨_,d,h,q,l⟩) a I.bare
theorem Inv.call{g':Array GenState}{t':Nat}{d':Drawn}{ch:List ag}(I:Inv X f g H s)(u:Un (gg X.stack) ch H w s.heap h')(d:dH X.prog X.w w h')(B:mW g')(l:∀b∈ch,(b∈X.ex\/X.s₀.heap.objs.size<=b)/\b≠X.env.locals/\(∀x c,X.env.cells.lookup x=aa c->c≠b)/\∀p∈X.pn++f,p.1≠b):Inv X f g w {s with heap:=h',gens:=g',drawn:=d',toks:=t'}:=by
 obtain⟨m,⟨o,G,J,q,r⟩,_⟩:=id I.loc;obtain⟨D,h⟩:=u.any q I.free λz=>(l _ z).2.1 rfl;exact I.step (ch:=ch) l (λb o h C a e n=>u.keep b o e n (λz=>(bI.mp (I.stkSub b z)).elim h C) a) (λb o _ _ a e n=>u.any e n a) (λb o a e n=>u.free b o e n a) (λb o a e=>u.there b o e a) u.tups u.frzs u.tbls (λF A=>by
  obtain⟨E,i,j,v,y⟩:=A;rw[q]at v;cases v;exact⟨_,i,j,h,y⟩) d B
theorem Inv.turned{t':Nat}{it:ag}(I:Inv X f g H s)(k:∀b o,b≠it->s.heap.get? b=aa o->h'.get? b=aa o)(j:H it=ae)(h:it≠X.env.locals)(C:it∈X.ex\/X.s₀.heap.objs.size<=it) (B:∀x c,X.env.cells.lookup x=aa c->c≠it) (A:∀p∈X.pn++f,p.1≠it):Inv X f g H {s with heap:=h',toks:=t'}:=by
 have d:∀b u,H b=aa u->b≠it:=λb u e z=>by rw[z,j]at e;cases e
 refine I.step (g':=s.gens) (d':=s.drawn) (ch:=[it]) (λb y=>?_) (λb o _ _ a e _=>k b o (λz=>a (by simp[z])) e) (λb o _ _ a e _=>⟨o.slots,k b o (λz=>a (by simp[z])) e⟩) (λ_ _ _ _ n=>n)
  (λb o a e=>⟨o,k b o (λz=>a (by simp[z])) e⟩) (λ_ _ e=>e) (λ_ _ _ e=>e) (λ_ _ e=>e) (λm l=>?_) (λb u e=>?_) I.bare
 .have e:b=it:=by simpa using y
  subst e;exact⟨C,h,B,A⟩
 .obtain⟨o,D,E,i,r⟩:=l;exact⟨o,D,E,k _ o (c_ h) i,r⟩
 .refine(I.hok b u e).stay (λc v a q=>k c v ?_ q) (λ_ q=>q) λ_ _ q=>q;rcases a with z|z
  .rw[z];exact d b u e
  .exact d c _ z
theorem Inv.tok(I:Inv X f g H s)(t:Nat):Inv X f g H {s with toks:=t}:=I.un (h':=s.heap) (t':=t) Un.refl I.hok
theorem Inv.kept{t':Nat}(I:Inv X f g H s)(k:∀b u,s.heap.get? b=aa u->h'.get? b=aa u):Inv X f g H {s with heap:=h',toks:=t'}:=I.un (Un.kept k) (I.hok.kept k)
theorem Inv.laid{a:ag}{o:HO}{t':Nat}(I:Inv X f g H s)(k:∀b u,s.heap.get? b=aa u->h'.get? b=aa u)(c:s.heap.objs.size<=a)(new:cn X.prog X.w (upd H a o) h' a o):Inv X f g (upd H a o) {s with heap:=h',toks:=t'}:=I.un (Un.laid k c (I.hok.fresh c)) (I.hok.laid k c new)
theorem Inv.write{x e:ag}{o:HO}{h:Nat}(I:Inv X f g H s)(c:ug (H x))(d:e=x\/H e=aa (.own x))(k:∀b u,b≠e->s.heap.get? b=aa u->h'.get? b=aa u)(a:∃u,h'.get? e=aa u)(new:cn X.prog X.w (upd H x o) h' x o):Inv X f g (upd H x o) {s with heap:=h',toks:=h}:=I.un (Un.write c d k a) (I.hok.write c d k a new)
theorem Inv.pins_of{a:List (ag×Obj)}(I:Inv X f g H s)(h:∀p∈a,s.heap.get? p.1=aa p.2/\H p.1=ae/\p.1≠X.env.locals/\p.1∉X.fs/\∀v,p.2.data≠.cell v):Inv X a g H s :=⟨I.ok,I.os,I.bare,I.base,I.loc,I.cell,I.free,I.freeC,λp b=>(iP.mp b).elim (λz=>I.pin p (mX _ z)) (h p),I.hok,I.len⟩
theorem Dh{N:List Str}(c:N.Nodup){i j:Nat}{x:Str}(a:N[i]?=aa x)(b:N[j]?=aa x):i=j:=by obtain⟨m,h⟩:=cE.mp a;obtain⟨l,d⟩:=cE.mp b;exact(List.getElem_inj c).mp (h.trans d.symm)
theorem Ge{M:Model}{A:aY}{E:aj->ao->Prop}{i:Nat}{x:Str}{v:V}{u:aj}{Q:Unit->ao->Prop}(I:Inv X f g H s)(hN:X.N.Nodup)(T:X.N[i]?=aa x)(F:Loc X.env.scope x)(r:RelV v u)(h:∀s',Inv X f (g.set i (aa v)) H s'->(∃a,kD a s.heap s'.heap/\(a=X.env.locals\/X.env.cells.lookup x=aa a))->Q () s') (hf:X.fn x=ah\/X.env.scope.names.lookup x=aa .local:=by first|exact .inl rfl|exact .inr rfl|assumption):ar M A (storeName X.env x u) Q E s:=by
 obtain⟨m,hn,hl⟩:=id I.loc;have Cn:(X.env.scope.kind == .class||(X.env.scope.kind == .module&&X.env.locals != X.env.globals))=ak:=by rw[I.ok.kind];rfl
 have K:i<g.length:=by rw[I.len];exact(cE.mp T).1
 have cne:=I.cne;have B:∀{a:ag}{h':aC},(∃o,s.heap.get? a=aa o/\H a=ae)->kD a s.heap h'->dH X.prog X.w H h':=λ{a h'} ha l b ob e=>by
  obtain⟨_,_,vM⟩:=ha;refine(I.hok b ob e).stay (λc Y D q=>(l.2 c ?_).trans q) (λ_ q=>q) λ_ _ q=>q;rintro rfl;rcases D with rfl|D
  .rw[vM]at e;cases e
  .rw[vM]at D;cases D
 rcases F with J|J
 .refine wpAny_storeName_local J hn (λh' hn' l=>?_) Cn;obtain⟨oL,_,_,kc,_⟩:=id hn;refine h _ ⟨I.ok,I.os,I.bare,⟨λb o e n O F=>?_,λb o e n O F=>?_,I.base.free,λb o e F=>?_,I.base.tups,I.base.frzs,I.base.tbls⟩,⟨_,hn',λj y v' C G e3=>?_⟩,λy c e=>?_,I.free,I.freeC,λp hp=>?_,B ⟨oL,kc,I.free⟩ l,by simpa using I.len⟩ ⟨_,l,.inl rfl⟩
  .exact(l.2 b (c0 (iq (bG e) I.ok.above))).trans (I.base.keep b o e n O F)
  .obtain⟨sl,C⟩:=I.base.slot b o e n O F;exact⟨sl,(l.2 b (c0 (iq (bG e) I.ok.above))).trans C⟩
  .obtain⟨o',C⟩:=I.base.there b o e F;exact⟨o',(l.2 b (c0 (iq (bG e) I.ok.above))).trans C⟩
  .by_cases L:j=i
   .subst L;rw[T]at C;cases C;rw[d8 K]at G;cases G;exact⟨u,r,.inl ⟨J,by simp⟩⟩
   .rw[cN (c_ L)]at G;obtain⟨u',r',q⟩:=hl j y v' C G e3;refine⟨u',r',?_⟩;rcases q with⟨k,e⟩|⟨k,c,e,z⟩
    .refine .inl ⟨k,?_⟩;have:y≠x:=λe=>L (Dh hN C (e ▸ T));simp[this,e]
    .exact .inr ⟨k,c,e,z.sameBut l (cne y c e)⟩
  .obtain⟨Y,z⟩:=I.cell y c e;exact⟨Y,z.sameBut l (cne y c e)⟩
  .obtain⟨e,n,Z,nf,d⟩:=I.pin p hp;exact⟨(l.2 p.1 Z).trans e,n,Z,nf,d⟩
 .have N:X.fn x=ah:=by
   rcases hf with z|z
   .exact z
   .rw[z]at J;cases J
  obtain⟨c,D⟩:=I.ok.has x (.inl J);obtain⟨Y,z⟩:=I.cell x c D;refine wpAny_storeName_cell I.ok.kind J D z (λh' g_ l=>?_);obtain⟨oc,S,P⟩:=id z;refine h {s with heap:=h'} ⟨I.ok,I.os,I.bare,⟨λb o e n O F=>?_,λb o e n O F=>?_,I.base.free,λb o e F=>?_,I.base.tups,I.base.frzs,I.base.tbls⟩,⟨m,hn.sameBut l (c_ (cne x c D)),λj y v' C G e3=>?_⟩,λy c' e=>?_,I.free,I.freeC,λp hp=>?_,B ⟨oc,S,I.freeC x c D⟩ l,by simpa using I.len⟩ ⟨c,l,.inr D⟩
  .exact(l.2 b (c0 (iq (bG e) (I.ok.cab x c N D)))).trans (I.base.keep b o e n O F)
  .obtain⟨sl,C⟩:=I.base.slot b o e n O F;exact⟨sl,(l.2 b (c0 (iq (bG e) (I.ok.cab x c N D)))).trans C⟩
  .obtain⟨o',C⟩:=I.base.there b o e F;exact⟨o',(l.2 b (c0 (iq (bG e) (I.ok.cab x c N D)))).trans C⟩
  .by_cases L:j=i
   .subst L;rw[T]at C;cases C;rw[d8 K]at G;cases G;exact⟨u,r,.inr ⟨.inl J,c,D,g_⟩⟩
   .rw[cN (c_ L)]at G;obtain⟨u',r',q⟩:=hl j y v' C G e3;refine⟨u',r',?_⟩;rcases q with q|⟨k,c',e,z'⟩
    .exact .inl q
    .refine .inr ⟨k,c',e,z'.sameBut l ?_⟩;rintro rfl;exact L (Dh hN C (I.ok.inj _ _ _ e D ▸ T))
  .by_cases W:c'=c
   .subst W;exact⟨_,g_⟩
   .obtain⟨w2,z2⟩:=I.cell y c' e;exact⟨w2,z2.sameBut l W⟩
  .obtain⟨e,n,Z,nf,d⟩:=I.pin p hp;refine⟨(l.2 p.1 ?_).trans e,n,Z,nf,d⟩;intro q;rw[q,S]at e;have q':oc=p.2:=cQ e;exact d Y (by rw[<-q'];exact P)
theorem FO{M:Model}{A:aY}{E:aj->ao->Prop}{i:Nat}{x:Str}{v:V}{u:aj}{Q:Unit->ao->Prop}(I:Inv X f g H s)(j:X.N.Nodup)(c:X.N[i]?=aa x)(b:Loc X.env.scope x)(r:RelV v u)(h:∀a,Inv X f (g.set i (aa v)) H a->Q () a) (d:X.fn x=ah\/X.env.scope.names.lookup x=aa .local:=by first|exact .inl rfl|exact .inr rfl|assumption):ar M A (storeName X.env x u) Q E s :=Ge I j c b r (λa l _=>h a l) d
theorem Inv.call'{s':ao}{ch:List ag}(I:Inv X f g H s)(i:s'.os=s.os)(u:Un (gg X.stack) ch H w s.heap s'.heap)(a:dH X.prog X.w w s'.heap)(j:mW s'.gens)(h:∀b∈ch,(b∈X.ex\/X.s₀.heap.objs.size<=b)/\b≠X.env.locals/\(∀x c,X.env.cells.lookup x=aa c->c≠b)/\∀p∈X.pn++f,p.1≠b):Inv X f g w s':=by obtain⟨h',g',d',t',d⟩:=s';have e:d=s.os:=i;subst e;exact I.call (g':=g') (t':=t') (d':=d') u a j h
end
abbrev XK:=aj->Option ag->Hp->Prop
abbrev St:=List (Option V)
abbrev VK:=V->Hp->Prop
abbrev TE:=St->Hp->VK->Prop
abbrev TT:=St->Hp->(Bool->Hp->Prop)->Prop
abbrev TA:=St->Hp->(List V->Hp->Prop)->Prop
structure jX where
 nx:St->Hp->Prop
 rt:VK
 bk:St->Hp->Prop:=λ_ _=>False
 ct:St->Hp->Prop:=λ_ _=>False
abbrev TS:=jX->St->Hp->Prop
def EP(X:Cx)(d:List (ag×Obj))(b:St)(Q:VK)(u:aj)(c:ao):Prop:=∃v a,Inv X d b a c/\RelV v u/\Q v a
def TP(X:Cx)(f:List (ag×Obj))(c:St)(Q:Bool->Hp->Prop)(b:Bool)(d:ao):Prop:=∃a,Inv X f c a d/\Q b a
def AP(X:Cx)(g:List (ag×Obj))(c:St)(Q:List V->Hp->Prop)(d:List aj)(f:ao):Prop:=∃a b,Inv X g c b f/\bL a d/\Q a b
def SP(X:Cx)(c:List (ag×Obj))(D:jX)(f:Flow)(s':ao):Prop :=
 match f with
 |.next=>∃a b,Inv X c a b s'/\D.nx a b
 |.brk=>∃a b,Inv X c a b s'/\D.bk a b
 |.cont=>∃a b,Inv X c a b s'/\D.ct a b
 |.ret u=>∃v a b,Inv X c a b s'/\RelV v u/\D.rt v b
def PE(X:Cx)(e:ay)(t:TE):Prop :=
 ∀(b:List (ag×Obj)) (s:ao) (a:St) (H:Hp) (Q:VK),Inv X b a H s->t a H Q->ar (au X.prog X.w) X.A (bi e X.env) (EP X b a Q) X.xe s
def PT(X:Cx)(e:ay)(t:TT):Prop :=
 ∀(b:List (ag×Obj)) (s:ao) (a:St) (H:Hp) (Q:Bool->Hp->Prop),Inv X b a H s->t a H Q->ar (au X.prog X.w) X.A (mY e X.env (bi e X.env)) (TP X b a Q) X.xe s
def PW(X:Cx)(e:ay)(t:TT):Prop :=
 ∀(c:Sem aj) (b:List (ag×Obj)) (s:ao) (a:St) (H:Hp) (Q:Bool->Hp->Prop),Inv X b a H s->t a H Q->ar (au X.prog X.w) X.A (mY e X.env c) (TP X b a Q) X.xe s
def PA(X:Cx)(d:List ay)(t:TA):Prop :=
 ∀(b:Pos) (c:List (ag×Obj)) (s:ao) (a:St) (H:Hp) (Q:List V->Hp->Prop),Inv X c a H s->t a H Q->ar (au X.prog X.w) X.A (spliced (eO b (aZ d X.env))) (AP X c a Q) X.xe s
def PS(X:Cx)(c:bo)(t:TS):Prop :=
 ∀(b:List (ag×Obj)) (s:ao) (a:St) (H:Hp) (D:jX),Inv X b a H s->t D a H->ar (au X.prog X.w) X.A (exec c X.env) (SP X b D) X.xe s
def kA(X:Cx)(c:List bo)(t:TS):Prop :=
 ∀(b:List (ag×Obj)) (s:ao) (a:St) (H:Hp) (D:jX),Inv X b a H s->t D a H->ar (au X.prog X.w) X.A (execs c X.env) (SP X b D) X.xe s
theorem aP{b:Type}{t:Sem b}{Q c:b->ao->Prop}{M:Model}{A:aY}{E:aj->ao->Prop}{s:ao}(h:ar M A t Q E s)(d:∀a s,Q a s->c a s):ar M A t c E s:=f8 h d λ_ _ x=>x
section
variable{X:Cx}
def GI(i:Nat):TE:=λa H Q=>∃v,a[i]?=aa (aa v)/\Q v H
def tC(v:V):TE:=λ_ H Q=>Q v H
theorem fq{i:Nat}{x:Str}{f:Pos}(p:X.N[i]?=aa x)(j:eJ X.env.scope x)(d:(x==("__debug__":Str))=ak:=by decide)(q:(x==("__classdict__":Str))=ak:=by decide):PE X (.Name x f) (GI i):=by
 intro w s g H Q I h;obtain⟨v,e,h⟩:=h;obtain⟨m,n,o⟩:=I.loc;obtain⟨u,r,l⟩:=o i x v p e j;have b:EP X w g Q u s:=⟨v,H,I,r,h⟩
 rcases l with⟨a,hm⟩|⟨a,c,hc,ze⟩
 .exact wpAny_Name (wpAny_loadName_local I.ok.kind a n hm b) d
 .rcases a with a|a
  .exact wpAny_Name (wpAny_loadName_cell I.ok.kind a hc ze b) d
  .exact wpAny_Name (wpAny_loadName_free I.ok.kind a hc ze b q) d
theorem Q1{i j f}:PE X (.Constant (.int i) j f) (tC (.int i)):=λ_ _ _ H _ I h=>wpAny_Constant_int ⟨.int i,H,I.tok _,⟨_,rfl⟩,h⟩
theorem N6{b j f}:PE X (.Constant (.bool b) j f) (tC (.bl b)):=λ_ _ _ H _ I h=>Constant_bool ⟨.bl b,H,I,rfl,h⟩
theorem Oo{j f}:PE X (.Constant .none j f) (tC .non):=λ_ _ _ H _ I h=>Constant_none ⟨.non,H,I,rfl,h⟩
theorem M0{x j f}:PE X (.Constant (.str x) j f) (tC (.str x)):=λ_ _ _ H _ I h=>Calls.Constant_str ⟨.str x,H,I.tok _,⟨_,rfl⟩,h⟩
def Gl(X:Cx)(x:Str):Prop:=X.env.kindOf x=aa .globalImplicit
theorem Bq{E:aj->ao->Prop}{g:List (ag×Obj)}{s:ao}{a:St}{H:Hp}{x:Str}{u:aj}{f:Pos}{Q:aj->ao->Prop}(I:Inv X g a H s)(c:Gl X x)(b:X.mg x=aa u)(h:Q u s)(d:(x==("__debug__":Str))=ak:=by decide):ar (au X.prog X.w) X.A (bi (.Name x f) X.env) Q E s :=Calls.Name_function_global I.ok.kind c (Calls.loadGlobal_global (by rw[I.ok.glob];exact I.mod.glob.keeps I.bk) b h) d
theorem uZ{E:aj->ao->Prop}{m:List (ag×Obj)}{s:ao}{a:St}{H:Hp}{x:Str}{u:aj}{f:Pos}{Q:aj->ao->Prop}(I:Inv X m a H s)(g:Gl X x)(d:X.mg x=ae)(b:fg x=aa u)(h:Q u s)(c:x≠"__name__":=by decide) (i:(x==("__debug__":Str))=ak:=by decide):ar (au X.prog X.w) X.A (bi (.Name x f) X.env) Q E s:=by obtain⟨n,l,j⟩:=I.mod.blt;exact Calls.Name_function_global I.ok.kind g (Calls.loadGlobal_builtin (by rw[I.ok.glob];exact I.mod.glob.keeps I.bk) d (by rw[I.ok.blt];exact l.keeps I.bk) ((j x c).trans b) h) i
theorem FM{x:Str}{v:V}{u:aj}{f:Pos}(b:Gl X x)(a:X.mg x=aa u)(r:RelV v u)(c:(x==("__debug__":Str))=ak:=by decide):PE X (.Name x f) (tC v) :=λ_ _ _ H _ I h=>Bq I b a ⟨v,H,I,r,h⟩ c
theorem Mn{x:Str}{v:V}{u:aj}{f:Pos}(d:Gl X x)(c:X.mg x=ae)(a:fg x=aa u)(r:RelV v u)(b:x≠"__name__":=by decide)(g:(x==("__debug__":Str))=ak:=by decide):PE X (.Name x f) (tC v) :=λ_ _ _ H _ I h=>uZ I d c a ⟨v,H,I,r,h⟩ b g
variable{a b:ay}{g p:TE}{f:Pos}
def PC(X:Cx)(j:CmpOp)(a b:ay)(t:TE):Prop :=
 ∀(i:List (ag×Obj)) (s:ao) (h:St) (H:Hp) (Q:VK),Inv X i h H s->t h H Q ->
  ar (au X.prog X.w) X.A (bi a X.env) (λv d=>ar (au X.prog X.w) X.A (bi b X.env) (λu c=>ar (au X.prog X.w) X.A (d9 j v u) (EP X i h Q) X.xe c) X.xe d) X.xe s
theorem Rb(b:ay){c:CmpOp}(h:c≠.In)(d:c≠.NotIn):p8 c b=ak:=by
 have j:(c == CmpOp.In)=ak:=by cases c <;> first|rfl|exact absurd rfl h
 have i:(c == CmpOp.NotIn)=ak:=by cases c <;> first|rfl|exact absurd rfl d
 cases b <;> simp[p8,j,i]
def tB(t:TE):TT:=λd H Q=>t d H λx h=>∃c,x=.bl c/\Q c h
theorem Qd{i:CmpOp}{t:TE}(h:PC X i a b t)(j:p8 i b=ak:=by first|exact Rb _ (by decide) (by decide)|rfl):PT X (.Compare a [i] [b] f) (tB t):=by
 intro w s l H Q I o;refine wpAny_isTrue_Compare1 (aP (h w s l H _ I o) λv C j=>aP j λu B r=>aP r λc A ⟨x,z,y,m,n⟩=>?_) j;obtain⟨d,rfl,q⟩:=n;cases m;exact ot ⟨z,y,q⟩
theorem PF{e:ay}{t:TE}(h:PE X e t)(n:∀c,mY e X.env c=(do let v <-c;standAt e.pos;ou [v] (truthy v)):=by intro _;rfl):PT X e (tB t):=by
 intro o s i H Q I m;refine isTrue_plain (aP (h o s i H _ I m) λv w ⟨x,u,r,j,l⟩=>?_) (n _);obtain⟨d,rfl,q⟩:=l;cases j;exact ot ⟨u,r,q⟩
variable{n o:TT}{rest:List ay}
def IV(t u:TT):TT:=λd H Q=>t d H λc h=>if c=ah then u d h Q else Q ak h
def JQ(t u:TT):TT:=λd H Q=>t d H λc h=>if c=ah then Q ah h else u d h Q
def QK(t:TT):TT:=λd H Q=>t d H λc h=>Q (!c) h
theorem N5(i:PT X a n):PW X (.BoolOp .And [a] f) n:=by
 intro l j s d H Q I h;refine isTrue_and (aP (i j s d H Q I h) λc m e=>?_);cases c with
 |true=>exact isTrue_and_nil e
 |false=>exact e
theorem MA(i:PT X a n):PW X (.BoolOp .Or [a] f) n:=by
 intro l j s d H Q I h;refine isTrue_or (aP (i j s d H Q I h) λc m e=>?_);cases c with
 |false=>exact isTrue_or_nil e
 |true=>exact e
theorem Mo(v:PT X a n)(u:PW X (.BoolOp .And (b::rest) f) o):PW X (.BoolOp .And (a::b::rest) f) (IV n o):=by
 intro q j s d H Q I h;refine isTrue_and (aP (v j s d H _ I h) λc r ⟨m,l,i⟩=>?_);cases c with
 |true=>exact u q j r d m Q l i
 |false=>exact⟨m,l,i⟩
theorem Of(v:PT X a n)(u:PW X (.BoolOp .Or (b::rest) f) o):PW X (.BoolOp .Or (a::b::rest) f) (JQ n o):=by
 intro q j s d H Q I h;refine isTrue_or (aP (v j s d H _ I h) λc r ⟨m,l,i⟩=>?_);cases c with
 |true=>exact⟨m,l,i⟩
 |false=>exact u q j r d m Q l i
theorem KJ(i:PT X a n):PT X (.UnaryOp .Not a f) (QK n):=by intro j s d H Q I h;exact isTrue_not (i j s d H (λc l=>Q (!c) l) I h)
def KB(g p:TE):TE:=λd H Q=>g d H λx h=>∃c,x=.bl c/\if c=ah then p d h Q else Q (.bl ak) h
def Nt(g:TE):TE:=λd H Q=>g d H λx h=>∃c,x=.bl c/\Q (.bl (!c)) h
theorem Lz{op}{t:TE}(h:PE X a t):PE X (.BoolOp op [a] f) t:=λi s c H Q I d=>BoolOp_one (h i s c H Q I d)
theorem Jd(w:PE X a g)(u:PE X (.BoolOp .And (b::rest) f) p):PE X (.BoolOp .And (a::b::rest) f) (KB g p):=by
 intro j s i H Q I h;refine BoolOp_and (aP (w j s i H _ I h) λv q ⟨x,m,l,r,d⟩=>?_);obtain⟨c,rfl,d⟩:=d;cases r;refine ot ?_;cases c with
 |true=>exact u j q i m Q l d
 |false=>exact⟨.bl ak,m,l,rfl,d⟩
theorem P8(l:PE X a g):PE X (.UnaryOp .Not a f) (Nt g):=by
 intro m s i H Q I h;refine UnaryOp_ (aP (l m s i H _ I h) λv u ⟨x,r,q,j,d⟩=>?_);obtain⟨c,rfl,d⟩:=d;cases j;exact not_of (ot ⟨.bl (!c),r,q,rfl,d⟩)
def ML(t:TT)(g p:TE):TE:=λd H Q=>t d H λc h=>if c=ah then g d h Q else p d h Q
theorem Ms{c:ay}(u:PT X c n)(w:PE X a g)(v:PE X b p):PE X (.IfExp c a b f) (ML n g p):=by
 intro j s i H Q I h;refine wpAny_IfExp (aP (u j s i H _ I h) λd l ⟨r,q,m⟩=>?_);cases d with
 |true=>exact w j l i r Q q m
 |false=>exact v j l i r Q q m
end
def cB(K:ax)(H:Hp)(a:ag)(c:List V):Prop :=
 Rd H a (.lst c) \/
  ∃(o:Obj) (b:Array aj) (n:Nat),K.lookup a=aa o/\o.cls=.type "list"/\o.dict=ae/\o.data=.seq b n/\b.size<=bn/\bL c b.toList
def cp(K:ax)(H:Hp)(a:ag)(c:List V):Prop :=
 Rd H a (.tup c) \/
  ∃(o:Obj) (b:Array aj) (n:Nat),K.lookup a=aa o/\o.cls=.type "tuple"/\o.data=.seq b n/\b.size<=bn/\bL c b.toList
def RS:aj->Option V
 |.none=>aa .non
 |.bool b=>aa (.bl b)
 |.int i _=>aa (.int i)
 |.str x _=>aa (.str x)
 |.bytes b _=>aa (.byt b)
 |.float b _=>aa (.flt b)
 |.ref a=>aa (.ref a)
 |.type n=>aa (.ty n)
 |_=>ae
theorem RelV.abs{x:V}{u:aj}(r:RelV x u):RS u=aa x:=by
 cases x with
 |non=>cases r;rfl
 |bl _=>cases r;rfl
 |int _=>obtain⟨t,rfl⟩:=r;rfl
 |str _=>obtain⟨t,rfl⟩:=r;rfl
 |byt _=>obtain⟨t,rfl⟩:=r;rfl
 |flt _=>obtain⟨t,rfl⟩:=r;rfl
 |ref _=>cases r;rfl
 |ty _=>cases r;rfl
theorem RelV.inj{x y:V}{u:aj}(r:RelV x u)(q:RelV y u):x=y:=cQ (r.abs.symm.trans q.abs)
theorem bL.inj:∀{b a:List V}{c:List aj},bL b c->bL a c->b=a
 |_,_,_,.nil,.nil=>rfl
 |_,_,_,.cons r t,.cons f d=>by rw[r.inj f,bL.inj t d]
section
variable{X:Cx}{g:List (ag×Obj)}{c:St}{H:Hp}{s:ao}{a:ag}{b f:List V}
theorem cB.of{K:ax}(h:H a=aa (.lst b)):cB K H a b:=.inl (.inl h)
theorem cp.of{K:ax}(h:H a=aa (.tup b)):cp K H a b:=.inl (.inl h)
theorem Inv.list(I:Inv X g c H s)(h:cB X.K H a b):∃its:List aj,bL b its/\PlainL s.heap a its.toArray/\b.length<=bn:=by
 rcases h with h|⟨o,its,n,i,l,j,d,m,r⟩
 .obtain⟨z,its,n,r,e⟩:=h.ok I.hok;exact⟨its,r,⟨_,n,e,rfl,rfl,rfl⟩,z⟩
 .refine⟨its.toList,r,⟨o,n,I.kIn a o i,l,j,by simpa using d⟩,?_⟩;have e:=r.length;simp only[iQ]at e;lia
theorem Inv.tuple(I:Inv X g c H s)(h:cp X.K H a b):∃d:List aj,bL b d/\IsTup s.heap a d.toArray/\b.length<=bn:=by
 rcases h with h|⟨o,d,n,j,l,i,m,r⟩
 .obtain⟨z,d,r,p,_⟩:=h.ok I.hok;exact⟨d,r,p,z⟩
 .refine⟨d.toList,r,⟨o,I.kIn a o j,l,n,by simpa using i⟩,?_⟩;have e:=r.length;simp only[iQ]at e;lia
theorem Inv.list_inj(I:Inv X g c H s)(h:cB X.K H a b)(q:cB X.K H a f):b=f:=by
 obtain⟨j,r,⟨o,n,e,_,_,d⟩,_⟩:=I.list h;obtain⟨i,p,⟨u,v,l,_,_,m⟩,_⟩:=I.list q;rw[e]at l;cases l;rw[d]at m;injection m with d1 _;have:j=i:=by simpa using congrArg Array.toList d1
 subst this;exact r.inj p
theorem Inv.tuple_inj(I:Inv X g c H s)(h:cp X.K H a b)(q:cp X.K H a f):b=f:=by
 obtain⟨j,r,⟨o,e,_,n,d⟩,_⟩:=I.tuple h;obtain⟨i,p,⟨u,l,_,v,m⟩,_⟩:=I.tuple q;rw[e]at l;cases l;rw[d]at m;injection m with d1 _;have:j=i:=by simpa using congrArg Array.toList d1
 subst this;exact r.inj p
end
abbrev Cx.wish(X:Cx)(E:aj->ao->Prop):Cx:={X with xe:=E}
abbrev Cx.nox(X:Cx):Cx:=X.wish λ_ _=>False
theorem Cx.Ok.wish{X:Cx}(ok:X.Ok)(E:aj->ao->Prop):(X.wish E).Ok :=⟨ok.mod,ok.kind,ok.glob,ok.blt,ok.above,ok.inj,ok.has,ok.cab,ok.hd,ok.frames,ok.stk,ok.exf,ok.bs,ok.bsz,ok.noex,ok.exfs,ok.funs,ok.frf,ok.tab⟩
theorem Cx.Ok.unwish{X:Cx}{E:aj->ao->Prop}(ok:(X.wish E).Ok):X.Ok :=⟨ok.mod,ok.kind,ok.glob,ok.blt,ok.above,ok.inj,ok.has,ok.cab,ok.hd,ok.frames,ok.stk,ok.exf,ok.bs,ok.bsz,ok.noex,ok.exfs,ok.funs,ok.frf,ok.tab⟩
section
variable{X:Cx}{a:List (ag×Obj)}{b:St}{H:Hp}{s:ao}{E:aj->ao->Prop}
theorem Inv.wish(I:Inv X a b H s)(E:aj->ao->Prop):Inv (X.wish E) a b H s:=⟨I.ok.wish E,I.os,I.bare,I.base,I.loc,I.cell,I.free,I.freeC,I.pin,I.hok,I.len⟩
theorem Inv.unwish(I:Inv (X.wish E) a b H s):Inv X a b H s:=⟨I.ok.unwish,I.os,I.bare,I.base,I.loc,I.cell,I.free,I.freeC,I.pin,I.hok,I.len⟩
theorem SP.unwish{D:jX}{f:Flow}{g:ao}(h:SP (X.wish E) a D f g):SP X a D f g:=by
 cases f with
 |next=>obtain⟨c,d,I,q⟩:=h;exact⟨c,d,I.unwish,q⟩
 |brk=>obtain⟨c,d,I,q⟩:=h;exact⟨c,d,I.unwish,q⟩
 |cont=>obtain⟨c,d,I,q⟩:=h;exact⟨c,d,I.unwish,q⟩
 |ret u=>obtain⟨v,c,d,I,r,q⟩:=h;exact⟨v,c,d,I.unwish,r,q⟩
end
section
variable{X:Cx}{j:bo}{rest:List bo}{t u:TS}{e:ay}{i:TE}{g:Pos}
def LV:TS:=λD a H=>D.nx a H
def KF(t u:TS):TS:=λD a H=>t {D with nx:=u D} a H
theorem Kk:kA X [] LV:=λ_ _ a H _ I h=>Bv ⟨a,H,I,h⟩
theorem Jp(m:PS X j t)(l:kA X rest u):kA X (j::rest) (KF t u):=by
 intro b s c H D I h;refine wpAny_execs_cons (aP (m b s c H {D with nx:=u D} I h) λf d q=>?_);cases f with
 |next=>obtain⟨a,o,n,q⟩:=q;exact l b d a o D n q
 |ret v=>exact q
 |brk=>exact q
 |cont=>exact q
theorem Kg(b:PS X j t):kA X [j] t:=by
 intro c s a H D I h;refine wpAny_execs_cons (aP (b c s a H D I h) λf d q=>?_);cases f with
 |next=>exact Bv q
 |ret v=>exact q
 |brk=>exact q
 |cont=>exact q
theorem Inv.quiet{b:List (ag×Obj)}{a:St}{H:Hp}{s:ao}(I:Inv X b a H s):interactive X.env=ak:=by simp[interactive,I.ok.kind]
def NI(i:TE):TS:=λD a H=>i a H λ_ b=>D.nx a b
theorem AB(d:PE X e i)(c:jj e ae g.line X.env=pure ak:=by rfl):PS X (.Expr e g) (NI i):=by intro f s a H D I h;exact wpAny_Expr_any (aP (d f s a H _ I h) λv n ⟨x,m,l,o,b⟩=>⟨a,m,l,b⟩) I.quiet c
def Nj(i:TE):TS:=λD a H=>i a H D.rt
theorem wT(d:PE X e i):PS X (.Return (aa e) g) (Nj i):=by intro f s a H D I h;exact wpAny_Return_some (aP (d f s a H _ I h) λv n ⟨x,m,l,b,c⟩=>⟨x,a,m,l,b,c⟩)
def PU:TS:=λD _ H=>D.rt .non H
theorem Rg:PS X (.Return ae g) PU:=λ_ _ a H _ I h=>wpAny_Return_none ⟨.non,a,H,I,rfl,h⟩
def Q6(c:TT)(t u:TS):TS:=λD a H=>c a H λb d=>if b=ah then t D a d else u D a d
theorem QW{c:ay}{a b:List bo}{m:TT}(r:PT X c m)(w:kA X a t)(v:kA X b u):PS X (.If c a b g) (Q6 m t u):=by
 intro l s f H D I h;refine wpAny_If (aP (r l s f H _ I h) λd n ⟨q,p,o⟩=>?_);cases d with
 |true=>exact w l n f q D p o
 |false=>exact v l n f q D p o
end
abbrev TG:=V->St->Hp->(St->Hp->Prop)->Prop
abbrev pN:=List V->St->Hp->(St->Hp->Prop)->Prop
def PG(X:Cx)(a:ay)(t:TG):Prop :=
 ∀(d:List (ag×Obj)) (s:ao) (c:St) (H:Hp) (v:V) (u:aj) (Q:St->Hp->Prop),Inv X d c H s->RelV v u->t v c H Q ->
  ar (au X.prog X.w) X.A (ox a X.env u) (λ_ s'=>∃b f,Inv X d b f s'/\Q b f) X.xe s
def wO(X:Cx)(h:List ay)(t:pN):Prop :=
 ∀(f:List (ag×Obj)) (s:ao) (b:St) (H:Hp) (c:List V) (d:List aj) (Q:St->Hp->Prop),Inv X f b H s->bL c d->t c b H Q ->
  ar (au X.prog X.w) X.A (assignInOrder ((su h X.env).map (·.2)) d) (λ_ i=>∃a g,Inv X f a g i/\Q a g) X.xe s
abbrev AR:=V->V->V->Hp->(Hp->Prop)->Prop
def FR(X:Cx)(t:AR):Prop :=
 ∀(d:List (ag×Obj)) (s:ao) (a:St) (H:Hp) (o i v:V) (b c u:aj) (Q:Hp->Prop),Inv X d a H s->RelV o b->RelV i c->RelV v u->t o i v H Q ->
  ar (au X.prog X.w) X.A (setItem b c u) (λ_ g=>∃f,Inv X d a f g/\Q f) X.xe s
section
variable{X:Cx}{d:Pos}
def C5(i:Nat):TG:=λv a H Q=>Q (a.set i (aa v)) H
theorem vj{i:Nat}{x:Str}(f:X.N.Nodup)(b:X.N[i]?=aa x)(a:Loc X.env.scope x)(c:X.fn x=ah\/X.env.scope.names.lookup x=aa .local:=by first|exact .inl rfl|exact .inr rfl|assumption):PG X (.Name x d) (C5 i):=by intro m s j H v u Q I r h;exact wpAny_assign_Name (FO I f b a r (λl g=>⟨_,H,g,h⟩) c)
def bW:pN:=λb a H Q=>b=[]/\Q a H
def Ni(t:TG)(u:pN):pN:=λc b H Q=>∃v r,c=v::r/\t v b H λa f=>u r a f Q
theorem O9:wO X [] bW:=by
 intro f s a H b c Q I r h;obtain⟨e,h⟩:=h;subst e;cases r;exact assignInOrder_nil ⟨a,H,I,h⟩
theorem G7{e:ay}{a:List ay}{t:TG}{u:pN}(n:PG X e t)(m:wO X a u)(l:(su (e::a) X.env).map (·.2)=ox e X.env::(su a X.env).map (·.2):=by rfl):wO X (e::a) (Ni t u):=by
 intro c s f H w y Q I r h;obtain⟨v,x,o,h⟩:=h;subst o;cases r with
 |cons r i=>rw[l];refine assignInOrder_cons (aP (n c s f H _ _ _ I r h) λ_ g ⟨b,q,p,j⟩=>?_);exact m c g b q _ _ Q p i j
def Pb(K:ax)(n:Nat)(t:pN):TG:=λv c H Q=>∃a b,v=.ref a/\cp K H a b/\b.length=n/\t b c H Q
theorem Pj{c:List ay}{k:Nat}{t:pN}{n:Nat}(z:X.calm=ah)(h:wO X c t)(x:(su c X.env).length=n:=by rfl) (B:(su c X.env).findIdx? (·.1)=ae:=by rfl):PG X (.Tuple c k d) (Pb X.K n t):=by
 intro j s g H v u Q I r f;obtain⟨a,l,C,w,y,f⟩:=f;subst C;cases r;obtain⟨m,i,q,E⟩:=I.tuple w;refine assign_Tuple_tuple (I.ok.hd z) q (by simp[x,<-y,i.length]) B λA p=>?_;have D:Inv X j g H {s with heap:=A}:=I.kept (t':=s.toks) λb o e=>p b o (c0 (bG e)) e;exact h j _ g H l _ Q D (by simpa using i) f
def Qo(b c:TE)(t:AR):TG:=λv a H Q=>b a H λo h=>c a h λi g=>t o i v g λf=>Q a f
theorem IM{o i:ay}{g j:TE}{t:AR}(B:PE X o g)(C:PE X i j)(A:FR X t)(D:∀v,ox (.Subscript o i d) X.env v=(do
   let a <-ou [v] (bi o X.env)
   let b <-ou [v,a] (bi i X.env)
   standAt d
   ou [v,a,b] (setItem a b v)
   release [v,a,b] []):=by intro _;rfl):PG X (.Subscript o i d) (Qo g j t):=by
 intro f s c H v u Q I r h;rw[D];refine ap (kE (aP (B f s c H _ I h) λa m ⟨x,L,G,p,z⟩=>?_));refine ap (kE (aP (C f m c L _ G z) λb l ⟨y,K,F,n,w⟩=>?_));refine ap (wpAny_standAt (ap (kE (aP (A f l c K x y v a b u _ F p n r w) λ_ M ⟨J,E,q⟩=>?_))));exact wpAny_release ⟨c,J,E,q⟩
def DC(b:TE)(g:TG):TS:=λD a H=>b a H λx c=>g x a c D.nx
theorem Mq{a e:ay}{c:TE}{g:TG}(p:PE X e c)(o:PG X a g)(n:swapsWithSole [a] e d.line X.env=pure ak:=by rfl)(m:swappedStores [a] e X.env=pure ae:=by rfl)(r:(su [a] X.env).map (·.2)=[ox a X.env]:=by rfl):PS X (.Assign [a] e d) (DC c g):=by intro f s b H D I h;refine wpAny_Assign_stores (aP (p f s b H _ I h) λv i ⟨x,w,u,j,l⟩=>?_) n m;rw[r];exact aP (o f i b w x v _ u j l) λ_ y q=>q
theorem Bg{i:Nat}{x:Str}{e:ay}{b:TE}{a:Pos}(p:X.N.Nodup)(m:X.N[i]?=aa x)(j:Loc X.env.scope x)(o:PE X e b)(l:jj e (aa (.Name x a)) d.line X.env=pure ak:=by rfl)(n:X.fn x=ah\/X.env.scope.names.lookup x=aa .local:=by first|exact .inl rfl|exact .inr rfl|assumption):PS X (.Assign [.Name x a] e d) (DC b (C5 i)):=by intro q s c H D I h;refine wpAny_Assign_Name (aP (o q s c H _ I h) λv A ⟨y,w,u,f,g⟩=>?_) l;exact FO u p m j f (λz r=>⟨_,w,r,g⟩) n
def K8(c:TT)(j:TS):TS:=λD a H=>∃W:Nat->St->Hp->Prop,(∃m,W m a H)/\∀m a H,W m a H ->
 c a H λb h=>if b=ah then ∃N:St->Hp->Prop,(∀f i,N f i->∃g,g<m/\W g f i)/\j {D with nx:=N,ct:=N,bk:=D.nx} a h else D.nx a h
theorem Qu{c:ay}{i:List bo}{z:TT}{A:TS}(B:vp (au X.prog X.w) X.A X.env X.xe)(T:PT X c z)(Y:kA X i A):PS X (.While c i [] d) (K8 z A):=by
 intro x s K H D I h;obtain⟨W,⟨S,M⟩,l⟩:=h;refine wpAny_While (codeAny_whileLoop (λn Q=>∃j J,Inv X x j J Q/\W n j J) ?_ S ⟨K,H,I,M⟩);rintro n P ⟨g,G,Z,L⟩;refine sv B (aP (T x P g G _ Z (l n g G L)) λb O ⟨F,E,p⟩=>?_);cases b with
 |true=>
  obtain⟨N,C,p⟩:=p;rw[if_pos rfl];refine sv B (aP (Y x O g F _ E p) λf s3 o=>?_);cases f with
  |next=>obtain⟨a,m,y,r⟩:=o;obtain⟨u,w,q⟩:=C a m r;exact⟨u,w,a,m,y,q⟩
  |cont=>obtain⟨a,m,y,r⟩:=o;obtain⟨u,w,q⟩:=C a m r;exact⟨u,w,a,m,y,q⟩
  |brk=>exact o
  |ret v=>exact o
 |false=>rw[if_neg eT];exact Bv ⟨g,F,E,p⟩
end
structure It where
 go:Nat->Hp->Prop
 yld:Nat->Hp->V->Hp->Prop
 stop:Nat->Hp->Prop
def lj(X:Cx)(a:List (ag×Obj))(H:Hp)(b:ag):Prop :=
 H b=ae/\b≠X.env.locals/\b∉X.fs/\(b∈X.ex\/X.s₀.heap.objs.size<=b)/\(∀x c,X.env.cells.lookup x=aa c->c≠b)/\∀p∈X.pn++a,p.1≠b
theorem Inv.fpOk{X:Cx}{d:List (ag×Obj)}{g:St}{H f:Hp}{s:ao}{b:ag}(I:Inv X d g H s)(a:s.heap.objs.size<=b)(i:f b=ae):lj X d f b:=by
 refine⟨i,p9 (iq I.lt a),I.nofs a,.inr (cq I.sz a),λx c e z=>?_,λp h z=>?_⟩
 .obtain⟨v,q⟩:=I.cell x c e;exact absurd (iq q.lt (by rw[z];exact a)) (fA _)
 .exact absurd (iq (bG (I.pin p h).1) (by rw[z];exact a)) (fA _)
structure pq(P:aR)(w:aL)(K:ax)(tg:ay)(J:It)(fp:List ag)(it:ag)(tn:Nat->aC->Prop):Prop where
 mem:it∈fp
 obj:∀i h,tn i h->∀b∈fp,∃o,h.get? b=aa o/\∀v,o.data≠.cell v
 keep:∀i h h',tn i h->(∀b∈fp,∀o,h.get? b=aa o->h'.get? b=aa o)->tn i h'
 item:∀(X:Cx),X.prog=P->X.w=w->X.K=K->X.calm=ah->∀(i:Nat) (af:List (ag×Obj)) (s:ao) (σ:St) (H:Hp) (E:aj->ao->Prop),Inv X af σ H s->(∀b∈fp,lj X af H b)->tn i s.heap->J.go i H ->
  ar (au P w) X.A (l5 (.ref it)) (λr s1=>∃u,r=aa u /\ ar (au P w) X.A (Bw tg (.ref it) u) (λ_ s2=>∃x H',Inv X af σ H' s2/\RelV x u/\J.yld i H x H'/\tn (i+1) s2.heap/\∀b∈fp,H' b=ae) E s1) E s
 done:∀(X:Cx),X.prog=P->X.w=w->X.K=K->X.calm=ah->∀(i:Nat) (af:List (ag×Obj)) (s:ao) (σ:St) (H:Hp) (E:aj->ao->Prop),Inv X af σ H s->(∀b∈fp,lj X af H b)->tn i s.heap->J.stop i H ->
  ar (au P w) X.A (l5 (.ref it)) (λr s1=>r=ae/\Inv X af σ H s1) E s
 self:∀(A:aY) (i:Nat) (s:ao) (Q:aj->ao->Prop) (E:aj->ao->Prop),tn i s.heap->Q (.ref it) s->ar (au P w) A (mZ (.ref it)) Q E s
abbrev TI:=St->Hp->(It->Hp->Prop)->Prop
def wK(X:Cx)(i:List (ag×Obj))(j:St)(l:ay)(R:It->Hp->Prop)(a:aj)(f:ao):Prop :=
 ∃(g:ag) (h:List ag) (d:Nat->aC->Prop) (J:It) (c:Hp),a=.ref g/\Inv X i j c f/\pq X.prog X.w X.K l J h g d/\d 0 f.heap/\(∀b∈h,lj X i c b)/\R J c
def PI(X:Cx)(f a:ay)(d:TI):Prop :=
 ∀(c:List (ag×Obj)) (s:ao) (b:St) (H:Hp) (R:It->Hp->Prop),Inv X c b H s->d b H R ->
  ar (au X.prog X.w) X.A (bi a X.env) (λv g=>ar (au X.prog X.w) X.A (mZ v) (wK X c b f R) X.xe g) X.xe s
theorem tO{M:Model}{A:aY}{E:aj->ao->Prop}{s:ao}{c:ay}{d:ag}{u:aj}{o:Obj}{n:String}{b:Array aj}{Q:Unit->ao->Prop}(f:s.heap.get? d=aa o)(j:o.cls=.type n)(i:o.data=.fields b)(g:["enumerate","zip","dict_itemiterator","dict_reverseitemiterator","odict_iterator","itertools.zip_longest","itertools.pairwise"].contains n=ak) (a:Q () s):ar M A (Bw c (.ref d) u) Q E s:=by
 unfold Bw;cases c <;> first
  |exact aF a
  | (cases u <;> first
    |exact aF a
    | (refine ap (wpAny_load f ?_)
       rw[j,i];show ar M A (if(["enumerate","zip","dict_itemiterator","dict_reverseitemiterator","odict_iterator","itertools.zip_longest","itertools.pairwise"].contains n&&b[0]? == aa (dr _))=ah then _ else _) Q E s;rw[if_neg (by intro h;rw[g,By]at h;cases h)];exact aF a))
def zJ(K:ax)(a:ag):It :=⟨λi H=>∃b x,cB K H a b/\b[i]?=aa x,λi H x c=>c=H/\∀b,cB K H a b->b[i]?=aa x,λi H=>∃b,cB K H a b/\b.length<=i⟩
def AN(K:ax)(a:ag):It :=⟨λi H=>∃b x,cp K H a b/\b[i]?=aa x,λi H x c=>c=H/\∀b,cp K H a b->b[i]?=aa x,λi H=>∃b,cp K H a b/\b.length<=i⟩
def xE(a:Int)(n:Nat):It:=⟨λi _=>i<n,λi H x b=>b=H/\x=.int (a+i),λi _=>n<=i⟩
theorem Nz{P:aR}{w:aL}{K:ax}{S:ay}(a g:ag):pq P w K S (zJ K a) [g] g (λi h=>h.IsListIter g a i) where
 mem:=by simp
 obj:=λi h f b j=>by
  have e:b=g:=by simpa using j
  subst e;obtain⟨o,e,c,d⟩:=f;exact⟨o,e,λv z=>by rw[d]at z;cases z⟩
 keep:=λi h n f k=>f.at λo e=>k g (by simp) o e
 item:=by intro X C A D M i O s L H E I m f B;subst C A D;obtain⟨Q,x,l,y⟩:=B;obtain⟨r,q,p,W⟩:=I.list l;obtain⟨u,Z,T⟩:=q.get y;obtain⟨J,G,f2,f3,f4,F⟩:=m g (by simp);refine wpAny_pyNext_list_item f p.isList (x:=u) (by simpa using Z) λn N sb=>?_;have I1:Inv X O L H {s with heap:=n}:=I.turned (t':=s.toks) (λb o j e=>(sb.2 b j).trans e) J G f3 f4 F;obtain⟨o,e,c,d⟩:=id N;exact⟨u,rfl,tO (s:={s with heap:=n}) e c d (by decide) ⟨x,H,I1,T,⟨rfl,λys Y=>by rw[I.list_inj Y l];exact y⟩,N,λb j=>(m b j).1⟩⟩
 done:=by intro X C A D M i O s L H E I m f B;subst C A D;obtain⟨Q,l,y⟩:=B;obtain⟨r,q,p,W⟩:=I.list l;obtain⟨J,G,f2,f3,f4,F⟩:=m g (by simp);have hl:=q.length;exact wpAny_pyNext_list_end (I.ok.hd M) f p.isList (by simp;lia) λn eb=>⟨rfl,I.turned (t':=s.toks) (λb o j e=>eb b o j e) J G f3 f4 F⟩
 self:=λ_ _ _ _ _ f h=>wpAny_pyIter_listiter f h
theorem Qa{P:aR}{w:aL}{K:ax}{S:ay}(a j:ag):pq P w K S (AN K a) [j] j (λi h=>h.IsTupleIter j a i) where
 mem:=by simp
 obj:=λi h f b l=>by
  have e:b=j:=by simpa using l
  subst e;obtain⟨o,e,c,d⟩:=f;exact⟨o,e,λv z=>by rw[d]at z;cases z⟩
 keep:=λi h q f k=>f.at λo e=>k j (by simp) o e
 item:=by intro X C A D M i O s L H E I n f B;subst C A D;obtain⟨Q,x,m,y⟩:=B;obtain⟨g,r,p,W⟩:=I.tuple m;obtain⟨u,Z,T⟩:=r.get y;obtain⟨J,G,f2,f3,f4,F⟩:=n j (by simp);refine wpAny_pyNext_tuple_item f (show s.heap.IsTuple a g.toArray from p) (x:=u) (by simpa using Z) λq N sb=>?_;have I1:Inv X O L H {s with heap:=q}:=I.turned (t':=s.toks) (λb o l e=>(sb.2 b l).trans e) J G f3 f4 F;obtain⟨o,e,c,d⟩:=id N;exact⟨u,rfl,tO (s:={s with heap:=q}) e c d (by decide) ⟨x,H,I1,T,⟨rfl,λys Y=>by rw[I.tuple_inj Y m];exact y⟩,N,λb l=>(n b l).1⟩⟩
 done:=by intro X C A D M i O s L H E I n f B;subst C A D;obtain⟨Q,m,y⟩:=B;obtain⟨g,r,p,W⟩:=I.tuple m;obtain⟨J,G,f2,f3,f4,F⟩:=n j (by simp);have hl:=r.length;exact wpAny_pyNext_tuple_end (I.ok.hd M) f (show s.heap.IsTuple a g.toArray from p) (by simp;lia) λq eb=>⟨rfl,I.turned (t':=s.toks) (λb o l e=>eb b o l e) J G f3 f4 F⟩
 self:=λ_ _ _ _ _ f h=>wpAny_pyIter_tupleiter f h
theorem Mf{P:aR}{w:aL}{K:ax}{G:ay}(c:ag)(f:Int)(n:Nat):pq P w K G (xE f n) [c] c (λi h=>IsRangeIter h c (f+(i:Nat)*1) ((n:Int)-(i:Nat)) 1) where
 mem:=by simp
 obj:=λi h a b d=>by
  have e:b=c:=by simpa using d
  subst e;exact⟨_,a,λv z=>by
   have F:Data.fields _=Data.cell v:=z;cases F⟩
 keep:=λi h j a k=>k c (by simp) _ a
 item:=by intro X q l r p i D s A H E I g a m;subst q l r;obtain⟨y,x,f2,f3,f4,u⟩:=g c (by simp);have W:=Walks.range (prog:=X.prog) (w:=X.w) (I.ok.hd p) c f 1 n;refine W.item i s _ _ m a λv j B L C J=>?_;obtain⟨t,rfl⟩:=L;have N:Inv X D A H {s with heap:=j,toks:=B}:=I.turned (λb o d e=>J b o (by simpa using d) e) y x f3 f4 u;refine⟨_,rfl,tO (s:={s with heap:=j,toks:=B}) (n:="range_iterator") C rfl rfl (by decide) ⟨.int (f+i),H,N,⟨t,?_⟩,⟨rfl,rfl⟩,C,λb d=>(g b d).1⟩⟩;rw[Int.mul_one]
 done:=by intro X q l r p i D s A H E I g a m;subst q l r;obtain⟨y,x,f2,f3,f4,u⟩:=g c (by simp);exact wpAny_pyNext_range_end (I.ok.hd p) a (by have:n<=i:=m;lia) λj M=>⟨rfl,I.turned (t':=s.toks) (λb o d e=>M b o d e) y x f3 f4 u⟩
 self:=λ_ _ _ _ _ a h=>wpAny_pyIter_rangeiter a h
section
variable{X:Cx}{c:ay}
theorem Jr{h:List (ag×Obj)}{f:St}{H:Hp}{s:ao}{R:It->Hp->Prop}{E:aj->ao->Prop}{a d:Int}{t u v:Tok}{g:Nat}(I:Inv X h f H s)(p:-(2^62)<=a)(n:a<2^62)(m:-(2^62)<=d)(l:d<2^62)(q:R (xE a (d-a).toNat) H):ar (au X.prog X.w) X.A (mZ (.ref s.heap.objs.size)) (wK X h f c R) E {s with heap:=s.heap.push {cls:=.type "range",data:=.fields #[.int a t,.int d u,.int 1 v]},toks:=g}:=by
 refine wpAny_pyIter_range (IsRange.new ..) (small_one p n m l) ?_;have i:Inv X h f H {s with heap:=s.heap.push {cls:=.type "range",data:=.fields #[.int a t,.int d u,.int 1 v]},toks:=g}:=I.kept λb o e=>bE _ e;refine⟨(s.heap.push {cls:=.type "range",data:=.fields #[.int a t,.int d u,.int 1 v]}).objs.size,[(s.heap.push {cls:=.type "range",data:=.fields #[.int a t,.int d u,.int 1 v]}).objs.size],_,_,H,rfl,i.kept (t':=g) λb o e=>bE _ e,Mf _ a (d-a).toNat,?_,λb j=>?_,q⟩
 .have w:a+((0:Nat):Int)*1=a:=by simp
  have r:(((d-a).toNat:Nat):Int)-((0:Nat):Int)=Builtin.Range.rangeSize a d 1:=by rw[rangeSize_one];split <;> lia
  show IsRangeIter _ _ (a+((0:Nat):Int)*1) ((((d-a).toNat:Nat):Int)-((0:Nat):Int)) 1;rw[w,r];exact cG _ rfl
 .have e:b=(s.heap.push {cls:=.type "range",data:=.fields #[.int a t,.int d u,.int 1 v]}).objs.size:=by simpa using j
  subst e;exact i.fpOk (a6 _) (i.hok.fresh (a6 _))
def JF(d:TA):TI:=λa H R=>d a H λb f=>∃j:Int,b=[.int j]/\-(2^62)<=j/\j<2^62/\R (xE 0 j.toNat) f
theorem Rm{a:ay}{f:TA}{p b:Pos}(u:Gl X "range")(o:X.mg "range"=ae)(v:PA X [a] f)(n:aZ [a] X.env=[(ak,bi a X.env)]:=by rfl):PI X c (.Call (.Name "range" p) [a] [] b) (JF f):=by
 intro w s g H R I h;refine Call_ (uZ I u o boot_range (Hr (aP (v b w s g H _ I h) λz A ⟨y,B,x,l,d⟩=>?_) n rfl));obtain⟨j,e,d,m,q⟩:=d;subst e;cases l with
 |cons r i=>
  cases i;obtain⟨t,rfl⟩:=r;exact call_range_1 (Jr x ∅ ∅ d m (by simpa using q))
def PX(j:TI)(g:TG)(l:TS):TS:=λD a H=>j a H λJ o=>∃W:Nat->Nat->St->Hp->Prop,(∃m,W 0 m a o)/\∀i m a H,W i m a H ->
 (J.stop i H/\D.nx a H)\/(J.go i H/\∃N:St->Hp->Prop,(∀b d,N b d->∃h,h<m/\W (i+1) h b d)/\∀x d,J.yld i H x d->g x a d λf n=>l {D with nx:=N,ct:=N,bk:=D.nx} f n)
def uX(a:List ag)(h:aC):List (ag×Obj):=a.filterMap λb=>(h.get? b).map λo=>(b,o)
theorem xU{a:List ag}{h:aC}{b:ag}{o:Obj}(d:b∈a)(e:h.get? b=aa o):(b,o)∈uX a h:=List.mem_filterMap.mpr ⟨b,d,by rw[e];rfl⟩
theorem Mu{a:List ag}{h:aC}{p:ag×Obj}(d:p∈uX a h):p.1∈a/\h.get? p.1=aa p.2:=by
 obtain⟨b,f,e⟩:=List.mem_filterMap.mp d;cases q:h.get? b with
 |none=>rw[q]at e;cases e
 |some o=>rw[q]at e;have g:(b,o)=p:=cQ e;subst g;exact⟨f,q⟩
theorem Inv.pinned{f:List (ag×Obj)}{g:St}{H:Hp}{s:ao}{a:List ag}(I:Inv X f g H s)(m:∀b∈a,lj X f H b)(l:∀b∈a,∃o,s.heap.get? b=aa o/\∀v,o.data≠.cell v):Inv X (f++uX a s.heap) g H s :=
 I.pins_of λp j=>(iP.mp j).elim (λz=>I.pin p (ir _ z)) λz=>by
  obtain⟨h,e⟩:=Mu z;obtain⟨q,n,f2,_⟩:=m p.1 h;obtain⟨o,i,d⟩:=l p.1 h;rw[e]at i;cases i;exact⟨e,q,n,f2,d⟩
theorem Inv.unpinned{b d:List (ag×Obj)}{a:St}{H:Hp}{s:ao}(I:Inv X (b++d) a H s):Inv X b a H s:=I.pins_of λp f=>I.pin p (ir _ (mX _ f))
theorem E_{q:ay}{E:List bo}{wi:TI}{g:TG}{tb:TS}{Y:Pos}(L:vp (au X.prog X.w) X.A X.env X.xe)(hc:X.calm=ah)(hi:PI X c q wi)(hg:PG X c g)(w:kA X E tb)(hs:∀x,lp q X.env x=pure x:=by intro _;rfl):PS X (.For c q E [] Y) (PX wi g tb):=by
 intro F s σ H D I h;refine wpAny_For (aP (hi F s σ H _ I h) λv s1 h1=>aP h1 λitv s2 h2=>?_) hs;obtain⟨it,O,tn,J,H2,e,I2,T,a9,f2,W,⟨m0,w0⟩,G⟩:=h2;subst e;have p:∀{B:Hp},(∀b∈O,B b=ae)->∀b∈O,lj X F B b:=λhn b w=>⟨hn b w,(f2 b w).2⟩
 refine codeAny_forLoop_any (λn s'=>∃i l B,Inv X F l B s'/\tn i s'.heap/\(∀b∈O,B b=ae)/\W i n l B) ?_ m0 ⟨0,σ,H2,I2,a9,λb w=>(f2 b w).1,w0⟩;rintro n s3 ⟨i,j,P,I3,bH,M,w3⟩;rcases G i n j P w3 with⟨stop,qn⟩|⟨go,N,hN,step⟩
 .refine sv L (aP (T.done X rfl rfl rfl hc i F s3 j P X.xe I3 (p M) bH stop) λr s4 ⟨Z,I4⟩=>?_);subst Z;exact Bv ⟨j,P,I4,qn⟩
 .refine sv L (aP (T.item X rfl rfl rfl hc i F s3 j P X.xe I3 (p M) bH go) λr s4 ⟨u,Z,h4⟩=>?_);subst Z;refine sv L (aP h4 λ_ s5 ⟨x,H5,I5,r5,y5,cm,fr5⟩=>?_);have I5':=I5.pinned (p fr5) (T.obj _ _ cm);refine sv L (aP (hg _ s5 j H5 x u _ I5' r5 (step x H5 y5)) λ_ s6 ⟨Q,H6,I6,q6⟩=>?_);refine sv L (aP (w _ s6 Q H6 _ I6 q6) λf S C=>?_);have y:∀{a:St}{A:Hp},Inv X (F++uX O s5.heap) a A S->N a A->∃m,m<n/\∃i l B,Inv X F l B S/\tn i S.heap/\(∀b∈O,B b=ae)/\W i m l B:=λ{a A} z K=>by obtain⟨m',hm,w7⟩:=hN a A K;refine⟨m',hm,i+1,a,A,z.unpinned,T.keep _ _ _ cm λb w o e=>(z.pin (b,o) (ir _ (ir _ (xU w e)))).1,λb w=>?_,w7⟩;obtain⟨o,e,d⟩:=T.obj _ _ cm b w;exact(z.pin (b,o) (ir _ (ir _ (xU w e)))).2.1
  cases f with
  |next=>obtain⟨a,A,z,K⟩:=C;exact y z K
  |cont=>obtain⟨a,A,z,K⟩:=C;exact y z K
  |brk=>obtain⟨a,A,z,C⟩:=C;exact⟨a,A,z.unpinned,C⟩
  |ret v=>obtain⟨x7,a,A,z,r7,C⟩:=C;exact⟨x7,a,A,z.unpinned,r7,C⟩
end
abbrev R2:=V->V->Hp->VK->Prop
def bS(X:Cx)(f:aj->aj->Sem aj)(r:R2):Prop :=
 ∀(b:List (ag×Obj)) (s:ao) (a:St) (H:Hp) (x y:V) (v u:aj) (Q:VK),Inv X b a H s->RelV x v->RelV y u->r x y H Q ->
  ar (au X.prog X.w) X.A (f v u) (EP X b a Q) X.xe s
def yD(X:Cx)(f:aj->Sem aj)(r:V->Hp->VK->Prop):Prop :=
 ∀(b:List (ag×Obj)) (s:ao) (a:St) (H:Hp) (x:V) (v:aj) (Q:VK),Inv X b a H s->RelV x v->r x H Q ->
  ar (au X.prog X.w) X.A (f v) (EP X b a Q) X.xe s
def fO(X:Cx)(f:aj)(r:List V->Hp->VK->Prop):Prop :=
 ∀(d:List (ag×Obj)) (s:ao) (a:St) (H:Hp) (b:List V) (c:List aj) (Q:VK),Inv X d a H s->bL b c->r b H Q ->
  ar (au X.prog X.w) X.A (call f c) (EP X d a Q) X.xe s
def wM(r:R2)(c b:TE):TE:=λa H Q=>c a H λx f=>b a f λy d=>r x y d Q
def Pt(r:V->Hp->VK->Prop)(b:TE):TE:=λa H Q=>b a H λx c=>r x c Q
def rI(C:Int->Int->Prop)(g:Int->Int->V):R2:=λx y H Q=>∃i j,x=.int i/\y=.int j/\C i j/\Q (g i j) H
def lQ(g:Int->Int->V):R2:=λx y H Q=>∃i j,x=.int i/\y=.int j/\Q (g i j) H
def rU(g:Int->V):V->Hp->VK->Prop:=λx H Q=>∃i,x=.int i/\Q (g i) H
section
variable{X:Cx}{a b c:ay}{d m n:TE}{l:Pos}
theorem Bc(F:PE X a d)(E:PE X b m){q:List (ag×Obj)}{s:ao}{g:St}{H:Hp}{R:V->V->Hp->Prop}(I:Inv X q g H s)(h:d g H λx r=>m g r λy i=>R x y i) {Q:aj->ao->Prop}{f:aj->aj->Sem aj}(D:∀v u p x y i,Inv X q g i p->RelV x v->RelV y u->R x y i->ar (au X.prog X.w) X.A (f v u) Q X.xe p):ar (au X.prog X.w) X.A (bi a X.env) (λv o=>ar (au X.prog X.w) X.A (bi b X.env) (λu j=>ar (au X.prog X.w) X.A (f v u) Q X.xe j) X.xe o) X.xe s:=by refine aP (F q s g H _ I h) λv w ⟨x,r,J,A,C⟩=>?_;refine aP (E q w g r _ J C) λu p ⟨y,i,G,z,B⟩=>?_;exact D v u p x y i G A z B
theorem IQ{f:Operator}{r:R2}(p:bS X (iR f) r)(z:PE X a d)(w:PE X b m):PE X (.BinOp a f b l) (wM r d m):=by intro A s g H Q I h;exact wpAny_BinOp (Bc z w I h λv u i x y C B o j q=>p A i g C x y v u Q B o j q)
theorem P0{g:UnaryOp}{r:V->Hp->VK->Prop}(q:yD X (unaryOp g) r)(u:PE X a d):PE X (.UnaryOp g a l) (Pt r d):=by intro i s f H Q I h;exact UnaryOp_ (aP (u i s f H _ I h) λv j ⟨x,y,w,o,p⟩=>q i j f y x v Q w o p)
theorem AO{f:aj->aj->Sem aj}{C:Int->Int->Prop}{g:Int->Int->Int}(o:∀(i j:Int) (t u:Tok) (s:ao) (Q:aj->ao->Prop) (E:aj->ao->Prop),C i j->Q (.int (g i j) s.toks) {s with toks:=s.toks+1}->ar (au X.prog X.w) X.A (f (.int i t) (.int j u)) Q E s):bS X f (rI C λi j=>.int (g i j)):=by intro B s A H x y v u Q I w r h;obtain⟨i,j,rfl,rfl,z,q⟩:=h;obtain⟨t,rfl⟩:=w;obtain⟨p,rfl⟩:=r;exact o i j t p s _ _ z ⟨.int (g i j),H,I.tok _,⟨_,rfl⟩,q⟩
theorem Fb{f:aj->aj->Sem aj}{g:Int->Int->Int}(o:∀(i j:Int) (t u:Tok) (s:ao) (Q:aj->ao->Prop) (E:aj->ao->Prop),Q (.int (g i j) s.toks) {s with toks:=s.toks+1}->ar (au X.prog X.w) X.A (f (.int i t) (.int j u)) Q E s):bS X f (lQ λi j=>.int (g i j)):=by intro A s z H x y v u Q I w r h;obtain⟨i,j,rfl,rfl,q⟩:=h;obtain⟨t,rfl⟩:=w;obtain⟨p,rfl⟩:=r;exact o i j t p s _ _ ⟨.int (g i j),H,I.tok _,⟨_,rfl⟩,q⟩
theorem Bu{f:aj->aj->Sem aj}{g:Int->Int->Bool}(o:∀(i j:Int) (t u:Tok) (s:ao) (Q:aj->ao->Prop) (E:aj->ao->Prop),Q (.bool (g i j)) s->ar (au X.prog X.w) X.A (f (.int i t) (.int j u)) Q E s):bS X f (lQ λi j=>.bl (g i j)):=by intro A s z H x y v u Q I w r h;obtain⟨i,j,rfl,rfl,q⟩:=h;obtain⟨t,rfl⟩:=w;obtain⟨p,rfl⟩:=r;exact o i j t p s _ _ ⟨.bl (g i j),H,I,rfl,q⟩
def Et(i j:Int):Prop:=0<=j/\j<=1000000/\i.natAbs<2^64
def AJ(i j:Int):Prop:=(-(2^64)<i/\i<2^64)\/(-(2^64)<j/\j<2^64)
theorem AJ.ok{i j:Int}(h:AJ i j):IntMulOk i j:=by
 rcases h with⟨h1,h2⟩|⟨h1,h2⟩
 .exact .of_left (intBits_le_64 h1 h2)
 .exact .of_right (intBits_le_64 h1 h2)
theorem SA:bS X (iR .Add) (lQ λi j=>.int (i+j)):=Fb λ_ _ _ _ _ _ _ q=>add_int q
theorem wA:bS X (iR .Sub) (lQ λi j=>.int (i-j)):=Fb λ_ _ _ _ _ _ _ q=>sub_int q
theorem Sl:bS X (iR .Mult) (rI AJ λi j=>.int (i*j)):=AO λ_ _ _ _ _ _ _ f q=>mul_int q f.ok
theorem t0:bS X (iR .Mod) (rI (λ_ j=>0<j) λi j=>.int (i % j)):=AO λi j _ _ _ _ _ f q=>by have g:(0:Int)<j:=f;exact mod_int' ∅ (by rw[Int.fmod_eq_emod_of_nonneg i ∅];exact q)
theorem P3:bS X (iR .Pow) (rI Et λi j=>.int (i^j.toNat)):=AO λ_ _ _ _ _ _ _ f q=>pow_int_small f.1 f.2.1 f.2.2 q
theorem Ju{f:aj->Sem aj}{g:Int->Int}(j:∀(i:Int) (t:Tok) (s:ao) (Q:aj->ao->Prop) (E:aj->ao->Prop),Q (.int (g i) s.toks) {s with toks:=s.toks+1}->ar (au X.prog X.w) X.A (f (.int i t)) Q E s):yD X f (rU λi=>.int (g i)):=by intro r s p H x v Q I o h;obtain⟨i,rfl,q⟩:=h;obtain⟨t,rfl⟩:=o;exact j i t s _ _ ⟨.int (g i),H,I.tok _,⟨_,rfl⟩,q⟩
theorem ph:yD X (unaryOp .USub) (rU λi=>.int (-i)):=Ju λ_ _ _ _ _ q=>neg_int q
end
def pM:V->V->Bool
 |.non,.non=>ah|.non,.int _=>ah|.int _,.non=>ah|.non,.bl _=>ah|.bl _,.non=>ah|.non,.str _=>ah|.str _,.non=>ah
 |.int _,.int _=>ah|.bl _,.bl _=>ah|.str _,.str _=>ah|.byt _,.byt _=>ah
 |.int _,.str _=>ah|.str _,.int _=>ah|.bl _,.str _=>ah|.str _,.bl _=>ah
 |_,_=>ak
def Fy:R2:=λx y H Q=>pM x y=ah/\Q (.bl (decide (x=y))) H
def EB:R2:=λx y H Q=>pM x y=ah/\Q (.bl (!decide (x=y))) H
theorem Fe{i j:Int}:decide (V.int i=V.int j)=(i == j):=by rw[jG];simp
theorem EI{i j:Bool}:decide (V.bl i=V.bl j)=(i == j):=by rw[jG];simp
theorem DY{i j:Str}:decide (V.str i=V.str j)=(i == j):=by rw[jG];simp
theorem Hb{i j:Array UInt8}:decide (V.byt i=V.byt j)=(i.toList == j.toList):=by
 rw[jG];cases i;cases j;simp
section
variable{X:Cx}{a b c:ay}{l g o:TE}{m:Pos}
theorem dy{h:List (ag×Obj)}{d:St}{H:Hp}{s:ao}{Q:VK}{k f:Bool}(I:Inv X h d H s)(q:Q (.bl k) H)(e:k=f):EP X h d Q (.bool f) s:=by subst e;exact⟨.bl k,H,I,rfl,q⟩
theorem Sw:bS X (d9 .Eq) Fy:=by
 intro w s r H x y v u Q I p d h;obtain⟨n,q⟩:=h;cases x with
 |non=>
  cases p;cases y with
  |non=>cases d;exact PySem.EqNone.eq_none_none (dy I q (by simp))
  |bl j=>cases d;exact PySem.EqNone.eq_none_bool (dy I q (by simp))
  |int j=>obtain⟨f,rfl⟩:=d;exact PySem.EqNone.eq_none_int (dy I q (by simp))
  |str j=>obtain⟨f,rfl⟩:=d;exact PySem.EqNone.eq_none_str (dy I q (by simp))
  |_=>exact absurd (show ak=ah from n) eT
 |bl i=>
  cases p;cases y with
  |non=>cases d;exact PySem.EqNone.eq_bool_none (dy I q (by simp))
  |bl j=>cases d;exact eq_bool (dy I q EI)
  |str j=>obtain⟨f,rfl⟩:=d;exact PySem.EqMixed.eq_bool_str (dy I q (by simp))
  |_=>exact absurd (show ak=ah from n) eT
 |int i=>
  obtain⟨t,rfl⟩:=p;cases y with
  |non=>cases d;exact PySem.EqNone.eq_int_none (dy I q (by simp))
  |int j=>obtain⟨f,rfl⟩:=d;exact eq_int (dy I q Fe)
  |str j=>obtain⟨f,rfl⟩:=d;exact PySem.EqMixed.eq_int_str (dy I q (by simp))
  |_=>exact absurd (show ak=ah from n) eT
 |str i=>
  obtain⟨t,rfl⟩:=p;cases y with
  |non=>cases d;exact PySem.EqNone.eq_str_none (dy I q (by simp))
  |bl j=>cases d;exact PySem.EqMixed.eq_str_bool (dy I q (by simp))
  |int j=>obtain⟨f,rfl⟩:=d;exact PySem.EqMixed.eq_str_int (dy I q (by simp))
  |str j=>obtain⟨f,rfl⟩:=d;exact eq_str (dy I q DY)
  |_=>exact absurd (show ak=ah from n) eT
 |byt i=>
  obtain⟨t,rfl⟩:=p;cases y with
  |byt j=>obtain⟨f,rfl⟩:=d;exact PySem.W.eq_bytes (dy I q Hb)
  |_=>exact absurd (show ak=ah from n) eT
 |_=>cases y <;> exact absurd (show ak=ah from n) eT
theorem SM:bS X (d9 .NotEq) EB:=by
 intro w s r H x y v u Q I p d h;obtain⟨n,q⟩:=h;cases x with
 |non=>
  cases p;cases y with
  |non=>cases d;exact PySem.EqNone.ne_none_none (dy I q (by simp))
  |bl j=>cases d;exact PySem.EqNone.ne_none_bool (dy I q (by simp))
  |int j=>obtain⟨f,rfl⟩:=d;exact PySem.EqNone.ne_none_int (dy I q (by simp))
  |str j=>obtain⟨f,rfl⟩:=d;exact PySem.EqNone.ne_none_str (dy I q (by simp))
  |_=>exact absurd (show ak=ah from n) eT
 |bl i=>
  cases p;cases y with
  |non=>cases d;exact PySem.EqNone.ne_bool_none (dy I q (by simp))
  |bl j=>cases d;exact ne_bool (dy I q (congrArg not EI))
  |str j=>obtain⟨f,rfl⟩:=d;exact PySem.EqMixed.ne_bool_str (dy I q (by simp))
  |_=>exact absurd (show ak=ah from n) eT
 |int i=>
  obtain⟨t,rfl⟩:=p;cases y with
  |non=>cases d;exact PySem.EqNone.ne_int_none (dy I q (by simp))
  |int j=>obtain⟨f,rfl⟩:=d;exact ne_int (dy I q (congrArg not Fe))
  |str j=>obtain⟨f,rfl⟩:=d;exact PySem.EqMixed.ne_int_str (dy I q (by simp))
  |_=>exact absurd (show ak=ah from n) eT
 |str i=>
  obtain⟨t,rfl⟩:=p;cases y with
  |non=>cases d;exact PySem.EqNone.ne_str_none (dy I q (by simp))
  |bl j=>cases d;exact PySem.EqMixed.ne_str_bool (dy I q (by simp))
  |int j=>obtain⟨f,rfl⟩:=d;exact PySem.EqMixed.ne_str_int (dy I q (by simp))
  |str j=>obtain⟨f,rfl⟩:=d;exact ne_str (dy I q (congrArg not DY))
  |_=>exact absurd (show ak=ah from n) eT
 |byt i=>
  obtain⟨t,rfl⟩:=p;cases y with
  |byt j=>obtain⟨f,rfl⟩:=d;exact PySem.W.ne_bytes (dy I q (congrArg not Hb))
  |_=>exact absurd (show ak=ah from n) eT
 |_=>cases y <;> exact absurd (show ak=ah from n) eT
theorem yf:bS X (d9 .Lt) (lQ λi j=>.bl (decide (i<j))):=Bu λ_ _ _ _ _ _ _ q=>lt_int q
theorem qS:bS X (d9 .LtE) (lQ λi j=>.bl (decide (i<=j))):=Bu λ_ _ _ _ _ _ _ q=>le_int q
theorem ui:bS X (d9 .Gt) (lQ λi j=>.bl (decide (j<i))):=Bu λ_ _ _ _ _ _ _ q=>gt_int q
theorem Sq:bS X (d9 .In) (λx y H Q=>∃i j,x=.str i/\y=.str j/\Q (.bl (!(yG j i 0 j.length 1).isEmpty)) H):=by intro r s n H x y v u Q I f d h;obtain⟨i,j,rfl,rfl,q⟩:=h;obtain⟨t,rfl⟩:=f;obtain⟨p,rfl⟩:=d;exact in_str (dy I q rfl)
theorem IS:bS X (d9 .Is) (λx y H Q=>y=.non/\Q (.bl (decide (x=.non))) H):=by
 intro j s i H x y v u Q I d f h;obtain⟨rfl,q⟩:=h;cases f;refine is_none_gen (dy I q ?_);cases x <;> first
  | (cases d;rfl)
  | (obtain⟨t,rfl⟩:=d;rfl)
theorem bS.or{f:aj->aj->Sem aj}{r n:R2}(h:bS X f r)(w:bS X f n):bS X f (λx y H Q=>r x y H Q\/n x y H Q):=by
 intro p s d H x y v u Q I j i q;rcases q with q|q
 .exact h p s d H x y v u Q I j i q
 .exact w p s d H x y v u Q I j i q
theorem Pq{d:CmpOp}{r:R2}(p:bS X (d9 d) r)(A:PE X a l)(z:PE X b g)(w:p8 d b=ak):PE X (.Compare a [d] [b] m) (wM r l g):=by intro B s f H Q I h;exact wpAny_Compare1 (Bc A z I h λv u i x y D C n j q=>p B i f D x y v u Q C n j q) w
def ER(t:TE):TT:=λd H Q=>t d H λx f=>∃k,x=.bl k/\Q k f
theorem LM{f:CmpOp}{r:R2}(D:bS X (d9 f) r)(G:PE X a l)(F:PE X b g)(E:p8 f b=ak):PT X (.Compare a [f] [b] m) (ER (wM r l g)):=by
 intro i s d H Q I h;refine wpAny_isTrue_Compare1 (aP (G i s d H _ I h) λv n ⟨x,O,L,w,C⟩=>aP (F i n d O _ L C) λu j ⟨y,N,K,q,B⟩=>aP (D i j d N x y v u _ K w q B) λc P ⟨z,M,J,p,k,e,A⟩=>?_) E;subst e;cases p;exact ot ⟨M,J,A⟩
def zQ(r i:R2)(l g o:TE):TE:=λd H Q=>l d H λx p=>g d p λy n=>r x y n λz f=>∃k,z=.bl k /\
 (if k=ah then o d f λh j=>i y h j Q else Q (.bl ak) f)
theorem Og{n f:CmpOp}{r q:R2}(S:bS X (d9 n) r)(gv:bS X (d9 f) q)(Z:PE X a l)(Y:PE X b g)(W:PE X c o)(T:lastMarks [n,f] [b,c]=ak:=by with_unfolding_all rfl):PE X (.Compare a [n,f] [b,c] m) (zQ r q l g o):=by
 intro j s i H Q I h;refine Compare_chain (aP (Z j s i H _ I h) λv J ⟨x,H1,I1,M,P⟩=>chain_link (aP (Y j J i H1 _ I1 P) λu G ⟨y,H2,I2,p,O⟩=>aP (S j G i H2 x y v u _ I2 M p O) λd F ⟨z,B,A,L,k,e,w⟩=>?_)) T;subst e;cases L;refine ot ?_;cases k with
 |false=>exact ite_ff ⟨.bl ak,B,A,rfl,w⟩
 |true=>exact ite_tt (chain_last (aP (W j F i B _ A w) λD E ⟨C,H4,I4,K,N⟩=>gv j E i H4 y C u D Q I4 p K N))
theorem ON{n f:CmpOp}{r q:R2}(Y:bS X (d9 n) r)(gv:bS X (d9 f) q)(ha:PE X a l)(hb:PE X b g)(hc:PE X c o)(Z:lastMarks [n,f] [b,c]=ak:=by with_unfolding_all rfl):PT X (.Compare a [n,f] [b,c] m) (ER (zQ r q l g o)):=by
 intro j s i H Q I h;refine isTrue_chain (aP (ha j s i H _ I h) λv J ⟨x,H1,I1,N,T⟩=>test_link (aP (hb j J i H1 _ I1 T) λu G ⟨y,H2,I2,p,S⟩=>aP (Y j G i H2 x y v u _ I2 N p S) λd F ⟨z,B,A,M,k,e,w⟩=>?_)) Z;subst e;cases M;refine ot ?_;cases k with
 |false=>
  obtain⟨k',e',W⟩:=w;cases e';exact ite_ff ⟨B,A,W⟩
 |true=>
  refine ite_tt (test_last (aP (hc j F i B _ A w) λD E ⟨C,H4,I4,L,P⟩=>aP (gv j E i H4 y C u D _ I4 p L P) λd' s5 ⟨z2,H5,I5,K,k2,e2,O⟩=>?_));subst e2;cases K;exact ot ⟨H5,I5,O⟩
theorem uh:(bn:Nat)<2^63:=by rw[sw];decide
theorem Lh:bS X (iR .Add) (λx y H Q=>∃i j,x=.str i/\y=.str j/\i.length+j.length<=bn/\Q (.str (i++j)) H):=by intro z s r H x y v u Q I n f h;obtain⟨i,j,rfl,rfl,p,q⟩:=h;obtain⟨t,rfl⟩:=n;obtain⟨d,rfl⟩:=f;exact add_str (λd w=>⟨.str (i++j),H,I.tok _,⟨_,rfl⟩,q⟩) p
theorem vals1{x:V}{d:List aj}(r:bL [x] d):∃u,d=[u]/\RelV x u:=by
 cases r with
 |cons h f=>cases f;exact⟨_,rfl,h⟩
def DP(K:ax)(x:V)(H:Hp)(n:Nat):Prop :=
 match x with
 |.str y=>y.length<=bn/\n=y.length
 |.byt y=>y.size<=bn/\n=y.size
 |.ref p=>(∃d,cB K H p d/\n=d.length)\/∃d,cp K H p d/\n=d.length
 |_=>False
theorem fK:fO X (.builtin "len") (λd H Q=>∃x n,d=[x]/\DP X.K x H n/\Q (.int n) H):=by
 intro G s C H d D Q I r h;obtain⟨x,n,rfl,e,q⟩:=h;obtain⟨u,rfl,i⟩:=vals1 r;have F:=uh;have E:bn=16777216:=sw;cases x with
 |str y=>obtain⟨t,rfl⟩:=i;obtain⟨B,f⟩:y.length<=bn/\n=y.length:=e;subst f;exact len_str ∅ ⟨.int _,H,I.tok _,⟨_,rfl⟩,q⟩
 |byt y=>obtain⟨t,rfl⟩:=i;obtain⟨B,f⟩:y.size<=bn/\n=y.size:=e;subst f;exact PySem.W.len_bytes ∅ ⟨.int _,H,I.tok _,⟨_,rfl⟩,q⟩
 |ref p=>
  cases i;have f:(∃d,cB X.K H p d/\n=d.length)\/∃d,cp X.K H p d/\n=d.length:=e;rcases f with⟨d,hx,f⟩|⟨d,hx,f⟩
  .subst f;obtain⟨w,j,v,A⟩:=I.list hx;have z:=j.length;exact Calls.call_len_list v.isList (by simp only[cO];lia) ⟨.int d.length,H,I.tok _,⟨_,by simp only[cO];rw[z]⟩,q⟩
  .subst f;obtain⟨w,j,v,A⟩:=I.tuple hx;have z:=j.length;exact len_tuple v (by simp only[cO];lia) ⟨.int d.length,H,I.tok _,⟨_,by simp only[cO];rw[z]⟩,q⟩
 |_=>exact(show False from e).elim
end
structure G9(h:aC)(x dx C:ag)(mA:Str->Option aj):Prop where
 obj:h.get? x=aa (PySem.W.instObj C dx)
 ns:h.Ns1 dx mA
 ne:dx≠x
theorem Pe{h:aC}{g:ag}{d:Str->Option aj}(n:h.Ns1 g d):∃c,h.get? g=aa c/\∀b,PySem.W.lookIn b c=aa (d b):=by
 obtain⟨o,f,u,l,r,p,_,m⟩:=n;refine⟨o,l,λb=>?_⟩;have e:=m b;unfold nsFind findBy at e;rw[<-Array.find?_toList]at e;unfold PySem.W.lookIn;rw[r];dsimp only;split
 .rename_i y q;rw[q]at e;exact congrArg aa e
 .rename_i q;rw[q]at e;have a:f.toList.any (·.refKey)=ak:=by rw[Hs];intro y j;obtain⟨z,t,i⟩:=p y (Array.mem_toList_iff.mp j);simp[DictEntry.refKey,i]
  have s:¬f.toList.any (·.refKey)=ah:=by rw[a];exact eT
  rw[if_neg s];exact congrArg aa e
theorem G9.look{h:aC}{x d C:ag}{c:Str->Option aj}(I:G9 h x d C c):∃b,PySem.W.InstAt h x (PySem.W.instObj C d) C (aa b)/\∀a,PySem.W.lookIn a b=aa (c a) :=
 let ⟨b,ho,hl⟩:=Pe I.ns
 ⟨b,⟨I.obj,rfl,rfl,ho⟩,hl⟩
theorem oq.some_of{v:V}{o:Option aj}(r:oq (aa v) o):∃u,o=aa u/\RelV v u:=by
 cases o with
 |none=>exact(show False from r).elim
 |some u=>exact⟨u,rfl,r⟩
section
variable{P:aR}{w:aL}{H i:Hp}{h g:aC}{a C b:ag}{fs c:List (Str×V)}
theorem Na(l:dH P w H h)(e:H a=aa (.ins C b fs)):∃j,G9 h a b C j/\(∀f,oq (fs.lookup f) (j f))/\PySem.Within j (fs.map (·.1))/\fs.length<=1000/\H b=aa (.own a):=by
 obtain⟨d,z,o,m,j,n,r,q⟩:=(show cn P w H h a (.ins C b fs)from l a _ e)
 exact⟨j,⟨m,n,o⟩,r,q,z,d⟩
end
structure Fw(K:ax)(C:ag):Prop where
 pg:PySem.W.plainGet K C lq=ah
 hd:PySem.W.hasDictIn K C=ah
 po:PySem.W.plainOver K C=ah
 sa:yH K (.ref C) "__setattr__"=aa (aa (.builtin "object.__setattr__"))
theorem Fw.get{K:ax}{C:ag}(c:Fw K C)(f:Str):PySem.W.plainGet K C f=ah:=c.pg
section
variable{X:Cx}{f:List (ag×Obj)}{d:St}{H:Hp}{s:ao}{A:aY}{E:aj->ao->Prop}{Q:aj->ao->Prop}{c:aj}{b:Bool}
inductive jh(K:ax)(H:Hp):V->aj->Prop where
 |non:jh K H .non (.type "NoneType")
 |bl (x:Bool):jh K H (.bl x) (.type "bool")
 |int (i:Int):jh K H (.int i) (.type "int")
 |str (x:Str):jh K H (.str x) (.type "str")
 |flt (x:UInt64):jh K H (.flt x) (.type "float")
 |lst {a:ag}{xs:List V} (e:H a=aa (.lst xs)):jh K H (.ref a) (.type "list")
 |frz {a:ag}{o:Obj}{xs:List V} (e:H a=aa (.frz o (.lst xs))):jh K H (.ref a) (.type "list")
 |tup {a:ag}{xs:List V} (e:H a=aa (.tup xs)):jh K H (.ref a) (.type "tuple")
 |dK {a:ag}{kvs:List (aE×V)} (e:H a=aa (.dK kvs)):jh K H (.ref a) (.type "dict")
 |dT {a:ag}{kvs:List (List aE×V)} (e:H a=aa (.dT kvs)):jh K H (.ref a) (.type "dict")
 |ins {a C dx:ag}{fs:List (Str×V)} (e:H a=aa (.ins C dx fs)) (cl:Fw K C) (ha:yH K (.ref C) "__class__"=aa (aa (.builtin "object.__class__")))
   (hn:PySem.W.specialIn K (.builtin "object.__class__") "__get__"=aa (aa (.builtin "getset_descriptor.__get__"))) (vT:PySem.W.takesIn K (.builtin "object.__class__")=aa ah)
   (hm:PySem.W.mroIn K C (.type "object")=aa ah):jh K H (.ref a) (.ref C)
theorem LS{x:V}{u t:aj}(I:Inv X f d H s)(g:RelV x u)(ty:jh X.K H x t)(e:jH X.K t c=aa b)(h:∀r,Q (.bool b) {s with toks:=r}):ar (au X.prog X.w) A (call (.builtin "isinstance") [u,c]) Q E s:=by
 cases ty with
 |non=>cases (show u=Value.none from g);exact l6 PySem.W.kitx_none I.kIn True.intro e (λz=>nomatch z) h
 |bl y=>cases (show u=Value.bool y from g);exact l6 PySem.W.kitx_bool I.kIn True.intro e (λz=>nomatch z) h
 |int i=>obtain⟨t,q⟩:=(show ∃t,u=Value.int i t from g);cases q;exact l6 PySem.W.kitx_int I.kIn True.intro e (λz=>nomatch z) h
 |str y=>obtain⟨t,q⟩:=(show ∃t,u=Value.str y t from g);cases q;exact l6 PySem.W.kitx_str I.kIn True.intro e (λz=>nomatch z) h
 |flt y=>obtain⟨t,q⟩:=(show ∃t,u=Value.float y t from g);cases q;exact l6 PySem.W.kitx_float I.kIn True.intro e (λz=>nomatch z) h
 |@lst a l ea=>
  cases (show u=Value.ref a from g);obtain⟨_,_,n,_,j⟩:=(show cn X.prog X.w H s.heap a (.lst l)from I.hok a _ ea)
  exact l6 PySem.W.kitx_list I.kIn ⟨_,j,rfl⟩ e (λz=>nomatch z) h
 |@frz a ob l ea=>
  cases (show u=Value.ref a from g);obtain⟨_,_,_,n,_,j⟩:=(show cn X.prog X.w H s.heap a (.frz ob (.lst l))from I.hok a _ ea)
  exact l6 PySem.W.kitx_list I.kIn ⟨_,j,rfl⟩ e (λz=>nomatch z) h
 |@tup a l ea=>
  cases (show u=Value.ref a from g);obtain⟨_,_,_,p,_⟩:=(show cn X.prog X.w H s.heap a (.tup l)from I.hok a _ ea)
  obtain⟨o,j,m,_⟩:=p;exact l6 PySem.W.kitx_tuple I.kIn ⟨o,j,m⟩ e (λz=>nomatch z) h
 |@dK a kvs ea=>
  cases (show u=Value.ref a from g);obtain⟨_,_,B,_,p⟩:=(show cn X.prog X.w H s.heap a (.dK kvs)from I.hok a _ ea)
  obtain⟨o,v,w,j,m,_⟩:=p;exact l6 PySem.W.kitx_dict I.kIn ⟨o,j,m.1⟩ e (λz=>nomatch z) h
 |@dT a kvs ea=>
  cases (show u=Value.ref a from g);obtain⟨_,_,l,_,o,v,w,j,m,_⟩:=(show cn X.prog X.w H s.heap a (.dT kvs)from I.hok a _ ea)
  exact l6 PySem.W.kitx_dict I.kIn ⟨o,j,m.1⟩ e (λz=>nomatch z) h
 |@ins a C dx fs ea cl ha hn vT hm=>
  cases (show u=Value.ref a from g);obtain⟨F,O,_⟩:=Na I.hok ea;obtain⟨D,J,_⟩:=O.look;exact l6 (PySem.W.kitx_own (cl.get _) cl.hd ha hn vT hm) I.kIn J e (λz=>nomatch z) h
end
structure gB(k:Nat)(A:aY):Prop where
 hd:A.handled=ae
 dp:A.depth+3*k+5<recursionLimit
 un:A.units+16*k+200<cLine
theorem gB.mono{j k:Nat}{A:aY}(r:gB k A)(h:j<=k):gB j A:=⟨r.hd,by have:=r.dp;lia,by have:=r.un;lia⟩
theorem gB.deeper{k:Nat}{A:aY}(r:gB (k+1) A)(a:Env):gB k (A.deeper a) :=⟨r.hd,by have:=r.dp;show A.depth+1+3*k+5<_;lia,by have:=r.un;show A.units+3+16*k+200<_;lia⟩
theorem gB.depth{k:Nat}{A:aY}(r:gB k A):A.depth<recursionLimit:=by have:=r.dp;lia
theorem gB.units{k:Nat}{A:aY}(r:gB k A):A.units+64<cLine:=by have:=r.un;lia
def LB:TA:=λ_ H Q=>Q [] H
def Lm(d:TE)(c:TA):TA:=λa H Q=>d a H λx g=>c a g λb f=>Q (x::b) f
section
variable{X:Cx}{e:ay}{c:List ay}{d:TE}{t:TA}{a:Pos}
theorem kn:PA X [] LB:=λ_ _ _ _ H Q I h=>Ht ⟨[],H,I,.nil,h⟩
theorem jb(q:PE X e d)(p:PA X c t)(o:aZ (e::c) X.env=(ak,bi e X.env)::aZ c X.env:=by rfl):PA X (e::c) (Lm d t):=by intro a f s b H Q I h;rw[o];show ar _ _ (spliced ((ak,bi e X.env)::eO a (aZ c X.env))) _ _ s;refine Bz (aP (q f s b H _ I h) λu i ⟨x,y,v,l,n⟩=>?_);exact aP (p a f i b y _ v n) λz A ⟨g,w,r,j,m⟩=>⟨x::g,w,r,.cons l j,m⟩
def Nn(t:TA):TE:=λg H Q=>t g H λb f=>b.length<=bn/\∀p,f p=ae->Q (.ref p) (upd f p (.tup b))
def JE(t:TA):TE:=λg H Q=>t g H λb f=>b.length<=bn/\∀p,f p=ae->Q (.ref p) (upd f p (.lst b))
theorem KA{x1}(h:PA X c t):PE X (.Tuple c x1 a) (Nn t):=by intro p s j H Q I n;refine wpAny_Tuple_spliced (aP (h a p s j H _ I n) λm f ⟨l,i,g,r,z,q⟩=>⟨by rw[<-r.length];exact z,?_⟩);have o:i f.heap.objs.size=ae:=g.hok.fresh (a6 _);refine⟨.ref f.heap.objs.size,upd i f.heap.objs.size (.tup l),g.laid (t':=f.toks) (λb u e=>bE _ e) (a6 _) ?_,rfl,q _ o⟩;exact⟨z,m,r,⟨⟨_,cG _ rfl,rfl,_,rfl⟩,_,cG _ rfl,rfl⟩⟩
theorem QL(h:PA X c t):PE X (.List c a) (JE t):=by intro p s j H Q I n;refine wpAny_List_spliced (aP (h a p s j H _ I n) λm f ⟨l,i,g,r,z,q⟩=>⟨by rw[<-r.length];exact z,?_⟩);have o:i f.heap.objs.size=ae:=g.hok.fresh (a6 _);refine⟨.ref f.heap.objs.size,upd i f.heap.objs.size (.lst l),g.laid (t':=f.toks) (λb u e=>bE _ e) (a6 _) ?_,rfl,q _ o⟩;exact⟨z,m,0,r,cG _ rfl⟩
end
abbrev Sp:=List V->Hp->VK->XK->Prop
abbrev gR:=List Env->Hp->ao->XK->aj->ao->Prop
structure xg(P:aR)(w:aL)(K:ax)(mg:Str->Option aj)(base:aC)(A:aY)(outer:List Env)(s:ao)(H:Hp):Prop where
 frames:A.frames=aa outer
 mod:Mod K mg base
 bs:∀b o,base.get? b=aa o->s.heap.get? b=aa o/\H b=ae
 bsz:base.objs.size<=s.heap.objs.size
 funs:s.heap.FunFrames base outer
 frf:∀b∈gg outer,H b=ae
 hok:dH P w H s.heap
 bare:mW s.gens
 tab:wx K H
def CE(a:List Env)(P:aR)(w:aL)(H:Hp)(s:ao)(Q:VK)(u:aj)(b:ao):Prop :=
 ∃v c,b.os=s.os/\mW b.gens/\Un (gg a) [] H c s.heap b.heap/\dH P w c b.heap/\RelV v u/\Q v c
def CR(c:gR)(a:List Env)(P:aR)(w:aL)(H:Hp)(s:ao)(Q:VK)(E:XK)(r:Result)(b:ao):Prop :=
 match r with
 |.ok (.ret u)=>CE a P w H s Q u b
 |.ok _=>False
 |.error e=>c a H s E e b
structure kZ(P:aR)(w:aL)(K:ax)(mg:Str->Option aj)(base:aC)(CX:gR)(k:Nat)(f:ag)(fd:iS)(ps:List Str)(sp:Sp):Prop where
 len:∀vs H Q E,sp vs H Q E->vs.length=ps.length
 run:∀(A:aY) (outer:List Env) (s:ao) (H:Hp) (args:Args) (us:List aj) (vs:List V) (Q:VK) (E:XK),gB k A->xg P w K mg base A outer s H->BindsTo s fd args (ps.zip us)->bL vs us->sp vs H Q E ->
  p_ (au P w) A (.call (.ref f) args) (CR CX outer P w H s Q E) s
section
variable{X:Cx}{f:List (ag×Obj)}{a:St}{H:Hp}{s c:ao}
theorem Inv.env0(I:Inv X f a H s):xg X.prog X.w X.K X.mg X.base X.A X.stack s H :=⟨I.ok.frames,I.ok.mod,I.bs,cq I.ok.bsz I.sz,I.stack,I.stkFree,I.hok,I.bare,I.tab⟩
theorem Inv.after{Q:VK}{u:aj}(I:Inv X f a H s)(h:CE X.stack X.prog X.w H s Q u c):EP X f a Q u c:=by obtain⟨v,o,m,i,un,l,r,q⟩:=h;obtain⟨n,g,d,t,j⟩:=c;obtain rfl:j=s.os:=m;exact⟨v,o,I.call (h':=n) (g':=g) (d':=d) (t':=t) (ch:=[]) un l i (λb z=>absurd z (by simp)),r,q⟩
end
def KZ(d:Sp)(a:List V)(E:XK)(t:TA):TE:=λb H Q=>t b H λc f=>d (c++a) f Q E
def Binds(K:ax)(d:iS)(b:List Str)(c:List aj):Prop :=
 ∀(s:ao) (a:List aj),K.In s.heap->(a++c).length=b.length->BindsTo s d ⟨a,[]⟩ (b.zip (a++c))
theorem Binds.all{K:ax}{d:iS}{b:List Str}(h:∀a:List aj,a.length=b.length->g6 d ⟨a,[]⟩=pure (b.zip a)):Binds K d b []:=λs a _ c=>by rw[gG]at c ⊢;exact .of_eq (h a c)
def rL(c:gR)(X:Cx)(E:XK):Prop:=∀(b:List (ag×Obj)) (a:St) (H:Hp) (s:ao) (e:aj) (s':ao),Inv X b a H s->c X.stack H s E e s'->X.xe e s'
section
variable{X:Cx}{l:gR}{k:Nat}{f C:ag}{j:iS}{d:List Str}{i:Sp}{a:List V}{c:List aj}{E:XK}{x m:Str}{p b n:Pos}{e o:ay}{g:List ay}{v:TE}{t:TA}
theorem RN{A:List (ag×Obj)}{z:St}{H:Hp}{s:ao}{Q:VK}{q:List aj}{y:List V}(F:kZ X.prog X.w X.K X.mg X.base l k f j d i)(J:gB k X.A)(M:Binds X.K j d c)(L:bL a c)(G:rL l X E)(I:Inv X A z H s) (r:bL y q) (h:i (y++a) H Q E):ar (au X.prog X.w) X.A (call (.ref f) q) (EP X A z Q) X.xe s:=by
 have B:bL (y++a) (q++c):=r.append L;have K:(q++c).length=d.length:=by rw[<-B.length];exact F.len _ _ _ _ h
 refine wpAny_call (yI (F.run X.A X.stack s H ⟨q,[]⟩ (q++c) (y++a) Q E J I.env0 (M s q I.kIn K) B h) λr D w=>?_);cases r with
 |error e=>exact G A z H s e D I w
 |ok N=>
  cases N with
  |ret u=>exact I.after w
  |next=>exact l7 w
  |brk=>exact l7 w
  |cont=>exact l7 w
theorem D7(F:kZ X.prog X.w X.K X.mg X.base l k f j d i)(A:gB k X.A)(G:Gl X x)(B:X.mg x=aa (.ref f))(D:vq X.K (.ref f)=ah)(L:Binds X.K j d c)(K:bL a c)(z:rL l X E)(M:PA X (e::g) t) (y:(x==("__debug__":Str))=ak:=by decide) (J:aZ (e::g) X.env=(ak,bi e X.env)::aZ g X.env:=by rfl) (N:(eO b (aZ g X.env)).any (·.1)=ak:=by rfl):PE X (.Call (.Name x p) (e::g) [] b) (KZ i a E t):=by intro O s w H Q I h;refine Hu (Bq I G B ?_ y);refine PySem.W.callWith_K (h₀:=X.base) I.ok.mod.kin D (aP (M b O s w H _ I h) λS T ⟨P,W,u,r,q⟩=>⟨u.kIn,?_⟩) J N;exact RN F A L K z u r q
end
structure cF(N P:List Str)(sc:eC):Prop where
 kind:sc.kind=.function
 co:sc.isCoroutine=ak
 gen:sc.isGenerator=ak
 nd:N.Nodup
 pre:N.take P.length=P
 par:∀x∈P,sc.names.lookup x=aa .local\/sc.names.lookup x=aa .cell
 nofree:∀y∈sc.names,y.2≠.free
theorem FC{a:Str->Option gH}{x:Str}:∀{binds:List (Str×aj)}{m:Str->Option aj},(∀v,(x,v)∉binds)->bindL a binds m x=m x
 |[],_,_=>rfl
 | (n,v)::r,m,h=>by
  unfold bindL;rw[FC λw b=>h w (j8 _ b)];split
  .have:x≠n:=by rintro rfl;exact h v ln
   simp[this]
  .rfl
theorem Hc{a:Str->Option gH}{x:Str}:∀{binds:List (Str×aj)}{m:Str->Option aj},(∀v,(x,v)∉binds)->bindC a binds m x=m x
 |[],_,_=>rfl
 | (n,v)::r,m,h=>by
  unfold bindC;rw[Hc λw b=>h w (j8 _ b)];split
  .rfl
  .have:x≠n:=by rintro rfl;exact h v ln
   simp[this]
theorem DL{a:Str->Option gH}{x:Str}{v:aj}:∀{P:List Str}{b:List aj}{i:Nat}{m:Str->Option aj},P.Nodup->P[i]?=aa x->b[i]?=aa v->a x=aa .local -> bindL a (P.zip b) m x=aa v
 |[],_,_,_,_,h,_,_=>by simp at h
 |_::_,[],_,_,_,_,h,_=>by simp at h
 |p::P,w::b,0,m,nd,h1,h2,hk=>by simp at h1 h2;subst h1;subst h2;show bindL a ((p,w)::P.zip b) m p=_;unfold bindL;rw[FC λv c=>(j9.mp nd).1 (yJ c).1,if_pos hk];simp
 |p::P,w::b,i+1,m,nd,h1,h2,hk=>by show bindL a ((p,w)::P.zip b) m x=_;unfold bindL;exact DL (i:=i) (j9.mp nd).2 (by simpa using h1) (by simpa using h2) hk
theorem G4{a:Str->Option gH}{x:Str}{v:aj}:∀{P:List Str}{b:List aj}{i:Nat}{m:Str->Option aj},P.Nodup->P[i]?=aa x->b[i]?=aa v->a x≠aa .local -> bindC a (P.zip b) m x=aa v
 |[],_,_,_,_,h,_,_=>by simp at h
 |_::_,[],_,_,_,_,h,_=>by simp at h
 |p::P,w::b,0,m,nd,h1,h2,hk=>by simp at h1 h2;subst h1;subst h2;show bindC a ((p,w)::P.zip b) m p=_;unfold bindC;rw[Hc λv c=>(j9.mp nd).1 (yJ c).1,if_neg hk];simp
 |p::P,w::b,i+1,m,nd,h1,h2,hk=>by show bindC a ((p,w)::P.zip b) m x=_;unfold bindC;exact G4 (i:=i) (j9.mp nd).2 (by simpa using h1) (by simpa using h2) hk
def start(N:List Str)(a:List V):St:=a.map aa++dP (N.length-a.length) ae
def jW(g:gR)(P:aR)(w:aL)(K:ax)(mg:Str->Option aj)(base:aC)(N:List Str)(b:Str)(a:eC)(f:ag)(d:aj)(A:aY)(outer:List Env)(s:ao)(H:Hp)(E:XK):Cx where
 prog:=P
 w:=w
 K:=K
 mg:=mg
 base:=base
 A:=A.deeper (kF b a s.heap.objs.size f d)
 N:=N
 s₀:=s
 H₀:=H
 env:=kF b a s.heap.objs.size f d
 outer:=outer
 stack:=kF b a s.heap.objs.size f d::outer
 ex:=[]
 calm:=ah
 fn:=λ_=>ah
 pn:=[]
 xe:=λe s'=>ar (au P w) (A.deeper (kF b a s.heap.objs.size f d)) (leaving (kF b a s.heap.objs.size f d) e) (λ_ c=>g outer H s E e c) (λh c=>g outer H s E h c) s'
theorem Dw{a:eC}{n:Nat}{x:Str}(h:a.names.lookup x=aa .cell):∃c,(f9 n a.names []).lookup x=aa c:=by have q:=PySem.W.cellsFrom_some a.names n [] (.inl h);exact Option.isSome_iff_exists.mp q
theorem MQ{Y:gR}{P:aR}{w:aL}{K:ax}{Q:Str->Option aj}{o:aC}{N C:List Str}{j:Str}{d:eC}{f:ag}{M:aj}{A:aY}{g:List Env}{s T:ao}{H:Hp}{E:XK}{O:List aj}{B:List V}(S:cF N C d) (hd:A.handled=ae) (m:xg P w K Q o A g s H) (hl:B.length=C.length) (r:bL B O)(x:InCallC s s.heap.objs.size (bindL (kF j d s.heap.objs.size f M).kindOf (C.zip O) λ_=>ae) (f9 (s.heap.objs.size+1) d.names []) (bindC (kF j d s.heap.objs.size f M).kindOf (C.zip O) λ_=>ae) T):Inv (jW Y P w K Q o N j d f M A g s H E) [] (start N B) H T:=by
 have dj:C.length<=N.length:=by have:=congrArg m8 S.pre;rw[qa]at this;lia
 obtain⟨L,tk,rfl,X⟩:=x.done;have D:∀b:ag,b∉(jW Y P w K Q o N j d f M A g s H E).ex:=λb z=>absurd (show b∈([]:List ag)from z) (by simp);refine⟨⟨m.mod,S.kind,rfl,rfl,a6 _,λy z c L l=>?_,λy F=>?_,λy c _ h=>?_,λ_=>hd,Around.frames_deeper m.frames,.inr ⟨rfl,rfl⟩,λb z=>absurd z (D b),m.bs,m.bsz,λb _ _=>D b,λb z=>absurd z (D b),m.funs,m.frf,m.tab⟩,rfl,m.bare,Un.kept X,⟨_,x.toInCall.ns,λi y v L l h3=>?_⟩,λy c h=>⟨_,x.cell y c h⟩,m.hok.fresh (a6 _),λy c h=>?_,λp I=>absurd (show p∈([]:List (ag×Obj))from I) (by simp),m.hok.kept X,?_⟩
 .exact name_of_addr x.apart (lu L) (lu l)
 .have F:d.names.lookup y=aa .cell\/d.names.lookup y=aa .free:=F;rcases F with F|F
  .exact Dw F
  .exact absurd rfl (S.nofree _ (lu F))
 .exact lm (x.above y c (lu h))
 .have J:i<B.length:=by
   unfold start at l;by_cases J:i<B.length
   .exact J
   .rw[qb (by simpa using J)]at l;rw[List.getElem?_replicate]at l;split at l <;> cases l
  have ha:B[i]?=aa v:=by
   unfold start at l;rw[jk (by simpa using J),eD]at l;cases e:B[i]? with
   |none=>rw[e]at l;cases l
   |some a=>rw[e]at l;cases l;rfl
  obtain⟨u,W,Z⟩:=r.get ha;have I:C[i]?=aa y:=by rw[<-S.pre,List.getElem?_take_of_lt ∅];exact L
  have G:C.Nodup:=by rw[<-S.pre];exact S.nd.sublist (List.take_sublist _ _)
  refine⟨u,Z,?_⟩;rcases S.par y (oy I)with k|k
  .exact .inl ⟨k,DL G I W k⟩
  .obtain⟨c,e⟩:=Dw (n:=s.heap.objs.size+1) k;refine .inr ⟨.inl k,c,e,?_⟩;have q:=x.cell y c e;rw[G4 G I W (by show d.names.lookup y≠_;rw[k];decide)]at q;exact q
 .exact m.hok.fresh (lm (x.above y c (lu h)))
 .unfold start;show _=N.length;rw[dD,b7,List.length_replicate];lia
theorem Jf{M:gR}{P:aR}{w:aL}{K:ax}{L:Str->Option aj}{h:aC}{k:Nat}{f:ag}{m d:Str}{g:Arguments}{i:List bo}{a:eC}{dV kV F pm z ct oc:aj}{an od:Option ag}{X:Array (Option aj)}{N G:List Str}{O:Sp} (lk:K.lookup f=aa ⟨oc,od,.func (kG m d g i a dV kV F pm an z ct),X⟩) (bB:yK K z d=ah) (S:cF N G a)(len:∀l H Q E,O l H Q E->l.length=G.length)(lC:∀(A:aY) (c:List Env) (s:ao) (H:Hp) (l:List V) (Q:VK) (E:XK),gB k (A.deeper (kF d a s.heap.objs.size f z))->O l H Q E -> ∃t,kA (jW M P w K L h N d a f z A c s H E) i t/\t {nx:=λ_ p=>Q .non p,rt:=Q} (start N l) H):kZ P w K L h M (k+1) f (kG m d g i a dV kV F pm an z ct) G O:=by
 refine⟨len,λA c s H args us l Q E Z D hb r mj=>?_⟩;have hl:=len _ _ _ _ mj;have KX:K.In s.heap:=D.mod.kin.keeps λb o e=>(D.bs b o e).1;have Y:s.heap.NoLimit:=D.mod.nolimit.keeps λb o e=>(D.bs b o e).1;have R8:∀y∈G.zip us,a.names.lookup y.1=aa .local\/(a.names.lookup y.1=aa .cell/\((f9 (s.heap.objs.size+1) a.names []).lookup y.1).isSome=ah):=λ⟨n,v⟩ hy=>by
  rcases S.par n (yJ hy).1 with q|q
  .exact .inl q
  .exact .inr ⟨q,PySem.W.cellsFrom_some _ _ _ (.inl q)⟩
 refine codeAny_call_function Z.depth (KX _ _ lk) rfl S.co S.gen rfl (PySem.W.codeRec_of KX bB) (hb _ _ _ _ ?_);refine wpAny_newFunctionEnv_cells S.kind R8 λenv he s1 x=>?_;subst he;refine⟨Y.keeps x.toInCall.keep,codeAny_func ?_⟩;obtain⟨t,ht,hq⟩:=lC A c s H l Q E (Z.deeper _) mj;have I:Inv (jW M P w K L h N d a f z A c s H E) [] (start N l) H s1:=MQ S Z.hd D hl r x;refine f8 (ht [] s1 (start N l) H _ I hq) (λfl T B=>?_) λe T B=>B;have C:∀{j:St}{p:Hp}{v:V}{u:aj},Inv (jW M P w K L h N d a f z A c s H E) [] j p T->RelV v u->Q v p->CE c P w H s Q u T :=λ{j p v u} J W q=>⟨v,p,J.os,J.bare,J.base,J.hok,W,q⟩
 cases fl with
 |ret u=>obtain⟨v,j,p,J,W,q⟩:=B;exact C J W q
 |next=>obtain⟨j,p,J,q⟩:=B;exact C (v:=V.non) (u:=Value.none) J rfl q
 |brk=>obtain⟨_,_,_,q⟩:=B;exact l7 q
 |cont=>obtain⟨_,_,_,q⟩:=B;exact l7 q
section
variable{X:Cx}{x:Str}{p a:Pos}{e:ay}{b:List ay}{t:TA}{c T:String}{r:List V->Hp->VK->Prop}
def Gk(r:List V->Hp->VK->Prop)(t:TA):TE:=λd H Q=>t d H λf g=>r f g Q
theorem lZ(y:fO X (.builtin c) r)(v:Gl X x)(u:X.mg x=ae)(o:fg x=aa (.builtin c))(z:PA X (e::b) t)(q:x≠"__name__":=by decide)(n:(x==("__debug__":Str))=ak:=by decide)(w:aZ (e::b) X.env=(ak,bi e X.env)::aZ b X.env:=by rfl) (A:(eO a (aZ b X.env)).any (·.1)=ak:=by rfl):PE X (.Call (.Name x p) (e::b) [] a) (Gk r t):=by intro f s d H Q I h;refine Hu (uZ I v u o ?_ q n);exact PyProof.Rows.callWith_builtin1 (aP (z a f s d H _ I h) λi j ⟨g,C,B,l,m⟩=>y f j d C g i Q B l m) w A
theorem A2(y:fO X (.type T) r)(v:Gl X x)(u:X.mg x=ae)(o:fg x=aa (.type T))(z:PA X (e::b) t)(q:x≠"__name__":=by decide)(n:(x==("__debug__":Str))=ak:=by decide)(w:aZ (e::b) X.env=(ak,bi e X.env)::aZ b X.env:=by rfl) (A:(eO a (aZ b X.env)).any (·.1)=ak:=by rfl):PE X (.Call (.Name x p) (e::b) [] a) (Gk r t):=by intro f s d H Q I h;refine Hu (uZ I v u o ?_ q n);exact Hr (aP (z a f s d H _ I h) λi j ⟨g,C,B,l,m⟩=>y f j d C g i Q B l m) w A
end
end L2
namespace HT
section
open PySem.SeqAt
open PySem.AutoSeq1 (wpAny_loadPart')
open PySem.MeetsSeq PySem.MeetsSeq2 PySem.MeetsSeq3
end
section
variable{a:aR}{w:aL}{A:aY}{E:aj->ao->Prop}{s:ao}
theorem cat_tup{t b:ag}{d c:List aj}{Q:aj->ao->Prop}(B:IsTup s.heap t d.toArray)(C:IsTup s.heap b c.toArray)(u:d≠[])(F:c=[]->Q (.ref t) s) (D:c≠[]->Q (.ref s.heap.objs.size) {s with heap:=s.heap.push {cls:=.type "tuple",data:=.seq (d++c).toArray}})(l:d.length+c.length<=bn):ar (au a w) A (iR .Add (.ref t) (.ref b)) Q E s:=by
 obtain⟨⟨cls,y,data,o⟩,j,x,n,v⟩:=id B;obtain⟨⟨z,g,m,f⟩,h,p,q,r⟩:=id C;simp only at x v p r;subst x v p r;have e:d.toArray++c.toArray=(d++c).toArray:=by simp
 by_cases i:c=[]
 .exact concat_meets ⟨_,j,rfl⟩ ⟨_,h,rfl⟩ Hv seq_tuple_add Hw Hx (Hy _ _)
   (tuple_addW1 t b d.toArray c.toArray n q y g o f (by simpa using u) (by simp[i])) ⟨j,h,F i⟩
 .refine concat_meets ⟨_,j,rfl⟩ ⟨_,h,rfl⟩ Hv seq_tuple_add Hw Hx (Hy _ _)
   (tuple_addW2 t b d.toArray c.toArray n q y g o f (by simpa using u) (by simpa using i) (by rw[cO,cO];exact l)) ⟨j,h,?_⟩
  rw[e];exact D i
def sIx(n d:Nat):Option Int->Nat
 |none=>d
 |some v=>if v<0 then(v+(n:Int)).toNat else min v.toNat n
theorem sIx_nat(n d k:Nat):sIx n d (aa (k:Int))=min k n:=by show(if(k:Int)<0 then((k:Int)+(n:Int)).toNat else min (k:Int).toNat n)=min k n;rw[if_neg ∅,kH]
theorem sIx_le(n d:Nat)(c:d<=n)(o:Option Int):sIx n d o<=n:=by
 cases o with
 |none=>exact c
 |some v=>
  show(if v<0 then(v+(n:Int)).toNat else min v.toNat n)<=n;by_cases b:v<0
  .rw[if_pos b];lia
  .rw[if_neg b];exact Nat.min_le_right _ _
theorem Dk(v:Int)(n d:Nat):(if v<0 then max (v+(n:Int)) 0 else min v (n:Int))=((sIx n d (aa v):Nat):Int):=by
 show(if v<0 then max (v+(n:Int)) 0 else min v (n:Int))=(((if v<0 then(v+(n:Int)).toNat else min v.toNat n):Nat):Int)
 by_cases b:v<0
 .simp only[if_pos b];lia
 .simp only[if_neg b];lia
theorem Lx(b c:Option Int)(n:Nat):Hz b c 1 (n:Int)=(((sIx n 0 b:Nat):Int),((sIx n n c:Nat):Int)):=by
 have d:¬((1:Int)<0):=∅
 unfold Hz;simp only[d,if_false];refine Prod.ext ?_ ?_
 .cases b with
  |none=>rfl
  |some v=>exact Dk v n 0
 .cases c with
  |none=>rfl
  |some v=>exact Dk v n n
theorem OJ(i j:Nat):BA (i:Int) (j:Int) 1=j-i:=by
 unfold BA;have b:(1:Int) > 0:=∅
 simp only[b,if_true,Int.ediv_one];split <;> lia
theorem GN{v:aj}{o:Option Int}{Q:Option Int->ao->Prop}(p:m9 v o)(h:Q o s):ar (au a w) A (Builtin.Slice.slicePartIndex v) Q E s:=by
 cases p with
 |none=>exact slicePart_none h
 |int i t=>exact slicePart_int h
theorem PN{j:ag}{g f:aj}{b c:Option Int}{n:Nat}{Q:Int×Int×Nat->ao->Prop}(o:s.heap.IsSliceOf j g f .none)(m:m9 g b)(l:m9 f c)(h:Q (((sIx n 0 b:Nat):Int),1,sIx n n c-sIx n 0 b) s):ar (au a w) A (Builtin.Slice.sliceApplied (.ref j) (pure (n:Int))) Q E s:=by
 obtain⟨q,i,p,d⟩:=id o;unfold Builtin.Slice.sliceApplied Builtin.Slice.sliceFields;refine ap (ap (l8 i d (x:=g) rfl (ap (l8 i d (x:=f) rfl (ap (l8 i d (x:=.none) rfl (aF ?_)))))));refine ap (slicePart_none ?_);show ar _ _ (if((1:Int) == 0)=ah then _ else _) _ _ s;rw[if_neg (by decide)];refine ap (GN m (ap (GN l (ap (aF ?_)))));show ar _ _ (match Hz b c 1 (n:Int)with | (b,c)=>pure (b,(1:Int),BA b c 1)) _ _ s;rw[Lx b c n];show ar _ _ (pure (((sIx n 0 b:Nat):Int),(1:Int),BA ((sIx n 0 b:Nat):Int) ((sIx n n c:Nat):Int) 1)) _ _ s;rw[OJ];exact aF h
theorem NR(b:Array aj)(i k:Nat):((cJ k).filterMap λ(m:Nat)=>b[((i:Int)+(m:Int)*1).toNat]?).toArray=((b.toList.drop i).take k).toArray:=by
 have e:(λ(m:Nat)=>b[((i:Int)+(m:Int)*1).toNat]?)=λm=>b[i+m]?:=by
  funext m;have:((i:Int)+(m:Int)*1).toNat=i+m:=∅
  rw[this]
 rw[e];have:=pick_run b i k;rw[List.filterMap_map]at this;have c:((λx=>b[x]?) ∘ λx=>i+x)=λm=>b[i+m]?:=rfl;rw[c]at this;rw[this]
theorem getItem_tuple_cut{t i:ag}{b:Array aj}{o n:aj}{c d:Option Int}{Q:aj->ao->Prop}(g:IsTup s.heap t b)(p:s.heap.IsSliceOf i o n .none)(x:m9 o c)(v:m9 n d)(z:¬(sIx b.size 0 c=0/\sIx b.size b.size d=b.size))(h:Q (.ref s.heap.objs.size) {s with heap:=s.heap.push {cls:=.type "tuple",data:=.seq ((b.toList.drop (sIx b.size 0 c)).take (sIx b.size b.size d-sIx b.size 0 c)).toArray}})(B:b.size<=bn):ar (au a w) A (qc (.ref t) (.ref i)) Q E s:=by
 have f:sizeOk (.seq ((b.toList.drop (sIx b.size 0 c)).take (sIx b.size b.size d-sIx b.size 0 c)).toArray):=by show((b.toList.drop (sIx b.size 0 c)).take (sIx b.size b.size d-sIx b.size 0 c)).toArray.size<=bn;rw[cO,qa,m_,iQ];lia
 have G:sIx b.size b.size d<=b.size:=sIx_le _ _ (a6 _) d;obtain⟨y,u,r,C⟩:=id p;have l:s.TypeIs (.ref i) "slice":=⟨y,u,r⟩
 unfold qc
 try with_reducible refine kE ?_
 first|refine ap (aF ?_)|skip
 refine ap (wpAny_sequenceKey g.typeIs (by decide) ?_);refine ap (vt (name:=sy "__getitem__") g.typeIs RU (lv RU g.typeIs entry_tuple_getitem ?_ (args_tuple_getitem _ _)));show ar _ _ (Builtin.Tuple.tupleItemsOf (.ref t) >>= _) _ _ s;refine ap (tupleItemsOf_ g ?_);refine ap (wpAny_typeOf l ?_);rw[if_pos (by decide)];refine ap (PN p x v ?_);have j:¬((((sIx b.size 0 c:Nat):Int) == 0&&(1:Int) == 1&&(sIx b.size b.size d-sIx b.size 0 c) == b.size)=ah):=by intro q;rw[iT,iT]at q;have F:((sIx b.size 0 c:Nat):Int)=0:=eq_of_beq q.1.1;have D:sIx b.size b.size d-sIx b.size 0 c=b.size:=eq_of_beq q.2;exact z ⟨∅,∅⟩
 show ar _ _ (if(((sIx b.size 0 c:Nat):Int) == 0&&(1:Int) == 1&&(sIx b.size b.size d-sIx b.size 0 c) == b.size)=ah then _ else _) _ _ s;rw[if_neg j,NR]
 first
  |exact ap (m:=BB _) (jI (aF ⟨_,rfl,aF h⟩) f)
  |exact ap (m:=BB _) (jI (ap (aF (aF ⟨_,rfl,aF h⟩))) f)
  |exact ap (ap (m:=BB _) (jI (aF (aF ⟨_,rfl,aF h⟩)) f))
  |exact ap (ap (m:=BB _) (jI (aF ⟨_,rfl,aF h⟩) f))
end
end HT
namespace L2
abbrev TO:=St->Hp->(Option Int->Hp->Prop)->Prop
def PO(X:Cx)(e:Option ay)(t:TO):Prop :=
 ∀(b:List (ag×Obj)) (s:ao) (a:St) (H:Hp) (Q:Option Int->Hp->Prop),Inv X b a H s->t a H Q ->
  ar (au X.prog X.w) X.A (evalPart e X.env) (λu d=>∃o c,Inv X b a c d/\m9 u o/\Q o c) X.xe s
def Qc:TO:=λ_ H Q=>Q ae H
def K6(t:TE):TO:=λa H Q=>t a H λx b=>∃i,x=.int i/\Q (aa i) b
section
variable{X:Cx}{e:ay}{f:TE}{c d:Option ay}{g j:TO}{n m:Pos}
theorem L7:PO X ae Qc:=by intro b s a H Q I h;rw[evalPart_none];exact aF ⟨ae,H,I,.none,h⟩
theorem NY(h:PE X e f):PO X (aa e) (K6 f):=by intro p s a H Q I o;rw[evalPart_some];refine aP (h p s a H _ I o) λu w ⟨x,v,r,b,l⟩=>?_;obtain⟨i,rfl,q⟩:=l;obtain⟨t,rfl⟩:=b;exact⟨aa i,v,r,.int i t,q⟩
def mG(X:Cx)(r:V->Option Int->Option Int->Hp->VK->Prop):Prop :=
 ∀(l:List (ag×Obj)) (s:ao) (a:St) (H:Hp) (x:V) (v h b:aj) (c d:Option Int) (i:ag) (Q:VK),Inv X l a H s->RelV x v->s.heap.IsSliceOf i h b .none->m9 h c->m9 b d->r x c d H Q ->
  ∃T o,typeLookup (.type T) "__getitem__"=pure (aa (.builtin o))/\s.TypeIs v T/\ar (au X.prog X.w) X.A (qc v (.ref i)) (EP X l a Q) X.xe s
theorem mG.or{r p:V->Option Int->Option Int->Hp->VK->Prop}(h:mG X r)(A:mG X p):mG X (λx c d H Q=>r x c d H Q\/p x c d H Q):=by
 intro z s a H x v i b c d l Q I o y w u q;rcases q with q|q
 .exact h z s a H x v i b c d l Q I o y w u q
 .exact A z s a H x v i b c d l Q I o y w u q
def O8(r:V->Option Int->Option Int->Hp->VK->Prop)(f:TE)(g j:TO):TE:=λa H Q=>f a H λx i=>g a i λl h=>j a h λu b=>r x l u b Q
theorem Nd{r:V->Option Int->Option Int->Hp->VK->Prop}(L:mG X r)(O:PE X e f)(M:PO X c g)(J:PO X d j):PE X (.Subscript e (.Slice c d ae m) n) (O8 r f g j):=by intro o s i H Q I h;refine Subscript_ (aP (O o s i H _ I h) λv A ⟨x,H1,Z,B,E⟩=>?_);refine wpAny_Slice (aP (M o A i H1 _ Z E) λw z ⟨l,H2,Y,G,D⟩=>aP (J o z i H2 _ Y D) λp a ⟨u,y,W,F,C⟩=>?_);rw[evalPart_none];refine aF ?_;have S:Inv X o i y {a with heap:=a.heap.push {cls:=.type "slice",data:=.fields #[w,p,.none]}}:=W.kept (t':=a.toks) λb ob q=>bE _ q;obtain⟨T,id,P,K,N⟩:=L o {a with heap:=a.heap.push {cls:=.type "slice",data:=.fields #[w,p,.none]}} i y x v w p l u a.heap.objs.size Q S B (Heap.IsSliceOf.new ..) G F C;show ar (au X.prog X.w) X.A (subscriptTail e (.Slice c d ae m) v (.ref a.heap.objs.size)) (EP X o i Q) X.xe {a with heap:=a.heap.push {cls:=.type "slice",data:=.fields #[w,p,.none]}};exact tail_any (ops:=[.ref a.heap.objs.size,v]) K P N (by with_unfolding_all rfl)
def nU(a:List V)(c d:Option Int):List V:=(a.drop (HT.sIx a.length 0 c)).take (HT.sIx a.length a.length d-HT.sIx a.length 0 c)
theorem Di(a:List V)(c d:Option Int):(nU a c d).length<=a.length:=by unfold nU;rw[qa,m_];lia
def F6(K:ax):V->Option Int->Option Int->Hp->VK->Prop:=λx c d H Q=>∃a b,x=.ref a/\cp K H a b /\
 ¬(HT.sIx b.length 0 c=0/\HT.sIx b.length b.length d=b.length)/\∀p,H p=ae->Q (.ref p) (upd H p (.tup (nU b c d)))
theorem LJ:mG X (F6 X.K):=by
 intro L s E H x v G F c d J Q I y D A z h;obtain⟨a,i,rfl,B,C,q⟩:=h;cases y;obtain⟨l,r,w,u⟩:=I.tuple B;have p:l.toArray.size=i.length:=by rw[cO];exact r.length.symm
 refine⟨"tuple",_,PyProof.Rows.slot_tuple_getitem.lookup,w.typeIs,?_⟩;refine HT.getItem_tuple_cut w D A z (by rw[p];exact C) ?_ (by rw[p];exact u);rw[p];refine⟨.ref s.heap.objs.size,_,I.laid (t':=s.toks) (o:=.tup (nU i c d)) (λb K q=>bE _ q) (a6 _) ?_,rfl,q _ (I.hok.fresh (a6 _))⟩;exact⟨cq (Di i c d) u,_,(r.drop (HT.sIx i.length 0 c)).take (HT.sIx i.length i.length d-HT.sIx i.length 0 c),Hl.new _ _⟩
def Eb(K:ax):R2:=λx y H Q=>∃a b i h,x=.ref a/\y=.ref b/\cp K H a i/\cp K H b h/\i≠[]/\i.length+h.length<=bn /\
 (h=[]->Q (.ref a) H)/\(h≠[]->∀p,H p=ae->Q (.ref p) (upd H p (.tup (i++h))))
theorem bL.nil_iff{a:List V}{b:List aj}(r:bL a b):b=[]↔a=[]:=by
 cases r with
 |nil=>simp
 |cons _ _=>simp
theorem Su:bS X (iR .Add) (Eb X.K):=by
 intro P s N H x y v u Q I D C h;obtain⟨a,b,B,A,rfl,rfl,M,L,K,r,F,E⟩:=h;cases D;cases C;obtain⟨J,l,G,_⟩:=I.tuple M;obtain⟨p,i,m,_⟩:=I.tuple L;refine HT.cat_tup G m (λz=>K (l.nil_iff.mp z)) (λz=>⟨.ref a,H,I,rfl,F (i.nil_iff.mp z)⟩) (λz=>?_) (by rw[<-l.length,<-i.length];exact r);refine⟨.ref s.heap.objs.size,_,I.laid (t':=s.toks) (o:=.tup (B++A)) (λb O q=>bE _ q) (a6 _) ?_,rfl,E (λw=>z (i.nil_iff.mpr w)) _ (I.hok.fresh (a6 _))⟩;exact⟨by rw[dD];exact r,_,l.append i,Hl.new _ _⟩
end
def iI(n:Nat)(i:Int):Option Nat:=if 0<=i then(if i<n then aa i.toNat else ae)else if -(n:Int)<=i then aa (i+n).toNat else ae
def fI{a:Type}(xs:List a)(i:Int):Option a:=(iI xs.length i).bind λj=>xs[j]?
theorem zT{n:Nat}{i:Int}{j:Nat}(h:iI n i=aa j):seqIndex? i n=aa j/\j<n/\-(n:Int)<=i/\i<n:=by
 unfold iI at h;by_cases b:0<=i
 .rw[if_pos b]at h;by_cases a:i<n
  .rw[if_pos a]at h;have e:i.toNat=j:=cQ h;exact⟨by rw[seqIndex_of b a,e],∅,∅,a⟩
  .rw[if_neg a]at h;cases h
 .rw[if_neg b]at h;by_cases a:-(n:Int)<=i
  .rw[if_pos a]at h;have e:(i+n).toNat=j:=cQ h;exact⟨by rw[seqIndex_neg ∅ a,e],∅,a,∅⟩
  .rw[if_neg a]at h;cases h
theorem zI{b:Type}{a:List b}{i:Int}{v:b}(h:fI a i=aa v):∃j,seqIndex? i a.length=aa j/\a[j]?=aa v/\j<a.length/\-(a.length:Int)<=i/\i<a.length:=by
 unfold fI at h;cases e:iI a.length i with
 |none=>rw[e]at h;cases h
 |some j=>rw[e]at h;obtain⟨g,f,d,c⟩:=zT e;exact⟨j,g,h,f,d,c⟩
theorem Pl{a:Type}{xs:List a}{j:Nat}{v:a}(h:xs[j]?=aa v):fI xs (j:Int)=aa v:=by
 have b:j<xs.length:=(cE.mp h).1;have e:iI xs.length (j:Int)=aa j:=by unfold iI;rw[if_pos ∅,if_pos ∅];simp
 unfold fI;rw[e];exact h
def AA(b:ay):Prop:=∀o i,BC b ak o i=operate [o,i] (qc o i)
def mv(X:Cx)(r:R2):Prop :=
 ∀(b a:ay) (d:List (ag×Obj)) (s:ao) (c:St) (H:Hp) (x y:V) (v u:aj) (Q:VK),Inv X d c H s->RelV x v->RelV y u->r x y H Q ->
  BC a ak v u=operate [v,u] (qc v u)->ar (au X.prog X.w) X.A (subscriptTail b a v u) (EP X d c Q) X.xe s
def sq(X:Cx)(f:String)(r:V->List V->Hp->VK->Prop):Prop :=
 ∀(d:List (ag×Obj)) (s:ao) (a:St) (H:Hp) (x:V) (b:List V) (v:aj) (c:List aj) (Q:VK),Inv X d a H s->RelV x v->bL b c->r x b H Q ->
  ar (au X.prog X.w) X.A (call (.builtin f) (v::c)) (EP X d a Q) X.xe s
section
variable{X:Cx}{a b:ay}{F E:TE}{D:Pos}
theorem mv.or{r j:R2}(h:mv X r)(n:mv X j):mv X (λx y H Q=>r x y H Q\/j x y H Q):=by
 intro c d m s f H x y v u Q I i g q l;rcases q with q|q
 .exact h c d m s f H x y v u Q I i g q l
 .exact n c d m s f H x y v u Q I i g q l
theorem EJ{r:R2}(j:mv X r)(m:PE X a F)(l:PE X b E)(i:AA b):PE X (.Subscript a b D) (wM r F E):=by intro n s c H Q I h;exact Subscript_ (Bc m l I h λv u d x y p o g f q=>j a b n d c p x y v u Q o g f q (i _ _))
def FN(K:ax):R2:=λx y H Q=>∃p c i v,x=.ref p/\y=.int i/\cB K H p c/\fI c i=aa v/\Q v H
def CI(K:ax):R2:=λx y H Q=>∃p c i v,x=.ref p/\y=.int i/\cp K H p c/\fI c i=aa v/\Q v H
def C3:R2:=λx y H Q=>∃z i c,x=.str z/\y=.int i/\z.length<=bn/\fI z.cps.toList i=aa c/\Q (.str ⟨#[c]⟩) H
theorem Sx:mv X (FN X.K):=by
 intro f g J s A H x y v u Q I M L h B;obtain⟨p,Y,i,z,rfl,rfl,N,P,q⟩:=h;cases M;obtain⟨t,rfl⟩:=L;obtain⟨n,r,m,Z⟩:=I.list N;obtain⟨j,d,W,h3,T,S⟩:=zI P;obtain⟨w,G,l⟩:=r.get W;have O:=r.length;have hn:=uh;have c:EP X J A Q w s:=⟨z,H,I,l,q⟩
 by_cases C:0<=i
 .have o:i.toNat=j:=by
   rw[seqIndex_of C S]at d;exact cQ d
  exact item_listR m.isList C ∅ (by rw[o];simpa using G) c B
 .have o:(i+(n.toArray.size:Int)).toNat=j:=by
   rw[seqIndex_neg ∅ T]at d;rw[cO,<-O];exact cQ d
  exact subscriptTail_builtinR (x:=w) m.isList.typeIs slot_list_getitem.lookup
   (wpAny_getItem_list_neg (Q:=λr K=>r=w/\EP X J A Q r K) m.isList ∅ (by rw[cO] <;> lia) ∅ (by rw[o];simpa using G) ⟨rfl,c⟩) B
theorem SE:mv X (CI X.K):=by
 intro c d n s l H x y v u Q I B A h G;obtain⟨p,P,i,z,rfl,rfl,J,L,q⟩:=h;cases B;obtain⟨t,rfl⟩:=A;obtain⟨C,r,m,S⟩:=I.tuple J;obtain⟨j,N,M,Z,Y,W⟩:=zI L;obtain⟨w,O,f⟩:=r.get M;have K:=r.length;have T:=uh;have g:EP X n l Q w s:=⟨z,H,I,f,q⟩
 exact subscriptTail_builtinR (x:=w) m.typeIs slot_tuple_getitem.lookup
  (getItem_tuple (j:=j) (Q:=λr o=>r=w/\EP X n l Q r o) m ∅ ∅ (by rw[cO,<-K];exact N) (by simpa using O) ⟨rfl,g⟩) G
theorem ix_str:mv X C3:=by
 intro d f N s G H x y v u Q I m l h n;obtain⟨z,i,c,rfl,rfl,K,p,q⟩:=h;obtain⟨t,rfl⟩:=m;obtain⟨J,rfl⟩:=l;obtain⟨j,g,A,M,w,r⟩:=zI p;have o:z.cps.toList.length=z.length:=by simp[Str.length]
 rw[o]at g w r;have L:=uh;exact tail_any (typeIs_str s z t) slot_str_getitem.lookup (getItem_str (c:=c) (by have C:decide (i < -(2^63:Int))=ak:=decide_eq_false ∅;have B:decide (i ≥ 2^63)=ak:=decide_eq_false ∅;rw[C,B,Bool.or_false]) (by rw[g];simpa using A) ⟨.str ⟨#[c]⟩,H,I.tok _,⟨_,rfl⟩,q⟩) n
def Gs(K:ax):R2:=λx y H Q=>FN K x y H Q\/CI K x y H Q\/C3 x y H Q
theorem dO:mv X (Gs X.K):=Sx.or (SE.or ix_str)
theorem KP(c:List aj)(n j:Nat)(u:aj):j_ (·.setIfInBounds j u) {cls:=.type "list",data:=.seq c.toArray n}={cls:=.type "list",data:=.seq (c.set j u).toArray n}:=by simp[j_]
theorem Inv.lst{f:List (ag×Obj)}{d:St}{H:Hp}{s:ao}{p:ag}{c:List V}(I:Inv X f d H s)(h:H p=aa (.lst c)):∃(its:List aj) (n:Nat),bL c its/\s.heap.get? p=aa {cls:=.type "list",data:=.seq its.toArray n}/\c.length<=bn:=by obtain⟨z,its,n,r,e⟩:=I.hok p _ h;exact⟨its,n,r,e,z⟩
theorem Inv.lstUpd{m:List (ag×Obj)}{j:St}{H:Hp}{s:ao}{p:ag}{o g:List V}{d c:List aj}{n i:Nat}{f:Obj->Obj}(I:Inv X m j H s)(h:H p=aa (.lst o))(w:s.heap.get? p=aa {cls:=.type "list",data:=.seq d.toArray n}) (l:f {cls:=.type "list",data:=.seq d.toArray n}={cls:=.type "list",data:=.seq c.toArray i}) (r:bL g c) (v:g.length<=bn) (t:Nat):Inv X m j (upd H p (.lst g)) {s with heap:=s.heap.update p f,toks:=t}:=by
 have e:(s.heap.update p f).get? p=aa {cls:=.type "list",data:=.seq c.toArray i}:=by rw[nc f w (by rw[l] <;> rfl),l]
 refine I.write (x:=p) (e:=p) (by rw[h];trivial) (.inl rfl) (λb u y q=>(qd _ _ (c_ y)).trans q) ⟨_,e⟩ ?_;exact⟨v,c,i,r,e⟩
def JU:V->V->V->Hp->(Hp->Prop)->Prop:=λo i v H Q=>∃p c k j,o=.ref p/\i=.int k/\H p=aa (.lst c)/\iI c.length k=aa j/\Q (upd H p (.lst (c.set j v)))
theorem Q2:FR X JU:=by
 intro M s A H o i v N O u Q I G J C h;obtain⟨p,B,k,j,rfl,rfl,m,L,q⟩:=h;cases G;obtain⟨t,rfl⟩:=J;obtain⟨c,n,r,f,K⟩:=I.lst m;obtain⟨d,S,x,w⟩:=zT L;have g:=r.length;have P:=uh;have z:Inv X M A (upd H p (.lst (B.set j v))) {s with heap:=s.heap.update p (j_ (·.setIfInBounds j u))} :=I.lstUpd m f (KP c n j u) (r.set C j) (by rw[gs];exact K) s.toks;by_cases y:0<=k
 .have l:k.toNat=j:=by
   rw[seqIndex_of y w]at d;exact cQ d
  exact PySem.W.ki_setAt f y ∅ (by rw[cO,<-g];exact w) (by rw[l];exact⟨_,z,q⟩)
 .have l:(k+(c.toArray.size:Int)).toNat=j:=by
   rw[seqIndex_neg ∅ x]at d;rw[cO,<-g];exact cQ d
  exact PySem.W.ki_setBack f ∅ (by rw[cO,<-g];exact x) ∅ (by rw[l];exact⟨_,z,q⟩)
theorem N9(c d:Option Int)(n:Nat):(sA c d ae n).1=((HT.sIx n 0 c:Nat):Int)/\(sA c d ae n).2.1=((HT.sIx n n d:Nat):Int)/\(sA c d ae n).2.2=1:=by
 refine⟨?_,?_,rfl⟩
 .cases c with
  |none=>simp[sA,HT.sIx]
  |some i=>
   simp only[sA,HT.sIx,HA,show(1:Int) > 0 by decide,if_true];by_cases h:i<0
   .simp only[h,if_true] <;> lia
   .simp only[h,if_false] <;> lia
 .cases d with
  |none=>simp[sA,HT.sIx]
  |some i=>
   simp only[sA,HT.sIx,HA,show(1:Int) > 0 by decide,if_true];by_cases h:i<0
   .simp only[h,if_true] <;> lia
   .simp only[h,if_false] <;> lia
theorem JW(c:List aj)(d f:Option Int):slicePick c.toArray d f ae=((c.drop (HT.sIx c.length 0 d)).take (HT.sIx c.length c.length f-HT.sIx c.length 0 d)).toArray:=by obtain⟨i,h,g⟩:=N9 d f c.toArray.size;unfold slicePick;rw[i,h,g];simp only[sliceRange_one,pick_run,cO] <;> rfl
def EF(K:ax):V->Option Int->Option Int->Hp->VK->Prop:=λx d f H Q=>∃a c,x=.ref a/\cB K H a c/\∀p,H p=ae->Q (.ref p) (upd H p (.lst (nU c d f)))
theorem Sn:mG X (EF X.K):=by
 intro G s y H x v A z d f B Q I i u l j h;obtain⟨a,c,rfl,p,q⟩:=h;cases i;obtain⟨m,r,g,n⟩:=I.list p;have w:=r.length;refine⟨"list",_,slot_list_getitem.lookup,g.isList.typeIs,?_⟩;refine wpAny_getItem_list_slice g.isList u l j .none (by simp) ?_ (by rw[cO] <;> lia);rw[JW,<-w];refine⟨.ref s.heap.objs.size,_,I.laid (t':=s.toks) (o:=.lst (nU c d f)) (λb C q=>bE _ q) (a6 _) ?_,rfl,q _ (I.hok.fresh (a6 _))⟩;exact⟨cq (Di c d f) n,_,0,(r.drop (HT.sIx c.length 0 d)).take (HT.sIx c.length c.length f-HT.sIx c.length 0 d),cG _ rfl⟩
def j4:V->Bool
 |.non=>ah
 |.bl _=>ah
 |.int _=>ah
 |.str _=>ah
 |_=>ak
def i7:V->V->Bool
 |.non,.non=>ah
 |.bl a,.bl b=>a == b
 |.bl a,.int b=>(if a then 1 else 0) == b
 |.int a,.bl b=>a == (if b then 1 else 0)
 |.int a,.int b=>a == b
 |.str a,.str b=>a == b
 |_,_=>ak
theorem EG{A:aY}{s:ao}{y x:V}{u v:aj}(f:RelV y u)(c:RelV x v)(h:j4 y=ah)(g:j4 x=ah):yL A s u v (i7 y x):=by
 cases y with
 |non=>
  cases f;cases x with
  |non=>cases c;exact SeqAt.EqAt.same _
  |bl b=>cases c;exact SeqAt.EqAt.none_bool b
  |int b=>obtain⟨t,rfl⟩:=c;exact SeqAt.EqAt.none_int b t
  |str b=>obtain⟨t,rfl⟩:=c;exact SeqAt.EqAt.none_str b t
  |_=>exact absurd (show ak=ah from g) eT
 |bl a=>
  cases f;cases x with
  |non=>cases c;exact SeqAt.EqAt.bool_none a
  |bl b=>cases c;exact SeqAt.EqAt.bool_bool a b
  |int b=>obtain⟨t,rfl⟩:=c;exact SeqAt.EqAt.bool_int a b t
  |str b=>obtain⟨t,rfl⟩:=c;exact SeqAt.EqAt.bool_str a b t
  |_=>exact absurd (show ak=ah from g) eT
 |int a=>
  obtain⟨d,rfl⟩:=f;cases x with
  |non=>cases c;exact SeqAt.EqAt.int_none a d
  |bl b=>cases c;exact SeqAt.EqAt.int_bool a d b
  |int b=>obtain⟨t,rfl⟩:=c;exact SeqAt.EqAt.int_int a d b t
  |str b=>obtain⟨t,rfl⟩:=c;exact SeqAt.EqAt.int_str a d b t
  |_=>exact absurd (show ak=ah from g) eT
 |str a=>
  obtain⟨d,rfl⟩:=f;cases x with
  |non=>cases c;exact SeqAt.EqAt.str_none a d
  |bl b=>cases c;exact SeqAt.EqAt.str_bool a d b
  |int b=>obtain⟨t,rfl⟩:=c;exact SeqAt.EqAt.str_int a d b t
  |str b=>obtain⟨t,rfl⟩:=c;exact SeqAt.EqAt.str_str a d b t
  |_=>exact absurd (show ak=ah from g) eT
 |_=>exact absurd (show ak=ah from h) eT
def je(x:V)(u:aj):Bool:=match u with
 |.none=>i7 .non x
 |.bool b=>i7 (.bl b) x
 |.int i _=>i7 (.int i) x
 |.str z _=>i7 (.str z) x
 |_=>ak
theorem D_{x y:V}{u:aj}(r:RelV y u)(f:j4 y=ah):je x u=i7 y x:=by
 cases y with
 |non=>cases r;rfl
 |bl b=>cases r;rfl
 |int i=>obtain⟨t,rfl⟩:=r;rfl
 |str z=>obtain⟨t,rfl⟩:=r;rfl
 |_=>exact absurd (show ak=ah from f) eT
theorem uu{x:V}:∀{c:List V}{d:List aj},bL c d->c.all j4=ah->d.any (je x)=c.any λy=>i7 y x
 |_,_,.nil,_=>rfl
 |y::c,u::d,.cons r t,f=>by rw[oz,iT]at f;rw[lw,lw,D_ r f.1,uu t f.2]
theorem tZ{A:aY}{s:ao}{x:V}{v:aj}(h:RelV x v)(i:j4 x=ah):∀{d:List V}{g:List aj},bL d g->d.all j4=ah->∀u∈g,yL A s u v (je x u)
 |_,_,.nil,_=>λu c=>by cases c
 |y::d,u::g,.cons r t,f=>λj c=>by
  rw[oz,iT]at f;rcases bI.mp c with rfl|c
  .rw[D_ r f.1];exact EG r h f.1 i
  .exact tZ h i t f.2 j c
def iJ(x:V)(c:List V):Bool:=c.any λy=>i7 y x
def ur(K:ax)(d:Bool):R2:=λx y H Q=>∃p c,y=.ref p/\(cB K H p c\/cp K H p c)/\j4 x=ah/\c.all j4=ah/\Q (.bl (if d then !iJ x c else iJ x c)) H
theorem Qi:bS X (d9 .In) (ur X.K ak):=by
 intro z s n H x y v u Q I i l h;obtain⟨p,o,rfl,d,j,fs,q⟩:=h;cases l;rcases d with d|d
 .obtain⟨c,r,f,m⟩:=I.list d;refine SeqAt.in_listAt (je x) f.isList (λw g=>tZ i j r fs w (by simpa using g)) ⟨.bl _,H,I,rfl,?_⟩;rw[show c.toArray.any (je x)=c.any (je x) by simp,uu r fs];exact q
 .obtain⟨c,r,f,m⟩:=I.tuple d;refine SeqAt.in_tupleAt (je x) f (λw g=>tZ i j r fs w (by simpa using g)) ⟨.bl _,H,I,rfl,?_⟩;rw[show c.toArray.any (je x)=c.any (je x) by simp,uu r fs];exact q
theorem Jx:bS X (d9 .NotIn) (ur X.K ah):=by
 intro z s n H x y v u Q I i l h;obtain⟨p,o,rfl,d,j,fs,q⟩:=h;cases l;rcases d with d|d
 .obtain⟨c,r,f,m⟩:=I.list d;refine SeqAt.notIn_listAt (je x) f.isList (λw g=>tZ i j r fs w (by simpa using g)) ⟨.bl _,H,I,rfl,?_⟩;rw[show c.toArray.any (je x)=c.any (je x) by simp,uu r fs];exact q
 .obtain⟨c,r,f,m⟩:=I.tuple d;refine SeqAt.notIn_tupleAt (je x) f (λw g=>tZ i j r fs w (by simpa using g)) ⟨.bl _,H,I,rfl,?_⟩;rw[show c.toArray.any (je x)=c.any (je x) by simp,uu r fs];exact q
theorem SF:bS X (d9 .NotIn) (λx y H Q=>∃i j,x=.str i/\y=.str j/\Q (.bl (!(!(yG j i 0 j.length 1).isEmpty))) H):=by intro l s f H x y v u Q I d c h;obtain⟨i,j,rfl,rfl,q⟩:=h;obtain⟨t,rfl⟩:=d;obtain⟨g,rfl⟩:=c;exact notIn_str ⟨.bl _,H,I,rfl,q⟩
theorem Rt:fO X (.type "list") (λB H Q=>∃p f,B=[.ref p]/\(cB X.K H p f\/cp X.K H p f)/\∀l,H l=ae->Q (.ref l) (upd H l (.lst f))):=by
 intro L s G H B M Q I r h;obtain⟨p,f,rfl,v,q⟩:=h;obtain⟨u,rfl,J⟩:=vals1 r;cases J;have w:∀(c:List aj),bL f c->f.length<=bn->∀(d:aC) (i:Nat),(∀b C,s.heap.get? b=aa C->d.get? b=aa C) ->
   d.get? s.heap.objs.size=aa {cls:=.type "list",dict:=ae,data:=.seq c.toArray i,slots:=#[]}->EP X L G Q (.ref s.heap.objs.size) {s with heap:=d}:=λc g m d i j e=>
  ⟨.ref s.heap.objs.size,_,I.laid (t':=s.toks) j (a6 _) (show cn X.prog X.w _ d _ (.lst f)from⟨m,c,i,g,e⟩),rfl,q _ (I.hok.fresh (a6 _))⟩
 rcases v with v|v
 .obtain⟨c,g,x,m⟩:=I.list v;have K:=g.length;obtain⟨o,y,A,n,z⟩:=x.isList;exact call_list_seq p (.inl rfl) y A z (λd i j e=>w c g m d i j e) (by simp only[cO] <;> lia)
 .obtain⟨c,g,x,m⟩:=I.tuple v;have K:=g.length;obtain⟨o,y,A,n,z⟩:=x;exact call_list_seq p (.inr rfl) y A z (λd i j e=>w c g m d i j e) (by simp only[cO] <;> lia)
theorem yd:fO X (.type "tuple") (λm H Q=>∃p d,m=[.ref p]/\((cB X.K H p d/\∀l,H l=ae->Q (.ref l) (upd H l (.tup d)))\/(cp X.K H p d/\Q (.ref p) H))):=by
 intro v s j H m A Q I r h;obtain⟨p,d,rfl,h⟩:=h;obtain⟨u,rfl,x⟩:=vals1 r;cases x;rcases h with⟨hq,q⟩|⟨hq,q⟩
 .obtain⟨c,g,i,n⟩:=I.list hq;have B:=g.length;refine call_tuple_list i.isList (λf y=>?_) (by simp only[cO] <;> lia);have w:Inv X v j H {s with heap:=f}:=I.kept (t':=s.toks) y;have z:Inv X v j (upd H f.objs.size (.tup d)) {s with heap:=f.push {cls:=.type "tuple",data:=.seq c.toArray}} :=w.laid (t':=s.toks) (λb o e=>bE _ e) (a6 _) (show cn X.prog X.w _ _ _ (.tup d)from⟨n,c,g,Hl.new _ _⟩);exact⟨.ref f.objs.size,_,z,rfl,q _ (w.hok.fresh (a6 _))⟩
 .obtain⟨c,g,i,n⟩:=I.tuple hq;exact call_tuple_same i ⟨.ref p,H,I,rfl,q⟩
def Bp(K:ax)(T:String)(x:V)(H:Hp):Prop:=match x with
 |.str _=>T = "str"
 |.int _=>T = "int"
 |.ref p=>(T = "list"/\∃d,cB K H p d)\/(T = "tuple"/\∃o,K.lookup p=aa o/\o.cls=.type "tuple"/\o.dict=ae) \/
   (T = "dict"/\((∃c,H p=aa (.dK c))\/∃c,H p=aa (.dT c)))\/(T = "set"/\∃S n,H p=aa (.set S n))
 |_=>False
theorem Ed{q:List (ag×Obj)}{l:St}{H:Hp}{s:ao}{T:String}{x:V}{v:aj}(I:Inv X q l H s)(r:RelV x v)(ty:Bp X.K T x H):s.TypeIs v T/\∀a,v=.ref a->∃j,s.heap.get? a=aa j/\j.dict=ae:=by
 cases x with
 |str z=>
  obtain⟨t,rfl⟩:=r;cases (show T = "str" from ty);exact⟨typeIs_str s z t,λ_ e=>nomatch e⟩
 |int i=>
  obtain⟨t,rfl⟩:=r;cases (show T = "int" from ty);exact⟨typeIs_int s i t,λ_ e=>nomatch e⟩
 |ref p=>
  cases r;rcases ty with⟨rfl,xs,hq⟩|⟨rfl,o,hk,hc,f⟩|⟨rfl,hk⟩|⟨rfl,S,n,hk⟩
  .obtain⟨m,_,h,_⟩:=I.list hq;refine⟨h.isList.typeIs,λa e=>?_⟩;cases e;obtain⟨o,n,e,c,f,_⟩:=h;exact⟨o,e,f⟩
  .refine⟨⟨o,I.kIn p o hk,hc⟩,λa e=>?_⟩;cases e;exact⟨o,I.kIn _ o hk,f⟩
  .have z:∃o,s.heap.get? p=aa o/\o.ExactDict:=by
    rcases hk with⟨kvs,hk⟩|⟨kvs,hk⟩
    .obtain⟨_,_,_,_,o,_,_,e,d,_⟩:=I.hok p _ hk;exact⟨o,e,d⟩
    .obtain⟨_,_,_,_,o,_,_,e,d,_⟩:=I.hok p _ hk;exact⟨o,e,d⟩
   obtain⟨o,e,d⟩:=z;refine⟨⟨o,e,d.1⟩,λa g=>?_⟩;cases g;exact⟨o,e,d.2.1⟩
  .obtain⟨o,_,_,_,e,d,_⟩:=I.hok p _ hk;refine⟨⟨o,e,d.1⟩,λa g=>?_⟩;cases g;exact⟨o,e,d.2.1⟩
 |_=>exact l7 ty
def Pk(K:ax)(T:String)(r:V->List V->Hp->VK->Prop)(B:TE):TE:=λd H Q=>B d H λx c=>Bp K T x c/\r x [] c Q
def K1(K:ax)(T:String)(r:V->List V->Hp->VK->Prop)(B:TE)(t:TA):TE:=λc H Q=>B c H λx d=>Bp K T x d/\t c d λf g=>r x f g Q
variable{o e:ay}{es:List ay}{B:TE}{t:TA}{g:Str}{m d:Pos}{T C:String}{r:V->List V->Hp->VK->Prop}
theorem K3(w:PlainAttrs T)(c:Slot T g C)(y:typeOf (.builtin C)=pure (.type "method_descriptor"))(A:sq X C r)(z:PE X o B)(q:qe o g X.env (bi o X.env)=bi o X.env:=by rfl) (p:(m.endLine == d.line)=ah:=by rfl):PE X (.Call (.Attribute o g m) [] [] d) (Pk X.K T r B):=by intro j s f H Q I h;refine wpAny_Call_method0_late q p (aP (z j s f H _ I h) λv n ⟨x,K,l,i,ty,u⟩=>?_);obtain⟨J,G⟩:=Ed l i ty;exact⟨T,C,w,c,y,J,G,HB rfl (PySem.evalArgs_none (A j n f K x [] v [] Q l i .nil u))⟩
theorem A9(L:PlainAttrs T)(c:Slot T g C)(M:typeOf (.builtin C)=pure (.type "method_descriptor"))(P:sq X C r)(O:PE X o B)(S:PA X (e::es) t)(G:qe o g X.env (bi o X.env)=bi o X.env:=by rfl)(p:((eO d (aZ (e::es) X.env)).all (λx=>!x.1)&&(backToKw d (yM [] X.env)).all (λx=>x.1.isSome)&&decide ((e::es).length+([]:List ng).length+(if([]:List ng).isEmpty then 0 else 1)<30))=ah:=by rfl)(A:(m.endLine == d.line)=ah:=by rfl) (N:aZ (e::es) X.env=(ak,bi e X.env)::aZ es X.env:=by rfl) (Ch:(eO d (aZ es X.env)).any (·.1)=ak:=by rfl):PE X (.Call (.Attribute o g m) (e::es) [] d) (K1 X.K T r B t):=by intro i s f H Q I h;refine wpAny_Call_method_late G p A rfl (aP (O i s f H _ I h) λv y ⟨x,H1,n,j,ty,K⟩=>?_);obtain⟨Y,W⟩:=Ed n j ty;refine⟨T,C,L,c,M,Y,W,?_⟩;have l:=S d i y f H1 _ n K;rw[N]at l ⊢;refine HB (by show(ak||(eO d (aZ es X.env)).any (·.1))=ak;rw[Ch] <;> rfl) (HD ?_);exact aP l λu w ⟨q,H2,Z,z,J⟩=>P i w f H2 x q v u Q Z j z J
end
def Hj(X:Cx)(f:String)(r:V->List V->Hp->VK->Prop):Prop :=
 ∀(d:List (ag×Obj)) (s:ao) (a:St) (H:Hp) (x:V) (b:List V) (v:aj) (c:List aj) (Q:VK),Inv X d a H s->RelV x v->bL b c->r x b H Q ->
  ar (au X.prog X.w) X.A (call (.builtin f) (v::c)) (EP X d a Q) X.xe s
theorem bL.one:∀{x:V}{a:List aj},bL [x] a->∃u,a=[u]/\RelV x u
 |_,_,.cons r .nil=>⟨_,rfl,r⟩
theorem bL.zero:∀{a:List aj},bL [] a->a=[]
 |_,.nil=>rfl
section
variable{X:Cx}{d:List (ag×Obj)}{a:St}{H:Hp}{s:ao}{l b:ag}{g c i:List V}
theorem Inv.lset{h its':List aj}{n:Nat}{f:Array aj->Array aj}{j:Nat}(I:Inv X d a H s)(w:H l=aa (.lst g))(e:s.heap.get? l=aa {cls:=.type "list",data:=.seq h.toArray n}) (r:f h.toArray=its'.toArray) (o:bL c its') (m:c.length<=bn):Inv X d a (upd H l (.lst c)) {s with heap:=s.heap.update l (j_ f),toks:=j}:=by have q:=PySem.IsL.update e f;rw[r]at q;refine I.write (x:=l) (e:=l) (by rw[w];exact trivial) (.inl rfl) (λy u v p=>(qd s.heap (j_ f) (c_ v)).trans p) ⟨_,q⟩ ?_;exact⟨m,its',_,o,q⟩
theorem Inv.lnew{its:List aj}{t':Nat}(I:Inv X d a H s)(h:bL c its)(f:c.length<=bn):Inv X d a (upd H s.heap.objs.size (.lst c)) {s with heap:=s.heap.push {cls:=.type "list",data:=.seq its.toArray},toks:=t'} :=I.laid (λ_ _ q=>bE _ q) (a6 _) ⟨f,its,0,h,cG _ rfl⟩
theorem Inv.fresh(I:Inv X d a H s):H s.heap.objs.size=ae:=I.hok.fresh (a6 _)
theorem Inv.lstM(I:Inv X d a H s)(h:H l=aa (.lst g)):g.length<=bn/\∃(f:List aj) (n:Nat),bL g f/\g.length=f.length/\s.heap.get? l=aa {cls:=.type "list",data:=.seq f.toArray n}:=by obtain⟨z,f,n,r,e⟩:=I.hok l _ h;exact⟨z,f,n,r,r.length,e⟩
theorem PD{n:Nat}(h:n<=bn):HE n=ak:=by unfold HE;exact decide_eq_false ∅
end
section
variable{X:Cx}
def NK:V->List V->Hp->VK->Prop:=λx b H Q=>∃l a y,x=.ref l/\b=[y]/\H l=aa (.lst a)/\a.length<bn/\Q .non (upd H l (.lst (a++[y])))
theorem Fs:Hj X "list.append" NK:=by
 intro p s f H x i v j Q I b c h;obtain⟨l,g,y,rfl,rfl,a,m,q⟩:=h;cases b;obtain⟨u,rfl,d⟩:=c.one;obtain⟨z,its,n,r,o,e⟩:=I.lstM a;refine call_meets F.slot_list_append ⟨_,e,rfl⟩ F.entry_list_append (F.args_list_append_2 _ _) (PySem.list_append l its.toArray n u (by rw[cO];lia)) ⟨e,?_⟩;refine⟨.non,_,I.lset (its':=its++[u]) a e (by simp) (r.append (.cons d .nil)) ?_,rfl,q⟩;rw[dD,yN];lia
theorem Nh{b:Type}(a:List b)(k:Nat):(dP k a).flatten.length=k*a.length:=by
 induction k with
 |zero=>simp
 |succ k c=>rw[HF,List.flatten_cons,dD,c,Nat.succ_mul,BD]
end
section
variable{κ:Type}[DecidableEq κ]
def jx(a:List (κ×V))(k:κ):Option V:=(a.find? λb=>decide (b.1=k)).map (·.2)
def fL(a:List (κ×V))(k:κ)(v:V):List (κ×V) :=if(a.any λb=>decide (b.1=k))=ah then a.map (λb=>if b.1=k then(b.1,v)else b)else a++[(k,v)]
theorem xT{p:κ×V}{r:List (κ×V)}{k:κ}(e:p.1=k):jx (p::r) k=aa p.2:=by simp[jx,kI,e]
theorem xp{p:κ×V}{r:List (κ×V)}{k:κ}(e:¬p.1=k):jx (p::r) k=jx r k:=by simp[jx,kI,e]
theorem DV(k:κ):∀a:List (κ×V),(a.any λb=>decide (b.1=k))=(jx a k).isSome
 |[]=>rfl
 |p::r=>by
  rw[lw];by_cases e:p.1=k
  .simp only[xT e,decide_eq_true e,Bool.true_or,Option.isSome_some]
  .rw[xp e,decide_eq_false e,Bool.false_or];exact DV k r
theorem Bn(a:List (κ×V))(k:κ)(v:V):(fL a k v).length<=a.length+1:=by
 unfold fL;split
 .rw[b7];lia
 .rw[dD,eU,qf];lia
theorem oq.isSome_eq{o:Option V}{u:Option aj}(r:oq o u):o.isSome=u.isSome:=by
 cases o with
 |none=>cases u with
  |none=>rfl
  |some _=>exact(show False from r).elim
 |some _=>cases u with
  |none=>exact(show False from r).elim
  |some _=>rfl
theorem oq.getD{o:Option V}{u:Option aj}{d:V}{a:aj}(r:oq o u)(rd:RelV d a):RelV (o.getD d) (u.getD a):=by
 cases o with
 |none=>cases u with
  |none=>exact rd
  |some _=>exact(show False from r).elim
 |some _=>cases u with
  |none=>exact(show False from r).elim
  |some _=>exact r
theorem KV.val{a:List (κ×V)}{d:List (κ×aj)}(r:KV a d)(k:κ):oq (jx a k) (sB d k):=by
 unfold KV at r
 induction r with
 |nil=>exact True.intro
 |@cons p q ps qs h t ih=>
  obtain⟨f,g⟩:=h;by_cases e:p.1=k
  .have c:q.1=k:=f.symm.trans e;have b:sB (q::qs) k=aa q.2:=by simp[sB,kI,c]
   rw[xT e,b];exact g
  .have c:¬q.1=k:=λz=>e (f.trans z);have b:sB (q::qs) k=sB qs k:=by simp[sB,kI,c]
   rw[xp e,b];exact ih
theorem KV.any{a:List (κ×V)}{c:List (κ×aj)}(r:KV a c)(k:κ):(a.any λb=>decide (b.1=k))=c.any λb=>decide (b.1=k):=by
 unfold KV at r
 induction r with
 |nil=>rfl
 |cons h t d=>rw[lw,lw,d,h.1]
theorem KV.repl{b:List (κ×V)}{d:List (κ×aj)}(r:KV b d)(k:κ){y:V}{u:aj}(f:RelV y u):KV (b.map λa=>if a.1=k then(a.1,y)else a) (d.map λa=>if a.1=k then(a.1,u)else a):=by
 unfold KV at r ⊢
 induction r with
 |nil=>exact .nil
 |@cons p q ps qs h t ih=>
  rw[b8,b8];refine .cons ?_ ih;obtain⟨c,g⟩:=h;by_cases e:p.1=k
  .rw[if_pos e,if_pos (c.symm.trans e)];exact⟨c,f⟩
  .rw[if_neg e,if_neg (λz=>e (c.trans z))];exact⟨c,g⟩
theorem KV.put{a:List (κ×V)}{b:List (κ×aj)}(r:KV a b)(k:κ){y:V}{u:aj}(c:RelV y u):KV (fL a k y) (stored b k u):=by
 unfold fL stored;rw[r.any k];by_cases e:(b.any λd=>decide (d.1=k))=ah
 .rw[if_pos e,if_pos e];exact r.repl k c
 .rw[if_neg e,if_neg e];exact yO r ⟨rfl,c⟩
theorem KV.length{kvs:List (κ×V)}{a:List (κ×aj)}(r:KV kvs a):kvs.length=a.length:=mV r
end
theorem sj{P:aR}{w:aL}{k:aE}{u:aj}(r:RelV (kV k) u):(gi P w).is k u=ah:=by
 cases k with
 |inl i=>obtain⟨t,e⟩:=(show ∃t,u=Value.int i t from r);subst e;exact Jn P w i t
 |inr x=>obtain⟨t,e⟩:=(show ∃t,u=Value.str x t from r);subst e;exact Lc P w x t
theorem DD{P:aR}{w:aL}:∀{ks:List aE}{a:List aj},bL (ks.map kV) a->ItemsAre (gi P w) ks a
 |[],_,r=>by rw[yP]at r;cases r;exact .nil
 |k::ks,_,r=>by
  rw[b8]at r;cases r with
  |cons h t=>exact .cons (sj h) (DD t)
abbrev KT(H:Hp):List (List aE×V)->List (List aE×ag×aj)->Prop:=d7 λp q=>p.1=q.1/\H q.2.1=aa (.tup (p.1.map kV))/\RelV p.2 q.2.2
theorem KT.val{H:Hp}{a:List (List aE×V)}{d:List (List aE×ag×aj)}(r:KT H a d)(k:List aE):oq (jx a k) ((atKey d k).map (·.2)):=by
 induction r with
 |nil=>exact True.intro
 |@cons p q ps qs h t ih=>
  obtain⟨f,_,g⟩:=h;by_cases e:p.1=k
  .have c:q.1=k:=f.symm.trans e;have b:atKey (q::qs) k=aa q.2:=by simp[atKey,kI,c]
   rw[xT e,b];exact g
  .have c:¬q.1=k:=λz=>e (f.trans z);have b:atKey (q::qs) k=atKey qs k:=by simp[atKey,kI,c]
   rw[xp e,b];exact ih
theorem KT.repl{H:Hp}{a:List (List aE×V)}{d:List (List aE×ag×aj)}(r:KT H a d)(k:List aE){y:V}{u:aj}(g:RelV y u):KT H (a.map λc=>if c.1=k then(c.1,y)else c) (d.map (putAt k u)):=by
 induction r with
 |nil=>exact .nil
 |@cons p q ps qs h t ih=>
  rw[b8,b8];refine .cons ?_ ih;obtain⟨b,f,i⟩:=h;unfold putAt;by_cases e:p.1=k
  .rw[if_pos e,if_pos (b.symm.trans e)];exact⟨b,f,g⟩
  .rw[if_neg e,if_neg (λz=>e (b.trans z))];exact⟨b,f,i⟩
theorem KT.put{H:Hp}{a:List (List aE×V)}{c:List (List aE×ag×aj)}(r:KT H a c)(k:List aE){b:ag}{y:V}{u:aj}(g:H b=aa (.tup (k.map kV)))(d:RelV y u):KT H (fL a k y) (storedH c k b u):=by
 have e:(a.any λf=>decide (f.1=k))=(atKey c k).isSome:=by rw[DV,(r.val k).isSome_eq,HG]
 unfold fL storedH;rw[e];by_cases q:(atKey c k).isSome=ah
 .rw[if_pos q,if_pos q];exact r.repl k d
 .rw[if_neg q,if_neg q];exact yO r ⟨rfl,g,d⟩
theorem KT.keeps{H f:Hp}{a:List (List aE×V)}{d:List (List aE×ag×aj)}(r:KT H a d)(g:∀b c,H b=aa (.tup c)->f b=aa (.tup c)):KT f a d :=Paired.mapP r λ_ _ z=>⟨z.1,g _ _ z.2.1,z.2.2⟩
section
variable{P:aR}{w:aL}{H:Hp}{h:aC}{a:ag}
theorem Gd{u:HO}(ok:dH P w H h)(e:Rd H a u):cn P w H h a u:=e.ok ok
theorem p5{b:List (aE×V)}(ok:dH P w H h)(e:Rd H a (.dK b)):b.length<=bn/\(a == jF)=ak/\∃c,KV b c/\h.DictOf (gi P w) a c :=show cn P w H h a (.dK b)from Gd ok e
theorem uJ{kvs:List (aE×V)}(ok:dH P w H h)(e:H a=aa (.dK kvs)):kvs.length<=bn/\(a == jF)=ak/\∃b,KV kvs b/\h.DictOf (gi P w) a b:=p5 ok (.inl e)
theorem rR{ks:List aE}(ok:dH P w H h)(e:H a=aa (.tup (ks.map kV))):(sr (gi P w)).is h ks a:=by
 obtain⟨_,b,r,⟨o,f,d,n,c⟩,_⟩:=(show cn P w H h a (.tup (ks.map kV))from ok a _ e)
 exact⟨o,b.toArray,n,f,d,c,by simpa using DD r⟩
theorem sd{b:List (List aE×V)}(ok:dH P w H h)(e:Rd H a (.dT b)):b.length<=bn/\(a == jF)=ak /\ ∃d,KT H b d/\h.DictOfH (sr (gi P w)) a d:=by
 obtain⟨z,y,d,r,o,s,u,n,j,i,g,f⟩:=(show cn P w H h a (.dT b)from Gd ok e)
 refine⟨z,y,d,r,o,s,u,n,j,i,g,λx c=>?_,f⟩;have all:∀{l:List (List aE×V)}{m:List (List aE×ag×aj)},KT H l m->∀x∈m,(sr (gi P w)).is h x.1 x.2.1:=by
  intro l m q
  induction q with
  |nil=>intro x c;exact nomatch c
  |@cons p q ps qs hq t ih=>
   intro x c;rcases bI.mp c with e|c
   .subst e;exact rR ok (by rw[<-hq.1];exact hq.2.1)
   .exact ih x c
 exact all r x c
theorem C7{b:List (List aE×V)}(ok:dH P w H h)(e:H a=aa (.dT b)):b.length<=bn/\(a == jF)=ak /\ ∃c,KT H b c/\h.DictOfH (sr (gi P w)) a c:=sd ok (.inl e)
end
def mD(H:Hp)(a:ag)(y:V)(r:Option V):Prop :=(∃c k,Rd H a (.dK c)/\y=kV k/\r=jx c k)\/∃c k b,Rd H a (.dT c)/\y=.ref b/\H b=aa (.tup (k.map kV))/\r=jx c k
def yF(H:Hp)(a:ag)(y v:V)(d:Hp):Prop :=
 (∃c k,H a=aa (.dK c)/\y=kV k/\c.length<bn/\d=upd H a (.dK (fL c k v))) \/
 ∃c k b,H a=aa (.dT c)/\y=.ref b/\H b=aa (.tup (k.map kV))/\c.length<bn/\d=upd H a (.dT (fL c k v))
theorem mD.k{H:Hp}{a:ag}{kvs:List (aE×V)}{k:aE}(e:H a=aa (.dK kvs)):mD H a (kV k) (jx kvs k):=.inl ⟨kvs,k,.inl e,rfl,rfl⟩
theorem yF.k{H:Hp}{a:ag}{kvs:List (aE×V)}{k:aE}{v:V}(e:H a=aa (.dK kvs))(b:kvs.length<bn):yF H a (kV k) v (upd H a (.dK (fL kvs k v))):=.inl ⟨kvs,k,e,rfl,b,rfl⟩
theorem yF.t{H:Hp}{a b:ag}{c:List (List aE×V)}{k:List aE}{v:V}(e:H a=aa (.dT c))(f:H b=aa (.tup (k.map kV)))(d:c.length<bn):yF H a (.ref b) v (upd H a (.dT (fL c k v))):=.inr ⟨c,k,b,e,rfl,f,d,rfl⟩
section
variable{X:Cx}{f:List (ag×Obj)}{d:St}{H:Hp}{s:ao}{a:ag}{y v:V}{u r:aj}{o:Option V}{A:aY}{E:aj->ao->Prop}
theorem Inv.big(I:Inv X f d H s):jF<s.heap.objs.size:=by have h:cR<s.heap.objs.size:=(I.mod.glob.keeps I.bk).lt;exact BE (by decide) h
theorem MU{Q:aj->ao->Prop}(C:A.units+1<cLine)(I:Inv X f d H s)(g:mD H a y (aa v))(w:RelV y u)(h:∀j q,Inv X f d H q->RelV v j->Q j q):ar (au X.prog X.w) A (qc (.ref a) u) Q E s:=by
 rcases g with⟨kvs,k,e,ey,l⟩|⟨kvs,k,b,e,ey,eb,l⟩
 .subst ey;obtain⟨z,F,B,i,n⟩:=p5 I.hok e;obtain⟨j,m,c⟩:=oq.some_of (v:=v) (o:=sB B k) (by rw[l];exact i.val k);exact wpAny_getItem_of (sj w) n.mapOf m (h j _ (I.tok _) c)
 .subst ey;cases (show u=Value.ref b from w);obtain⟨z,F,x,i,n⟩:=sd I.hok e;obtain⟨j,m,c⟩:=oq.some_of (v:=v) (o:=(atKey x k).map (·.2)) (by rw[l];exact i.val k);obtain⟨p,D,G⟩:=lx.mp m;refine wpAny_getItem_heap (BF C) (rR I.hok eb) n D ?_;rw[G];exact h j _ (I.tok _) c
theorem Rp{Q:aj->ao->Prop}(p:A.units+1<cLine)(I:Inv X f d H s)(g:mD H a y o)(n:RelV y u)(h:∀m,Inv X f d H m->Q (.bool o.isSome) m):ar (au X.prog X.w) A (d9 .In u (.ref a)) Q E s:=by
 rcases g with⟨kvs,k,e,ey,l⟩|⟨kvs,k,b,e,ey,eb,l⟩
 .subst ey;obtain⟨z,i,x,c,j⟩:=p5 I.hok e;refine wpAny_in_of (sj n) i j.mapOf ?_;rw[<-(c.val k).isSome_eq,<-l];exact h _ (I.tok _)
 .subst ey;cases (show u=Value.ref b from n);obtain⟨z,i,w,c,j⟩:=sd I.hok e;refine wpAny_in_heap (BF p) (rR I.hok eb) i j ?_;have q:=(c.val k).isSome_eq;rw[HG]at q;rw[<-q,<-l];exact h _ (I.tok _)
theorem wG{h':aC}{t':Nat}{c:HO}(I:Inv X f d H s)(g:ug (H a))(h:kD a s.heap h')(i:∃q,h'.get? a=aa q)(new:cn X.prog X.w (upd H a c) h' a c):Inv X f d (upd H a c) {s with heap:=h',toks:=t'} :=I.write (x:=a) (e:=a) g (.inl rfl) (λb q j z=>(h.2 b j).trans z) i new
theorem C8{P:aR}{w:aL}{j:Hp}{h':aC}{b:List (aE×V)}{c:List (aE×aj)}(z:b.length<=bn)(h:(a == jF)=ak)(g:KV b c)(i:h'.DictOf (gi P w) a c):cn P w j h' a (.dK b):=⟨z,h,c,g,i⟩
theorem Ll{K:Hp}{Q:Unit->ao->Prop}(N:A.units+1<cLine)(I:Inv X f d H s)(g:yF H a y v K)(D:RelV y u)(F:RelV v r)(h:∀C,Inv X f d K C->Q () C):ar (au X.prog X.w) A (setItem (.ref a) u r) Q E s:=by
 rcases g with⟨kvs,k,e,ey,l,eH⟩|⟨kvs,k,b,e,ey,eb,l,eH⟩
 .subst ey eH;obtain⟨z,x,M,i,B⟩:=uJ I.hok e;have n:M.length<=bn:=by rw[<-i.length];exact z
  have w:(fL kvs k v).length<=bn:=by have:=Bn kvs k v;lia
  refine wpAny_setItem_pairs (hsz:=n) (sj D) B λG j p=>h _ ?_;have O:∃q,G.get? a=aa q:=let ⟨q,_,_,m,_⟩:=j;⟨q,m⟩
  exact wG I (by rw[e];exact True.intro) p O (C8 w x (i.put k F) j)
 .subst ey eH;cases (show u=Value.ref b from D);obtain⟨z,x,L,i,B⟩:=C7 I.hok e;have n:L.length<=bn:=by rw[<-mV i];exact z
  have w:(fL kvs k v).length<=bn:=by have:=Bn kvs k v;lia
  refine wpAny_setItem_heap (hsz:=n) (BF N) (rR I.hok eb) B λG j p=>h _ ?_;obtain⟨q,Y,Z,m,W,T,S,_,P⟩:=j;refine wG I (by rw[e];exact True.intro) p ⟨q,m⟩ ⟨w,x,_,(i.put k eb F).keeps λc ys J=>?_,q,Y,Z,m,W,T,S,P⟩;rw[bh (wC J e (λz=>nomatch z))];exact J
end
section
variable{X:Cx}{d:List (ag×Obj)}{c:St}{H:Hp}{s:ao}{a:ag}{b:List (aE×V)}{k:aE}{u:aj}{A:aY}{E:aj->ao->Prop}
theorem Qk{Q:aj->ao->Prop}(I:Inv X d c H s)(e:Rd H a (.dK b))(h:∀t g,Inv X d c H g->Q (.int b.length t) g):ar (au X.prog X.w) A (call (.builtin "len") [.ref a]) Q E s:=by obtain⟨z,i,l,f,j⟩:=p5 I.hok e;refine call_len_dict i j (by rw[<-f.length];rw[sw]at z;lia) ?_;rw[<-f.length];exact h _ _ (I.tok _)
end
def Au(i:ay):Prop:=∀a b,BC i ak a b=operate [a,b] (qc a b)
theorem Q0{a:aR}{w:aL}{A:aY}{E:aj->ao->Prop}{s:ao}{m:Env}{c b:ay}{q:Pos}{T v:String}{Q:aj->ao->Prop}(z:typeLookup (.type T) "__getitem__"=pure (aa (.builtin v))) (y:Au b)(h:ar (au a w) A (bi c m) (λo j=>ar (au a w) A (bi b m) (λi d=>d.TypeIs o T/\ar (au a w) A (qc o i) Q E d) E j) E s):ar (au a w) A (bi (.Subscript c b q) m) Q E s:=by
 refine Subscript_ (f8 h (λo j p=>f8 p (λi d f=>?_) λ_ _ x=>x) λ_ _ x=>x);obtain⟨u,f⟩:=f;unfold subscriptTail;refine ap ?_;rw[getitemInPython_of_ne u.not_modules];refine ap (wpAny_specialOf u z ?_);have l:ar (au a w) A (BC b ak o i) (λr g=>ar (au a w) A (letTemporaryGo c o r >>= λ_=>pure r) Q E g) E d:=by rw[y o i];exact wpAny_operating (f8 f (λr g n=>ap (wpAny_letTemporaryGo (aF n))) λ_ _ x=>x)
 first
  |exact aF (ap l)
  |exact ap (aF (ap l))
  |exact ap l
theorem MG{X:Cx}{f:List (ag×Obj)}{d:St}{H:Hp}{s:ao}{a:ag}{y:V}{o:Option V}(I:Inv X f d H s)(g:mD H a y o):s.TypeIs (.ref a) "dict":=by
 rcases g with⟨kvs,k,e,_,_⟩|⟨kvs,k,b,e,_,_,_⟩
 .obtain⟨_,_,i,_,c⟩:=p5 I.hok e;exact c.typeIs
 .obtain⟨_,_,h,_,c⟩:=sd I.hok e;exact c.typeIs
def K2(d ty:TE):TE:=λb H Q=>d b H λx f=>ty b f λy c=>∃a v,x=.ref a/\mD c a y (aa v)/\Q v c
def QV(ty d:TE):TE:=λb H Q=>ty b H λy f=>d b f λx c=>∃a o,x=.ref a/\mD c a y o/\Q (.bl o.isSome) c
def KR(f ty d:TE):TS:=λD b H=>d b H λv i=>f b i λx h=>ty b h λy g=>∃a c,x=.ref a/\yF g a y v c/\D.nx b c
section
variable{X:Cx}{o i e b:ay}{d c l:Pos}{f ty j:TE}
theorem IW(C:X.A.units+1<cLine)(E:PE X o f)(F:PE X i ty)(D:Au i):PE X (.Subscript o i d) (K2 f ty):=by intro p s n H Q I h;refine Q0 PySem.F.slot_dict_getitem.lookup D (aP (E p s n H _ I h) λu r ⟨x,M,K,z,B⟩=>aP (F p r n M _ K B) λS P ⟨y,L,q,w,a,v,G,g,A⟩=>?_);subst G;obtain rfl:u=Value.ref a:=z;exact⟨MG q g,MU C q g w λN O J m=>⟨v,L,J,m,A⟩⟩
theorem M_(A:X.A.units+1<cLine)(C:PE X i ty)(B:PE X o f):PC X .In i o (QV ty f):=by intro n s m H Q I h;refine aP (C n s m H _ I h) λN p ⟨y,K,G,q,w⟩=>aP (B n p m K _ G w) λu M ⟨x,J,F,r,a,z,D,g,v⟩=>?_;subst D;obtain rfl:u=Value.ref a:=r;exact Rp A F g q λL E=>⟨.bl z.isSome,J,E,rfl,v⟩
theorem Du(G:X.A.units+1<cLine)(K:PE X o f)(L:PE X i ty)(F:PE X b j)(J:jj b (aa (.Subscript o i c)) d.line X.env=pure ak):PS X (.Assign [.Subscript o i c] b d) (KR f ty j):=by intro n s m H D I h;refine wpAny_Assign_Subscript (aP (F n s m H _ I h) λr q ⟨v,W,Q,A,E⟩=>aP (K n q m W _ Q E) λu p ⟨x,T,P,z,C⟩=>aP (L n p m T _ P C) λiv Z ⟨y,H3,O,w,a,S,M,g,B⟩=>?_) J;subst M;obtain rfl:u=Value.ref a:=z;exact Ll G O g w A λY N=>⟨m,S,N,B⟩
end
theorem El{P:aR}{w:aL}{H:Hp}(h:aC)(a:jF<h.objs.size):cn P w H (h.push {cls:=.type "dict",data:=.dict #[]}) h.objs.size (.dK []) :=⟨kJ _,beq_eq_false_iff_ne.mpr (c_ (c0 a)),[],.nil,Heap.DictOf.new h⟩
theorem Fh{P:aR}{w:aL}{H:Hp}(h:aC)(a:jF<h.objs.size):cn P w H (h.push {cls:=.type "dict",data:=.dict #[]}) h.objs.size (.dT []) :=⟨kJ _,beq_eq_false_iff_ne.mpr (c_ (c0 a)),[],.nil,_,#[],0,cG _ rfl,⟨rfl,rfl,rfl⟩,rfl,rfl,BG⟩
def Oy:TE:=λ_ H Q=>∀p,H p=ae->Q (.ref p) (upd H p (.dK []))
def Mh:TE:=λ_ H Q=>∀p,H p=ae->Q (.ref p) (upd H p (.dT []))
section
variable{X:Cx}{b:Pos}
theorem Ld:PE X (.Dict [] [] b) Oy:=λd s c H Q I h=>wpAny_Dict_empty ⟨.ref s.heap.objs.size,_,I.laid (a:=s.heap.objs.size) (o:=.dK []) (t':=s.toks) (λ_ _ q=>bE _ q) (a6 _) (El s.heap I.big),rfl,h _ (I.hok.fresh (a6 _))⟩
theorem QF:PE X (.Dict [] [] b) Mh:=λd s c H Q I h=>wpAny_Dict_empty ⟨.ref s.heap.objs.size,_,I.laid (a:=s.heap.objs.size) (o:=.dT []) (t':=s.toks) (λ_ _ q=>bE _ q) (a6 _) (Fh s.heap I.big),rfl,h _ (I.hok.fresh (a6 _))⟩
end
def xw:List (TE×TE)->St->Hp->(List (V×V)->Hp->Prop)->Prop
 |[],_,H,Q=>Q [] H
 | (c,b)::r,a,H,Q=>c a H λx h=>b a h λy g=>xw r a g λd f=>Q ((x,y)::d) f
abbrev VV:List (V×V)->List (aj×aj)->Prop:=d7 λp q=>RelV p.1 q.1/\RelV p.2 q.2
def rT(X:Cx)(d:Pos)(keys:List (Option ay))(a:List ay)(c:List (TE×TE)):Prop :=
 ∀(g:List (ag×Obj)) (s:ao) (b:St) (H:Hp) (Q:List (V×V)->Hp->Prop),Inv X g b H s->xw c b H Q ->
  ar (au X.prog X.w) X.A (evalPairs (pairTrees keys a X.env d)) (λi j=>∃f h,Inv X g b h j/\VV f i/\Q f h) X.xe s
theorem GK{X:Cx}{a:Pos}:rT X a [] [] []:=λc s b H Q I h=>pairTrees_nil_walk ⟨[],H,I,.nil,h⟩
theorem Fk{X:Cx}{b:Pos}{k v:ay}{ks:List (Option ay)}{g:List ay}{j i:TE}{a:List (TE×TE)}(B:PE X k j)(z:PE X v i)(A:rT X b ks g a):rT X b (aa k::ks) (v::g) ((j,i)::a):=λf s c H Q I h=>pairTrees_cons_walk (aP (B f s c H _ I h) λu m ⟨x,J,E,o,r⟩=>aP (z f m c J _ E r) λL l ⟨y,G,D,n,q⟩=>aP (A f l c G _ D q) λK M ⟨w,F,C,d,p⟩=>⟨(x,y)::w,F,C,.cons ⟨o,n⟩ d,p⟩)
def si(a more:List (aE×V)):List (aE×V):=more.foldl (λc b=>fL c b.1 b.2) a
theorem KV.merge:∀{more:List (aE×V)}{c:List (aE×aj)}{a:List (aE×V)}{b:List (aE×aj)},KV more c->KV a b->KV (si a more) (merged b c):=by
 intro more c a b r;unfold KV at r
 induction r generalizing a b with
 |nil=>intro q;exact q
 |@cons p q ps qs h t ih=>
  intro d;have e:KV (fL a p.1 p.2) (stored b q.1 q.2):=by have:=d.put p.1 h.2;rw[<-h.1];exact this
  exact ih e
theorem Gc:∀(more a:List (aE×V)),(si a more).length<=a.length+more.length
 |[],a=>by show a.length<=a.length+0;lia
 |p::r,a=>by have c:=Gc r (fL a p.1 p.2);have b:=Bn a p.1 p.2;show(si (fL a p.1 p.2) r).length<=_;rw[eU];lia
theorem Df{P:aR}{w:aL}:∀{d:List (aE×V)}{g:List (aj×aj)},VV (d.map λi=>(kV i.1,i.2)) g->∃f,Carries (gi P w) g f/\KV d f
 |[],_,r=>by rw[yP]at r;cases r;exact⟨[],True.intro,.nil⟩
 |p::d,_,r=>by
  rw[b8]at r;cases r with
  |@cons a b as bs h t=>obtain⟨f,c,q⟩:=Df (P:=P) (w:=w) t;obtain⟨b1,b2⟩:=b;exact⟨(p.1,b2)::f,⟨sj h.1,rfl,c⟩,.cons ⟨rfl,h.2⟩ q⟩
def Rc(b:List (TE×TE)):TE:=λf H Q=>∀p,H p=ae->xw b f (upd H p (.dK [])) λg d=>d p=aa (.dK [])/\∃a:List (aE×V),g=a.map (λc=>(kV c.1,c.2))/\a.length<=15/\Q (.ref p) (upd d p (.dK (si [] a)))
theorem J0{X:Cx}{f:Pos}{keys:List (Option ay)}{b:List ay}{d:List (TE×TE)}(h:rT X f keys b d)(hall:keys.all (·.isSome)=ah)(C:keys.length=b.length)(G:keys≠[])(l:keys.length<=15):PE X (.Dict keys b f) (Rc d):=by
 intro L s n H Q I q;have B:=I.hok.fresh (a6 s.heap.objs.size);have M:=I.laid (a:=s.heap.objs.size) (o:=.dK []) (h':=s.heap.push {cls:=.type "dict",data:=.dict #[]}) (t':=s.toks) (λ_ _ q=>bE _ q) (a6 _) (El s.heap I.big);refine wpAny_Dict_walk (knd:=gi X.prog X.w) hall C G l (aP (h L _ n _ _ M (q _ B)) λN O ⟨S,W,m,j,e,g,J,T,x⟩=>?_);subst J;obtain⟨r,c,u⟩:=Df (P:=X.prog) (w:=X.w) j;obtain⟨z,E,p,v,K⟩:=uJ m.hok e;cases v;refine⟨r,c,K,λh' i A=>⟨.ref s.heap.objs.size,_,?_,rfl,x⟩⟩;have y:(si [] g).length<=bn:=by have F:=Gc g [];rw[qf]at F;rw[sw];lia
 have D:∃q,h'.get? s.heap.objs.size=aa q:=let ⟨q,_,_,hq,_⟩:=i;⟨q,hq⟩
 exact wG m (by rw[e];exact True.intro) A D (C8 y E (u.merge .nil) i)
structure M2(X:Cx)(o:ay)(m:Str)(apos:Pos)(e f:ay)(cpos:Pos):Prop where
 base:qe o m X.env (bi o X.env)=bi o X.env
 few:((eO cpos (aZ [e,f] X.env)).all (λx=>!x.1)&&(backToKw cpos (yM [] X.env)).all (λx=>x.1.isSome)&&decide (([e,f]:List ay).length+([]:List ng).length+(if([]:List ng).isEmpty then 0 else 1)<30))=ah
 line:(apos.endLine == cpos.line)=ah
 trees:eO cpos (aZ [e,f] X.env)=[(ak,bi e X.env),(ak,bi f X.env)]
def Dz(H:Hp)(a:ag):Prop:=(∃b,Rd H a (.dK b))\/∃b,Rd H a (.dT b)
theorem N2{X:Cx}{l:List (ag×Obj)}{j:St}{H:Hp}{s:ao}{a:ag}(I:Inv X l j H s)(d:Dz H a):s.TypeIs (.ref a) "dict"/\(∀b,Value.ref a=.ref b->∃c,s.heap.get? b=aa c/\c.dict=ae)/\(a == jF)=ak:=by
 rcases d with⟨kvs,e⟩|⟨kvs,e⟩
 .obtain⟨_,g,n,_,f⟩:=p5 I.hok e;refine⟨f.typeIs,λb q=>?_,g⟩;cases q;obtain⟨c,_,_,i,h,_⟩:=f;exact⟨c,i,h.2.1⟩
 .obtain⟨_,g,m,_,f⟩:=sd I.hok e;refine⟨f.typeIs,λb q=>?_,g⟩;cases q;obtain⟨c,_,_,i,h,_⟩:=f;exact⟨c,i,h.2.1⟩
section
variable{X:Cx}{f:List (ag×Obj)}{c:St}{H:Hp}{s:ao}{a:ag}{y d:V}{u r:aj}{o:Option V}{A:aY}{E:aj->ao->Prop}
theorem KH{Q:aj->ao->Prop}(w:A.units+1<cLine)(I:Inv X f c H s)(g:mD H a y o)(q:RelV y u)(rd:RelV d r)(h:∀n p,Inv X f c H p->RelV (o.getD d) n->Q n p):ar (au X.prog X.w) A (call (.builtin "dict.get") [.ref a,u,r]) Q E s:=by
 rcases g with⟨kvs,k,e,ey,l⟩|⟨kvs,k,b,e,ey,eb,l⟩
 .subst ey;obtain⟨z,m,x,i,j⟩:=p5 I.hok e;refine call_meetsIn HH j.typeIs PySem.F.entry_dict_get (PySem.F.args_dict_get_3 _ _ _) (meets_dict_get_default (gi X.prog X.w) a (sj q) m r) ⟨_,j.mapOf,h _ _ (I.tok _) ?_⟩;rw[l];exact(i.val k).getD rd
 .subst ey;cases (show u=Value.ref b from q);obtain⟨z,m,v,i,j⟩:=sd I.hok e;refine call_meetsIn HH j.typeIs PySem.F.entry_dict_get (PySem.F.args_dict_get_3 _ _ _) (meetsH_dict_get_default (sr (gi X.prog X.w)) a b m r) ⟨BF w,k,v,rR I.hok eb,j,h _ _ (I.tok _) ?_⟩;rw[l];exact(i.val k).getD rd
end
def Pm(g ty f:TE):TE:=λb H Q=>g b H λx d=>∃a,x=.ref a/\Dz d a/\ty b d λy h=>f b h λz c=>∃o,mD c a y o/\Q (o.getD z) c
section
variable{X:Cx}{o e f:ay}{c b:Pos}{j ty i:TE}
theorem Lk(J:X.A.units+1<cLine)(K:PE X o j)(M:PE X e ty)(L:PE X f i)(m:M2 X o "get" c e f b):PE X (.Call (.Attribute o "get" c) [e,f] [] b) (Pm j ty i):=by intro p s l H Q I h;refine wpAny_Call_method m.base m.few m.line PySem.F.plainAttrs_dict HH PySem.F.type_dict_get (aP (K p s l H _ I h) λu A ⟨x,Y,q,D,a,N,d,G⟩=>?_);subst N;obtain rfl:u=Value.ref a:=D;obtain⟨v,r,_⟩:=N2 q d;refine⟨v,r,?_⟩;rw[m.trees];refine HB rfl (HD (Bz (aP (M p A l Y _ q G) λiv w ⟨y,W,S,C,F⟩=>Bz (aP (L p w l W _ S F) λfv s3 ⟨z,T,P,B,ov,g,E⟩=>Ht ?_))));exact KH J P g C B λZ s4 O n=>⟨_,T,O,n,E⟩
end
end L2
namespace Att
open PySem PySem.W PySem.Calls PyProof.Rows
theorem Ql{P:Params}{h:aC}:∀(c:List Int) (d:List aj),WellAll P h d (c.map WData.int)->IntsAre d c:=by
 intro c
 induction c with
 |nil=>
  intro d w;rw[yP]at w;cases w;exact .nil
 |cons n c f=>
  intro d w;rw[b8]at w;cases w with
  |cons a b=>
   cases a;exact .cons _ _ (f _ b)
theorem Rj{l:OpenLaw}{n:Nat}(x:l.most=aa n){P:Params}{h:aC}{args:List WData}{c:List aj}(o:l.row.toRowW.claim.pre args=ah) (i:WellAll P h c args):∃a m b,c=[Value.ref a]/\args=[WData.list (b.map WData.int)]/\h.get? a=aa {cls:=.type "list",data:=.seq m.toArray}/\IntsAre m b/\b.length<=n:=by
 have j:WShape.hasAll [] args [.list .int]=ah:=(pre_splitW o).1;have p:l.pre.holds [] {args:=args}=ah:=(pre_splitW o).2;obtain⟨d,r,rfl,A,z⟩:=hasAllW_cons j;obtain rfl:=hasAllW_nil z;obtain⟨C,rfl,y⟩:=hasW_list A;obtain⟨b,rfl⟩:=items_int y;have B:b.length<=n:=by
  unfold OpenLaw.pre at p;have g:(WTm.not (.lt (.lit (.int (n:Int))) (.len (.arg 0)))).holds [] {args:=[.list (b.map .int)]}=ah:=by have g:=(holds_andW p).1;rw[x]at g;exact g
  have f:=condW_of g (w_not (w_lt w_lit (w_len_list (w_arg rfl))));rw[b7]at f;refine Nat.le_of_not_lt λq=>?_;have v:(n:Int)<((b.length:Nat):Int):=∅
  first
   | (rw[decide_eq_true v]at f;exact absurd f (by decide))
   | (simp at f;lia)
 cases i with
 |cons u s=>
  cases s;cases u with
  |list w hall=>exact⟨_,_,b,rfl,rfl,w,Ql b _ hall,B⟩
theorem NP(l:OpenLaw)(args:List WData):l.row.toRowW.claim.post args (.bool ah) args=ah :=
 postW_of (r:=l.row.toRowW) (X:=(ah == ah))
  (show WShape.has [] (.bool ah) .bool=ah by first|rfl|decide|simp[WShape.has,WShape.arms,WShape.armsAll])
  (show(WTm.eq .res (.lit (.bool ah))).value [] {args:=args,res:=aa (.bool ah),after:=args}=aa (.bool (ah == ah))from w_eq_bool (w_res rfl) w_lit) rfl
theorem attach_call{l:OpenLaw}{n:Nat}{q:aR}{g:List Str}{XP:(Str->Option aj)->aC->Prop}{D:aL->aC->Prop}{d:DefRec}(L:l.most=aa n) (H:d.params.defaults=[])(call:∀(w:aL) (c b:ao) (s x:Str->Option aj) (j:ag) (o:Obj) (v u h:aj) (a:ag) (i:List aj) (p:List Int),Ground q g [] XP w c s x b.heap->D w b.heap -> b.heap.get? j=aa o->o.data=.func (docDef d.name d.params d.body d.scope v u h)->b.heap.CodeRec u d.name->s d.name=aa (.ref j) -> b.heap.get? a=aa {cls:=.type "list",data:=.seq i.toArray}->IntsAre i p->p.length<=n->b.gens=#[] -> p_ (au l.prog w) sC (.call (.ref j) ⟨[.ref a],[]⟩) (λr m=>r=.ok (.ret (.bool ah))/\OldK b.heap m.heap/\m.os=b.os/\mW m.gens) b):WalkO q g XP D l.row.toRowW d [] (λf i=>PySem.call f i):=by intro w c b s x G Y j o v u h dV kV K P X B E O C z as F A I y N;obtain rfl:dV=.none:=Dflts.none B H;obtain rfl:kV=.none:=Dflts.noKw B;obtain⟨a,i,p,rfl,rfl,Z,Ci,W⟩:=Rj L F y;refine enter_call (yI (call w c b s x j o v u h a i p G Y K (fd_plain P) X E Z Ci W O) λr m J=>?_);obtain⟨rfl,T,S,Q⟩:=J;exact⟨.inl ⟨.bool ah,.bool ah,[],rfl,λ_=>rfl,.bool ah,NP l _,λ_=>⟨List.Pairwise.nil,λ_ M=>(nomatch M)⟩⟩,T,S,Q⟩
end Att
namespace L2
theorem CT:∀{a:List aj}{b:List Int},IntsAre a b->bL (b.map V.int) a
 |_,_,.nil=>.nil
 |_,_,.cons n t h=>.cons ⟨t,rfl⟩ (CT h)
def A4(H:Hp):Prop:=∀b,H b=ae\/(∃o a,H b=aa (.frz o (.lst a)))\/∃q,H b=aa (.tbl q)
def jT(K:ax):Hp:=λb=>match p7 K "road" with
 |some (_,P)=>if b=P then aa (.tbl "road.<locals>.<lambda>")else ae
 |none=>ae
theorem pH{K:ax}{b:ag}{u:HO}(h:jT K b=aa u):u=.tbl "road.<locals>.<lambda>"/\∃c,p7 K "road"=aa (c,b):=by
 unfold jT at h;split at h
 .rename_i c P e;split at h
  .rename_i a;subst a;cases h;exact⟨rfl,c,e⟩
  .cases h
 .cases h
theorem DH{K:ax}{c P:ag}(h:p7 K "road"=aa (c,P)):jT K P=aa (.tbl "road.<locals>.<lambda>"):=by unfold jT;rw[h];exact if_pos rfl
def Db(K:ax)(h:aC):Prop:=∀c P,p7 K "road"=aa (c,P)->PySem.W.codeHdIn K c P=ah/\K.lookup P=ae/\h.get? P=aa {cls:=.none,data:=.fields #[]}
theorem ND{P:aR}{w:aL}{K:ax}{L mb:Str->Option aj}{CX:gR}{k:Nat}{fa a:ag}{fd:iS}{x:Str}{sp:Sp}{f:ao}{G:List aj}{M:List Int}(KX:K.In f.heap) (sT:f.heap.Ns cR L) (j:f.heap.Ns p6 mb) (qy:∀x:Str,x≠"__name__"->mb x=fg x) (O:f.heap.NoLimit) (nA:∃E B,L "__builtins__"=aa (.ref E)/\E≠p6/\f.heap.get? E=aa B/\B.cls=.type "module"/\B.dict=aa p6/\B.data=.plain) (C:Db K f.heap) (hg:f.gens=#[])(y:f.heap.get? a=aa {cls:=.type "list",data:=.seq G.toArray}) (hi:IntsAre G M) (hl:M.length<=bn) (hr:gB k sC)(F:∀p:aC,K.In p->p.Ns cR L->kZ P w K L p CX k fa fd [x] sp) (R9:∀(s:ao) (u:aj),BindsTo s fd ⟨[u],[]⟩ [(x,u)])(mj:∀H:Hp,A4 H->cB K H a (M.map V.int)->sp [.ref a] H (λv _=>v=.bl ah) λ_ _ _=>False)(hCX:∀H e l,CX [] H f (λ_ _ _=>False) e l->False):p_ (au P w) sC (.call (.ref fa) ⟨[.ref a],[]⟩) (λr l=>r=.ok (.ret (.bool ah))/\OldK f.heap l.heap/\l.os=f.os/\mW l.gens) f:=by
 have rv:=CT hi;have N:=hi.length;have D:∀H:Hp,A4 H->cB K H a (M.map V.int)->dH P w H f.heap->(∀b,H b≠ae->b=a\/∃c,p7 K "road"=aa (c,b))->(H a≠ae->K.lookup a=ae)->wx K H ->
   p_ (au P w) sC (.call (.ref fa) ⟨[.ref a],[]⟩) (λr l=>r=.ok (.ret (.bool ah))/\OldK f.heap l.heap/\l.os=f.os/\mW l.gens) f:=by
  intro H hO hS I Y hK hTH;have g:∀{b:ag}{o:Obj},f.heap.get? b=aa o->H b=ae->(mH f.heap H).get? b=aa o:=λe n=>MI e n;have noA:∀{b:ag}{o:Obj}{S:Array sD}{T:Nat},f.heap.get? b=aa o->o.data=.dict S T->H b=ae:=λ{b o S T} e d=>by
   cases q:H b with
   |none=>rfl
   |some u=>
    rcases Y b (by rw[q];simp)with i|⟨c,i⟩
    .subst i;rw[y]at e;cases e;have d':Data.seq G.toArray _=Data.dict S T:=d;cases d'
    .rw[(C c b i).2.2]at e;cases e;cases d
  have A:∀{b:ag}{m:Str->Option aj},f.heap.Ns b m->(mH f.heap H).Ns b m:=λ{b m} ⟨o,S,T,e,d,r⟩=>⟨o,S,T,g e (noA e d),d,r⟩
  have Q:K.In (mH f.heap H):=λb o e=>g (KX b o e) (by
   cases q:H b with
   |none=>rfl
   |some u=>
    rcases Y b (by rw[q];simp)with i|⟨c,i⟩
    .subst i;rw[hK (by rw[q];simp)]at e;cases e
    .rw[(C c b i).2.1]at e;cases e)
  have hM:Mod K L (mH f.heap H):=⟨Q,A sT,⟨mb,A j,qy⟩,(let ⟨mc,h1,h2⟩:=O;⟨mc,A h1,h2⟩),by
   obtain⟨E,B,b1,b2,X,b4,b5,b6⟩:=nA;refine⟨E,B,b1,b2,g X ?_,b4,b5,b6⟩;cases q:H E with
   |none=>rfl
   |some u=>
    rcases Y E (by rw[q];simp)with i|⟨c,i⟩
    .subst i;rw[y]at X;cases X;simp at b4
    .rw[(C c E i).2.2]at X;cases X;simp at b4⟩
  have e0:xg P w K L (mH f.heap H) sC [] f H:=⟨rfl,hM,λb o e=>RO e,l9 (IR _ _),trivial,λb j=>absurd (show b∈([]:List ag)from j) (by simp),I,.of_eq hg,hTH⟩
  refine yI ((F _ Q (A sT)).run sC [] f H ⟨[.ref a],[]⟩ [.ref a] [.ref a] _ _ hr e0 (R9 f (.ref a)) (.cons rfl .nil) (mj H hO hS)) λr l h=>?_;cases r with
  |error e=>exact(hCX H e l h).elim
  |ok fl=>
   cases fl with
   |next=>exact l7 h
   |brk=>exact l7 h
   |cont=>exact l7 h
   |ret u=>
    obtain⟨v,H',os,W,un,IF,r',q⟩:=h;have q':v=.bl ah:=q;subst q';obtain rfl:u=Value.bool ah:=r';refine⟨rfl,⟨λb o e=>?_,λb o e=>un.there b o e (by simp)⟩,os,W⟩;cases q:H b with
    |none=>exact .inl (un.keep b o e q (by intro z;exact absurd (show b∈([]:List ag)from z) (by simp)) (by simp))
    |some u=>
     rcases hO b with z|⟨B,xs,z⟩|⟨qn,z⟩
     .rw[q]at z;cases z
     .have z2:=un.frzs b B _ z;obtain⟨J,_⟩:=I b _ z;obtain⟨e2,_⟩:=IF b _ z2;rw[e]at J;cases J;exact .inl e2
     .rcases Y b (by rw[q];simp)with i|⟨c,i⟩
      .subst i;obtain⟨ps,J,_⟩:=I b _ z;rw[y]at J;cases J
      .obtain⟨k1,k2,k3⟩:=C c b i;rw[k3]at e;cases e;obtain⟨oc,Z,_,_,_,_,_,_,_,f1,f2,f3,f4,_⟩:=PySem.W.codeHd_of_K KX k1;obtain⟨ps,J,_⟩:=IF b _ (un.tbls b _ z);exact .inr (.inl ⟨⟨c,oc,Z,f1,f2,f3,f4⟩,rfl,#[],ps,rfl,by rw[J];simp⟩)
 cases hk:K.lookup a with
 |some o=>
  have e:=KX a o hk;rw[y]at e;cases e;have tH:∀b u,jT K b=aa u->cn P w (jT K) f.heap b u:=λb u z=>by
   obtain⟨rfl,c,e⟩:=pH z;exact⟨#[],(C c b e).2.2,trivial,λpos cv h=>by cases h⟩
  refine D (jT K) (λb=>?_) (.inr ⟨_,G.toArray,_,hk,rfl,rfl,rfl,by rw[cO,N];exact hl,by simpa using rv⟩) tH (λb z=>?_) (λz=>?_) λx hx c P e=>?_
  .cases q:jT K b with
   |none=>exact .inl rfl
   |some u=>exact .inr (.inr ⟨_,congrArg aa (pH q).1⟩)
  .cases q:jT K b with
   |none=>exact absurd q z
   |some u=>exact .inr (pH q).2
  .cases q:jT K a with
   |none=>exact absurd q z
   |some u=>
    obtain⟨_,c,i⟩:=pH q;rw[(C c a i).2.2]at y;cases y
  .obtain rfl:x = "road":=by simpa[Bi]using hx
   exact DH e
 |none=>
  have ta:∀c P,p7 K "road"=aa (c,P)->P≠a:=λc P e z=>by subst z;rw[(C c P e).2.2]at y;cases y
  refine D (λb=>if b=a then aa (.frz {cls:=.type "list",data:=.seq G.toArray} (.lst (M.map V.int)))else jT K b) (λb=>?_) (.inl (.inr ⟨{cls:=.type "list",data:=.seq G.toArray},if_pos rfl⟩)) (λb u z=>?_) (λb z=>?_) (λ_=>hk) λx hx c P e=>?_
  .by_cases j:b=a
   .exact .inr (.inl ⟨_,_,if_pos j⟩)
   .cases q:jT K b with
    |none=>exact .inl ((if_neg j).trans q)
    |some u=>exact .inr (.inr ⟨_,(if_neg j).trans (q.trans (congrArg aa (pH q).1))⟩)
  .by_cases j:b=a
   .have z':=(if_pos j).symm.trans z;cases z';subst j;exact⟨y,by rw[b7];exact hl,G,_,rv,y⟩
   .obtain⟨rfl,c,e⟩:=pH ((if_neg j).symm.trans z);exact⟨#[],(C c b e).2.2,trivial,λpos cv h=>by cases h⟩
  .by_cases j:b=a
   .exact .inl j
   .cases q:jT K b with
    |none=>exact absurd ((if_neg j).trans q) z
    |some u=>exact .inr (pH q).2
  .obtain rfl:x = "road":=by simpa[Bi]using hx
   exact(if_neg (ta c P e)).trans (DH e)
theorem SN{l:BH}{n k:Nat}{q:aR}{c:List Str}{XP:(Str->Option aj)->aC->Prop}{E:aL->aC->Prop}{d:DefRec}{K:Params->ax}{CX:aL->gR}{sp:aL->Sp}{x:Str}(O:l.most=aa n) (r:n<=bn) (L:d.params.defaults=[]) (N:gB k sC)(C:∀(w:aL) (h:aC),E w h->(K w.params).In h/\Db (K w.params) h)(F:∀(w:aL) (g:Str->Option aj) (m:ag) (h:aC),(K w.params).In h->h.Ns cR g->g d.name=aa (.ref m) -> ∃z:iS,(∀(s:ao) (u:aj),BindsTo s z ⟨[u],[]⟩ [(x,u)]) /\ ∀b:aC,(K w.params).In b->b.Ns cR g->kZ l.prog w (K w.params) g b (CX w) k m z [x] (sp w))(M:∀(w:aL) (H:Hp) (a:ag) (j:List Int),j.length<=n->A4 H->cB (K w.params) H a (j.map V.int)->sp w [.ref a] H (λv _=>v=.bl ah) λ_ _ _=>False)(y:∀(w:aL) (H:Hp) (s:ao) (e:aj) (p:ao),CX w [] H s (λ_ _ _=>False) e p->False):PySem.W.WalkO q c XP E l.row.toRowW d [] (λf A=>PySem.call f A):=by refine Att.attach_call O L λw B i g mb m o pm cd X a A j G Y ho hd bB J Z Ci D P=>?_;have I:=(C w _ Y).1;obtain⟨z,Q,W⟩:=F w g m _ I G.T.g J;exact ND I G.T.g G.T.b G.T.builtins G.T.nolimit G.T.bmain (C w _ Y).2 P Z Ci (cq D r) N W Q (λH T S=>M w H a j D T S) λH e p=>y w H i e p
def k6(s:bo):Arguments:=match s with
 |.FunctionDef _ a _ _ _ _ _ _ _ _=>a
 |_=>{posonlyargs:=[],args:=[],vararg:=ae,kwonlyargs:=[],kw_defaults:=[],kwarg:=ae,defaults:=[]}
def iM(s:bo):List bo:=match s with
 |.FunctionDef _ _ b _ _ _ _ _ _ _=>b
 |_=>[]
def a_(s:bo):eC:=match s with
 |.FunctionDef _ _ _ _ _ _ a _ _ _=>a
 |_=>{kind:=.function,names:=[],isGenerator:=ak,isCoroutine:=ak}
abbrev E0:XK:=λ_ _ _=>False
structure pf(K:ax)(x qual:Str)(st:bo)(f:ag)(fd:iS):Prop where
 ex:∃(oc:aj) (od:Option ag) (kV doc pm:aj) (an:Option ag) (be ct:aj) (osl:Array (Option aj)),
  fd=kG x qual (k6 st) (iM st) (a_ st) .none kV doc pm an be ct/\K.lookup f=aa ⟨oc,od,.func fd,osl⟩/\yK K be qual=ah
 kp:vq K (.ref f)=ah
section
variable{P:aR}{w:aL}{K:ax}{b:Str->Option aj}{a:aC}
theorem pf.binds{x c:Str}{g:bo}{f:ag}{p:iS}{j:List Str}(F:pf K x c g f p)(h:∀(kV d l:aj) (o:Option ag) (n m:aj) (i:List aj),i.length=j.length->g6 (kG x c (k6 g) (iM g) (a_ g) .none kV d l o n m) ⟨i,[]⟩=pure (j.zip i)):Binds K p j []:=by obtain⟨oc,r,kV,d,l,o,n,m,q,rfl,s,u⟩:=F.ex;exact .all (h kV d l o n m)
theorem Gi{x d:Str}{g:bo}{f:ag}{oc:aj}{p o:Option ag}{i:Array (Option aj)}{kV h m j n:aj}(l:K.lookup f=aa ⟨oc,p,.func (kG x d (k6 g) (iM g) (a_ g) .none kV h m o j n),i⟩)(c:yK K j d=ah) (k:vq K (.ref f)=ah):pf K x d g f (kG x d (k6 g) (iM g) (a_ g) .none kV h m o j n):=⟨⟨oc,p,kV,h,m,o,j,n,i,rfl,l,c⟩,k⟩
end
theorem F_{n:Nat}(h:n<=1000):n<bn:=yQ h (by decide)
section
variable{X:Cx}
theorem pv(i:Nat){x:Str}{a:Pos}(d:X.N[i]?=aa x:=by rfl)(b:eJ X.env.scope x:=by eq_refl)(c:(x==("__debug__":Str))=ak:=by decide)(f:(x==("__classdict__":Str))=ak:=by decide):PE X (.Name x a) (GI i):=fq d b c f
theorem K_:fO X (.builtin "len") (λc H Q=>∃a b,c=[V.ref a]/\H a=aa (.dK b)/\Q (.int b.length) H):=by
 intro m s i H c j Q I r h;obtain⟨a,b,rfl,f,q⟩:=h;obtain⟨u,rfl,d⟩:=vals1 r;cases d;exact Qk I (.inl f) λt l g=>⟨.int b.length,H,g,⟨t,rfl⟩,q⟩
end
theorem mE{A B:Prop}(h:B):if ak=ah then A else B:=by rw[if_neg eT];exact h
theorem mM{A B:Prop}(h:A):if ah=ah then A else B:=by rw[if_pos rfl];exact h
def Same(H a:Hp):Prop:=∀b o,H b=aa o->a b=aa o
theorem Same.refl(H:Hp):Same H H:=λ_ _ h=>h
theorem Same.trans{H f d:Hp}(a:Same H f)(b:Same f d):Same H d:=λc o h=>b c o (a c o h)
theorem Same.free{H a:Hp}(e:Same H a){l:ag}(h:a l=Option.none):H l=Option.none:=by
 cases q:H l with
 |none=>rfl
 |some o=>
  rw[e l o q]at h;cases h
end L2
set_option maxHeartbeats 4000000
namespace L2
def h_(a:Env):List (Str×gH)->List (Str×ag)->List (Str×ag)
 |[],b=>b
 | (n,k)::r,b=>if k == .free then h_ a r ((n,(a.cells.lookup n).getD 0)::b)else h_ a r b
theorem Qy{d:Env}{y:Str}{c:ag}(b:List (Str×gH))(f:List (Str×ag))(j:∀x∈b,x.2=.free->∃c,d.cells.lookup x.1=aa c)(h:(h_ d b f).lookup y=aa c):f.lookup y=aa c\/d.cells.lookup y=aa c:=by
 induction b generalizing f with
 |nil=>exact .inl h
 |cons a r g=>
  obtain⟨n,k⟩:=a;unfold h_ at h;have i:∀x∈r,x.2=.free->∃c,d.cells.lookup x.1=aa c:=λx m=>j x (j8 _ m);split at h
  .rename_i o;obtain⟨s,l⟩:=j (n,k) (ln ..) (by simpa using o);rcases g _ i h with q|q
   .rw[kK]at q;split at q
    .rename_i p;have e:y=n:=by simpa using p
     subst e;rw[l]at q;exact .inr (by rw[l];exact q)
    .exact .inl q
   .exact .inr q
  .exact g _ i h
theorem Gb{a:Type}{n:Str}{v:a}{l:List (Str×a)}:((n,v)::l).lookup n=aa v:=by rw[kK];simp
theorem Fo{a:Type}{n y:Str}{v:a}{l:List (Str×a)}(h:∃c,l.lookup y=aa c):∃c,((n,v)::l).lookup y=aa c:=by
 rw[kK];split
 .exact⟨_,rfl⟩
 .exact h
theorem AK{d:Env}{y:Str}:∀(a:List (Str×gH)) (b:List (Str×ag)),(∃c,b.lookup y=aa c)->∃c,(h_ d a b).lookup y=aa c
 |[],b,h=>h
 | (n,k)::r,b,h=>by
  unfold h_;split
  .exact AK r _ (Fo h)
  .exact AK r _ h
theorem zq{g:Env}{y:Str}:∀(a:List (Str×gH)) (i:List (Str×ag)),(∃x∈a,x.1=y/\x.2=.free)->∃c,(h_ g a i).lookup y=aa c
 |[],i,⟨_,h,_⟩=>by simp at h
 | (n,k)::r,i,⟨x,b,f,d⟩=>by
  unfold h_;rcases bI.mp b with e|b
  .subst e;simp only at f d;subst f d;simp only[beq_self_eq_true,if_true];exact AK r _ ⟨_,Gb⟩
  .split
   .exact zq r _ ⟨x,b,f,d⟩
   .exact zq r _ ⟨x,b,f,d⟩
theorem A1{b:Env}:∀(a:List (Str×gH)) (g:List (Str×ag)),(∀x∈a,x.2=.free->∃c,b.cells.lookup x.1=aa c) -> (forIn (m:=Sem) a g λx r=>match x with | (d,f)=>if(f == NameKind.free)=ah then do let c <-cellOf b d;pure (ForInStep.yield ((d,c)::r))else pure (ForInStep.yield r))=pure (h_ b a g)
 |[],g,_=>rfl
 | (n,k)::r,g,h=>by
  have j:∀x∈r,x.2=.free->∃c,b.cells.lookup x.1=aa c:=λx o=>h x (j8 _ o);rw[List.forIn_cons];unfold h_;by_cases i:(k == NameKind.free)=ah
  .obtain⟨c,l⟩:=h (n,k) (ln ..) (by simpa using i);simp only[i,if_true];have e:cellOf b n=pure c:=by unfold cellOf;rw[l]
   rw[e];simp only[pure_bind];rw[A1 r _ j,l];rfl
  .simp only[i,if_false,pure_bind];exact A1 r _ j
theorem QT{a:eC}{b:Env}(h:∀x∈a.names,x.2=.free->∃c,b.cells.lookup x.1=aa c):closureFor a b=pure (h_ b a.names []):=by unfold closureFor;have q:=A1 a.names [] h;simp only[bind_pure_comp]at q ⊢;rw[q];rfl
theorem yr{n c:Nat}(b:n+1<=c)(a:c<n):False:=∅
theorem zC:∀(c:List (Str×gH)) (n:Nat) (a b:List (Str×ag)),f9 n c (a++b)=f9 n c a++b
 |[],_,_,_=>rfl
 | (x,k)::r,n,a,b=>by
  unfold f9;split
  .exact zC r (n+1) ((x,n)::a) b
  .exact zC r n a b
theorem wL{y:Str}{c:ag}:∀(b:List (Str×gH)) (n:Nat) (a:List (Str×ag)),(y,c)∈f9 n b a->(y,c)∈a\/(y,.cell)∈b
 |[],_,_,h=>.inl h
 | (x,k)::r,n,a,h=>by
  unfold f9 at h;split at h
  .rename_i d;rcases wL r _ _ h with z|z
   .rcases bI.mp z with z|z
    .cases z;have e:k=.cell:=by simpa using d
     subst e;exact .inr (ln ..)
    .exact .inl z
   .exact .inr (j8 _ z)
  .rcases wL r _ _ h with z|z
   .exact .inl z
   .exact .inr (j8 _ z)
theorem Bf{y:Str}:∀(b:List (Str×gH)) (n:Nat) (a:List (Str×ag)),(∃c,a.lookup y=aa c)->∃c,(f9 n b a).lookup y=aa c
 |[],_,_,h=>h
 | (x,k)::r,n,a,h=>by
  unfold f9;split
  .exact Bf r _ _ (Fo h)
  .exact Bf r _ _ h
theorem yE{y:Str}:∀(b:List (Str×gH)) (n:Nat) (a:List (Str×ag)),(y,.cell)∈b->∃c,(f9 n b a).lookup y=aa c
 | (x,k)::r,n,a,h=>by
  unfold f9;rcases bI.mp h with e|h
  .cases e;exact Bf r _ _ ⟨_,Gb⟩
  .split
   .exact yE r _ _ h
   .exact yE r _ _ h
def lR(X:Cx)(a:eC)(C:ag):List (Str×ag):=f9 (C+1) a.names (h_ X.env a.names [])
theorem AD(X:Cx)(a:eC)(C:ag):lR X a C=f9 (C+1) a.names []++h_ X.env a.names []:=zC a.names (C+1) [] _
theorem Nl{M:Model}{A:aY}{E:aj->ao->Prop}{s:ao}{a:eC}{b:ag}{j:List (Str×ag)}{c:Str}{f:Env}{Q:Env->ao->Prop}(l:Q (newEnv a s.heap.objs.size b (f9 (s.heap.objs.size+1) a.names j) c ae .none (aa f) p6) {s with heap:=pushCells (s.heap.push {cls:=.type "dict",data:=.dict #[]}) a.names}):ar M A (newFunctionEnv a b j [] c ae .none (aa f)) Q E s:=by
 simp only[newFunctionEnv,Option.isSome_some,if_true];refine ap (wpAny_alloc ?_);refine ap (wpAny_layCells _ (λi d h=>by cases g:d == NameKind.cell <;> simp[g]) _ _ _ _ ?_);rw[show({s with heap:=s.heap.push {cls:=.type "dict",data:=.dict #[]}}:ao).heap.objs.size=s.heap.objs.size+1 from vx ..];refine ap ?_;rw[List.forIn_nil];exact aF (aF l)
theorem Ef{s:ao}{a:List (Str×gH)}{y:Str}{c:ag}(h:(y,c)∈f9 (s.heap.objs.size+1) a []):(pushCells (s.heap.push {cls:=.type "dict",data:=.dict #[]}) a).IsCell c ae/\s.heap.objs.size+1<=c/\∀z,(z,c)∈f9 (s.heap.objs.size+1) a []->y=z:=by have ok:=cellsFrom_ok a (s.heap.push {cls:=.type "dict",data:=.dict #[]}) (s.heap.objs.size+1) [] ⟨λ_ _ d=>(nomatch d),List.Pairwise.nil⟩ (by rw[vx];exact a6 _);rw[vx]at ok;exact⟨(ok.empty y c h).1,(ok.empty y c h).2,λz b=>name_of_addr ok.apart h b⟩
def bx(X:Cx)(a:eC)(b:List Str)(C:ag)(s₀:ao)(H₀:Hp)(ex:List ag)(pn:List (ag×Obj)):Cx where
 prog:=X.prog
 w:=X.w
 K:=X.K
 mg:=X.mg
 base:=X.base
 A:=X.A
 N:=b
 s₀:=s₀
 H₀:=H₀
 env:=compEnvC a (lR X a C) C X.env
 outer:=X.stack
 stack:=X.stack
 ex:=ex
 fn:=λy=>a.names.lookup y == aa .cell
 calm:=X.calm
 pn:=X.pn++pn
 xe:=λ_ _=>False
def eY(b:St)(a:List Nat):St:=a.map λi=>(b[i]?).join
structure iG(X:Cx)(scope:eC)(x:Str)(N':List Str)(cap:List Nat):Prop where
 kind:scope.kind=.function
 cells:∀y∈scope.names,y.2=.cell->scope.names.lookup y.1=aa .cell
 names:∀y∈scope.names,y.2=.local->scope.names.lookup y.1=aa .local
 loc:scope.names.lookup x=aa .local\/scope.names.lookup x=aa .cell
 free:∀y∈scope.names,y.2=.free->X.env.kindOf y.1=aa .cell\/X.env.kindOf y.1=aa .free
 nd:N'.Nodup
 hd:N'.head?=aa x
 len:N'.length=cap.length+1
 caps:∀i j y,N'[i+1]?=aa y->cap[i]?=aa j->(X.N[j]?=aa y/\scope.names.lookup y=aa .free)\/(X.N.length<=j/\scope.names.lookup y=aa .local)
theorem NX{a:List (Str×gH)}{y:Str}{k:gH}(h:a.lookup y=aa k):∃x∈a,x.1=y/\x.2=k:=⟨(y,k),lu h,rfl,rfl⟩
theorem An{a:Env}{x:Str}:∀{b:List (Str×gH)}{k:gH}, (b.map λ(n,k)=>if(k == NameKind.free&&a.scope.kind == .function&&a.kindOf n == aa .cell)then(n,NameKind.cell)else(n,k)).lookup x=aa k -> ∃f,b.lookup x=aa f/\(k=f\/(f=.free/\k=.cell))
 |[],_,h=>by simp at h
 | (n,c)::r,k,h=>by
  change BI x ((if(c == NameKind.free&&a.scope.kind == .function&&a.kindOf n == aa .cell)=ah then(n,NameKind.cell)else(n,c))::_)=_ at h;rw[kK];by_cases d:(c == NameKind.free&&a.scope.kind == .function&&a.kindOf n == aa .cell)=ah
  .rw[if_pos d,kK]at h;split at h
   .rename_i g;cases h;have:c=.free:=by simp at d;exact d.1.1
    exact⟨c,rfl,.inr ⟨this,rfl⟩⟩
   .exact An h
  .rw[if_neg d,kK]at h;split at h
   .rename_i g;cases h;exact⟨c,rfl,.inl rfl⟩
   .exact An h
theorem Bj{a:Env}{x:Str}:∀{b:List (Str×gH)},b.lookup x=aa .free -> let q:=(b.map λ(n,k)=>if(k == NameKind.free&&a.scope.kind == .function&&a.kindOf n == aa .cell)then(n,NameKind.cell)else(n,k)).lookup x
  q=aa .cell\/q=aa .free
 |[],h=>by simp at h
 | (n,c)::r,h=>by
  show BI x ((if(c == NameKind.free&&a.scope.kind == .function&&a.kindOf n == aa .cell)=ah then(n,NameKind.cell)else(n,c))::_)=_\/BI x ((if(c == NameKind.free&&a.scope.kind == .function&&a.kindOf n == aa .cell)=ah then(n,NameKind.cell)else(n,c))::_)=_;rw[kK]at h;by_cases f:(c == NameKind.free&&a.scope.kind == .function&&a.kindOf n == aa .cell)=ah
  .rw[if_pos f,kK];cases d:x == n with
   |true=>exact .inl rfl
   |false=>rw[d]at h;exact Bj h
  .rw[if_neg f,kK];cases d:x == n with
   |true=>rw[d]at h;cases h;exact .inr rfl
   |false=>rw[d]at h;exact Bj h
theorem xr{a:Env}{x:Str}:∀{b:List (Str×gH)},b.lookup x=aa .cell -> (b.map λ(n,k)=>if(k == NameKind.free&&a.scope.kind == .function&&a.kindOf n == aa .cell)then(n,NameKind.cell)else(n,k)).lookup x=aa .cell
 |[],h=>by simp at h
 | (n,d)::r,h=>by
  show BI x ((if(d == NameKind.free&&a.scope.kind == .function&&a.kindOf n == aa .cell)=ah then(n,NameKind.cell)else(n,d))::_)=_;rw[kK]at h;by_cases f:(d == NameKind.free&&a.scope.kind == .function&&a.kindOf n == aa .cell)=ah
  .rw[if_pos f,kK];cases c:x == n with
   |true=>rfl
   |false=>rw[c]at h;exact xr h
  .rw[if_neg f,kK];cases c:x == n with
   |true=>rw[c]at h;cases h;rfl
   |false=>rw[c]at h;exact xr h
section
variable{X:Cx}{A:List (ag×Obj)}{w:St}{H:Hp}{s:ao}{f:eC}{x:Str}{D:List Str}{g:List Nat}
theorem Inv.freeHas(I:Inv X A w H s)(B:iG X f x D g):∀y∈f.names,y.2=.free->∃c,X.env.cells.lookup y.1=aa c:=λy a e=>I.ok.has y.1 (B.free y a e)
theorem Inv.clIn(I:Inv X A w H s)(B:iG X f x D g){y:Str}{c:ag}(h:(h_ X.env f.names []).lookup y=aa c):X.env.cells.lookup y=aa c:=by
 rcases Qy f.names [] (I.freeHas B) h with q|q
 .simp at q
 .exact q
theorem Inv.cbIn(I:Inv X A w H s)(B:iG X f x D g){C:ag}{y:Str}{c:ag}(h:(lR X f C).lookup y=aa c):((y,c)∈f9 (C+1) f.names []/\f.names.lookup y=aa .cell)\/((h_ X.env f.names []).lookup y=aa c/\X.env.cells.lookup y=aa c):=by
 rw[AD,HI]at h;cases e:(f9 (C+1) f.names []).lookup y with
 |none=>rw[e]at h;exact .inr ⟨h,I.clIn B h⟩
 |some a=>
  rw[e]at h;cases h;have m:=lu e;rcases wL _ _ _ m with z|z
  .cases z
  .exact .inl ⟨m,B.cells _ z rfl⟩
theorem Inv.cbOld(I:Inv X A w H s)(B:iG X f x D g){C:ag}{y:Str}{c:ag}(h:(h_ X.env f.names []).lookup y=aa c)(a:f.names.lookup y=aa .free):(lR X f C).lookup y=aa c:=by
 rw[AD,HI];cases e:(f9 (C+1) f.names []).lookup y with
 |none=>exact h
 |some b=>
  rcases wL _ _ _ (lu e)with z|z
  .cases z
  .have:=B.cells _ z rfl;rw[a]at this;cases this
theorem Inv.block{fp:List ag}{E:aC}{m:Str->Option aj}{t':Nat}(hh:E=pushCells (s.heap.push {cls:=.type "dict",data:=.dict #[]}) f.names)(I:Inv X A w H s)(B:iG X f x D g)(Y:∀b∈fp,lj X A H b)(hfo:∀b∈fp,∃o,s.heap.get? b=aa o)(sT:E.Ns s.heap.objs.size m)(F:∀b o,s.heap.get? b=aa o->E.get? b=aa o):Inv (bx X f D s.heap.objs.size s H fp A) [] (ae::eY w g) H {s with heap:=E,toks:=t'}:=by
 have N:∀x c,X.env.cells.lookup x=aa c->c<s.heap.objs.size:=λx c e=>(I.cell x c e).elim λv q=>q.lt;have C:∀{y:Str}{c:ag},(y,c)∈f9 (s.heap.objs.size+1) f.names []->E.IsCell c ae/\s.heap.objs.size+1<=c/\∀z,(z,c)∈f9 (s.heap.objs.size+1) f.names []->y=z:=λh=>by rw[hh];exact Ef h
 have lk:∀y k,(compEnvC f (lR X f s.heap.objs.size) s.heap.objs.size X.env).kindOf y=aa k->∃O,f.names.lookup y=aa O/\(k=O\/(O=.free/\k=.cell)):=λy k h=>An h;have J:∀y,f.names.lookup y=aa .free->∃c,(h_ X.env f.names []).lookup y=aa c:=λy h=>zq f.names [] (NX h);have nfs:∀b∈gg X.stack,b≠s.heap.objs.size:=λb G e=>by
  rcases bI.mp (I.stkSub b G)with z|z
  .exact absurd I.lt (by rw[<-z,e];exact fA _)
  .exact I.nofs (l9 e.symm) z
 refine⟨⟨I.ok.mod,B.kind,I.ok.glob,I.ok.blt,a6 _,λy z c h1 h2=>?_,λy P=>?_,λy c h eF=>?_,I.ok.hd,I.ok.frames,.inl rfl,λb G=>?_,λb o e=>I.bs b o e,cq I.ok.bsz I.sz,λb o e G=>?_,λb G hf=>?_,I.stack,(λb G=>I.stkFree b G),I.tab⟩,rfl,I.bare,Un.kept F,⟨m,sT,λi y v e1 S e3=>?_⟩,λy c h=>?_,I.hok.fresh (a6 _),λy c h=>?_,λp hp=>?_,I.hok.kept F,?_⟩
 .-- inj
  rcases I.cbIn B h1 with⟨a1,a2⟩|⟨a1,a2⟩ <;> rcases I.cbIn B h2 with⟨b1,b2⟩|⟨b1,b2⟩
  .exact(C a1).2.2 z b1
  .exact(yr (C a1).2.1 (N _ _ b2)).elim
  .exact(yr (C b1).2.1 (N _ _ a2)).elim
  .exact I.ok.inj y z c a2 b2
 .-- has
  show ∃c,(lR X f s.heap.objs.size).lookup y=aa c;have ml:f.names.lookup y=aa .free->∃c,(lR X f s.heap.objs.size).lookup y=aa c:=λq=>(J y q).imp λc hc=>I.cbOld B hc q;rcases P with P|P
  .obtain⟨O,q,z|⟨z,_⟩⟩:=lk y _ P
   .subst z;exact yE _ _ _ (lu q)
   .subst z;exact ml q
  .obtain⟨O,q,z|⟨_,z⟩⟩:=lk y _ P
   .subst z;exact ml q
   .cases z
 .-- cab
  have hk:f.names.lookup y=aa .cell:=by simpa using(show(f.names.lookup y == aa .cell)=ah from h)
  show s.heap.objs.size<=c;rcases I.cbIn B eF with⟨a1,a2⟩|⟨a1,a2⟩
  .have:=(C a1).2.1;lia
  .obtain⟨c',Q⟩:=yE (n:=s.heap.objs.size+1) (a:=[]) _ (lu hk);have e:(lR X f s.heap.objs.size).lookup y=aa c':=by rw[AD,HI,Q];rfl
   have S:(lR X f s.heap.objs.size).lookup y=aa c:=eF;rw[e]at S;cases S;have:=(C (lu Q)).2.1;lia
 .-- exf
  obtain⟨f0,f1,f2,f3,f4,f5⟩:=Y b G;obtain⟨o,L⟩:=hfo b G;refine⟨λe=>absurd (bG L) (by rw[e];exact fA _),λy c h=>?_⟩;rcases I.cbIn B h with⟨a1,a2⟩|⟨a1,a2⟩
  .rintro rfl;exact yr (C a1).2.1 (bG L)
  .exact f4 y c a2
 .-- noex
  obtain⟨f0,f1,f2,f3,f4,f5⟩:=Y b G;rcases f3 with z|z
  .exact I.ok.noex b o e z
  .exact absurd (iq (bG e) (cq I.ok.bsz z)) (fA _)
 .-- exfs
  obtain⟨f0,f1,f2,f3,f4,f5⟩:=Y b G;rcases bI.mp (I.stkSub b hf)with z|z
  .exact f1 z
  .exact f2 z
 .-- loc
  cases i with
  |zero=>simp at S
  |succ i=>
   have K:(eY w g)[i]?=aa (aa v):=by simpa using S
   unfold eY at K;rw[eD]at K;cases Z:g[i]? with
   |none=>rw[Z]at K;cases K
   |some j=>
    rw[Z]at K;have T:(w[j]?).join=aa v:=cQ K;have e5:w[j]?=aa (aa v):=by
     cases hq:w[j]? with
     |none=>rw[hq]at T;cases T
     |some o=>rw[hq]at T;exact congrArg aa T
    obtain⟨b1,b2⟩:=(B.caps i j y e1 Z).elim id λz=>by have:=(cE.mp e5).1;rw[I.len]at this;exact absurd this (Nat.not_lt.mpr z.1)
    obtain⟨mm,hn,hl⟩:=I.loc;have vM:=B.free _ (lu b2) rfl;have W:eJ X.env.scope y:=by
     rcases vM with z|z
     .exact .inr (.inl z)
     .exact .inr (.inr z)
    obtain⟨u,r,l⟩:=hl j y v b1 e5 W;refine⟨u,r,.inr ⟨Bj b2,?_⟩⟩;rcases l with⟨l,_⟩|⟨_,c,hc,ze⟩
    .rcases vM with z|z
     .rw[l]at z;cases z
     .rw[l]at z;cases z
    .obtain⟨c',Q⟩:=J y b2;have e6:=I.clIn B Q;rw[hc]at e6;cases e6;obtain⟨M,L,hd⟩:=ze;exact⟨c,I.cbOld B Q b2,M,F c M L,hd⟩
 .rcases I.cbIn B h with⟨a1,a2⟩|⟨a1,a2⟩
  .exact⟨ae,(C a1).1⟩
  .obtain⟨v,M,L,hd⟩:=I.cell y c a2;exact⟨v,M,F c M L,hd⟩
 .rcases I.cbIn B h with⟨a1,a2⟩|⟨a1,a2⟩
  .exact I.hok.fresh (cq (vy _) (C a1).2.1)
  .exact I.freeC y c a2
 .have fi:p∈X.pn++A:=by simpa[bx]using hp
  obtain⟨e,n,ne,nf,d⟩:=I.pin p fi;refine⟨F _ _ e,n,c0 (bG e),λhf=>?_,d⟩;rcases bI.mp (I.stkSub p.1 hf)with z|z
  .exact ne z
  .exact nf z
 .show(ae::eY w g).length=D.length;rw[B.len];simp[eY]
end
def rN(X:Cx)(b:List ay)(t:TT):Prop :=
 ∀(d:List (ag×Obj)) (s:ao) (a:St) (H:Hp) (Q:Bool->Hp->Prop),Inv X d a H s->t a H Q ->
  ar (au X.prog X.w) X.A (forIn b ah λc r=>if r=ah then do let ok <-mY c X.env (bi c X.env);pure (ForInStep.yield ok)else pure (ForInStep.yield r)) (TP X d a Q) X.xe s
theorem Li{P:aR}{w:aL}{A:aY}{R:Result->ao->Prop}{s:ao}{m q i:ay}{l:List ay}{g:eC}{p:Pos}{u C:aj}{d:Env}(J:Nat->ao->Prop)(n:∀k o,J k o->ar (au P w) A (l5 u) (λr B=>match r with
   |none=>R (.ok .next) B
   |some v=>ar (au P w) A (Bw q u v) (λ_ G=>ar (au P w) A (ox q d v) (λ_ F=>ar (au P w) A (forIn l ah λc r=>if r=ah then do let ok <-mY c d (bi c d);pure (ForInStep.yield ok)else pure (ForInStep.yield r)) (λb z=>if b=ah then ar (au P w) A (bi m d) (λy E=>ar (au P w) A (call (.builtin "list.append") [C,y]) (λ_ D=>∃j,j<k/\J j D) (λ_ _=>False) E) (λ_ _=>False) z else ∃j,j<k/\J j z) (λ_ _=>False) F) (λ_ _=>False) G) (λ_ _=>False) B) (λ_ _=>False) o) (k:Nat) (h:J k s) :
  p_ (au P w) A (.compLoop (.ListComp m [⟨q,i,l,0⟩] g p) 0 u C d) R s:=by
 refine codeAny_loop rfl J (λj o K=>?_) k h;show ar _ A (Sem.onRaise (compTurn (.ListComp m [⟨q,i,l,0⟩] g p) 0 u C d) (λx=>do noteFrame x d;theTreesLotGoes x)) _ _ o;refine wpAny_noted ?_;rw[compTurn_list];have no:∀(Q:aj->ao->Prop) (a:aj) (b:ao),False->Q a b:=λ_ _ _ f=>f.elim;refine ap (wpAny_standAt (ap (f8 (n j o K) (λr B I=>?_) (no _))));cases r with
 |none=>exact aF I
 |some v=>
  refine ap (f8 I (λ_ G O=>ap (f8 O (λ_ F N=>ap (f8 N (λb z H=>?_) (no _))) (no _))) (no _));cases b with
  |true=>exact ap (ap (f8 H (λy E M=>ap (f8 M (λ_ D L=>aF (aF ⟨rfl,L⟩)) (no _))) (no _)))
  |false=>exact aF ⟨rfl,H⟩
def KS:TT:=λ_ H Q=>Q ah H
theorem EA{X:Cx}:rN X [] KS:=λ_ _ _ H _ I h=>wpAny_tests_nil ⟨H,I,h⟩
theorem RI{X:Cx}{c:ay}{t:TT}(h:PT X c t):rN X [c] t:=λd s a H Q I b=>wpAny_tests_one (h d s a H Q I b)
def yC(q:TI)(h:V->Hp->St->Prop)(k:Nat)(r:TT)(s:TE)(d:List Nat):TE:=λg H Q=>q g H λJ p=>∀l,p l=ae->∃W:Nat->Nat->List V->Hp->Prop,(∃m,W 0 m [] (upd p l (.lst [])))/\∀i m a H,W i m a H ->
 (J.stop i H/\Q (.ref l) H)\/(J.go i H/\∀v j,J.yld i H v j->∃f,f.length=k+1/\h v j f/\r (f++(eY g d).drop k) j λb o=>if b=ah then s (f++(eY g d).drop k) o λy n=>n l=aa (.lst a)/\a.length<bn/\∃c,c<m/\W (i+1) c (a++[y]) (upd n l (.lst (a++[y]))) else ∃c,c<m/\W (i+1) c a o)
def Hh:V->Hp->St->Prop:=λv _ a=>a=[aa v]
abbrev yz(b:TI)(c:TT)(d:TE)(a:List Nat):TE:=yC b Hh 0 c d a
section
variable{X:Cx}{m:List (ag×Obj)}{w:St}{H:Hp}{s:ao}{g:eC}{x:Str}{j:List Str}{l:List Nat}
theorem Inv.unblock{r:List ag}{p:Hp}{y:St}{s':ao}{h:aC}(I:Inv X m w H s)(D:∀b∈r,lj X m H b)(a:Inv (bx X g j s.heap.objs.size s H r m) [] y p s') (sb:kD s.heap.objs.size s'.heap h):Inv X m w p {s' with heap:=h}:=by
 have k:∀b o,b≠s.heap.objs.size->s'.heap.get? b=aa o->h.get? b=aa o:=λb o f e=>(sb.2 b f).trans e;have A:∀b o,s.heap.get? b=aa o->b≠s.heap.objs.size:=λb o e=>c0 (bG e);have un:Un (gg X.stack) r H p s.heap h:=by
  refine⟨λb o e n f d=>k b o (A b o e) (a.base.keep b o e n f d),λb o e n f d=>?_,λb o e n d=>a.base.free b o e n d,λb o e d=>?_,a.base.tups,a.base.frzs,a.base.tbls⟩
  .obtain⟨E,q⟩:=a.base.slot b o e n f d;exact⟨E,k b _ (A b o e) q⟩
  .obtain⟨C,q⟩:=a.base.there b o e d;exact⟨C,k b C (A b o e) q⟩
 have B:dH X.prog X.w p h:=λb u e=>by
  have i:p s.heap.objs.size=ae:=a.free;refine(a.hok b u e).stay (λc v F q=>k c v ?_ q) (λ_ q=>q) λ_ _ q=>q;rintro rfl;rcases F with z|z
  .rw[<-z,i]at e;cases e
  .rw[i]at z;cases z
 refine I.call' (s':={s' with heap:=h}) (ch:=r) a.os un B a.bare λb f=>?_;obtain⟨K,J,f2,f3,f4,G⟩:=D b f;exact⟨f3,J,f4,G⟩
theorem Gn{elt G tg:ay}{pos pos':Pos}{ifs:List ay}{wi:TI}{tgf:V->Hp->St->Prop}{k:Nat}{ts:TT}{te:TE}{use:Option (aj->Sem Unit)}{Q:aj->ao->Prop}{Qp:VK}(B:iG X g x j l)(hk:k<=l.length)(hc:X.calm=ah)(hi:PI X tg G wi)(gL:∀C F K ex pn,PG (bx X g j C F K ex pn) tg λv O H Q=>∃Y,Y.length=k+1/\O.length=j.length/\tgf v H Y/\Q (Y++O.drop (k+1)) H)(ht:∀C F K ex pn,rN (bx X g j C F K ex pn) ifs ts) (he:∀C F K ex pn,PE (bx X g j C F K ex pn) elt te) (hs:∀x,lp G X.env x=pure x) (I:Inv X m w H s) (h:yC wi tgf k ts te l w H Qp)(fin:∀{A s6:ao}{P H5:Hp}{L σ5 a f},Inv X m w P A->(∀b∈L,lj X m P b)->Inv (bx X g j A.heap.objs.size A P L m) [] σ5 H5 s6->Qp (.ref a) H5->compPost (au X.prog X.w) X.A X.xe use Q (.ref a) A.heap.objs.size (.ok f) s6):ar (au X.prog X.w) X.A (comprehension (.ListComp elt [⟨tg,G,ifs,0⟩] g pos) g X.env pos' (newList []) ak (bi G X.env) use) Q X.xe s:=by
 refine wpAny_comprehension_free (use:=use) rfl hs (QT (I.freeHas B)) B.kind B.names (aP (hi m s w H _ I h) λv s1 h1=>aP h1 λitv E h2=>?_);obtain⟨it,L,tn,J,H2,e,I2,T,a9,f2,h2⟩:=h2;subst e;refine jI ?_;have I3:Inv X m w (upd H2 E.heap.objs.size (.lst [])) {E with heap:=E.heap.push {cls:=.type "list",data:=.seq ([]:List aj).toArray},toks:=E.toks}:=I2.lnew (its:=[]) (t':=E.toks) .nil (kJ _);obtain⟨W,⟨m0,w0⟩,turn⟩:=h2 E.heap.objs.size I2.fresh;generalize oO:({E with heap:=E.heap.push {cls:=.type "list",data:=.seq ([]:List aj).toArray},toks:=E.toks}:ao)=A at I3;have hs3':({E with heap:=E.heap.push {cls:=.type "list",data:=.seq ([]:List aj).toArray}}:ao)=A:=oO;generalize hH3:upd H2 E.heap.objs.size (.lst [])=P at I3 w0;have nl:∀b∈L,b≠E.heap.objs.size:=λb D e=>by obtain⟨o,ho,_⟩:=T.obj _ _ a9 b D;exact absurd (bG ho) (by rw[e];exact fA _)
 have k3:∀b o,E.heap.get? b=aa o->A.heap.get? b=aa o:=λb o e=>by rw[<-oO];exact bE _ e
 have f3:∀b∈L,lj X m P b:=λb D=>⟨by rw[<-hH3,bh (nl b D)];exact(f2 b D).1,(f2 b D).2⟩
 have bH:tn 0 A.heap:=T.keep _ _ _ a9 λb _ o e=>k3 b o e;have fo3:∀b∈L,∃o,A.heap.get? b=aa o:=λb D=>(T.obj _ _ bH b D).imp λo q=>q.1;refine Nl ?_;generalize hh:pushCells (A.heap.push {cls:=.type "dict",data:=.dict #[]}) g.names=h₁;have old:∀b o,A.heap.get? b=aa o->h₁.get? b=aa o:=λb o e=>hh ▸ pushCells_keeps _ _ b o (bE _ e);have sT:h₁.Ns A.heap.objs.size (λ_=>ae):=hh ▸ (Heap.Ns.new A.heap (.type "dict")).keeps (pushCells_keeps _ _);have I4:=Inv.block (t':=A.toks) hh.symm I3 B f3 fo3 sT old;have bT:tn 0 h₁:=T.keep _ _ _ bH λb _ o e=>old b o e;have M:∀{H':Hp},(∀b∈L,H' b=ae)->∀b∈L,lj (bx X g j A.heap.objs.size A P L m) [] H' b:=λhn b D=>by
  obtain⟨f0,f1,f2',f3',f4,f5⟩:=f3 b D;refine⟨hn b D,λe=>?_,λhf=>?_,.inl D,λy c h=>?_,λp hp=>f5 p (by simpa[bx]using hp)⟩
  .obtain⟨o,ho⟩:=fo3 b D;exact absurd (bG ho) (by rw[show b=A.heap.objs.size from e];exact fA _)
  .rcases bI.mp (I3.stkSub b hf)with z|z
   .exact f1 z
   .exact f2' z
  .rcases I3.cbIn B h with⟨a1,a2⟩|⟨a1,a2⟩
   .rintro rfl;obtain⟨o,ho⟩:=fo3 _ D;exact yr (Ef a1).2.1 (bG ho)
   .exact f4 y c a2
 have Z:p_ (au X.prog X.w) X.A (.compLoop (.ListComp elt [⟨tg,G,ifs,0⟩] g pos) 0 (.ref it) (.ref E.heap.objs.size) (compEnvC g (lR X g A.heap.objs.size) A.heap.objs.size X.env))
   (compPost (au X.prog X.w) X.A X.xe use Q (.ref E.heap.objs.size) A.heap.objs.size) {A with heap:=h₁,toks:=A.toks}:=by
  refine Li (λn s'=>∃i S O H',(∃pre:St,pre.length=k+1/\O=pre++(eY w l).drop k)/\Inv (bx X g j A.heap.objs.size A P L m) [] O H' s'/\tn i s'.heap/\(∀b∈L,H' b=ae)/\W i n S H') ?_ m0
   ⟨0,[],_,P,⟨(ae::eY w l).take (k+1),by simp[eY];lia,by rw[<-List.drop_succ_cons (a:=ae)];exact(oA _ _).symm⟩,I4,bT,λb D=>(f3 b D).1,w0⟩
  rintro n s5 ⟨i,S,σ5,H5,⟨pre,vQ,rfl⟩,I5,cm,fr5,w5⟩;rcases turn i n S H5 w5 with⟨stop,q⟩|⟨go,step⟩
  .refine f8 (T.done (bx X g j A.heap.objs.size A P L m) rfl rfl rfl hc i [] s5 _ H5 (λ_ _=>False) I5 (M fr5) cm stop) (λr s6 ⟨hr,I6⟩=>?_) (λ_ _ f=>f.elim);subst hr;exact fin I3 f3 I6 q
  .refine f8 (T.item (bx X g j A.heap.objs.size A P L m) rfl rfl rfl hc i [] s5 _ H5 (λ_ _=>False) I5 (M fr5) cm go) (λr s6 ⟨u,hr,h6⟩=>?_) (λ_ _ f=>f.elim);subst hr;refine f8 h6 (λ_ s7 ⟨v,H7,I7,r7,y7,st7,fr7⟩=>?_) (λ_ _ f=>f.elim);have I7':=I7.pinned (M fr7) (T.obj _ _ st7);have back:∀{N:St}{H8:Hp}{s8:ao},Inv (bx X g j A.heap.objs.size A P L m) ([]++uX L s7.heap) N H8 s8->tn (i+1) s8.heap/\(∀b∈L,H8 b=ae):=λ{N H8 s8} I8=>⟨T.keep _ _ _ st7 λb D o e=>(I8.pin (b,o) (ir _ (ir _ (xU D e)))).1,λb D=>by obtain⟨o,e,d⟩:=T.obj _ _ st7 b D;exact(I8.pin (b,o) (ir _ (ir _ (xU D e)))).2.1⟩
   obtain⟨Y,eP,htg,step⟩:=step v H7 y7;refine aP (gL _ _ _ _ _ _ s7 _ H7 v u (λN H8=>N=Y++(eY w l).drop k/\H8=H7) I7' r7 ⟨Y,eP,I7'.len,htg,by rw[BJ ∅,List.drop_eq_nil_of_le ∅];rfl,rfl⟩) λ_ s8 ⟨N,H8,I8,e8,e8'⟩=>?_;subst e8 e8';refine aP (ht _ _ _ _ _ _ s8 _ _ _ I8 step) λb s9 ⟨H9,I9,q9⟩=>?_;cases b with
   |false=>
    obtain⟨m',hm,w9⟩:=(show ∃m',m'<n/\W (i+1) m' S H9 from q9)
    exact⟨m',hm,i+1,S,_,H9,⟨Y,eP,rfl⟩,I9.unpinned,(back I9).1,(back I9).2,w9⟩
   |true=>refine aP (he _ _ _ _ _ _ s9 _ H9 _ I9 q9) λu10 s10 ⟨y,H10,I10,r10,hl10,hz10,m',hm,w10⟩=>?_;refine aP (Fs _ s10 _ H10 (.ref E.heap.objs.size) [y] _ [u10] (λz H11=>H11=upd H10 E.heap.objs.size (.lst (S++[y]))) I10 rfl (.cons r10 .nil) ⟨_,S,y,rfl,rfl,hl10,hz10,rfl⟩) λ_ s11 ⟨_,H11,I11,_,e11⟩=>?_;subst e11;exact⟨m',hm,i+1,S++[y],_,_,⟨Y,eP,rfl⟩,I11.unpinned,(back I11).1,(back I11).2,w10⟩
 exact codeAny_compStart_list Z (T.self _ 0 _ _ _ bT Z)
theorem C_{p:Pos}(B:iG X g x j l):∀C b c i f,PG (bx X g j C b c i f) (.Name x p) λv d H Q=>∃n,n.length=0+1/\d.length=j.length/\Hh v H n/\Q (n++d.drop (0+1)) H:=by
 intro C b c i f m s d H v u Q I r h;obtain⟨n,_,z,y,q⟩:=h;cases (show n=[aa v] from y);have D:Loc (bx X g j C b c i f).env.scope x:=B.loc.elim (λh=>.inl (vz h)) (λh=>.inr (xr h));have A:(bx X g j C b c i f).fn x=ah\/(bx X g j C b c i f).env.scope.names.lookup x=aa .local:=B.loc.elim (λh=>.inr (vz h)) (λh=>.inl (by show(g.names.lookup x == aa .cell)=ah;rw[h];rfl));have o:(bx X g j C b c i f).N[0]?=aa x:=by show j[0]?=aa x;rw[<-List.head?_eq_getElem?];exact B.hd
 refine vj B.nd o D A m s d H v u Q I r ?_;show Q (d.set 0 (aa v)) H;cases d with
 |nil=>rw[qf,B.len]at z;lia
 |cons a r=>exact q
theorem MK{f b:ay}{p pos:Pos}{d:List ay}{wi:TI}{ts:TT}{te:TE}(B:iG X g x j l)(D:X.calm=ah)(z:PI X (.Name x p) b wi)(v:∀C a c o i,rN (bx X g j C a c o i) d ts) (A:∀C a c o i,PE (bx X g j C a c o i) f te) (y:∀x,lp b X.env x=pure x:=by intro _;rfl):PE X (.ListComp f [⟨.Name x p,b,d,0⟩] g pos) (yz wi ts te l):=by intro m s w H Q I h;rw[eval_ListComp];exact Gn (use:=ae) B (kJ _) D z (C_ B) v A y I h λE f3 r q=>by obtain⟨u,n,_⟩:=r.loc;exact⟨u,n,λF sb=>⟨.ref _,_,E.unblock f3 r sb,rfl,q⟩⟩
end
def Walk(J:It)(a:List V)(R:Hp->Prop):Prop :=
 ∀H,R H->∀i,(∀x,a[i]?=aa x->J.go i H/\∀y b,J.yld i H y b->b=H/\y=x)/\(i=a.length->J.stop i H)
theorem NM{K:ax}{a:ag}{b:List V}:Walk (zJ K a) b (λH=>cB K H a b):=λH h i=>⟨λx c=>⟨⟨b,x,h,c⟩,λy f z=>⟨z.1,by have:=z.2 b h;rw[c]at this;exact(cQ this).symm⟩⟩,λd=>⟨b,h,l9 d.symm⟩⟩
theorem JC{K:ax}{a:ag}{b:List V}:Walk (AN K a) b (λH=>cp K H a b):=λH h i=>⟨λx c=>⟨⟨b,x,h,c⟩,λy f z=>⟨z.1,by have:=z.2 b h;rw[c]at this;exact(cQ this).symm⟩⟩,λd=>⟨b,h,l9 d.symm⟩⟩
def rA(a:Int)(n:Nat):List V:=(cJ n).map λi=>V.int (a+(i:Nat))
theorem zS(a:Int)(n:Nat):(rA a n).length=n:=by simp[rA]
theorem LZ{b:Int}{n:Nat}:Walk (xE b n) (rA b n) (λ_=>True):=λH _ i=>by
 refine⟨λx a=>?_,λc=>by rw[zS]at c;exact l9 c.symm⟩;have d:i<n:=by have:=(cE.mp a).1;rw[zS]at this;exact this
 refine⟨d,λy g z=>⟨z.1,?_⟩⟩;unfold rA at a;rw[eD,List.getElem?_range d]at a;have f:V.int (b+(i:Nat))=x:=cQ a;rw[z.2,<-f]
def sg(c:Nat):V:=.str ⟨#[c]⟩
def vc(z:Str):It:=⟨λi _=>i<z.cps.size,λi H x a=>a=H/\∃c,z.cps[i]?=aa c/\x=sg c,λi _=>i=z.cps.size⟩
theorem Ow{z:Str}:Walk (vc z) (z.cps.toList.map sg) (λ_=>True):=λH _ i=>by
 refine⟨λx a=>?_,λd=>by show i=z.cps.size;simpa using d⟩;rw[eD]at a;cases e:z.cps.toList[i]? with
 |none=>rw[e]at a;cases a
 |some c=>
  rw[e]at a;have f:i<z.cps.size:=by have:=(cE.mp e).1;simpa using this
  refine⟨f,λy h w=>⟨w.1,?_⟩⟩;obtain⟨g,b,rfl⟩:=w.2;have:z.cps[i]?=aa c:=by simpa using e
  rw[this]at b;cases b;exact(cQ a)
section
variable{X:Cx}{a:ay}
theorem PY{P:aR}{w:aL}{K:ax}{z:Str}{d:ag}{f:Nat->aC->Prop} (S:∀i h,f i h->∃o n r,h.get? d=aa o/\o.cls=.type n/\o.data=.fields r /\ ["enumerate","zip","dict_itemiterator","dict_reverseitemiterator","odict_iterator","itertools.zip_longest","itertools.pairwise"].contains n=ak)(Y:∀(A:aY) (i:Nat) (s:ao) (Q:aj->ao->Prop) (E:aj->ao->Prop),f i s.heap->Q (.ref d) s->ar (au P w) A (mZ (.ref d)) Q E s)(C:∀A:aY,A.handled=ae->Walks P w A d [d] [d] z.cps.size (SignAt z) f):pq P w K a (vc z) [d] d f where
 mem:=by simp
 obj:=λi h g b j=>by
  have e:b=d:=by simpa using j
  subst e;obtain⟨o,n,r,J,_,G,_⟩:=S i h g;exact⟨o,J,λv q=>by rw[G]at q;cases q⟩
 keep:=λi h m g k=>by exact(C ({}:aY) rfl).frame i h m g k
 item:=by intro X D x F B i W s O H E I p g y;subst D x F;obtain⟨N,M,f2,f3,f4,L⟩:=p d (by simp);refine(C X.A (I.ok.hd B)).item i s _ _ y g λv m l hv T k=>?_;have I1:Inv X W O H {s with heap:=m,toks:=l}:=I.turned (t':=l) (λb o j e=>k b o (by simpa using j) e) N M f3 f4 L;obtain⟨o,n,r,J,h2,G,h4⟩:=S _ _ T;obtain⟨c,u,e1,rfl⟩:=hv;exact⟨_,rfl,tO (s:={s with heap:=m,toks:=l}) J h2 G h4 ⟨sg c,H,I1,⟨u,rfl⟩,⟨rfl,c,e1,rfl⟩,T,λb j=>(p b j).1⟩⟩
 done:=by intro X D x F B i W s O H E I p g y;subst D x F;obtain⟨N,M,f2,f3,f4,L⟩:=p d (by simp);have Z:i=z.cps.size:=y;subst Z;exact(C X.A (I.ok.hd B)).done s _ _ g λm l k=>⟨rfl,I.turned (t':=l) (λb o j e=>k b o (by simpa using j) e) N M f3 f4 L⟩
 self:=Y
theorem FY{J:It}{c:List V}{R:Hp->Prop}{g:TG}{n:TS}{D:jX}{b:St}{H:Hp}(C:Walk J c R)(d:Nat->St->Hp->Prop)(E:d 0 b H)(z:∀i b H,i<=c.length->d i b H->R H)(w:∀i x b H,c[i]?=aa x->d i b H->g x b H λh l=>n {D with nx:=d (i+1),ct:=d (i+1),bk:=D.nx} h l) (B:∀b H,d c.length b H->D.nx b H):∃W:Nat->Nat->St->Hp->Prop,(∃m,W 0 m b H)/\∀i m b H,W i m b H -> (J.stop i H/\D.nx b H)\/(J.go i H/\∃N:St->Hp->Prop,(∀j f,N j f->∃o,o<m/\W (i+1) o j f)/\∀x f,J.yld i H x f->g x b f λh l=>n {D with nx:=N,ct:=N,bk:=D.nx} h l):=by
 refine⟨λi m b H=>m=c.length-i/\i<=c.length/\d i b H,⟨c.length,by simp,kJ _,E⟩,?_⟩;rintro i m b H ⟨rfl,A,p⟩;have q:=C H (z i b H A p) i;by_cases s:i<c.length
 .have r:c[i]?=aa c[i]:=by simp[s]
  obtain⟨F,u⟩:=q.1 c[i] r;refine .inr ⟨F,d (i+1),λj f v=>⟨c.length-(i+1),∅,rfl,s,v⟩,λx f y=>?_⟩;obtain⟨rfl,rfl⟩:=u x f y;exact w i _ b _ r p
 .have e:i=c.length:=∅
  subst e;exact .inl ⟨q.2 rfl,B b H p⟩
theorem Q3{b:Type}(l:List b)(f:b->Bool)(d:Nat->Bool)(c:∀i x,l[i]?=aa x->d i=f x):(cJ l.length).all d=l.all f:=by
 induction l generalizing d with
 |nil=>rfl
 |cons x r g=>rw[eU,yR,oz,vA,oz,c 0 x rfl];congr 1;exact g _ λi y h=>c (i+1) y (by simpa using h)
theorem Rq{bs:List Bool}{b:List aj}(r:bL (bs.map V.bl) b){i:Nat}{v:aj}(h:b.toArray[i]?=aa v):v=.bool (bs.getD i ak):=by
 have d:=r.length;rw[b7]at d;have g:i<b.length:=by have:=(sE.mp h).1;simpa using this
 have e:(bs.map V.bl)[i]?=aa (.bl (bs.getD i ak)):=by rw[eD,fh ∅];simp[List.getD,fh (show i<bs.length by lia)]
 obtain⟨u,c,f⟩:=r.get e;have:b[i]?=aa v:=by simpa using h
 rw[this]at c;cases c;exact f
theorem tD{A:aY}(h:A.handled=ae):A.in1.handled=ae:=h
theorem GF(j:X.calm=ah):fO X (.builtin "all") (λl H Q=>∃(p:ag) (bs:List Bool),l=[.ref p]/\cB X.K H p (bs.map V.bl)/\Q (.bl (bs.all id)) H):=by
 intro N s w H l P Q I r h;obtain⟨p,bs,rfl,F,q⟩:=h;obtain⟨u,rfl,A⟩:=vals1 r;cases A;obtain⟨d,m,f,T⟩:=I.list F;have n:=m.length;rw[b7]at n;refine call_all_walk (HJ f.isList ?_);have M:p≠s.heap.objs.size:=by obtain⟨o,g,_⟩:=f.isList;exact c0 (bG g)
 refine⟨s.heap.objs.size,_,_,_,_,_,λi=>bs.getD i ak,rfl,Walks.list (tD (I.ok.hd j)) s.heap.objs.size p M d.toArray,⟨⟨_,cG _ rfl,rfl,rfl⟩,?_⟩,λi v S Y Z E L=>?_,λW y k=>?_⟩
 .obtain⟨o,g,j,J⟩:=f.isList;exact⟨o,bE _ g,j,J⟩
 .rw[Rq m E];exact ot L
 .have e:(cJ d.toArray.size).all (λi=>bs.getD i ak)=bs.all id:=by
   rw[cO,<-n];exact Q3 bs id _ λi x D=>by simp[List.getD,D]
  rw[e];have O:Inv X N w H {s with heap:=s.heap.push {cls:=.type "list_iterator",data:=.fields #[.ref p,.int 0 0]},toks:=s.toks}:=I.kept (t':=s.toks) λb o e=>bE _ e;exact⟨.bl _,H,Inv.turned (t':=y) O (it:=s.heap.objs.size) (λb o K e=>k b o (by simpa using K) e) I.fresh (p9 I.lt) (.inr I.sz) (λx c e z=>by obtain⟨v,B⟩:=I.cell x c e;exact absurd B.lt (by rw[z];exact fA _)) (λC G z=>absurd (bG (I.pin C G).1) (by rw[z];exact fA _)),rfl,q⟩
end
section
variable{X:Cx}
def lU(z:Str)(a b:Option Int):Str:=⟨((z.cps.toList.drop (HT.sIx z.length 0 a)).take (HT.sIx z.length z.length b-HT.sIx z.length 0 a)).toArray⟩
theorem O4(a b:Nat):sliceRange (a:Int) (b:Int) 1=(cJ (b-a)).map λk=>a+k:=by
 unfold sliceRange;have e:(if(1:Int) > 0 then(if(a:Int)<(b:Int)then((b:Int)-a+1-1) / 1 else 0)else(if(a:Int) > b then((a:Int)-b-1-1) / (-1)else 0)).toNat=b-a:=by
  rw[if_pos (by decide)];split
  .rw[Int.ediv_one];lia
  .have:b-a=0:=∅
   rw[this];rfl
 show(cJ (if(1:Int) > 0 then(if(a:Int)<(b:Int)then((b:Int)-a+1-1) / 1 else 0)else(if(a:Int) > b then((a:Int)-b-1-1) / (-1)else 0)).toNat).map _=_;rw[e];refine jJ λk _=>?_;lia
theorem Ka(a b:Option Int)(n:Nat):Builtin.Str.strSliceIndices a b 1 n=(cJ (HT.sIx n n b-HT.sIx n 0 a)).map λk=>HT.sIx n 0 a+k:=by
 rw[<-O4];have p:(1:Int) > 0:=by decide
 cases a <;> cases b <;> (unfold Builtin.Str.strSliceIndices HT.sIx;simp only[p,if_true];congr 1 <;> (try split) <;> lia)
theorem Ls{b:Type}(l:List b)(a k:Nat):((cJ k).map λj=>a+j).filterMap (λi=>l[i]?)=(l.drop a).take k:=by
 induction k with
 |zero=>simp
 |succ k c=>
  rw[yS,yT,List.filterMap_append,c,List.take_succ];congr 1;simp[vo];cases l[a+k]? <;> rfl
theorem Lp(z:Str)(t:Tok)(l u:Option (Int×Tok)):∃m,sliceMade z t l u ae=m/\(m=.val (.str z t)/\lU z (l.map (·.1)) (u.map (·.1))=z\/m=.str (lU z (l.map (·.1)) (u.map (·.1)))):=by
 refine⟨_,rfl,?_⟩;unfold sliceMade slicePicked;have e:=Ka (l.map (·.1)) (u.map (·.1)) z.length;simp only[Option.map_none,HA];rw[e];have d:=Ls z.cps.toList (HT.sIx z.length 0 (l.map (·.1))) (HT.sIx z.length z.length (u.map (·.1))-HT.sIx z.length 0 (l.map (·.1)));have b:(((cJ (HT.sIx z.length z.length (u.map (·.1))-HT.sIx z.length 0 (l.map (·.1)))).map λk=>HT.sIx z.length 0 (l.map (·.1))+k).filterMap (z.cps[·]?)).toArray=(lU z (l.map (·.1)) (u.map (·.1))).cps:=by unfold lU;rw[<-d];simp
 split
 .rename_i h;left;refine⟨rfl,?_⟩;simp only[beq_self_eq_true,oB,b7,HK,beq_iff_eq]at h;have g:HT.sIx z.length z.length (u.map (·.1))<=z.length:=HT.sIx_le _ _ (a6 _) _;have f:z.cps.toList.length=z.length:=by simp[Str.length]
  have a:HT.sIx z.length 0 (l.map (·.1))=0\/z.length=0:=∅
  unfold lU;rw[h];rcases a with a|a
  .rw[a,List.drop_zero,oC ∅]
  .have:z.cps.toList=[]:=vB ∅;rw[this];cases z;rename_i c;simp at this;subst this;simp
 .right;rw[show(⟨(((cJ (HT.sIx z.length z.length (u.map (·.1))-HT.sIx z.length 0 (l.map (·.1)))).map λk=>HT.sIx z.length 0 (l.map (·.1))+k).filterMap (z.cps[·]?)).toArray⟩:Str)=lU z (l.map (·.1)) (u.map (·.1))from by rw[b]]
def E9:V->Option Int->Option Int->Hp->VK->Prop:=λx a b H Q=>∃z,x=.str z/\z.length<=bn/\Q (.str (lU z a b)) H
theorem QH(z:Str)(a b:Option Int):(lU z a b).length<=z.length:=by unfold lU Str.length;simp;lia
theorem part_of{v:aj}{o:Option Int}(p:m9 v o):∃q:Option (Int×Tok),v=partValue q/\q.map (·.1)=o:=by
 cases p with
 |none=>exact⟨ae,rfl,rfl⟩
 |int i t=>exact⟨aa (i,t),rfl,rfl⟩
theorem Sk:mG X E9:=by
 intro y s n H x v p o r w a Q I b g d c h;obtain⟨z,rfl,f,q⟩:=h;obtain⟨t,rfl⟩:=b;obtain⟨l,rfl,rfl⟩:=part_of d;obtain⟨u,rfl,rfl⟩:=part_of c;refine⟨"str",_,F.slot_str_getitem.lookup,typeIs_str s z t,?_⟩;obtain⟨m,j,i⟩:=Lp z t l u;refine getItem_meets (typeIs_str s z t) (by decide) F.slot_str_getitem F.entry_str_getitem (F.args_str_getitem_2 _ _) (meets_str_getitem_slice z t a l u ae (by decide)) ⟨g,?_⟩;rw[j];rcases i with⟨rfl,e⟩|rfl
 .exact⟨.str z,H,I,⟨t,rfl⟩,by rw[e]at q;exact q⟩
 .exact⟨cq (QH z _ _) f,⟨.str _,H,I.tok _,⟨_,rfl⟩,q⟩⟩
def iF(K:ax)(H:Hp)(d:Nat)(x y:V)(k:Bool):Prop :=
 ∀(X:Cx),X.K=K->∀(b:List (ag×Obj)) (a:St) (s:ao) (u v:aj) (A:aY),Inv X b a H s->RelV x u->RelV y v->A.units+d<cLine->yL A s u v k
theorem Ke{K:ax}{H:Hp}{d:Nat}{x y:V}(f:j4 x=ah)(c:j4 y=ah):iF K H d x y (i7 x y):=λ_ _ _ _ _ _ _ _ _ b a _=>EG b a f c
def gh(e:Nat->Bool)(n m:Nat):Bool:=(cJ (min n m)).all e&&n == m
theorem He{A:aY}:A.in1.units=A.units+1:=rfl
theorem Ap{H:Hp}{d:Nat}{a b:ag}{f c:List V}{e:Nat->Bool}{F:List (ag×Obj)}{p:St}{s:ao}{A:aY}(I:Inv X F p H s)(O:cB X.K H a f)(N:cB X.K H b c)(M:∀(j:Nat) x y,f[j]?=aa x->c[j]?=aa y->iF X.K H d x y (e j)) (T:A.units+(d+1)<cLine):SeqAt.RcAt A s (.ref a) (.ref b) (gh e f.length c.length)/\SeqAt.RcNeAt A s (.ref a) (.ref b) (!gh e f.length c.length):=by
 obtain⟨h,r,o,_⟩:=I.list O;obtain⟨l,q,g,_⟩:=I.list N;have G:=r.length;have S:=q.length;have B:∀j (D:j<h.toArray.size) (C:j<l.toArray.size),yL A.in1 s h.toArray[j] l.toArray[j] (e j):=λj D C=>by
  have P:j<h.length:=by simpa using D
  have L:j<l.length:=by simpa using C
  have m:f[j]?=aa f[j]:=fh ∅;have E:c[j]?=aa c[j]:=fh ∅;obtain⟨u,z,K⟩:=r.get m;obtain⟨v,w,J⟩:=q.get E;have Q:h[j]=u:=by rw[fh P]at z;exact cQ z
  have f2:l[j]=v:=by rw[fh L]at w;exact cQ w
  have:=M j f[j] c[j] m E X rfl F p s u v A.in1 I K J (by rw[He];lia);simpa[Q,f2]using this
 by_cases i:f.length=c.length
 .have n:h.toArray.size=l.toArray.size:=by simp;lia
  have m:gh e f.length c.length=(cJ h.toArray.size).all e:=by unfold gh;rw[i,Nat.min_self,beq_self_eq_true,Bool.and_true,cO,<-G,i]
  rw[m];exact⟨.lists o.isList g.isList n ∅ B,.lists o.isList g.isList n ∅ B⟩
 .have m:gh e f.length c.length=ak:=by
   unfold gh;rw[beq_false_of_ne i,Bool.and_false]
  have n:(h.toArray.size != l.toArray.size)=ah:=by simp;lia
  rw[m];exact⟨.lists_lengths o.isList g.isList n ∅,.lists_lengths o.isList g.isList n ∅⟩
theorem Bk{H:Hp}{d:Nat}{a b:ag}{f c:List V}{e:Nat->Bool}{D:List (ag×Obj)}{m:St}{s:ao}{A:aY}(I:Inv X D m H s)(N:cp X.K H a f)(M:cp X.K H b c)(L:∀(j:Nat) x y,f[j]?=aa x->c[j]?=aa y->iF X.K H d x y (e j)) (Q:A.units+(d+1)<cLine):SeqAt.RcAt A s (.ref a) (.ref b) (gh e f.length c.length)/\SeqAt.RcNeAt A s (.ref a) (.ref b) (!gh e f.length c.length):=by
 obtain⟨h,o,r,_⟩:=I.tuple N;obtain⟨g,n,i,_⟩:=I.tuple M;have E:=o.length;have J:=n.length;have w:∀j (B:j<h.toArray.size) (z:j<g.toArray.size),yL A.in1 s h.toArray[j] g.toArray[j] (e j):=λj B z=>by
  have O:j<h.length:=by simpa using B
  have K:j<g.length:=by simpa using z
  have l:f[j]?=aa f[j]:=fh ∅;have C:c[j]?=aa c[j]:=fh ∅;obtain⟨u,q,G⟩:=o.get l;obtain⟨v,p,F⟩:=n.get C;have P:h[j]=u:=by rw[fh O]at q;exact cQ q
  have f2:g[j]=v:=by rw[fh K]at p;exact cQ p
  have:=L j f[j] c[j] l C X rfl D m s u v A.in1 I G F (by rw[He];lia);simpa[P,f2]using this
 have l:gh e f.length c.length=((cJ (min h.toArray.size g.toArray.size)).all e&&h.toArray.size == g.toArray.size):=by unfold gh;rw[cO,cO,<-E,<-J]
 rw[l];exact⟨.tuples r i ∅ w,.tuples r i ∅ w⟩
theorem Jc{K:ax}{H:Hp}{d:Nat}{a b:ag}{f c:List V}{e:Nat->Bool}(n:cB K H a f)(m:cB K H b c)(p:a≠b)(l:∀(j:Nat) x y,f[j]?=aa x->c[j]?=aa y->iF K H d x y (e j)):iF K H (d+1) (.ref a) (.ref b) (gh e f.length c.length):=λX o r q s u v A I h g i=>by
 subst o;cases h;cases g;exact .of_refs p (Ap I n m l i).1
theorem K4{K:ax}{H:Hp}{d:Nat}{a b:ag}{f c:List V}{e:Nat->Bool}(n:cp K H a f)(m:cp K H b c)(p:a≠b)(l:∀(j:Nat) x y,f[j]?=aa x->c[j]?=aa y->iF K H d x y (e j)):iF K H (d+1) (.ref a) (.ref b) (gh e f.length c.length):=λX o r q s u v A I h g i=>by
 subst o;cases h;cases g;exact .of_refs p (Bk I n m l i).1
theorem Dd{K:ax}{H:Hp}{d:Nat}{a:ag}:iF K H d (.ref a) (.ref a) ah:=λX h i f s u v A I c b g=>by
 cases c;cases b;exact .same _
def uc(K:ax)(g:Bool):R2:=λx y H Q=>∃a b f c d e,x=.ref a/\y=.ref b/\((cB K H a f/\cB K H b c)\/(cp K H a f/\cp K H b c))/\d<=8 /\
 (∀(j:Nat) x y,f[j]?=aa x->c[j]?=aa y->iF K H d x y (e j))/\Q (.bl (if g then !gh e f.length c.length else gh e f.length c.length)) H
theorem Jy(n:X.A.units+64<cLine):bS X (d9 .Eq) (uc X.K ak):=by
 intro p s j H x y v u Q I g f h;obtain⟨a,b,m,l,d,e,rfl,rfl,i,o,c,q⟩:=h;cases g;cases f;rcases i with⟨h1,h2⟩|⟨h1,h2⟩
 .exact(Ap I h1 h2 c ∅).1 _ _ _ _ ⟨.bl _,H,I,rfl,q⟩
 .exact(Bk I h1 h2 c ∅).1 _ _ _ _ ⟨.bl _,H,I,rfl,q⟩
theorem OM(n:X.A.units+64<cLine):bS X (d9 .NotEq) (uc X.K ah):=by
 intro p s j H x y v u Q I g f h;obtain⟨a,b,m,l,d,e,rfl,rfl,i,o,c,q⟩:=h;cases g;cases f;rcases i with⟨h1,h2⟩|⟨h1,h2⟩
 .exact(Ap I h1 h2 c ∅).2 _ _ _ _ ⟨.bl _,H,I,rfl,q⟩
 .exact(Bk I h1 h2 c ∅).2 _ _ _ _ ⟨.bl _,H,I,rfl,q⟩
end
abbrev Tx:=List Nat
def tS(l:Tx):Str:=⟨l.toArray⟩
def tV(l:Tx):V:=.str (tS l)
def b0(ls:List Tx):List V:=ls.map tV
theorem kt(l:Tx):(tS l).cps.toList=l:=by simp[tS]
theorem ki(l:Tx):(tS l).length=l.length:=by simp[tS,Str.length]
theorem pG(z:Str):tS z.cps.toList=z:=by cases z;simp[tS]
theorem rn{a b:Tx}(h:tS a=tS b):a=b:=by rw[<-kt a,h,kt]
theorem LU{a b:Tx}(h:tV a=tV b):a=b:=rn (V.str.inj h)
theorem ya(a:List Tx):(b0 a).length=a.length:=b7 _
def cZ(a b:Tx):Bool:=decide (a<=b)
def aX(ls:List Tx):List Tx:=ls.mergeSort cZ
theorem Ew(a b c:Tx)(f:cZ a b=ah)(d:cZ b c=ah):cZ a c=ah:=by simp only[cZ,decide_eq_true_eq]at *;exact List.le_trans f d
theorem Ln(a b:Tx):(cZ a b||cZ b a)=ah:=by simp only[cZ,yU,decide_eq_true_eq];exact List.le_total a b
theorem OQ{a b:Tx}(d:cZ a b=ah)(c:cZ b a=ah):a=b:=by simp only[cZ,decide_eq_true_eq]at *;exact List.le_antisymm d c
theorem eI(a:List Tx):(aX a).Perm a:=List.mergeSort_perm _ _
theorem rY(c:List Tx):(aX c).Pairwise (λa b=>cZ a b=ah):=List.pairwise_mergeSort Ew Ln _
theorem F8(a:List Tx):(aX a).length=a.length:=(eI a).length_eq
theorem rV{c d:List Tx}(g:d.Perm c)(f:d.Pairwise (λa b=>cZ a b=ah)):d=aX c :=List.Perm.eq_of_pairwise (le:=λa b=>cZ a b=ah) (λ_ _ _ _ i h=>OQ i h) f (rY c) (g.trans (eI c).symm)
theorem pU{c:List Tx}(d:c.Pairwise (λa b=>cZ a b=ah)):aX c=c:=(rV (qg c) d).symm
theorem qZ{a b:List Tx}(c:a.Perm b):aX a=aX b:=rV ((eI a).trans c) (rY a)
theorem Eu:∀(p:Str) (l:List Str),risingS p l=ah->(p::l).Pairwise (λa b=>cZ a.cps.toList b.cps.toList=ah)
 |p,[],_=>List.pairwise_singleton _ _
 |p,x::r,h=>by
  have d:(!ltCps x.cps.toList p.cps.toList&&risingS x r)=ah:=h;rw[iT,ltCps_eq]at d;have q:=Eu x r d.2;have f:cZ p.cps.toList x.cps.toList=ah:=by simp only[cZ,decide_eq_true_eq];intro g;simp[g]at d
  refine List.pairwise_cons.mpr ⟨λy c=>?_,q⟩;rcases bI.mp c with rfl|c
  .exact f
  .exact Ew _ _ _ f (List.rel_of_pairwise_cons q c)
theorem GY{c:List Str}(h:sortedS c=ah):(c.map λz=>z.cps.toList).Pairwise (λa b=>cZ a b=ah):=by
 rw[yV];cases c with
 |nil=>exact List.Pairwise.nil
 |cons x r=>exact Eu x r h
theorem wu:∀{ls:List Tx}{a:List aj},bL (b0 ls) a->eE a (ls.map tS)
 |[],_,.nil=>.nil
 |l::ls,_::_,.cons ⟨t,e⟩ r=>by subst e;exact .cons _ t (wu (ls:=ls) r)
theorem AC:∀{b:List Str}{a:List aj},eE a b->bL (b0 (b.map λz=>z.cps.toList)) a
 |_,_,.nil=>.nil
 |_,_,.cons y t h=>.cons ⟨t,by rw[pG]⟩ (AC h)
section
variable{P:aR}{w:aL}{A:aY}{E:aj->ao->Prop}{s:ao}
theorem LY{v:aj}{Q:aj->ao->Prop}(u:ar (au P w) A.in1 (collect v) (λd s1=>∃ss:List Str,eE d ss/\d.length<64/\∀(i:aC) (out:Array aj) (f:List Str) (e:Nat),(∀b o,s1.heap.get? b=aa o->i.get? b=aa o) -> i.get? s1.heap.objs.size=aa (fM "list" out e)->eE out.toList f->f.Perm ss->sortedS f=ah->Q (.ref s1.heap.objs.size) {s1 with heap:=i}) E s):ar (au P w) A (call (.builtin "sorted") [v]) Q E s:=by refine HL kind_sorted plain_sorted entry_sorted (args_sorted1 _) ?_;unfold HM;refine ap (m:=checkCount "sorted" 1 1 _) (aF ?_);refine ap (aP u λd s1 ⟨ss,h,x,j⟩=>?_);refine ap (BK ?_);have g:(s1.heap.push (fM "list" d.toArray 0)).get? s1.heap.objs.size=aa (fM "list" d.toArray 0):=cG _ rfl;refine ap (kE (lv slot_list_sort ⟨_,g,rfl⟩ entry_list_sort (list_sort_treeK strKind_oneLt g h.keysOf (λa b c e=>keyKind_strs (by rw[<-e];exact h)) x λy q p=>⟨_,rfl,?_⟩) (args_list_sort _)));obtain⟨f,C,B,z⟩:=sorted_out_str h q p;obtain⟨e,r⟩:=sortedHeap_at (out:=(arrOf y).map (·.2)) g;refine aF ⟨_,rfl,j _ _ f e (λb o l=>?_) r C B z⟩;have n:b<s1.heap.objs.size:=bG l;rw[sortedHeap_old (c0 n) (by rw[jl];exact kL n)];exact bE _ l
end
section
variable{X:Cx}
theorem Inv.sorted{g:List (ag×Obj)}{f:St}{H:Hp}{s1:ao}{a:List Tx}{ss c:List Str}{d:aC}{out:Array aj}{e:Nat}(I:Inv X g f H s1)(j:ss=a.map tS)(r:a.length<64)(k:∀b o,s1.heap.get? b=aa o->d.get? b=aa o) (i:d.get? s1.heap.objs.size=aa (fM "list" out e)) (q:eE out.toList c) (p:c.Perm ss) (n:sortedS c=ah):Inv X g f (upd H s1.heap.objs.size (.lst (b0 (aX a)))) {s1 with heap:=d}:=by
 have m:c.map (λz=>z.cps.toList)=aX a:=by
  refine rV ?_ (GY n);have:=p.map λz=>z.cps.toList;rw[j,dQ]at this;have l:(a.map ((λz:Str=>z.cps.toList) ∘ tS))=a:=by simp[sF,kt]
  rw[l]at this;exact this
 have h:bL (b0 (aX a)) out.toList:=by rw[<-m];exact AC q
 refine I.laid (t':=s1.toks) k (a6 _) ⟨?_,out.toList,e,h,?_⟩
 .rw[ya,F8];exact lm (F_ ∅)
 .rw[HN];exact i
theorem Mr(z:Tx)(n:Nat):Txt.mul (tS z) (n:Int)=tS (dP n z).flatten:=by
 unfold Txt.mul;cases n with
 |zero=>simp[tS,lq]
 |succ n=>
  rw[if_neg ∅];split
  .rename_i h;simp only[yU,beq_iff_eq]at h;rcases h with h|h
   .have:n=0:=∅
    subst this;simp
   .rw[ki]at h;have:z=[]:=vB h;subst this;simp
  .unfold tS;congr 1;have b:∀(k:Nat) (a:Array Nat),(dP k z.toArray).foldl (·++·) a=a++(dP k z).flatten.toArray:=by
    intro k
    induction k with
    |zero=>intro a;simp
    |succ k c=>intro a;rw[HF,g7,c,HF,List.flatten_cons];simp[Array.append_assoc]
   have e:=b (n+1) #[];simp only[kH];simpa using e
theorem Oe:bS X (iR .Mult) (λx y H Q=>∃(z:Tx) (n:Nat),x=tV z/\y=.int n/\n<=100/\z.length<=100/\Q (tV (dP n z).flatten) H):=by
 intro w s j H x y v u Q I c b h;obtain⟨z,n,rfl,rfl,f,d,q⟩:=h;obtain⟨t,rfl⟩:=c;obtain⟨m,rfl⟩:=b;refine SB.mul ?_ λl k=>?_
 .have o:z.length*n<=10000:=cq (BM d f) (by decide);refine⟨by rw[Bool.or_eq_false_iff];constructor <;> (apply decide_eq_false;lia),λi _=>?_,λi _=>?_⟩
  .rw[ki];intro g;have r:(2^63-1:Int) / n ≥ (2^63-1) / 100:=by
    have a:(0:Int)<n:=∅
    apply (Int.le_ediv_iff_mul_le a).mpr;have:((2^63-1:Int) / 100)*n<=((2^63-1) / 100)*100:=Int.mul_le_mul_of_nonneg_left ∅ (by decide);refine Int.le_trans this (by decide)
   have p:((2^63-1:Int) / 100) > 1000:=by decide
   lia
  .rw[ki,kH];unfold Builtin.Str.tooLong;apply decide_eq_false;have:10000<bn:=by rw[sw];decide
   lia
 .rw[Mr];exact⟨tV _,H,I.tok _,⟨_,rfl⟩,q⟩
end
theorem My(t:ka)(j:Nat):(t.put j).1.led=t.led/\(t.put j).1.plain=t.plain:=⟨rfl,rfl⟩
theorem Jj(t:ka)(n:Nat):(t.orStandIn n).led=t.led/\((t.orStandIn n).plain=t.plain\/(t.orStandIn n).plain=ak):=by
 unfold SetTable.orStandIn;split
 .exact⟨rfl,.inl rfl⟩
 .exact⟨rfl,.inr rfl⟩
theorem J8(t:ka)(c:Array (Int×aj))(h:Int)(x:aj):(layNew t c h x).2.1.led=t.led/\((layNew t c h x).2.1.plain=t.plain\/(layNew t c h x).2.1.plain=ak):=by
 unfold layNew;split
 .rename_i a b _;have f:=My t a;have d:=Jj (t.put a).1 (SetTable.insertAt c (t.put a).2 (h,x)).size;exact⟨d.1.trans f.1,by rw[<-f.2];exact d.2⟩
 .exact⟨rfl,.inr rfl⟩
theorem NW(t:ka)(c:Array (Int×aj))(a:Nat)(d:t.plain=ak):(sG t c a).2.1.led=t.led/\(sG t c a).2.1.plain=ak:=by
 unfold sG;split
 .rename_i t' b e;have q:t'.led=t.led/\t'.plain=t.plain:=by
   unfold SetTable.relaid SetTable.laid at e;cases q:SetTable.layClean (SetTable.sizeAbove a-1) (c.map (·.1))with
   |none=>rw[q]at e;cases e
   |some f=>rw[q]at e;cases e;exact⟨rfl,rfl⟩
  dsimp only;split
  .exact⟨q.1,q.2.trans d⟩
  .exact⟨rfl,rfl⟩
 .exact⟨rfl,rfl⟩
def eK(w:aL):Bool:=w.params.followText "set-order"
structure kC(P:aR)(w:aL)(h:aC)(a:ag)(ks:List Str):Prop where
 ex:∃(es:Array (Int×aj)) (ep:Nat) (t:ka) (ss:List Str),h.get? a=aa {cls:=.type "set",dict:=ae,data:=.set es ep t}/\eE (es.toList.map (·.2)) ss/\ss.Perm ks/\ElemsOf (kb P w) es.toList /\
  es.size<4090/\t.fits es.size=ah/\t.led=(!eK w)/\(ks≠[]->t.plain=ak)
theorem kC.at{P:aR}{w:aL}{h h':aC}{a:ag}{ks:List Str}(S:kC P w h a ks)(k:∀o,h.get? a=aa o->h'.get? a=aa o):kC P w h' a ks:=by obtain⟨es,ep,t,ss,e,r⟩:=S.ex;exact⟨es,ep,t,ss,k _ e,r⟩
theorem FU:∀{a:List aj}{b:List Str},eE a b->∀x,x∈b↔∃t,Value.str x t∈a
 |_,_,.nil,x=>by simp
 |_,_,.cons y t h,x=>by
  rw[bI,FU h x];constructor
  .rintro(rfl|⟨t',q⟩)
   .exact⟨t,ln ..⟩
   .exact⟨t',j8 _ q⟩
  .rintro⟨t',q⟩;rcases bI.mp q with q|q
   .cases q;exact .inl rfl
   .exact .inr ⟨t',q⟩
theorem zZ:∀{a b:List aj},a.Perm b->∀{c:List Str},eE b c->∃d,eE a d/\d.Perm c:=by intro a b p c h;refine⟨a.map strOf,strsAre_map a λv f=>h.all v (p.mem_iff.mp f),?_⟩;have:=p.map strOf;rwa[h.strs]at this
section
variable{P:aR}{w:aL}{A:aY}{E:aj->ao->Prop}{s:ao}
def jZ(ks:List Str)(x:Str):List Str:=if x∈ks then ks else ks++[x]
theorem kC.put{h:aC}{a:ag}{c es':Array (Int×aj)}{b:Nat}{t t':ka}(e:h.get? a=aa {cls:=.type "set",dict:=ae,data:=.set c b t}):(h.update a (Obj.putSet es' t')).get? a=aa {cls:=.type "set",dict:=ae,data:=.set es' (b+1) t'}:=by have:=nc (Obj.putSet es' t') e (by rw[putSet_of es' t' rfl];rfl);rw[putSet_of es' t' rfl]at this;exact this
theorem Kh{a:ag}{ks:List Str}{x:Str}{g:Tok}{Q:Bool->ao->Prop}(S:kC P w s.heap a ks)(hn:ks.length<4000)(h:∀l b,kD a s.heap l->kC P w l a (jZ ks x)->Q b {s with heap:=l}):ar (au P w) A (setAddHashed a (.str x g) ((kb P w).hash x)) Q E s:=by
 obtain⟨m,ep,t,ss,W,X,hp,C,hsz,hf,qu,dj⟩:=S.ex;have v:∀y t',(kb P w).is x (.str y t')=decide (y=x):=λy t'=>by
  show vm x (.str y t')=_;rw[jG];simp[vm]
  try exact eq_comm
 have kQ:(kb P w).is x (.str x g)=ah:=by rw[v];simp
 have hb:m.size<scanBound:=BE hsz (by decide);unfold setAddHashed setAddHashedIn;refine kE (ap (sH W rfl hf ?_));dsimp only;rw[byScan_of (knd:=kb P w) (x:=.str x g) rfl hb C];simp only[if_true];unfold setAddByScan;refine ap (ap (nh (ap (wpAny_setScan_of kQ W rfl hf C ?_))));have p:x∈ks↔∃e∈m.toList,(kb P w).is x e.2=ah:=by
  rw[<-hp.mem_iff,FU X x];constructor
  .rintro⟨t',q⟩;obtain⟨e,H,ee⟩:=cb.mp q;exact⟨e,H,by rw[ee,v];simp⟩
  .rintro⟨e,H,q⟩;obtain⟨y,t',ey⟩:=X.all e.2 (cb.mpr ⟨e,H,rfl⟩);rw[ey,v]at q;have:y=x:=of_decide_eq_true q;subst this;exact⟨t',cb.mpr ⟨e,H,ey⟩⟩
 have klen:ks.length=m.size:=by
  have Z:=hp.length_eq;have Y:ss.length=m.size:=by rw[<-X.strs];simp
  lia
 cases hr:List.findIdx? (λe=>(kb P w).is x e.2) m.toList with
 |some j=>dsimp only;obtain⟨hj,hpj,_⟩:=List.findIdx?_eq_some_iff_getElem.mp hr;have T:x∈ks:=p.mpr ⟨_,BN hj,hpj⟩;refine aF (aF ?_);exact h s.heap _ (Heap.SameBut.refl a s.heap) (by unfold jZ;rw[if_pos T];exact S)
 |none=>
  dsimp only;have T:¬x∈ks:=λhm=>by obtain⟨e,H,q⟩:=p.mp hm;have:=List.findIdx?_eq_none_iff.mp hr e H;rw[q]at this;exact Bool.noConfusion this
  have J:∀(b:Bool) {i:ao}{Q':Unit->ao->Prop},Q' () i->ar (au P w) A (match b with|ah=>rule "set.scan.the-table-gave-way" |ak=>pure ()) Q' E i :=
   λb i Q' hq=>by cases b <;> first|exact aF hq|exact nh hq
  have F:=layNew_perm t m ((kb P w).hash x) (.str x g);have M:=layNew_fits t m ((kb P w).hash x) (.str x g);have z:=J8 t m ((kb P w).hash x) (.str x g);generalize hL:layNew t m ((kb P w).hash x) (.str x g)=L at F M z ⊢;obtain⟨c,t1,f,gave⟩:=L;dsimp only at F M z ⊢;rw[vC]at F;have u:ElemsOf (kb P w) c.toList:=(C.push kQ rfl).perm F;have hsz1:c.size=m.size+1:=by have:=F.length_eq;simpa using this
  have hS1:∃G,eE (c.toList.map (·.2)) G/\G.Perm (jZ ks x):=by
   have p1:=F.map (λe:Int×aj=>e.2);rw[yT]at p1;have q1:eE (m.toList.map (·.2)++[Value.str x g]) (ss++[x]):=by
    have gen:∀{vs:List aj}{zs:List Str},eE vs zs->eE (vs++[Value.str x g]) (zs++[x]):=by
     intro vs zs hh
     induction hh with
     |nil=>exact .cons x g .nil
     |cons y t _ ih=>exact .cons y t ih
    exact gen X
   obtain⟨G,O,N⟩:=zZ p1 q1;refine⟨G,O,N.trans ?_⟩;unfold jZ;rw[if_neg T];exact hp.append_right _
  obtain⟨G,O,N⟩:=hS1;have cc:jZ ks x≠[]:=by unfold jZ;rw[if_neg T];simp
  have o:∀d:ka,d.fits c.size=ah->d.led=(!eK w)->d.plain=ak->ar (au P w) A (do
    storeSet a c d
    if(!f&&d.tooFull)=ah then do
      (match (sG d c (sI c.size)).2.2 with|ah=>rule "set.scan.the-table-gave-way" |ak=>pure ())
      storeSet a (sG d c (sI c.size)).1 (sG d c (sI c.size)).2.1
      pure (aa ah)
     else pure (aa ah)) (λr s'=>∃l,r=aa ah/\s'={s with heap:=l}/\kD a s.heap l/\kC P w l a (jZ ks x)) E s:=by
   intro d hf2 kf fN;refine ap (wpAny_storeSet_of W rfl ?_ (fits_of_scanBound (BE (show c.size<4090 by lia) (by decide))));have o1:=kC.put (es':=c) (t':=d) W;have jo:=oD s.heap a (Obj.putSet c d);split
   .have K:=relayAll_perm d c (sI c.size);have B:=relayAll_fits d c (sI c.size);have n:=NW d c (sI c.size) fN;generalize hRl:sG d c (sI c.size)=Rl at K B n ⊢;obtain⟨D,t3,gave2⟩:=Rl;dsimp only at K B n ⊢;have hsz2:D.size=c.size:=by have:=K.length_eq;simpa using this
    refine ap (J _ ?_);refine ap (wpAny_storeSet_of o1 rfl ?_ (fits_of_scanBound (BE (show D.size<4090 by lia) (by decide))));obtain⟨ss2,u1,u2⟩:=zZ (K.map (λe:Int×aj=>e.2)) O;refine aF ⟨_,rfl,rfl,jo.trans (oD _ a _),⟨D,_,t3,ss2,kC.put o1,u1,u2.trans N,u.perm K,∅,B,n.1.trans kf,λ_=>n.2⟩⟩
   .exact aF ⟨_,rfl,rfl,jo,⟨c,_,d,G,o1,O,N,u,∅,hf2,kf,λ_=>fN⟩⟩
  have IB:t1.led=(!eK w):=z.1.trans qu;refine ap (J _ ?_);split
  .refine ap ?_;rw[hashByValue_scannable 8 (x:=.str x g) rfl];refine aF ?_;have hk:plainKind (.str x g)=ak:=rfl;rw[hk];simp only[jK,if_false];refine aP (o {t1 with plain:=ak} (SetTable.fits_plain_off M) IB rfl) λr s' ⟨l,Z,Y,e3,e4⟩=>?_;subst Z Y;exact aF (h l _ e3 e4)
  .rename_i I;refine ap (aF ?_);simp only[if_true];refine aP (o t1 M IB (by simpa using I)) λr s' ⟨l,Z,Y,e3,e4⟩=>?_;subst Z Y;exact aF (h l _ e3 e4)
end
def met(val:Nat->Str)(i:Nat):List Str:=((cJ i).map val).foldl jZ []
theorem FT(val:Nat->Str)(i:Nat):met val (i+1)=jZ (met val i) (val i):=by unfold met;rw[yS,yT,yW];rfl
theorem EM(val:Nat->Str){i:Nat}:∀{j:Nat},i<=j->(met val i).length<=(met val j).length
 |0,h=>by rw[show i=0 by lia];exact a6 _
 |j+1,h=>by
  by_cases e:i=j+1
  .subst e;exact a6 _
  .refine cq (EM val (j:=j) ∅) ?_;rw[FT];unfold jZ;split
   .exact a6 _
   .simp
section
variable{P:aR}{w:aL}{A:aY}{R:Result->ao->Prop}{I:ag}{c a:List ag}{G:Array GenState->Array GenState->Prop}{n:Nat}{d:Nat->aj->Prop}{St:Nat->ao->Prop}
theorem Ly(W:WalksS P w A.in1 I c a G n d St)(S:ag)(q:S∉c){J:Nat->aC->Prop}(K:∀i h j,J i h->(∀b o,b∉a->h.get? b=aa o->j.get? b=aa o)->J i j)(N:∀(i:Nat) (v:aj) (s:ao) (E:aj->ao->Prop) (Q:Bool->ao->Prop),i<n->d i v->J i s.heap->(∀j u b,s.toks<=u->kD S s.heap j->J (i+1) j->Q b {s with heap:=j,toks:=u})->ar (au P w) A.in1 (setAdd S v) Q E s):∀(k i:Nat) (s:ao),n-i=k->i<=n->St i s->J i s.heap -> (∀f,Moved (S::a) G s f->J n f.heap->R (.ok (.ret .none)) f)->p_ (au P w) A (.builtin "set.update.loop" ⟨[.ref S,.ref I],[]⟩) R s:=by
 have X:S∉a:=λh=>q (W.sub _ h);have F:∀b∈a,b∈S::a:=λb g=>j8 _ g;intro k
 induction k with
 |zero=>
  intro i s O T B y z;obtain rfl:i=n:=∅
  refine vD RW ?_;rw[yX HP _];show ar _ A.in1 (l5 (.ref I) >>= _) _ _ s;refine ap (W.done s _ _ B λf p=>?_);show ar _ A.in1 (ret Value.none) _ _ f;exact aF (z f (p.mono F) (K _ _ _ y λb o g e=>p.heap b o g e))
 |succ k M=>
  intro i s O T B y z;have C:i<n:=∅
  refine vD RW ?_;rw[yX HP _];show ar _ A.in1 (l5 (.ref I) >>= _) _ _ s;refine ap (W.item i s _ _ C B λv f Y l p=>?_);show ar _ A.in1 (ou [v] (setAdd S v) >>= _) _ _ f;refine ap (kE (N i v f _ _ C Y (K _ _ _ y λb o g e=>p.heap b o g e) λj u b D H L=>?_));refine aF ⟨BO HP _,M (i+1) _ ∅ C (W.frame _ f _ _ l D λb g o e=>?_) L λx m r=>?_⟩
  .rw[H.2 b (λh:b=S=>q (by rw[<-h];exact g))];exact e
  .refine z x (Moved.trans W.gtrans ((p.mono F).then_heap D λb o g e=>?_) m) r;rw[H.2 b (λh:b=S=>g (by rw[h];exact ln))];exact e
end
section
variable{P:aR}{w:aL}{A:aY}{E:aj->ao->Prop}{s:ao}
theorem L6(a:aj){Q:aj->ao->Prop} (h:kC P w (s.heap.push {cls:=.type "set",dict:=ae,data:=.set #[] 0 (.fresh 0 0 (!eK w))}) s.heap.objs.size [] -> Q (.ref s.heap.objs.size) {s with heap:=s.heap.push {cls:=.type "set",dict:=ae,data:=.set #[] 0 (.fresh 0 0 (!eK w))}}):p_ (au P w) A (.call (.builtin "set.__new__") ⟨[.type "set",a],[]⟩) (wants Q E) s:=by
 refine codeAny_of_tree ?_;show ar _ A.in1 (do checkBuiltinCall "set.__new__" ⟨[.type "set",a],[]⟩;again (.builtin "set.__new__" ⟨[.type "set",a],[]⟩)) _ _ s;refine ap (BP (PySem.F.newCall_set_1 a) (aF ⟨BO F.plain_set_new _,vD F.entry_set_new ?_⟩));rw[yX F.plain_set_new _];unfold Builtin.«set.__new__» Builtin.Frozenset.newClass;have i:=sub_set_self;obtain⟨j,g,d,c,f⟩:=s;dsimp only
 wp_walk
 refine sJ (aF ?_);dsimp only;simp only[newObj];refine ap (wpAny_alloc (aF ?_));refine aF (h ⟨#[],0,_,[],cG _ rfl,.nil,qg _,λe b=>by simp at b,by decide,rfl,rfl,λh=>absurd rfl h⟩)
end
end L2
set_option maxHeartbeats 8000000
namespace L2
theorem Je:entryFor table "set.__iter__"=aa Builtin.«frozenset.__iter__»:=entryFor_alias (id':="frozenset.__iter__") (by kernel_rfl) rfl (by decide +kernel) (by kernel_rfl)
theorem Ec:Slot "set_iterator" "__next__" "set_iterator.__next__" :=
 .of (owner:="set_iterator") (n:="__next__") (by rw[typeLookup_type,builtinLookup_eq_fast];kernel_rfl) (by decide +kernel) (by decide +kernel) (by decide +kernel) (by first|exact .inl (by decide +kernel)|exact .inr (by decide +kernel)) (by rw[isSubtype_type];kernel_rfl)
theorem Ml:entryFor table "set_iterator.__next__"=aa Builtin.«set_iterator.__next__»:=entryFor_of_fast (by kernel_rfl)
theorem Nx(a:aj):argsOk "set_iterator.__next__" ⟨[a],[]⟩:=by unfold argsOk;kernel_rfl
theorem CF:Slot "set_iterator" "__iter__" "set_iterator.__iter__" :=
 .of (owner:="set_iterator") (n:="__iter__") (by rw[typeLookup_type,builtinLookup_eq_fast];kernel_rfl) (by decide +kernel) (by decide +kernel) (by decide +kernel) (by first|exact .inl (by decide +kernel)|exact .inr (by decide +kernel)) (by rw[isSubtype_type];kernel_rfl)
theorem Nv:entryFor table "set_iterator.__iter__"=aa Builtin.«dict_keyiterator.__iter__»:=entryFor_alias (id':="dict_keyiterator.__iter__") (by kernel_rfl) rfl (by decide +kernel) (by kernel_rfl)
theorem IN(a:aj):argsOk "set_iterator.__iter__" ⟨[a],[]⟩:=by unfold argsOk;kernel_rfl
def i9(first:aj)(i:Nat)(a:ag)(n b:Nat):Obj:={cls:=.type "set_iterator",data:=.fields #[first,.int i 0,.ref a,.int n 0,.int b 0]}
section
variable{P:aR}{w:aL}{A:aY}{E:aj->ao->Prop}{s:ao}
theorem wt{I a:ag}{first:aj}{i n d:Nat}{Q:aj->ao->Prop}(h:s.heap.get? I=aa (i9 first i a n d))(c:Q (.ref I) s):ar (au P w) A (mZ (.ref I)) Q E s:=by
 have b:s.TypeIs (.ref I) "set_iterator":=⟨_,h,rfl⟩
 refine HQ b CF (lv CF b Nv ?_ (IN _));show ar _ _ (ret (.ref I)) _ _ s;exact aF ⟨_,rfl,"set_iterator",_,b,Ec.lookup,c⟩
theorem pt{I a:ag}{first:aj}{i:Nat}{f:Array (Int×aj)}{g:Nat}{t:ka}{Q:Option aj->ao->Prop}(n:s.heap.get? a=aa {cls:=.type "set",dict:=ae,data:=.set f g t})(m:t.fits f.size=ah)(l:s.heap.get? I=aa (i9 first i a f.size g))(h:ar (au P w) A.in1 (if let .int slot _:=first then do
    match <-ni a slot.toNat (i:Int).toNat (g:Int).toNat with
    |some (x,next)=>do
     ly (.ref I) 0 (dr next)
     ly (.ref I) 1 (dr ((i:Int)+1))
     ret x
    |none=>do ly (.ref I) 2 .none;vE (<-qh (.type "StopIteration") [])
   else do
    let aa places <-seqItems? first|unsupported "internal:set_iterator"
    match places[(i:Int).toNat]? with
    |some (.int d _)=>do
     let x <-setNextDrawn a d.toNat (g:Int).toNat
     ly (.ref I) 1 (dr ((i:Int)+1))
     ret x
    |some _=>unsupported "internal:set_iterator"
    |none=>do ly (.ref I) 0 (dr 0);ly (.ref I) 2 .none;vE (<-qh (.type "StopIteration") []))
   (λc b=>∃r,c=.done (.ret r)/\Q (aa r) b) (λe b=>ar (au P w) A (do if <-isInstance e (.type "StopIteration")then pure ae else throw e) Q E b) s) :
  ar (au P w) A (l5 (.ref I)) Q E s:=by
 have j:s.TypeIs (.ref I) "set_iterator":=⟨_,l,rfl⟩
 unfold l5;refine ap (BQ (vt (name:=sy "__next__") j Ec (lv Ec j Ml ?_ (Nx _))));unfold Builtin.«set_iterator.__next__» slotArgs;refine ap (aF ?_);refine ap (wpAny_fieldsOf l rfl ?_);show ar _ _ (setEntries a >>= _) _ _ s;refine ap (wpAny_setEntries_of n rfl m ?_);have u:(((f.size:Nat):Int) != ((f.size:Nat):Int))=ak:=by simp
 rw[u];simp only[jK,if_false];refine f8 ?_ (λc b q=>?_) (λe b q=>q) (Q:=λc b=>∃r,c=.done (.ret r)/\Q (aa r) b) (E:=λe b=>ar (au P w) A (do if <-isInstance e (.type "StopIteration")then pure ae else throw e) Q E b)
 .exact h
 .obtain⟨r,p,o⟩:=q;exact⟨r,p,aF o⟩
end
theorem Bd{a:Type}:∀{l:List a}{i:Nat} (h:i<l.length),(l[i]::l.eraseIdx i).Perm l
 |[],i,h=>by simp at h
 |x::r,0,h=>by simp
 |x::r,i+1,h=>by have q:=Bd (l:=r) (i:=i) (by simpa using h);simp only[List.getElem_cons_succ,List.eraseIdx_cons_succ];exact(List.Perm.swap x _ _).trans (List.Perm.cons x q)
theorem Ex{f:Type}(next:Nat->Nat):∀(c k:Nat) (a:List f) (b:Array f),c=a.length->(pickOrder.go next c k a b).toList.Perm (b.toList++a)
 |0,k,a,b,h=>by have:a=[]:=vB h.symm;subst this;simp[pickOrder.go]
 |c+1,k,a,b,h=>by
  have d:next k % a.length<a.length:=Nat.mod_lt _ ∅
  unfold pickOrder.go;rw[fh d];dsimp only;have g:=Ex next c (k+1) (a.eraseIdx (next k % a.length)) (b.push a[next k % a.length]) (by rw[List.length_eraseIdx,if_pos d];lia)
  refine g.trans ?_;rw[vC,gu];exact yY _ (Bd d)
theorem Em{b:Type}(next:Nat->Nat)(a:Array b):(vF next a).toList.Perm a.toList:=by
 have:=Ex next a.size 0 a.toList #[] (by simp)
 simpa[vF]using this
section
variable{P:aR}{w:aL}{A:aY}{E:aj->ao->Prop}{s:ao}
theorem OI{a:Source}{n:Nat}{Q:Nat->ao->Prop}(b:n≠0)(h:∀k d,k<n->Q k {s with drawn:=d}):ar (au P w) A (choose a n) Q E s:=λc p hΓ=>by unfold choose;rw[Sem.wp_choose];refine⟨b,?_⟩;exact h _ _ (Nat.mod_lt _ (Nat.pos_of_ne_zero b))
theorem Er{f:Type}:∀(n:Nat) (a:List f) (s:ao) (Q:List f->ao->Prop),n=a.length->(∀b d,b.Perm a->Q b {s with drawn:=d})->ar (au P w) A (drawOrder n a) Q E s
 |0,[],s,Q,_,h=>by unfold drawOrder;exact aF (h [] s.drawn (qg _))
 |0,x::a,s,Q,hn,h=>by simp at hn
 |n+1,[],s,Q,hn,h=>by simp at hn
 |n+1,x::a,s,Q,hn,h=>by unfold drawOrder;refine ap (OI (by simp) λk d c=>?_);rw[fh c];dsimp only;refine ap (Er n ((x::a).eraseIdx k) _ _ (by rw[List.length_eraseIdx,if_pos c];lia) λb i g=>?_);refine aF (h _ i ?_);exact(List.Perm.cons _ g).trans (Bd c)
theorem wD{Q:Option aj->ao->Prop}{R:Fin->ao->Prop}(f:A.handled=ae)(g:∀c,(∀b o,s.heap.get? b=aa o->c.get? b=aa o)->Q ae {s with heap:=c}):ar (au P w) A.in1 (do vE (<-qh (.type "StopIteration") [])) R (λe d=>ar (au P w) A (do if <-isInstance e (.type "StopIteration")then pure ae else throw e) Q E d) s:=by
 refine ap ?_;simp only[qh,newTuple];refine ap (jI ?_ (by size_fits));refine ap (m:=vG _ _) (BP (a:=Value.none) (by first|rfl | (simp only[vG];rfl)) ?_);refine jI ?_ (by size_fits);simp only[vE];refine ap (wpAny_handled ?_);rw[show A.in1.handled=ae from f];refine ap (aF (wpAny_throw ?_));refine ap (HR (T:="StopIteration") (b:=ah) ⟨_,cG _ rfl,rfl⟩ isSubtype_stop ?_);exact aF (g _ λb o e=>bE _ (bE _ e))
theorem AQ{I a:ag}{first d:aj}{i n f:Nat}{Q:Unit->ao->Prop}(c:s.heap.get? I=aa (i9 first i a n f))(h:∀b,kD I s.heap b->b.get? I=aa (i9 d i a n f)->Q () {s with heap:=b}):ar (au P w) A (ly (.ref I) 0 d) Q E s:=by refine nj c rfl (by simp[i9]) (h _ (oD ..) ?_);rw[nc _ c (by rfl)];rfl
theorem z5{I a:ag}{first:aj}{i n d:Nat}{Q:Unit->ao->Prop}(c:s.heap.get? I=aa (i9 first i a n d))(h:∀b,kD I s.heap b->b.get? I=aa (i9 first (i+1) a n d)->Q () {s with heap:=b}):ar (au P w) A (ly (.ref I) 1 (dr ((i:Int)+1))) Q E s:=by refine nj c rfl (by simp[i9]) (h _ (oD ..) ?_);rw[nc _ c (by rfl)];rfl
theorem xm{I a:ag}{first:aj}{i n d:Nat}{Q:Unit->ao->Prop}(c:s.heap.get? I=aa (i9 first i a n d))(h:∀b,kD I s.heap b->(∃o,b.get? I=aa o)->Q () {s with heap:=b}):ar (au P w) A (ly (.ref I) 2 .none) Q E s:=by refine nj c rfl (by simp[i9]) (h _ (oD ..) ⟨_,nc _ c (by rfl)⟩)
abbrev pO(a:Array (Int×aj))(b:Nat)(t:ka):Obj:={cls:=.type "set",dict:=ae,data:=.set a b t}
theorem Ol{I a:ag}{d:Array (Int×aj)}{g:Nat}{t:ka}(x:a≠I)(n:t.fits d.size=ah)(f:eK w=ah)(C:A.handled=ae):Walks P w A I [I,a] [I] d.size (λi v=>((vF (w.params.setOrder a g) d).toList.map (·.2))[i]?=aa v) (λi h=>h.get? I=aa (i9 (dr 0) i a d.size g)/\h.get? a=aa (pO d g t)):=by
 have hsz:(vF (w.params.setOrder a g) d).size=d.size:=by have:=(Em (w.params.setOrder a g) d).length_eq;simpa using this
 have j:∀(s:ao) (i:Nat) (Q:Option (aj×Nat)->ao->Prop) (E:aj->ao->Prop),s.heap.get? a=aa (pO d g t) ->
   Q (((vF (w.params.setOrder a g) d)[i]?).map λe=>(e.2,0)) s->ar (au P w) A.in1 (ni a (0:Int).toNat (i:Int).toNat (g:Int).toNat) Q E s:=λs i Q E u B=>by
  unfold ni;refine ap (sH u rfl n ?_);unfold yZ;refine ap (ap (sJ (aF ?_)));show ar _ _ (if eK w=ah then _ else _) _ _ s;rw[if_pos f];simp only[kH,bne_self_eq_false,jK,if_false];unfold setWalk;refine ap (ap (sH u rfl n ?_));unfold yZ;refine ap (ap (sJ (aF ?_)));show ar _ _ (if eK w=ah then _ else _) _ _ s;rw[if_pos f];refine ap (sJ (aF (aF ?_)));exact B
 refine⟨λb f=>by simp at f;simp[f],λi h H c k=>⟨k I (by simp) _ c.1,k a (by simp) _ c.2⟩,λi s Q E G c l=>?_,λs Q E c l=>?_,λi s Q E c l=>wt c.1 l⟩
 .refine pt c.2 n c.1 ?_;refine ap (j s i _ _ c.2 ?_);have y:i<(vF (w.params.setOrder a g) d).size:=∅
  rw[sK y];dsimp only[oE];refine ap (AQ c.1 λq m F=>?_);refine ap (z5 (s:={s with heap:=q}) F λp r D=>?_);refine aF ⟨_,rfl,l _ p s.toks ?_ ⟨D,?_⟩ λb o f e=>?_⟩
  .rw[eD];simp[sK y]
  .exact(r.2 a x).trans ((m.2 a x).trans c.2)
  .exact(r.2 b (by simpa using f)).trans ((m.2 b (by simpa using f)).trans e)
 .refine pt c.2 n c.1 ?_;refine ap (j s d.size _ _ c.2 ?_);rw[Array.getElem?_eq_none ∅];dsimp only[Option.map_none];refine ap (xm c.1 λq m _=>?_);exact wD (s:={s with heap:=q}) C λp z=>l p s.toks λb o f e=>z b o ((m.2 b (by simpa using f)).trans e)
theorem RE{I a T:ag}{f:Array (Int×aj)}{J:Nat}{t:ka}{c:List Nat}(cc:a≠I)(Z:T≠I)(C:t.fits f.size=ah)(G:c.Perm (cJ f.size))(Y:A.handled=ae):Walks P w A I [I,a,T] [I] f.size (λi v=>(c.filterMap λj=>(f[j]?).map (·.2))[i]?=aa v) (λi h=>h.get? I=aa (i9 (.ref T) i a f.size J)/\h.get? a=aa (pO f J t)/\h.get? T=aa {cls:=.type "tuple",data:=.seq (c.map λ(k:Nat)=>dr k).toArray}):=by
 have L:c.length=f.size:=by simpa using G.length_eq
 have p:∀j∈c,j<f.size:=λj B=>by simpa using G.mem_iff.mp B
 have fm:∀(l:List Nat),(∀j∈l,j<f.size)->∀(i j:Nat),l[i]?=aa j->∃e:Int×aj,f[j]?=aa e/\(l.filterMap λj=>(f[j]?).map (·.2))[i]?=aa e.2:=by
  intro l
  induction l with
  |nil=>intro _ i j h;simp at h
  |cons x r O=>
   intro H i j h;have S:x<f.size:=H x (ln ..);have F:f[x]?=aa f[x]:=sK S;cases i with
   |zero=>simp at h;subst h;exact⟨_,F,by rw[vo,F];rfl⟩
   |succ i=>obtain⟨e,z,y⟩:=O (λj B=>H j (j8 _ B)) i j (by simpa using h);exact⟨e,z,by rw[vo,F];simpa using y⟩
 have g:∀(s:ao) (Q:Option (Array aj)->ao->Prop) (E:aj->ao->Prop),s.heap.get? T=aa {cls:=.type "tuple",data:=.seq (c.map λ(k:Nat)=>dr k).toArray}->Q (aa (c.map λ(k:Nat)=>dr k).toArray) s->ar (au P w) A.in1 (seqItems? (.ref T)) Q E s:=λs Q E W X=>by exact wpAny_seqItems W rfl X
 refine⟨λb m=>by simp at m;simp[m],λi h h' d k=>⟨k I (by simp) _ d.1,k a (by simp) _ d.2.1,k T (by simp) _ d.2.2⟩,λi s Q E hi d q=>?_,λs Q E d q=>?_,λi s Q E d q=>wt d.1 q⟩
 .refine pt d.2.1 C d.1 ?_;refine ap (g s _ _ d.2.2 ?_);have K:i<c.length:=∅
  have u:((c.map λ(k:Nat)=>dr k).toArray)[(i:Int).toNat]?=aa (dr (c[i]:Nat)):=by simp[K]
  dsimp only;rw[u];obtain⟨e,z,y⟩:=fm c p i c[i] (fh K);show ar _ _ (setNextDrawn a _ _ >>= _) _ _ s;refine ap ?_;unfold setNextDrawn;refine ap (sH d.2.1 rfl C ?_);simp only[kH,bne_self_eq_false,jK,if_false];rw[z];refine aF ?_;refine ap (z5 d.1 λD n e2=>?_);refine aF ⟨_,rfl,q _ D s.toks y ⟨e2,(n.2 a cc).trans d.2.1,(n.2 T Z).trans d.2.2⟩ λb o m e=>(n.2 b (by simpa using m)).trans e⟩
 .refine pt d.2.1 C d.1 ?_;refine ap (g s _ _ d.2.2 ?_);have u:((c.map λ(k:Nat)=>dr k).toArray)[(f.size:Int).toNat]?=ae:=by simp[L]
  dsimp only;rw[u];refine ap (AQ d.1 λh1 N u=>?_);refine ap (xm (s:={s with heap:=h1}) u λD n _=>?_);exact wD (s:={s with heap:=D}) Y λh3 M=>q h3 s.toks λb o m e=>M b o ((n.2 b (by simpa using m)).trans ((N.2 b (by simpa using m)).trans e))
theorem JT(j k:Nat):RY #[j] k=if j<k then 1 else 0:=by
 unfold RY;simp only[cO,eU,qf];unfold HS;simp;split
 .rename_i h;unfold HS;simp
 .unfold HS;simp
theorem J_{I a:ag}{f:Array (Int×aj)}{p:Nat}{t:ka}(K:a≠I)(u:t.fits f.size=ah)(g:eK w=ak)(N:t.led=ah)(n:f.size=1)(S:A.handled=ae):Walks P w A I [I,a] [I] 1 (λi v=>(f.toList.map (·.2))[i]?=aa v) (λi h=>h.get? I=aa (i9 (dr (if i=0 then 0 else((t.place.getD 0 0:Nat):Int)+1)) i a f.size p)/\h.get? a=aa (pO f p t)):=by
 have y:t.place.size=1:=by simp only[SetTable.fits,iT,beq_iff_eq]at u;lia
 obtain⟨j,G⟩:∃j,t.place=#[j]:=by
  match m:t.place,y with
  |⟨[j]⟩,_=>exact⟨j,rfl⟩
 have J:((t.place.getD 0 0:Nat):Int)=(j:Int):=by rw[G];rfl
 obtain⟨e,H⟩:∃e,f=#[e]:=by
  match m:f,n with
  |⟨[e]⟩,_=>exact⟨e,rfl⟩
 have l:∀(s:ao) (d:Nat) (i:Nat) (Q:Option (aj×Nat)->ao->Prop) (E:aj->ao->Prop),s.heap.get? a=aa (pO f p t) ->
   Q (if j<d then ae else aa (e.2,j+1)) s->ar (au P w) A.in1 (ni a d i p) Q E s:=λs d i Q E T m=>by
  unfold ni;refine ap (sH T rfl u ?_);unfold yZ;refine ap (ap (sJ (aF ?_)));show ar _ _ (if eK w=ah then _ else _) _ _ s;rw[if_neg (by rw[g];decide)];refine y0 (λz=>absurd (show(!t.plain&&decide (f.size > 1))=ah from z) (by rw[n];simp)) (λ_=>?_);refine ap ?_;refine f8 (Q:=λ_ D=>D=s) (E:=E) ?_ (λ_ D M=>?_) (λ_ _ x=>x)
  .refine y0 (λz=>absurd (show(!t.led&&!f.isEmpty)=ah from z) (by rw[N];simp)) (λ_=>aF rfl)
  .subst M;rw[G,JT,H];by_cases L:j<d
   .rw[if_pos L]at m ⊢;exact aF m
   .rw[if_neg L]at m ⊢;exact aF m
 refine⟨λb g=>by simp at g;simp[g],λi h Y c k=>⟨k I (by simp) _ c.1,k a (by simp) _ c.2⟩,λi s Q E X c q=>?_,λs Q E c q=>?_,λi s Q E c q=>wt c.1 q⟩
 .obtain rfl:i=0:=∅
  refine pt c.2 u c.1 ?_;show ar _ _ (ni a (0:Int).toNat ((0:Nat):Int).toNat (p:Int).toNat >>= _) _ _ s;simp only[kH,Int.toNat_zero];refine ap (l s 0 0 _ _ c.2 ?_);rw[if_neg (Nat.not_lt_zero j)];dsimp only;refine ap (AQ c.1 λn r C=>?_);refine ap (z5 (s:={s with heap:=n}) C λB F W=>?_);refine aF ⟨_,rfl,q _ B s.toks ?_ ⟨?_,?_⟩ λb o g e=>?_⟩
  .rw[H];rfl
  .rw[W,if_neg (by decide),J];rfl
  .exact(F.2 a K).trans ((r.2 a K).trans c.2)
  .exact(F.2 b (by simpa using g)).trans ((r.2 b (by simpa using g)).trans e)
 .refine pt c.2 u c.1 ?_;rw[if_neg (by decide),J];show ar _ _ (ni a ((j:Int)+1).toNat ((1:Nat):Int).toNat (p:Int).toNat >>= _) _ _ s;have C:((j:Int)+1).toNat=j+1:=∅
  rw[C,kH,kH];refine ap (l s (j+1) 1 _ _ c.2 ?_);rw[if_pos (nk j)];dsimp only;refine ap (xm c.1 λn r _=>?_);exact wD (s:={s with heap:=n}) S λB O=>q B s.toks λb o g e=>O b o ((r.2 b (by simpa using g)).trans e)
theorem FJ:∀{a:List aj}{b:List Str} (i:Nat) (v:aj),eE a b->a[i]?=aa v->∃t,v=.str (b.getD i lq) t
 |_,_,i,v,.nil,h=>by simp at h
 |_,_,0,v,.cons y t _,h=>by simp at h;exact⟨t,by rw[<-h];rfl⟩
 |_,_,i+1,v,.cons y t hr,h=>by simp only[BR]at h;obtain⟨c,e⟩:=FJ i v hr h;exact⟨c,by rw[e];rfl⟩
set_option maxRecDepth 100000 in
theorem RA{l:ag}{a:Array aj}{Q:aj->ao->Prop}(hh:A.handled=ae)(hl:s.heap.IsList l a){J:Nat->aC->Prop}(hJ:∀i h d,J i h->(∀b o,b<=s.heap.objs.size->h.get? b=aa o->d.get? b=aa o)->J i d) (T:J 0 (s.heap.push {cls:=.type "set",dict:=ae,data:=.set #[] 0 (.fresh 0 0 (!eK w))}))(iV:∀(i:Nat) (v:aj) (f:ao) (E:aj->ao->Prop) (Q:Bool->ao->Prop),i<a.size->a[i]?=aa v->J i f.heap->(∀d m b,f.toks<=m->kD s.heap.objs.size f.heap d->J (i+1) d->Q b {f with heap:=d,toks:=m})->ar (au P w) A.in1.in1.in1 (setAdd s.heap.objs.size v) Q E f)(h:∀(d:aC) (m:Nat),J a.size d->(∀b o,b<s.heap.objs.size->s.heap.get? b=aa o->d.get? b=aa o)->Q (.ref s.heap.objs.size) {s with heap:=d,toks:=m}):ar (au P w) A (call (.type "set") [.ref l]) Q E s:=by
 obtain⟨c,tl,hmro⟩:=F.called_set.mro;have K:=F.called_set.made;have nz:=F.called_set.sub;refine wpAny_call (codeAny_of_tree ?_);show ar _ _ (callAny (.type "set") _) _ _ _;refine aF ⟨Code.quiet_builtin _ (by decide +kernel),vD F.entry_type_call ?_⟩;rw[Around.under_plain (weight_type_call_type "set" [.ref l] []) rfl];have h1:=F.called_set.notType;have h2:=F.called_set.canCreate;have hct:=PySem.F.typeCall_set_1 (.ref l)
 repeat any_goals (first|assumption|wp_step)
 refine yI (L6 (P:=P) (w:=w) (.ref l) (E:=E) (Q:=λp f=>p=.ref s.heap.objs.size/\f={s with heap:=s.heap.push {cls:=.type "set",dict:=ae,data:=.set #[] 0 (.fresh 0 0 (!eK w))}}/\True) λS0=>⟨rfl,rfl,trivial⟩) λr f I=>?_;cases r with
 |error e=>exact I
 |ok fl=>
  cases fl with
  |ret p=>
   obtain⟨rfl,rfl,S0⟩:=I;have hS:=cG (h:=s.heap) (o:=({cls:=.type "set",dict:=ae,data:=.set #[] 0 (.fresh 0 0 (!eK w))}:Obj));have O:(s.heap.push {cls:=.type "set",dict:=ae,data:=.set #[] 0 (.fresh 0 0 (!eK w))}).get? s.heap.objs.size=aa {cls:=.type "set",dict:=ae,data:=.set #[] 0 (.fresh 0 0 (!eK w))}:=cG _ rfl;have hT:Shared.TypeIs {s with heap:=s.heap.push {cls:=.type "set",dict:=ae,data:=.set #[] 0 (.fresh 0 0 (!eK w))}} (.ref s.heap.objs.size) "set":=⟨_,O,rfl⟩
   have hli:=F.called_set.init.lookup;have hbi:=F.called_set.init.bind (.ref s.heap.objs.size)
   repeat any_goals (first|assumption|wp_step)
   refine yI (codeAny_call_builtin (R:=wants (λr Y=>r=.none/\∃d m,Y={s with heap:=d,toks:=m}/\J a.size d /\ (∀b o,b<s.heap.objs.size->s.heap.get? b=aa o->d.get? b=aa o)) E) F.called_set.init.plain F.entry_set_init (check_set_init_1 hT ?_)) λr2 Y C=>?_
   .obtain⟨⟨Z,n,G,g⟩,oQ,eF,nl,oR⟩:=hl;simp only at eF oR;subst eF;subst oR;have q:(s.heap.push {cls:=.type "set",dict:=ae,data:=.set #[] 0 (.fresh 0 0 (!eK w))}).get? l=aa {cls:=.type "list",dict:=n,data:=.seq a nl,slots:=g}:=bE _ oQ;have hsls:=PySem.F.sub_list_set;have hslf:=PySem.F.sub_list_frozenset;have cc:(Value.type "list" == Value.type "dict")=ak:=by decide
    have X:(s.heap.push {cls:=.type "set",dict:=ae,data:=.set #[] 0 (.fresh 0 0 (!eK w))}).IsList l a:=⟨_,q,rfl,nl,rfl⟩
    unfold Builtin.«set.__init__» noKeywords Builtin.Frozenset.updateFrom;generalize S:mZ=PI
    wp_walk
    subst S;refine HJ X (ap (wpAny_runValue ?_));have x:l<s.heap.objs.size:=bG oQ;have M:A.in1.in1.in1.handled=ae:=by simp[hh]
    have j:(s.heap.push {cls:=.type "set",dict:=ae,data:=.set #[] 0 (.fresh 0 0 (!eK w))}).objs.size=s.heap.objs.size+1:=vx ..;have u:l≠(s.heap.push {cls:=.type "set",dict:=ae,data:=.set #[] 0 (.fresh 0 0 (!eK w))}).objs.size:=by rw[j];exact c0 (kL x)
    have N:s.heap.objs.size∉[(s.heap.push {cls:=.type "set",dict:=ae,data:=.set #[] 0 (.fresh 0 0 (!eK w))}).objs.size,l]:=by rw[j];simp only[bI,iu,jL,or_false,not_or];exact⟨c0 (nk _),p9 x⟩
    refine Ly ((Walks.list M _ l u a).toS) s.heap.objs.size N (λi h d L k=>hJ i h d L λb o z e=>k b o (by rw[j];simp only[iu];exact c0 (Nat.lt_succ_of_le z)) e) (λi v f E Q hi hv L hq=>iV i v f E Q hi hv L hq) (a.size-0) 0 _ ∅ (kJ _)
     ⟨⟨_,cG _ rfl,rfl,rfl⟩,(X.push _)⟩ (hJ 0 _ _ T λb o _ e=>bE _ e) ?_
    intro s' y H;obtain⟨d,g',d',B,D⟩:=s';obtain rfl:g'=s.gens:=y.gens;obtain rfl:d'=s.drawn:=y.drawn;obtain rfl:D=s.os:=y.os;show ar _ _ _ _ _ _;refine aF ?_;show ar _ _ (ret Value.none) _ _ _;refine aF ⟨rfl,d,B,rfl,H,λb o z e=>y.heap b o ?_ (bE _ (bE _ e))⟩;rw[j];simp only[bI,iu,jL,or_false,not_or];exact⟨c0 z,c0 (kL z)⟩
   .cases r2 with
    |error e=>exact C
    |ok W=>
     cases W with
     |ret r=>
      obtain⟨rfl,d,m,rfl,H,nB⟩:=C
      repeat any_goals (first|assumption|wp_step)
      exact h _ _ H nB
     |_=>exact C.elim
  |_=>exact I.elim
theorem M4{l:ag}{a:Array aj}{c:List Str}{Q:aj->ao->Prop}(y:A.handled=ae)(u:s.heap.IsList l a)(x:eE a.toList c)(B:(met (λi=>c.getD i lq) a.size).length<4000)(h:∀(d:aC) (m:Nat),kC P w d s.heap.objs.size (met (λi=>c.getD i lq) a.size)->(∀b o,b<s.heap.objs.size->s.heap.get? b=aa o->d.get? b=aa o)->Q (.ref s.heap.objs.size) {s with heap:=d,toks:=m}):ar (au P w) A (call (.type "set") [.ref l]) Q E s:=by
 refine RA y u (J:=λi h=>kC P w h s.heap.objs.size (met (λi=>c.getD i lq) i)) (λi h d S k=>S.at λo e=>k _ o (a6 _) e)
  ⟨#[],0,_,[],cG _ rfl,.nil,qg _,λe z=>by simp at z,by decide,rfl,rfl,λh=>absurd rfl h⟩ (λi v g E Q f r S q=>?_) h
 obtain⟨t,rfl⟩:=FJ i v x (by rw[oF];exact r);unfold setAdd;refine kE ?_;have p:(kb P w).is (c.getD i lq) (.str (c.getD i lq) t)=ah:=by show vm _ (.str _ t)=ah;simp[vm]
 refine ap ((kb P w).pyHash (k:=c.getD i lq) p ?_);refine Kh (s:={g with toks:=g.toks+1}) S (yQ (EM _ (lm f)) B) λd b n j=>?_;rw[<-FT (λi=>c.getD i lq)]at j;exact q d _ b (vy _) n j
end
theorem GH{n:Nat}(h:n<=4096):n<bn:=yQ h (by decide)
theorem Pf:typeLookup (.type "set") "__len__"=pure (aa (.builtin "set.__len__")):=F.slot_set_len.lookup
section
variable{P:aR}{w:aL}{A:aY}{E:aj->ao->Prop}{s:ao}
def ue(w:aL)(h:aC)(a:ag)(b:Array (Int×aj)):Prop:=∃(c:Nat) (t:ka),h.get? a=aa {cls:=.type "set",dict:=ae,data:=.set b c t}/\b.size<4090/\t.fits b.size=ah/\t.led=(!eK w)/\(b.size≠0->t.plain=ak)
theorem ue.at{w:aL}{h h':aC}{a:ag}{es:Array (Int×aj)}(S:ue w h a es)(k:∀o,h.get? a=aa o->h'.get? a=aa o):ue w h' a es:=by obtain⟨ep,t,e,r⟩:=S;exact⟨ep,t,k _ e,r⟩
theorem kC.e{h:aC}{a:ag}{ks:List Str}(S:kC P w h a ks):∃es ss,ue w h a es/\eE (es.toList.map (·.2)) ss/\ss.Perm ks:=by
 obtain⟨es,ep,t,ss,f,c,b,i,hsz,g,d,m⟩:=S.ex;refine⟨es,ss,⟨ep,t,f,hsz,g,d,λj=>m λz=>j ?_⟩,c,b⟩;have l:=b.length_eq;have n:ss.length=es.size:=by rw[<-c.strs];simp
 rw[z,qf]at l;lia
structure FG(P:aR)(w:aL)(s s':ao)(a I:ag)(es:Array (Int×aj))(fp:List ag)(n:Nat)(Pv:Nat->aj->Prop)(St:Nat->aC->Prop):Prop where
 wk:∀A:aY,A.handled=ae->Walks P w A I fp [I] n Pv St
 st:St 0 s'.heap
 old:∀b o,s.heap.get? b=aa o->s'.heap.get? b=aa o
 new:s.heap.objs.size<=I
 lt:∀b∈fp,b<s'.heap.objs.size
 rest:s'={s with heap:=s'.heap,drawn:=s'.drawn}
 ord:∀aA:Array aj,ItemsOf Pv aA n->aA.toList.Perm (es.toList.map (·.2))
 len:n<4090
 fps:∀b∈fp,b=a\/s.heap.objs.size<=b
theorem xI{l:List aj}{a:Array aj}{n:Nat}(c:l.length=n)(h:ItemsOf (λi v=>l[i]?=aa v) a n):a.toList=l:=by
 refine qi λi=>?_;by_cases b:i<n
 .have:i<a.size:=by rw[h.1];exact b
  have q:=h.2 i a[i] (sK this);rw[q];simp[this]
 .rw[oG (by rw[iQ,h.1];lia),oG ∅]
theorem Kz{I a:ag}{d:Array (Int×aj)}{j:Nat}{t:ka}(L:a≠I)(r:t.fits d.size=ah)(g:eK w=ak)(n:d.size=0)(F:A.handled=ae):Walks P w A I [I,a] [I] 0 (λi v=>(d.toList.map (·.2))[i]?=aa v) (λi h=>h.get? I=aa (i9 (dr 0) 0 a d.size j)/\h.get? a=aa (pO d j t)):=by
 have u:d=#[]:=Array.eq_empty_of_size_eq_zero n;have l:∀(s:ao) (f:Nat) (i:Nat) (Q:Option (aj×Nat)->ao->Prop) (E:aj->ao->Prop),s.heap.get? a=aa (pO d j t) ->
   Q ae s->ar (au P w) A.in1 (ni a f i j) Q E s:=λs f i Q E G C=>by
  unfold ni;refine ap (sH G rfl r ?_);unfold yZ;refine ap (ap (sJ (aF ?_)));show ar _ _ (if eK w=ah then _ else _) _ _ s;rw[if_neg (by rw[g];decide)];refine y0 (λp=>absurd (show(!t.plain&&decide (d.size > 1))=ah from p) (by rw[n];simp)) (λ_=>?_);refine ap ?_;refine f8 (Q:=λ_ q=>q=s) (E:=E) ?_ (λ_ q y=>?_) (λ_ _ x=>x)
  .refine y0 (λp=>absurd (show(!t.led&&!d.isEmpty)=ah from p) (by rw[u];simp)) (λ_=>aF rfl)
  .subst y;rw[u];have J:∀k:Nat,(#[]:Array (Int×aj))[k]?=ae:=λk=>by simp
   dsimp only;rw[J];exact aF C
 refine⟨λb g=>by simp at g;simp[g],λi h K c k=>⟨k I (by simp) _ c.1,k a (by simp) _ c.2⟩,λi s Q E D c m=>absurd D (Nat.not_lt_zero i),λs Q E c m=>?_,λi s Q E c m=>wt c.1 m⟩;refine pt c.2 r c.1 ?_;show ar _ _ (ni a (0:Int).toNat ((0:Nat):Int).toNat (j:Int).toNat >>= _) _ _ s;simp only[kH,Int.toNat_zero];refine ap (l s 0 0 _ _ c.2 ?_);dsimp only;refine ap (xm c.1 λn B _=>?_);exact wD (s:={s with heap:=n}) F λH z=>m H s.toks λb o g e=>z b o ((B.2 b (by simpa using g)).trans e)
theorem Mz{a:ag}{g:Array (Int×aj)}{Q:aj->ao->Prop}(S:ue w s.heap a g)(h:∀x I C n D St,FG P w s x a I g C n D St->Q (.ref I) x):ar (au P w) A (mZ (.ref a)) Q E s:=by
 obtain⟨M,t,l,hsz,p,qu,dj⟩:=S;have Y:s.TypeIs (.ref a) "set":=⟨_,l,rfl⟩
 have kj:=bG l;refine HQ Y F.slot_set_iter (lv F.slot_set_iter Y Je ?_ (F.args_set_iter_1 _));unfold Builtin.«frozenset.__iter__» Builtin.Frozenset.slot0 slotArgs Builtin.Frozenset.addrOf Builtin.Frozenset.sizeOf;refine ap (aF ?_);refine ap (ap (wpAny_setEntries_of l rfl p (aF ?_)));unfold setDrawn;refine ap (ap (sH l rfl p ?_));unfold yZ;refine ap (ap (sJ (aF ?_)));refine aF ?_;have i:∀(first:aj) (u:ao) (C:List ag) (n:Nat) (D:Nat->aj->Prop) (St:Nat->aC->Prop),u.heap.get? a=aa {cls:=.type "set",dict:=ae,data:=.set g M t} ->
   FG P w s {u with heap:=u.heap.push (i9 first 0 a g.size M)} a u.heap.objs.size g C n D St ->
   ar (au P w) A.in1 (do
    let e <-setEpoch a
    let f <-newFields "set_iterator" [first,dr 0,Value.ref a,dr (g.size:Nat),dr (e:Nat)]
    ret f) (λi x=>∃v,i=Fin.done (Flow.ret v)/\∃Z r,x.TypeIs v Z/\typeLookup (Value.type Z) (sy "__next__")=pure (aa r)/\Q v x) E u:=λfirst u C n D St ha W=>by
  refine ap (wpAny_setEpoch_of ha rfl p ?_);refine ap (jI ?_);exact aF ⟨_,rfl,"set_iterator",_,⟨_,cG _ rfl,rfl⟩,Ec.lookup,h _ _ C n D St W⟩
 refine y0 (λJ=>?_) (λJ=>?_)
 .have L:(!eK w&&(!t.plain&&decide (g.size > 1)))=ah:=J;refine ap (Er g.size (cJ g.size) s _ (by simp) λG d H=>?_);refine ap (wpAny_newTuple ?_ (hsz:=by rw[b7,H.length_eq,HK];exact lm (GH ∅)));refine i _ _ _ _ _ _ (bE _ l) ⟨λO q=>RE (T:=s.heap.objs.size) (c0 (by rw[jl];exact kL kj)) (c0 (by rw[jl];exact nk _)) p H q,⟨cG _ rfl,?_,?_⟩,?_,?_,?_,rfl,?_,hsz,?_⟩
  .exact bE _ (bE _ l)
  .exact bE _ (cG _ rfl)
  .exact λb o e=>bE _ (bE _ e)
  .rw[jl];exact vy _
  .intro b c;simp only[bI,jL,or_false]at c;rw[jl,jl];rcases c with rfl|rfl|rfl
   .rw[jl];exact nk _
   .exact kL (kL kj)
   .exact kL (nk _)
  .intro N m;have e0:(G.filterMap λj=>(g[j]?).map (·.2))=(G.filterMap λj=>g[j]?).map (·.2):=by rw[List.map_filterMap]
   have y:(G.filterMap λj=>g[j]?).Perm g.toList:=by have:=H.filterMap λj=>g[j]?;rwa[filterMap_getElem?_range]at this
   rw[e0]at m;rw[xI (by rw[b7,y.length_eq];simp) m];exact y.map _
  .intro b c;simp only[bI,jL,or_false]at c;rcases c with rfl|rfl|rfl
   .rw[jl];exact .inr (vy _)
   .exact .inl rfl
   .exact .inr (a6 _)
 .have L:¬(!eK w&&(!t.plain&&decide (g.size > 1)))=ah:=J;refine ap (aF ?_);cases c:eK w with
  |true=>
   refine i _ _ _ _ _ _ l ⟨λO q=>Ol (c0 kj) p c q,⟨cG _ rfl,bE _ l⟩,λb o e=>bE _ e,a6 _,?_,rfl,?_,hsz,λb c=>?_⟩
   .intro b c;simp only[bI,jL,or_false]at c;rw[jl];rcases c with rfl|rfl
    .exact nk _
    .exact kL kj
   .intro N m;have y:=Em (w.params.setOrder a M) g;rw[xI (by rw[b7,y.length_eq];simp) m];exact y.map _
   .simp only[bI,jL,or_false]at c;exact c.elim (λz=>.inr (l9 z.symm)) .inl
  |false=>
   have K:g.size=1\/g.size=0:=by
    by_cases X:g.size=0
    .exact .inr X
    .rw[c,dj X]at L;simp at L;lia
   rcases K with B|B
   .refine i _ _ _ _ _ _ l ⟨λO q=>J_ (c0 kj) p c (by rw[qu,c];rfl) B q,⟨cG _ rfl,bE _ l⟩,λb o e=>bE _ e,a6 _,?_,rfl,?_,by decide,λb c=>?_⟩
    .intro b c;simp only[bI,jL,or_false]at c;rw[jl];rcases c with rfl|rfl
     .exact nk _
     .exact kL kj
    .intro N m;rw[xI (by simp[B]) m]
    .simp only[bI,jL,or_false]at c;exact c.elim (λz=>.inr (l9 z.symm)) .inl
   .refine i _ _ _ _ _ _ l ⟨λO q=>Kz (c0 kj) p c B q,⟨cG _ rfl,bE _ l⟩,λb o e=>bE _ e,a6 _,?_,rfl,?_,by decide,λb c=>?_⟩
    .intro b c;simp only[bI,jL,or_false]at c;rw[jl];rcases c with rfl|rfl
     .exact nk _
     .exact kL kj
    .intro N m;rw[xI (by simp[B]) m]
    .simp only[bI,jL,or_false]at c;exact c.elim (λz=>.inr (l9 z.symm)) .inl
theorem JD{a:ag}{m:Array (Int×aj)}{Q:List aj->ao->Prop}(J:A.handled=ae)(S:ue w s.heap a m)(h:∀(d:ao) (C:List aj),C.Perm (m.toList.map (·.2))->(∀b o,s.heap.get? b=aa o->d.heap.get? b=aa o)->d.gens=s.gens->d.os=s.os->Q C d):ar (au P w) A (collect (.ref a)) Q E s:=by
 obtain⟨K,t,H,N,_⟩:=id S;have kj:=bG H;unfold collect;refine ap (wpAny_runValue (vD F.entry_proto_collect ?_));rw[yX F.plain_proto_collect _];show ar _ A.in1 (newList [] >>= λl=>again (.builtin "list.__iadd__" ⟨[l,.ref a],[]⟩)) _ _ s;refine ap (jI ?_);refine aF ⟨BO F.plain_list_iadd _,vD F.entry_list_iadd ?_⟩;rw[yX F.plain_list_iadd _];show ar _ A.in1 (Builtin.List.listExtendWith (.ref s.heap.objs.size) (.ref a) (.ref s.heap.objs.size)) _ _ _;unfold Builtin.List.listExtendWith;have j:∀u:ao,u.heap.get? a=aa {cls:=.type "set",dict:=ae,data:=.set m K t}->u.TypeIs (.ref a) "set":=λu e=>⟨_,e,rfl⟩
 have D:(s.heap.push {cls:=.type "list",data:=.seq ([]:List aj).toArray}).get? a=aa {cls:=.type "set",dict:=ae,data:=.set m K t}:=bE _ H;refine ap (wpAny_typeOf (j _ D) ?_);have X:Builtin.List.listSameRef (.ref s.heap.objs.size) (.ref a)=ak:=by have:¬(s.heap.objs.size=a):=p9 kj;simp[Builtin.List.listSameRef,this]
 rw[if_neg (by rw[X];decide)];refine ap (Mz (S.at λo e=>bE _ e) λr I Y n Pv St W=>?_);have v:=W.old a _ D;refine ap (kE ?_);unfold Builtin.List.listLengthHint;refine ap (wpAny_specialOf (j _ v) Pf ?_)
 wp_delta
 refine ap (HR (T:="set") (b:=ah) (j _ v) (by rw[isSubtype_type];kernel_rfl) ?_);show ar _ A.in1 (typeOf (Value.ref a) >>= _) _ _ _;refine ap (wpAny_typeOf (T:="set") (j _ v) ?_);refine aF ?_;rw[if_pos (by decide)];refine ap (nh ?_);have O:(s.heap.push {cls:=.type "list",data:=.seq ([]:List aj).toArray}).get? s.heap.objs.size=aa {cls:=.type "list",data:=.seq ([]:List aj).toArray}:=cG _ rfl;have i:=W.old _ _ O;unfold Builtin.List.listTouch;refine ap (ap (BS i rfl ?_ (by decide) (by show 1<=bn+1;decide)));have g:=get?_update_seq i (λa:Array aj=>a.push Value.none);refine BS g rfl ?_ (by show 1<=bn;decide) (by show 0<=bn+1;decide);have B:=get?_update_seq g (λa:Array aj=>a.pop);have L:s.heap.objs.size∉Y:=λz=>by
  rcases W.fps _ z with q|q
  .exact absurd kj (by rw[<-q];exact fA _)
  .rw[jl]at q;exact absurd (nk _) (Nat.not_lt.mpr q)
 have G:∀b o,b≠s.heap.objs.size->r.heap.get? b=aa o->(((r.heap.update s.heap.objs.size (j_ λa=>a.push Value.none)).update s.heap.objs.size (j_ λa=>a.pop))).get? b=aa o:=λb o f e=>by rw[HU _ _ _ _ f,HU _ _ _ _ f];exact e
 have Z:St 0 (((r.heap.update s.heap.objs.size (j_ λa=>a.push Value.none)).update s.heap.objs.size (j_ λa=>a.pop))):=(W.wk A.in1 J).frame 0 _ _ W.st λb f o e=>G b o (λz=>L (z ▸ f)) e;refine aF ⟨BO F.plain_extend_loop _,codeAny_extend_loopS (W.wk A.in1 J).toS (lm (GH (by have:=W.len;lia))) _ L _ n 0 _ _ _ rfl (kJ _) Z B (ItemsOf.nil _) λd c c' x y M=>?_⟩;show ar _ A (load s.heap.objs.size >>= _) _ _ d;refine ap (wpAny_load y ?_);refine aF (h d c.toList (W.ord c M) (λb o e=>?_) ?_ ?_)
 .have p:=bG e;refine x.heap b o (λf=>?_) (G b o (c0 p) (W.old b o (bE _ e)));rcases bI.mp f with z|z
  .exact absurd p (by rw[z];exact fA _)
  .rw[iu.mp z]at p;have:=W.new;rw[jl]at this;exact absurd p (Nat.not_lt.mpr (Nat.le_of_succ_le this))
 .rw[x.gens,W.rest]
 .rw[x.os,W.rest]
theorem M3{a:ag}{ks:List Str}{Q:List aj->ao->Prop}(p:A.handled=ae)(S:kC P w s.heap a ks)(h:∀(c:ao) (d:List aj) (ss:List Str),eE d ss->ss.Perm ks->d.length<4090->(∀b o,s.heap.get? b=aa o->c.heap.get? b=aa o)->c.gens=s.gens->c.os=s.os->Q d c):ar (au P w) A (collect (.ref a)) Q E s:=by
 obtain⟨r,ss,S,q,n⟩:=S.e;have m:r.size<4090:=by obtain⟨_,_,_,z,_⟩:=S;exact z
 refine JD p S λc d pv l j i=>?_;obtain⟨u,g,f⟩:=zZ pv q;exact h c d u g (f.trans n) (by have:=pv.length_eq;simp at this;lia) l j i
end
def fJ(a:List Tx):List Tx:=a.foldl (λks x=>if x∈ks then ks else ks++[x]) []
theorem Do(b:List Tx):met (λi=>(b.map tS).getD i lq) b.length=(fJ b).map tS:=by
 have d:∀(l:List Tx) (a:List Tx),(l.map tS).foldl jZ (a.map tS)=(l.foldl (λks x=>if x∈ks then ks else ks++[x]) a).map tS:=by
  intro l
  induction l with
  |nil=>intro a;rfl
  |cons x r g=>
   intro a;rw[b8,g7,g7];have:jZ (a.map tS) (tS x)=(if x∈a then a else a++[x]).map tS:=by
    unfold jZ;have f:tS x∈a.map tS↔x∈a:=by rw[cb];exact⟨λ⟨y,j,e⟩=>by rw[<-rn e];exact j,λh=>⟨x,h,rfl⟩⟩
    by_cases h:x∈a
    .rw[if_pos h,if_pos (f.mpr h)]
    .rw[if_neg h,if_neg (λz=>h (f.mp z)),yT];rfl
   rw[this,g]
 have e:(cJ b.length).map (λi=>(b.map tS).getD i lq)=b.map tS:=by
  refine qi λi=>?_;rw[eD];by_cases c:i<b.length
  .rw[List.getElem?_range c];simp[c]
  .rw[oG (by simpa using c),oG (by simpa using c)];rfl
 unfold met;rw[e];exact d b []
theorem Fq(l c:List Tx):(c.Nodup->(l.foldl (λks x=>if x∈ks then ks else ks++[x]) c).Nodup)/\∀x,x∈l.foldl (λks x=>if x∈ks then ks else ks++[x]) c↔x∈c\/x∈l:=by
 induction l generalizing c with
 |nil=>exact⟨λh=>h,λx=>by simp⟩
 |cons y r g=>
  rw[g7];obtain⟨m,j⟩:=g (if y∈c then c else c++[y]);refine⟨λh=>m ?_,λx=>?_⟩
  .split
   .exact h
   .rename_i d;rw[vH];exact⟨h,by simp,λa i b f=>by simp at f;subst f;exact λe=>d (e ▸ i)⟩
  .rw[j x,bI];split
   .rename_i d;constructor
    .rintro(h|h)
     .exact .inl h
     .exact .inr (.inr h)
    .rintro(h|rfl|h)
     .exact .inl h
     .exact .inl d
     .exact .inr h
   .rw[iP,iu,or_assoc]
theorem Q7(l:List Tx):(fJ l).Nodup:=(Fq l []).1 BG
theorem xq(l:List Tx)(x:Tx):x∈fJ l↔x∈l:=by rw[fJ,(Fq l []).2 x];simp
theorem O0(l:List Tx):(fJ l).length<=l.length:=by
 have b:∀(l a:List Tx),(l.foldl (λks x=>if x∈ks then ks else ks++[x]) a).length<=a.length+l.length:=by
  intro l
  induction l with
  |nil=>intro a;simp
  |cons x r c=>intro a;rw[g7];refine cq (c _) ?_;split <;> simp <;> lia
 simpa[fJ]using b l []
section
variable{X:Cx}
def o6(X:Cx)(a:ag)(b:List Tx):HO:=.ext λh=>kC X.prog X.w h a (b.map tS)
theorem LO(A:X.calm=ah):fO X (.type "set") (λg H Q=>∃(p:ag) (c:List Tx),g=[.ref p]/\cB X.K H p (b0 c)/\(fJ c).length<4000/\∀a,H a=ae->Q (.ref a) (upd H a (o6 X a (fJ c)))):=by
 intro M s C H g D Q I r h;obtain⟨p,c,rfl,y,f,q⟩:=h;obtain⟨u,rfl,m⟩:=vals1 r;cases m;obtain⟨d,i,x,F⟩:=I.list y;have z:=i.length;rw[ya]at z;refine M4 (P:=X.prog) (w:=X.w) (I.ok.hd A) x.isList (by simpa using wu i) (by rw[cO,show d.length=c.length by lia,Do,b7];exact f) λB l S k=>?_;have j:kC X.prog X.w B s.heap.objs.size ((fJ c).map tS):=by
  have e:d.toArray.size=c.length:=by rw[cO];lia
  rw[e,Do]at S;exact S
 refine⟨.ref s.heap.objs.size,_,I.laid (t':=l) (o:=o6 X s.heap.objs.size (fJ c)) (λb o e=>k b o (bG e) e) (a6 _) ?_,rfl,q _ I.fresh⟩;obtain⟨K,L,t,E,e,_⟩:=j.ex;exact⟨j,⟨_,e⟩,λJ G v n=>v.at n⟩
end
structure cS(K:ax)(mg:Str->Option aj)(x:Str)(st:bo):Prop where
 ex:∃f fd,mg x=aa (.ref f)/\pf K x x st f fd
theorem FQ{H:Hp}{p:ag}{o:HO}(h:H p=ae):Same H (upd H p o):=λb u q=>by rw[bh (rf q h)];exact q
theorem uO{a:Type}{xs:List a}{k:Int}(b:0<=k)(h:k.toNat<xs.length):fI xs k=aa xs[k.toNat]:=by
 have e:((k.toNat:Nat):Int)=k:=∅
 have q:=Pl (xs:=xs) (j:=k.toNat) (v:=xs[k.toNat]) (by simp[h]);rwa[e]at q
def Ee(N:List Str)(d a:eC)(x:Str)(c:List Str)(b:List Nat):Bool :=
 decide (a.kind=.function)&&a.names.all (λy=>(decide (y.2≠.cell)||decide (a.names.lookup y.1=aa .cell))&&(decide (y.2≠.local)||decide (a.names.lookup y.1=aa .local))&&(decide (y.2≠.free)||decide (d.names.lookup y.1=aa .cell)||decide (d.names.lookup y.1=aa .free)))
 && (decide (a.names.lookup x=aa .local)||decide (a.names.lookup x=aa .cell))&&decide c.Nodup&&decide (c.head?=aa x)&&decide (c.length=b.length+1)&&(b.zip c.tail).all λp=>(decide (N[p.1]?=aa p.2)&&decide (a.names.lookup p.2=aa .free))||(decide (N.length<=p.1)&&decide (a.names.lookup p.2=aa .local))
theorem iG.of{X:Cx}{a:eC}{x:Str}{N':List Str}{cap:List Nat}(N:List Str)(f:eC)(l:X.N=N)(c:X.env.scope=f)(h:Ee N f a x N' cap=ah):iG X a x N' cap:=by
 subst l c;simp only[Ee,iT,decide_eq_true_eq,l_,yU]at h;obtain⟨⟨⟨⟨⟨⟨r,d⟩,q⟩,p⟩,o⟩,n⟩,m⟩:=h;refine⟨r,λy b e=>(d y b).1.1.elim (λz=>absurd e z) λz=>z,λy b e=>?_,q,λy b e=>?_,p,o,n,λi j y u s=>?_⟩
 .rcases(d y b).1.2 with z|z
  .exact absurd e z
  .exact z
 .rcases(d y b).2 with(z|z)|z
  .exact absurd e z
  .exact .inl z
  .exact .inr z
 .have g:(j,y)∈cap.zip N'.tail:=by
   refine List.mem_iff_getElem?.mpr ⟨i,?_⟩;rw[List.getElem?_zip_eq_some];refine⟨s,?_⟩;rw[<-List.drop_one,BU,BD];exact u
  exact m _ g
theorem Bm(a b:Tx):i7 (tV a) (tV b)=decide (a=b):=by show(tS a == tS b)=_;rw[jG];simp only[beq_iff_eq,decide_eq_true_eq];exact⟨rn,λh=>by rw[h]⟩
end L2
namespace Pu
open L2
abbrev St:=L2.St
inductive PV where
 |non|bl (b:Bool)|int (i:Int)|str (x:Tx)|tup (xs:List PV)|lst (xs:List PV)|raw (v:V)|exc (c:aj)
def pi(a:ag)(c:aj):HO:=.ext λh=>∃o b,h.get? a=aa o/\o.cls=c/\o.data=.fields b/\o.dict=ae
def bd:Nat:=1000000
theorem kl:bd<=bn:=by rw[sw];decide
def dY:HO->Prop
 |.lst _=>True
 |.dK _=>True
 |.dT _=>True
 |.ins _ _ _=>True
 |.own _=>True
 |_=>False
mutual
def aN(K:ax)(H:Hp)(F:ag->Prop):PV->V->Prop
 |.non,v=>v=.non
 |.bl b,v=>v=.bl b
 |.int i,v=>v=.int i
 |.str x,v=>v=tV x/\x.length<=bd
 |.tup f,v=>∃a d,v=.ref a/\H a=aa (.tup d)/\aS K H F f d
 |.lst f,v=>∃a d,v=.ref a/\Rd H a (.lst d)/\F a/\aS K H F f d
 |.raw u,v=>v=u
 |.exc c,v=>∃a,v=.ref a/\H a=aa (pi a c)
def aS(K:ax)(H:Hp)(F:ag->Prop):List PV->List V->Prop
 |[],a=>a=[]
 |x::b,a=>∃v r,a=v::r/\aN K H F x v/\aS K H F b r
end
section
variable{K:ax}{H H':Hp}{F b:ag->Prop}
mutual
theorem aN.mono(i:∀a,F a->b a)(g:∀a c,F a->Rd H a (.lst c)->Rd H' a (.lst c))(f:∀a o,H a=aa o->¬dY o->H' a=aa o):∀(x:PV) (v:V),aN K H F x v->aN K H' b x v
 |.non,_,h=>h
 |.bl _,_,h=>h
 |.int _,_,h=>h
 |.str _,_,h=>h
 |.raw _,_,h=>h
 |.exc _,_,⟨a,e,h⟩=>⟨a,e,f a _ h id⟩
 |.tup c,_,⟨a,d,e,l,j⟩=>⟨a,d,e,f a _ l id,aS.mono i g f c d j⟩
 |.lst c,_,⟨a,d,e,l,m,j⟩=>⟨a,d,e,g a d m l,i a m,aS.mono i g f c d j⟩
theorem aS.mono(i:∀a,F a->b a)(g:∀a c,F a->Rd H a (.lst c)->Rd H' a (.lst c))(f:∀a o,H a=aa o->¬dY o->H' a=aa o):∀(c:List PV) (d:List V),aS K H F c d->aS K H' b c d
 |[],_,h=>h
 |x::c,_,⟨v,r,e,l,j⟩=>⟨v,r,e,aN.mono i g f x v l,aS.mono i g f c r j⟩
end
theorem aS.len:∀{a:List PV}{b:List V},aS K H F a b->b.length=a.length
 |[],_,h=>by rw[show _=[] from h];rfl
 |_::_,_,⟨_,_,e,_,c⟩=>by rw[e,eU,eU,aS.len c]
theorem aS.get:∀{c:List PV}{d:List V}{i:Nat}{x:PV},aS K H F c d->c[i]?=aa x->∃v,d[i]?=aa v/\aN K H F x v
 |[],_,_,_,_,e=>by simp at e
 |x::c,_,0,y,⟨v,r,e,h1,_⟩,q=>by simp at q;subst q;subst e;exact⟨v,rfl,h1⟩
 |x::c,_,i+1,y,⟨v,r,e,_,h2⟩,q=>by obtain⟨w,a,b⟩:=aS.get (i:=i) (x:=y) h2 (by simpa using q);subst e;exact⟨w,by simpa using a,b⟩
theorem aS.back:∀{c:List PV}{d:List V}{i:Nat}{v:V},aS K H F c d->d[i]?=aa v->∃x,c[i]?=aa x/\aN K H F x v
 |[],_,_,_,h,e=>by rw[show _=[] from h]at e;simp at e
 |x::c,_,0,y,⟨v,r,e,h1,_⟩,q=>by subst e;simp at q;subst q;exact⟨x,rfl,h1⟩
 |x::c,_,i+1,y,⟨v,r,e,_,h2⟩,q=>by subst e;obtain⟨w,a,b⟩:=aS.back (i:=i) (v:=y) h2 (by simpa using q);exact⟨w,by simpa using a,b⟩
theorem aS.app:∀{a b:List PV}{d c:List V},aS K H F a d->aS K H F b c->aS K H F (a++b) (d++c)
 |[],_,_,_,h,g=>by rw[show _=[] from h];exact g
 |x::a,_,_,_,⟨v,r,e,i,f⟩,g=>by subst e;exact⟨v,_,rfl,i,aS.app f g⟩
theorem aS.one{x:PV}{v:V}(h:aN K H F x v):aS K H F [x] [v]:=⟨v,[],rfl,h,rfl⟩
theorem aS.drop:∀(n:Nat) {a:List PV}{b:List V},aS K H F a b->aS K H F (a.drop n) (b.drop n)
 |0,_,_,h=>h
 |_+1,[],_,h=>by rw[show _=[] from h];rfl
 |n+1,_::_,_,⟨_,_,e,_,h2⟩=>by subst e;exact aS.drop n h2
theorem aS.take:∀(n:Nat) {a:List PV}{b:List V},aS K H F a b->aS K H F (a.take n) (b.take n)
 |0,_,_,_=>by rw[BV,BV];rfl
 |_+1,[],_,h=>by rw[show _=[] from h];rfl
 |n+1,_::_,_,⟨v,_,e,h1,h2⟩=>by subst e;exact⟨v,_,rfl,h1,aS.take n h2⟩
theorem aS.set{x:PV}{v:V}(c:aN K H F x v):∀(n:Nat) {a:List PV}{b:List V},aS K H F a b->aS K H F (a.set n x) (b.set n v)
 |_,[],_,h=>by rw[show _=[] from h];rfl
 |0,_::_,_,⟨_,r,e,_,h2⟩=>by subst e;exact⟨v,r,rfl,c,h2⟩
 |n+1,_::_,_,⟨w,_,e,h1,h2⟩=>by subst e;exact⟨w,_,rfl,h1,aS.set c n h2⟩
end
structure Grow(O O' F F':ag->Prop)(H H':Hp):Prop where
 fro:∀a,F a->F' a
 keep:∀b o,H b=aa o->¬O b->H' b=aa o
 there:∀b o,H b=aa o->∃o',H' b=aa o'
 fnew:∀a,F' a->F a\/H a=ae\/O a
 onew:∀a,O' a->O a\/H a=ae
theorem Grow.refl(O F:ag->Prop)(H:Hp):Grow O O F F H H:=⟨λ_ h=>h,λ_ _ h _=>h,λ_ o h=>⟨o,h⟩,λ_ h=>.inl h,λ_ h=>.inl h⟩
theorem Grow.trans{O i f F m l:ag->Prop}{H d j:Hp}(g:Grow O i F m H d)(k:Grow i f m l d j):Grow O f F l H j where
 fro:=λa h=>k.fro a (g.fro a h)
 keep:=λb o h n=>k.keep b o (g.keep b o h n) λz=>(g.onew b z).elim n λq=>by rw[q]at h;cases h
 there:=λb o h=>let ⟨o',c⟩:=g.there b o h;k.there b o' c
 fnew:=λa h=>by
  have back:d a=ae->H a=ae\/O a:=λz=>by
   cases q:H a with
   |none=>exact .inl rfl
   |some o=>obtain⟨o',c⟩:=g.there a o q;rw[z]at c;cases c
  rcases k.fnew a h with z|z|z
  .exact g.fnew a z
  .exact .inr (back z)
  .exact .inr ((g.onew a z).symm)
 onew:=λa h=>by
  rcases k.onew a h with z|z
  .exact g.onew a z
  .cases q:H a with
   |none=>exact .inr rfl
   |some o=>obtain⟨o',c⟩:=g.there a o q;rw[z]at c;cases c
def Fit(O F:ag->Prop)(H:Hp):Prop:=∀b,O b->¬F b/\∃o,H b=aa o/\dY o
section
variable{K:ax}{O c F b:ag->Prop}{H H':Hp}
theorem Grow.imm(g:Grow O c F b H H')(f:Fit O F H){a:ag}{o:HO}(h:H a=aa o)(n:¬dY o):H' a=aa o :=
 g.keep _ _ h λz=>by
  obtain⟨_,j,d,i⟩:=f a z;rw[h]at d;cases d;exact n i
theorem Grow.lst(g:Grow O c F b H H')(f:Fit O F H){a:ag}{d:List V}(i:F a)(h:Rd H a (.lst d)):Rd H' a (.lst d):=by
 have no:¬O a:=λz=>(f a z).1 i;rcases h with h|⟨o,h⟩
 .exact .inl (g.keep _ _ h no)
 .exact .inr ⟨o,g.keep _ _ h no⟩
theorem aN.grow(g:Grow O c F b H H')(f:Fit O F H){x:PV}{v:V}(h:aN K H F x v):aN K H' b x v:=aN.mono g.fro (λ_ _ a q=>g.lst f a q) (λ_ _ q n=>g.imm f q n) x v h
theorem aS.grow(g:Grow O c F b H H')(f:Fit O F H){x:List PV}{v:List V}(h:aS K H F x v):aS K H' b x v:=aS.mono g.fro (λ_ _ a q=>g.lst f a q) (λ_ _ q n=>g.imm f q n) x v h
end
theorem _root_.L2.Same.rd{H b:Hp}{a:ag}{u:HO}(e:Same H b)(h:Rd H a u):Rd b a u:=h.elim (λz=>.inl (e _ _ z)) λ⟨o,z⟩=>.inr ⟨o,e _ _ z⟩
structure Al(F F':ag->Prop)(H H':Hp):Prop where
 fro:∀a,F a->F' a
 same:Same H H'
 fnew:∀a,F' a->F a\/(H a=ae/\∃o,H' a=aa o)
theorem Al.refl(F:ag->Prop)(H:Hp):Al F F H H:=⟨λ_ h=>h,Same.refl H,λ_ h=>.inl h⟩
theorem Al.grow{F d O:ag->Prop}{H c:Hp}(a:Al F d H c):Grow O O F d H c :=⟨a.fro,λb o h _=>a.same b o h,λb o h=>⟨o,a.same b o h⟩,λb h=>(a.fnew b h).imp id λz=>.inl z.1,λ_ h=>.inl h⟩
theorem Al.rep{K:ax}{F c:ag->Prop}{H b:Hp}(a:Al F c H b){x:PV}{v:V}(h:aN K H F x v):aN K b c x v:=aN.mono a.fro (λ_ _ _ q=>a.same.rd q) (λ_ _ q _=>a.same _ _ q) x v h
theorem Al.reps{K:ax}{F c:ag->Prop}{H b:Hp}(a:Al F c H b){x:List PV}{v:List V}(h:aS K H F x v):aS K b c x v:=aS.mono a.fro (λ_ _ _ q=>a.same.rd q) (λ_ _ q _=>a.same _ _ q) x v h
theorem Al.trans{F i g:ag->Prop}{H f d:Hp}(a:Al F i H f)(b:Al i g f d):Al F g H d :=
 ⟨λc h=>b.fro c (a.fro c h),a.same.trans b.same,λc h=>by
  rcases b.fnew c h with z|⟨z,w⟩
  .rcases a.fnew c z with y|⟨y,o,q⟩
   .exact .inl y
   .exact .inr ⟨y,o,b.same _ _ q⟩
  .exact .inr ⟨a.same.free z,w⟩⟩
theorem Al.new{F:ag->Prop}{H:Hp}{l:ag}{o:HO}(h:H l=ae):Al F (λa=>F a\/a=l) H (upd H l o) :=⟨λ_ h=>.inl h,FQ h,λa z=>z.imp id λe=>by subst e;exact⟨h,o,upd_same⟩⟩
theorem Al.new0{F:ag->Prop}{H:Hp}{l:ag}{o:HO}(h:H l=ae):Al F F H (upd H l o):=⟨λ_ h=>h,FQ h,λa z=>.inl z⟩
inductive PO where
 |lst (xs:List PV)|dK (kvs:List (aE×PV))|lls (cz:List (List PV))|ins (C:ag) (fs:List (Str×PV))|dT (kvs:List (List aE×PV))|inl (C:ag) (fs:List (Str×PV)) (y:Str) (xs:List PV)
def gA:PO->Bool
 |.lls _=>ak
 |.inl ..=>ak
 |_=>ah
inductive Slot where
 |none|val (v:PV)|own (o:PO)
abbrev ai:=List Slot
def gZ(K:ax)(H:Hp)(F:ag->Prop)(a:List (aE×PV))(b:List (aE×V)):Prop:=d7 (λ(p:aE×PV) (q:aE×V)=>p.1=q.1/\aN K H F p.2 q.2) a b
def uk(K:ax)(H:Hp)(F:ag->Prop)(fs:List (Str×PV))(a:List (Str×V)):Prop:=d7 (λ(p:Str×PV) (q:Str×V)=>p.1=q.1/\aN K H F p.2 q.2) fs a
def jg(K:ax)(H:Hp)(F:ag->Prop)(a:List (List aE×PV))(b:List (List aE×V)):Prop:=d7 (λ(p:List aE×PV) (q:List aE×V)=>p.1=q.1/\aN K H F p.2 q.2) a b
def gE(K:ax)(H:Hp)(F:ag->Prop)(d:List (List PV))(f:List ag):Prop:=d7 (λ(c:List PV) (b:ag)=>∃a,H b=aa (.lst a)/\aS K H F c a) d f
def ef(K:ax)(H:Hp)(F:ag->Prop)(l:PO)(a:ag)(S:ag->Prop):Prop :=
 match l with
 |.lst i=>(∃g,H a=aa (.lst g)/\aS K H F i g)/\∀b,S b↔b=a
 |.dK f=>(∃d,H a=aa (.dK d)/\gZ K H F f d)/\∀b,S b↔b=a
 |.lls m=>∃h,H a=aa (.lst (h.map .ref))/\gE K H F m h/\h.Nodup/\a∉h/\∀b,S b↔b=a\/b∈h
 |.ins C fs=>(∃j d,H a=aa (.ins C j d)/\uk K H F fs d)/\∀b,S b↔b=a
 |.dT f=>(∃d,H a=aa (.dT d)/\jg K H F f d)/\∀b,S b↔b=a
 |.inl C fs y i=>∃j d b g,H a=aa (.ins C j (d++[(y,.ref b)]))/\uk K H F fs d/\fs.lookup y=ae/\H b=aa (.lst g)/\aS K H F i g/\a≠b/\∀c,S c↔c=a\/c=b
structure aI(K:ax)(F:ag->Prop)(S:Nat->ag->Prop)(ε:ai)(σ:St)(H:Hp):Prop where
 len:ε.length=σ.length
 ex:∀a,F a->∃o,H a=aa o
 val:∀(i:Nat) (pv:PV),ε[i]?=aa (.val pv)->∃v,σ[i]?=aa (aa v)/\aN K H F pv v
 own:∀(i:Nat) (po:PO),ε[i]?=aa (.own po)->∃a,σ[i]?=aa (aa (.ref a))/\ef K H F po a (S i)
 foot:∀(i:Nat) (b:ag),S i b->(∃po,ε[i]?=aa (.own po))/\¬F b/\∃o,H b=aa o/\dY o
 dist:∀(i j:Nat) (b:ag),S i b->S j b->i=j
def U(S:Nat->ag->Prop)(b:ag):Prop:=∃i,S i b
section
variable{K:ax}{F d:ag->Prop}{S:Nat->ag->Prop}{g:ai}{f:St}{H H':Hp}
theorem aI.fit(r:aI K F S g f H):Fit (U S) F H:=λb ⟨i,h⟩=>(r.foot i b h).2
theorem gZ.mono{a:List (aE×PV)}{b:List (aE×V)}(i:∀x v,aN K H F x v->aN K H' d x v)(h:gZ K H F a b):gZ K H' d a b:=by
 unfold gZ at h ⊢
 induction h with
 |nil=>exact .nil
 |cons r _ c=>exact .cons ⟨r.1,i _ _ r.2⟩ c
theorem uk.mono{fs:List (Str×PV)}{a:List (Str×V)}(c:∀x v,aN K H F x v->aN K H' d x v)(h:uk K H F fs a):uk K H' d fs a:=by
 unfold uk at h ⊢
 induction h with
 |nil=>exact .nil
 |cons r _ b=>exact .cons ⟨r.1,c _ _ r.2⟩ b
theorem jg.mono{a:List (List aE×PV)}{b:List (List aE×V)}(i:∀x v,aN K H F x v->aN K H' d x v)(h:jg K H F a b):jg K H' d a b:=by
 unfold jg at h ⊢
 induction h with
 |nil=>exact .nil
 |cons r _ c=>exact .cons ⟨r.1,i _ _ r.2⟩ c
theorem gE.mono{i:List (List PV)}{a:List ag}(l:∀x v,aS K H F x v->aS K H' d x v)(c:∀b o,b∈a->H b=aa o->H' b=aa o)(h:gE K H F i a):gE K H' d i a:=by
 unfold gE at h ⊢
 induction h with
 |nil=>exact .nil
 |cons r _ m=>obtain⟨j,q,p⟩:=r;exact .cons ⟨j,c _ _ (by simp) q,l _ _ p⟩ (m λb o n=>c b o (by simp[n]))
theorem ef.mono{po:PO}{a:ag}{Sa:ag->Prop}(j:∀x v,aN K H F x v->aN K H' d x v)(m:∀x v,aS K H F x v->aS K H' d x v)(c:∀b o,Sa b->H b=aa o->H' b=aa o)(h:ef K H F po a Sa):ef K H' d po a Sa:=by
 cases po with
 |lst s=>obtain⟨⟨l,e,q⟩,w⟩:=h;exact⟨⟨l,c a _ ((w a).mpr rfl) e,m _ _ q⟩,w⟩
 |dK p=>obtain⟨⟨i,e,q⟩,w⟩:=h;exact⟨⟨i,c a _ ((w a).mpr rfl) e,q.mono j⟩,w⟩
 |lls I=>obtain⟨G,e,q,B,A,w⟩:=h;exact⟨G,c a _ ((w a).mpr (.inl rfl)) e,q.mono m λb o D=>c b o ((w b).mpr (.inr D)),B,A,w⟩
 |ins C fs=>obtain⟨⟨r,i,e,q⟩,w⟩:=h;exact⟨⟨r,i,c a _ ((w a).mpr rfl) e,q.mono j⟩,w⟩
 |dT p=>obtain⟨⟨i,e,q⟩,w⟩:=h;exact⟨⟨i,c a _ ((w a).mpr rfl) e,q.mono j⟩,w⟩
 |inl C fs y s=>obtain⟨r,i,b,l,e,q,n,E,u,z,w⟩:=h;exact⟨r,i,b,l,c a _ ((w a).mpr (.inl rfl)) e,q.mono j,n,c b _ ((w b).mpr (.inr rfl)) E,m _ _ u,z,w⟩
theorem aI.al(r:aI K F S g f H)(a:Al F d H H'):aI K d S g f H' where
 len:=r.len
 ex:=λb h=>(a.fnew b h).elim (λz=>let ⟨o,q⟩:=r.ex b z;⟨o,a.same _ _ q⟩) λz=>z.2
 val:=λi pv e=>let ⟨v,l,j⟩:=r.val i pv e;⟨v,l,a.rep j⟩
 own:=λi n e=>let ⟨b,l,j⟩:=r.own i n e;⟨b,l,j.mono (λ_ _ q=>a.rep q) (λ_ _ q=>a.reps q) λc o _ q=>a.same _ _ q⟩
 foot:=λi b h=>by
  obtain⟨l,j,o,m,p⟩:=r.foot i b h;refine⟨l,λz=>?_,o,a.same _ _ m,p⟩;rcases a.fnew b z with y|⟨y,_⟩
  .exact j y
  .rw[m]at y;cases y
 dist:=r.dist
end
inductive R(α:Type) where
 |ok (a:α) (ε:ai)|er (c:aj) (ε:ai)|no
def R.bind{d b:Type}(r:R d)(k:d->ai->R b):R b:=match r with
 |.ok a ε=>k a ε
 |.er c ε=>.er c ε
 |.no=>.no
def aO{b:Type}(o:Option b)(ε:ai):R b:=match o with
 |some a=>.ok a ε
 |none=>.no
@[simp] theorem R.bind_ok{b c:Type}(a:b)(ε:ai)(k:b->ai->R c):(R.ok a ε).bind k=k a ε:=rfl
@[simp] theorem R.bind_er{b d:Type}(c:aj)(a:ai)(k:b->ai->R d):(R.er c a:R b).bind k=.er c a:=rfl
@[simp] theorem R.bind_no{a b:Type}(k:a->ai->R b):(R.no:R a).bind k=.no:=rfl
@[simp] theorem bV{c:Type}(a:c)(b:ai):aO (aa a) b=.ok a b:=rfl
@[simp] theorem SD{b:Type}(a:ai):aO (ae:Option b) a=.no:=rfl
def Ok(K:ax)(E:XK)(h:St)(F:ag->Prop)(S:Nat->ag->Prop)(H:Hp){i:Type}(r:R i)(C:i->ai->(ag->Prop)->(Nat->ag->Prop)->Hp->Prop):Prop:=match r with
 |.ok a b=>∀g f d,aI K g f b h d->Grow (U S) (U f) F g H d->C a b g f d
 |.er c b=>∀x g f d,aI K g f b h d->Grow (U S) (U f) F g H d->E c x d
 |.no=>False
section
variable{K:ax}{E:XK}{b:St}{F:ag->Prop}{S:Nat->ag->Prop}{H:Hp}{d i:Type}{C C':d->ai->(ag->Prop)->(Nat->ag->Prop)->Hp->Prop}{D:i->ai->(ag->Prop)->(Nat->ag->Prop)->Hp->Prop}
theorem Ok.imp{r:R d}(h:Ok K E b F S H r C)(f:∀a j n l m,aI K n l j b m->Grow (U S) (U l) F n H m->C a j n l m->C' a j n l m):Ok K E b F S H r C':=by
 cases r with
 |ok a j=>exact λn l m r g=>f a j n l m r g (h n l m r g)
 |er c j=>exact h
 |no=>exact h
theorem Ok.from{r:R i}{q:ag->Prop}{o:Nat->ag->Prop}{p:Hp}(h:Ok K E b F S H r D)(g:Grow (U S) (U o) F q H p):Ok K E b q o p r D:=by
 cases r with
 |ok a f=>exact λn l m j g'=>h n l m j (g.trans g')
 |er c f=>exact λx n l m j g'=>h x n l m j (g.trans g')
 |no=>exact h
theorem Ok.bind{r:R d}{k:d->ai->R i}(h:Ok K E b F S H (r.bind k) D):Ok K E b F S H r (λa ε1 m j l=>Ok K E b m j l (k a ε1) D):=by
 cases r with
 |ok a f=>exact λp n o r g=>Ok.from h g
 |er c f=>exact h
 |no=>exact h
end
structure Bx(p:Prop):Prop where
 run:p
def gf(X:Cx)(e:ay):TE:=λa H Q=>Bx (∀b s,Inv X b a H s->ar (au X.prog X.w) X.A (bi e X.env) (EP X b a Q) X.xe s)
def zy(X:Cx)(e:ay):TT:=λa H Q=>Bx (∀b s,Inv X b a H s->ar (au X.prog X.w) X.A (mY e X.env (bi e X.env)) (TP X b a Q) X.xe s)
def wpS(X:Cx)(c:bo):TS:=λD b H=>Bx (∀a s,Inv X a b H s->ar (au X.prog X.w) X.A (exec c X.env) (SP X a D) X.xe s)
def pC(X:Cx)(c:List bo):TS:=λD b H=>Bx (∀a s,Inv X a b H s->ar (au X.prog X.w) X.A (execs c X.env) (SP X a D) X.xe s)
section
variable{X:Cx}{e:ay}{b:bo}{a:List bo}
theorem bM:PE X e (gf X e):=λc s _ _ _ I h=>h.run c s I
theorem mJ:PT X e (zy X e):=λc s _ _ _ I h=>h.run c s I
theorem Eh:PS X b (wpS X b):=λc s _ _ _ I h=>h.run c s I
theorem pT:kA X a (pC X a):=λc s _ _ _ I h=>h.run c s I
theorem b_{t:TE}(h:PE X e t){c:St}{H:Hp}{Q:VK}(q:t c H Q):gf X e c H Q:=⟨λd s I=>h d s c H Q I q⟩
theorem va{t:TT}(h:PT X e t){c:St}{H:Hp}{Q:Bool->Hp->Prop}(q:t c H Q):zy X e c H Q:=⟨λd s I=>h d s c H Q I q⟩
theorem fX{t:TS}(h:PS X b t){c:St}{H:Hp}{D:jX}(q:t D c H):wpS X b D c H:=⟨λd s I=>h d s c H D I q⟩
theorem AZ{t:TS}(h:kA X a t){c:St}{H:Hp}{D:jX}(q:t D c H):pC X a D c H:=⟨λd s I=>h d s c H D I q⟩
end
def DE(X:Cx)(E:XK)(e:ay)(d:ai->R PV):Prop :=
 ∀F S b a H Q,aI X.K F S b a H->Ok X.K E a F S H (d b) (λpv _ f _ c=>∀v,aN X.K c f pv v->Q v c)->gf X e a H Q
def DN(X:Cx)(E:XK)(e:ay)(d:ai->R PO):Prop :=
 ∀F S g c H Q,aI X.K F S g c H->Ok X.K E c F S H (d g) (λj _ i l f=>∀a h,ef X.K f i j a h->(∀b,h b->H b=ae/\¬i b/\¬U l b/\∃o,f b=aa o/\dY o)->Q (.ref a) f)->gf X e c H Q
def DT(X:Cx)(E:XK)(e:ay)(d:ai->R Bool):Prop :=
 ∀F S c a H Q,aI X.K F S c a H->Ok X.K E a F S H (d c) (λb _ _ _ f=>Q b f)->zy X e a H Q
end Pu
namespace Pu
open L2
section
variable{X:Cx}{E:XK}{a b c:ay}{m db A:ai->R PV}{pos:Pos}
def dC(pv:PV):ai->R PV:=λε=>.ok pv ε
theorem a8{i j pos}:DE X E (.Constant (.int i) j pos) (dC (.int i)):=λF S f d H Q r h=>b_ Q1 (h F S H r (Grow.refl ..) _ rfl)
theorem ko{i j pos}:DE X E (.Constant (.bool i) j pos) (dC (.bl i)):=λF S f d H Q r h=>b_ N6 (h F S H r (Grow.refl ..) _ rfl)
theorem CO{j pos}:DE X E (.Constant .none j pos) (dC .non):=λF S f d H Q r h=>b_ Oo (h F S H r (Grow.refl ..) _ rfl)
theorem jB(l:Tx){x:Str}{j pos}(d:x=tS l:=by decide +kernel)(f:l.length<=bd:=by decide):DE X E (.Constant (.str x) j pos) (dC (.str l)):=λF S i g H Q r h=>b_ M0 (h F S H r (Grow.refl ..) _ (by rw[d];exact⟨rfl,f⟩))
def dV(i:Nat):ai->R PV:=λε=>match ε[i]? with
 |some (.val pv)=>.ok pv ε
 |_=>.no
theorem aq(i:Nat){x:Str}{pos:Pos}(g:X.N[i]?=aa x:=by rfl)(d:eJ X.env.scope x:=by eq_refl)(f:(x==("__debug__":Str))=ak:=by decide)(n:(x==("__classdict__":Str))=ak:=by decide):DE X E (.Name x pos) (dV i):=λF S q o H Q r h=>by
 unfold dV at h;split at h
 .rename_i p e;obtain⟨v,l,j⟩:=r.val i p e;exact b_ (fq g d f n) ⟨v,l,h F S H r (Grow.refl ..) v j⟩
 .exact h.elim
theorem Ba{x:Str}{i:Int}{pos:Pos}(h:∃t,X.mg x=aa (.int i t))(d:Gl X x:=by rfl)(f:(x==("__debug__":Str))=ak:=by decide):DE X E (.Name x pos) (dC (.int i)):=λF S j g H Q r q=>by obtain⟨t,e⟩:=h;exact b_ (FM (v:=.int i) d e ⟨t,rfl⟩ f) (q F S H r (Grow.refl ..) _ rfl)
theorem pX{x:Str}{l:Tx}{pos:Pos}(h:∃t,X.mg x=aa (.str (tS l) t))(f:Gl X x:=by rfl)(d:l.length<=bd:=by decide)(g:(x==("__debug__":Str))=ak:=by decide):DE X E (.Name x pos) (dC (.str l)):=λF S j i H Q r q=>by obtain⟨t,e⟩:=h;exact b_ (FM (v:=tV l) f e ⟨t,rfl⟩ g) (q F S H r (Grow.refl ..) _ ⟨rfl,d⟩)
def aI.frz{K:ax}{F:ag->Prop}{S:Nat->ag->Prop}{p:ai}{u:St}{H:Hp}{i:Nat}{s:List PV}(r:aI K F S p u H)(e:p[i]?=aa (.own (.lst s))):∃a y J,aI K y J (p.set i (.val (.lst s))) u H/\Grow (U S) (U J) F y H H/\u[i]?=aa (aa (.ref a))/\aN K H y (.lst s) (.ref a):=by
 obtain⟨a,I,⟨L,D,M⟩,G⟩:=r.own i _ e;have C:i<p.length:=(cE.mp e).1;have g:∀b,F b->F b\/b=a:=λb h=>.inl h;have mono:∀x v,aN K H F x v->aN K H (λb=>F b\/b=a) x v:=aN.mono g (λ_ _ _ q=>q) (λ_ _ q _=>q);have d:∀x v,aS K H F x v->aS K H (λb=>F b\/b=a) x v:=aS.mono g (λ_ _ _ q=>q) (λ_ _ q _=>q);have B:aN K H (λb=>F b\/b=a) (.lst s) (.ref a):=⟨a,L,rfl,.inl D,.inr rfl,d _ _ M⟩
 refine⟨a,λb=>F b\/b=a,λj b=>S j b/\j≠i,⟨by rw[gs];exact r.len,λb h=>?_,λj pv q=>?_,λj po q=>?_,λj b h=>?_,λj k b O N=>r.dist j k b O.1 N.1⟩,?_,I,B⟩
 .rcases h with h|rfl
  .exact r.ex b h
  .exact⟨_,D⟩
 .by_cases f:i=j
  .subst f;rw[d8 C]at q;cases q;exact⟨_,I,B⟩
  .rw[cN f]at q;obtain⟨v,n,l⟩:=r.val j pv q;exact⟨v,n,mono _ _ l⟩
 .by_cases f:i=j
  .subst f;rw[d8 C]at q;cases q
  .rw[cN f]at q;obtain⟨v,n,l⟩:=r.own j po q;refine⟨v,n,?_⟩;have w:=l.mono (H':=H) mono d λ_ _ _ z=>z;have P:(λb=>S j b/\j≠i)=S j:=by funext b;simp[c_ f]
   rw[P];exact w
 .obtain⟨⟨po,n⟩,l,w⟩:=r.foot j b h.1;refine⟨⟨po,by rw[cN (c_ h.2)];exact n⟩,λz=>?_,w⟩;rcases z with z|rfl
  .exact l z
  .exact h.2 (r.dist j i b h.1 ((G b).mpr rfl))
 .refine⟨λ_ h=>.inl h,λb o h _=>h,λb o h=>⟨o,h⟩,λb h=>?_,λb ⟨j,h⟩=>.inl ⟨j,h.1⟩⟩;rcases h with h|rfl
  .exact .inl h
  .exact .inr (.inr ⟨i,(G b).mpr rfl⟩)
def dM(i:Nat):ai->R PV:=λd=>match d[i]? with
 |some (.own (.lst f))=>.ok (.lst f) (d.set i (.val (.lst f)))
 |_=>.no
theorem Rf(i:Nat){x:Str}{pos:Pos}(l:X.N[i]?=aa x:=by rfl)(f:eJ X.env.scope x:=by eq_refl)(j:(x==("__debug__":Str))=ak:=by decide)(q:(x==("__classdict__":Str))=ak:=by decide):DE X E (.Name x pos) (dM i):=λF S w v H Q r h=>by
 unfold dM at h;split at h
 .rename_i p e;obtain⟨a,u,s,d,g,o,n⟩:=r.frz e;exact b_ (fq l f j q) ⟨_,o,h u s H d g _ n⟩
 .exact h.elim
def P2(K:ax)(r:R2)(f:PV->PV->Option PV):Prop:=∀(F:ag->Prop) (H:Hp) (x y:PV) (v u:V) (Q:VK) (pv:PV),aN K H F x v->aN K H F y u->f x y=aa pv->(∀w g d,Al F g H d->aN K d g pv w->Q w d)->r v u H Q
def d2(f:PV->PV->Option PV)(m db:ai->R PV):ai->R PV:=λε=>(m ε).bind λx ε1=>(db ε1).bind λy d=>aO (f x y) d
theorem yn{r:R2}{f:PV->PV->Option PV}(I:P2 X.K r f)(K:DE X E a m)(J:DE X E b db){F:ag->Prop}{S:Nat->ag->Prop}{l:ai}{d:St}{H:Hp}{Q:VK}(D:aI X.K F S l d H)(h:Ok X.K E d F S H (d2 f m db l) (λpv _ q _ i=>∀v,aN X.K i q pv v->Q v i)):gf X a d H λx p=>gf X b d p λy o=>r x y o Q:=by
 refine K F S l d H _ D ((Ok.bind h).imp λx j T O p s W L v B=>?_);refine J T O j d p _ s ((Ok.bind L).imp λy z P N o G M g u C=>?_);cases e:f x y with
 |none=>rw[e]at g;exact g.elim
 |some pv=>rw[e]at g;exact I P o x y v u Q pv (B.grow M s.fit) C e λw q i al n=>g q N i (G.al al) al.grow w n
theorem cP{d:Operator}{r:R2}{f:PV->PV->Option PV}(j:bS X (iR d) r)(i:P2 X.K r f)(n:DE X E a m)(l:DE X E b db):DE X E (.BinOp a d b pos) (d2 f m db):=λF S p o H Q g h=>b_ (IQ j bM bM) (yn i n l g h)
theorem pW{d:CmpOp}{r:R2}{f:PV->PV->Option PV}(j:bS X (d9 d) r)(i:P2 X.K r f)(o:DE X E a m)(n:DE X E b db)(l:p8 d b=ak):DE X E (.Compare a [d] [b] pos) (d2 f m db):=λF S q p H Q g h=>b_ (Pq j bM bM l) (yn i o n g h)
def nK:PV->Option Bool
 |.bl b=>aa b
 |_=>ae
def dB(d:ai->R PV):ai->R Bool:=λε=>(d ε).bind λx ε1=>aO (nK x) ε1
theorem GP{K:ax}{H:Hp}{F:ag->Prop}{x:PV}{v:V}{k:Bool}(h:aN K H F x v)(e:nK x=aa k):v=.bl k:=by
 cases x <;> simp[nK]at e;subst e;exact h
theorem tP{F:ag->Prop}{S:Nat->ag->Prop}{j:ai}{i:St}{H:Hp}{Q:Bool->Hp->Prop}{d:ai->R PV}(h:Ok X.K E i F S H (dB d j) (λk _ _ _ g=>Q k g)):Ok X.K E i F S H (d j) (λpv _ s _ g=>∀v,aN X.K g s pv v->∃k,v=.bl k/\Q k g):=by
 refine(Ok.bind h).imp λx l r p q o u f v n=>?_;cases e:nK x with
 |none=>rw[e]at f;exact f.elim
 |some k=>rw[e]at f;exact⟨k,GP n e,f r p q o (Grow.refl ..)⟩
theorem fP{d:CmpOp}{r:R2}{f:PV->PV->Option PV}(j:bS X (d9 d) r)(i:P2 X.K r f)(o:DE X E a m)(n:DE X E b db)(l:p8 d b=ak):DT X E (.Compare a [d] [b] pos) (dB (d2 f m db)):=λF S s q H Q g h=>va (LM j bM bM l) (yn (Q:=λx p=>∃k,x=.bl k/\Q k p) i o n g (tP h))
theorem mU{e:ay}{d:ai->R PV}(n:DE X E e d)(l:∀f,mY e X.env f=(do let v <-f;standAt e.pos;ou [v] (truthy v)):=by intro _;rfl):DT X E e (dB d):=λF S i g H Q j h=>va (PF bM l) (n F S i g H _ j (tP h))
def pB(f g:PV->PV->Option PV)(m db A:ai->R PV):ai->R PV:=λj=>(m j).bind λx i=>(db i).bind λy d=>(aO ((f x y).bind nK) d).bind λk d=>
 match k with
 |true=>(A d).bind λz h=>aO (g y z) h
 |false=>.ok (.bl ak) d
theorem Gz{r O:R2}{f g:PV->PV->Option PV}(hp:P2 X.K r f)(fi:P2 X.K O g)(ha:DE X E a m)(hb:DE X E b db)(hc:DE X E c A){F:ag->Prop}{S:Nat->ag->Prop}{B:ai}{j:St}{H:Hp}{Q:VK}(rl:aI X.K F S B j H)(h:Ok X.K E j F S H (pB f g m db A B) (λpv _ l _ i=>∀v,aN X.K i l pv v->Q v i)):zQ r O (gf X a) (gf X b) (gf X c) j H Q:=by
 refine ha F S B j H _ rl ((Ok.bind h).imp λx s F1 S1 H1 N g1 h1 v rv=>?_);refine hb F1 S1 s j H1 _ N ((Ok.bind h1).imp λy n T L P r2 g2 d u M=>?_);cases e:f x y with
 |none=>rw[e]at d;exact d.elim
 |some pv=>
  rw[e]at d;refine hp T P x y v u _ pv (rv.grow g2 N.fit) M e λw l i al D=>?_;cases K:nK pv with
  |none=>rw[g8,K]at d;exact d.elim
  |some k=>
   rw[g8,K]at d;refine⟨k,GP D K,?_⟩;have I:=r2.al al;cases k with
   |false=>exact mE (Ok.from d al.grow l L i I (Grow.refl ..) _ rfl)
   |true=>
    have h3:Ok X.K E j T L P ((A n).bind λz q=>aO (g y z) q) (λpv _ l _ i=>∀v,aN X.K i l pv v->Q v i):=d;refine mM (hc l L n j i _ I ((Ok.bind (Ok.from h3 al.grow)).imp λz W F4 S4 H4 r4 g4 p Z G=>?_));cases J:g y z with
    |none=>rw[J]at p;exact p.elim
    |some pz=>rw[J]at p;exact fi F4 H4 y z u Z Q pz ((al.rep M).grow g4 I.fit) G J λY F5 H5 o C=>p F5 S4 H5 (r4.al o) o.grow Y C
theorem Q5{i d:CmpOp}{r j:R2}{f g:PV->PV->Option PV}(o:bS X (d9 i) r)(v:bS X (d9 d) j)(n:P2 X.K r f)(w:P2 X.K j g)(u:DE X E a m)(s:DE X E b db)(q:DE X E c A)(p:lastMarks [i,d] [b,c]=ak:=by with_unfolding_all rfl):DE X E (.Compare a [i,d] [b,c] pos) (pB f g m db A):=λF S y x H Q l h=>b_ (Og o v bM bM bM p) (Gz n w u s q l h)
theorem Kn{i d:CmpOp}{r j:R2}{f g:PV->PV->Option PV}(o:bS X (d9 i) r)(v:bS X (d9 d) j)(n:P2 X.K r f)(w:P2 X.K j g)(u:DE X E a m)(s:DE X E b db)(q:DE X E c A)(p:lastMarks [i,d] [b,c]=ak:=by with_unfolding_all rfl):DT X E (.Compare a [i,d] [b,c] pos) (dB (pB f g m db A)):=λF S B z H Q l h=>va (ON o v bM bM bM p) (Gz (Q:=λx y=>∃k,x=.bl k/\Q k y) n w u s q l (tP h))
variable{n B:ai->R Bool}{rest:List ay}
def DW(X:Cx)(E:XK)(e:ay)(d:ai->R Bool):Prop:=∀F S g f H Q,aI X.K F S g f H->Ok X.K E f F S H (d g) (λb _ _ _ i=>Q b i)->∀(h:Sem aj) af s,Inv X af f H s->ar (au X.prog X.w) X.A (mY e X.env h) (TP X af f Q) X.xe s
def K7(X:Cx)(e:ay):TT:=λd H Q=>∀(f:Sem aj) af s,Inv X af d H s->ar (au X.prog X.w) X.A (mY e X.env f) (TP X af d Q) X.xe s
theorem GC{e:ay}:PW X e (K7 X e):=λd f s _ _ _ I h=>h d f s I
theorem DW.dt{e:ay}{d:ai->R Bool}(h:DW X E e d):DT X E e d:=λF S ε f H Q g q=>⟨λi s I=>h F S ε f H Q g q _ i s I⟩
def o5(n B:ai->R Bool):ai->R Bool:=λε=>(n ε).bind λk d=>match k with
 |true=>B d
 |false=>.ok ak d
def kh(n B:ai->R Bool):ai->R Bool:=λε=>(n ε).bind λk d=>match k with
 |true=>.ok ah d
 |false=>B d
def iX(n:ai->R Bool):ai->R Bool:=λε=>(n ε).bind λk ε1=>.ok (!k) ε1
theorem Js(h:DT X E a n):DW X E (.BoolOp .And [a] pos) n:=λF S f d H Q g q i j s I=>N5 mJ i j s d H Q I (h F S f d H Q g q)
theorem tY(h:DT X E a n):DW X E (.BoolOp .Or [a] pos) n:=λF S f d H Q g q i j s I=>MA mJ i j s d H Q I (h F S f d H Q g q)
theorem L9(u:DT X E a n)(r:DW X E (.BoolOp .And (b::rest) pos) B):DW X E (.BoolOp .And (a::b::rest) pos) (o5 n B):=λF S o d H Q p q v w s I=>by
 refine Mo mJ GC v w s d H Q I (u F S o d H _ p ((Ok.bind q).imp λk f l i j g x h=>?_));cases k with
 |true=>exact mM (r l i f d j Q g h)
 |false=>exact mE (h l i j g (Grow.refl ..))
theorem t8(u:DT X E a n)(r:DW X E (.BoolOp .Or (b::rest) pos) B):DW X E (.BoolOp .Or (a::b::rest) pos) (kh n B):=λF S o d H Q p q v w s I=>by
 refine Of mJ GC v w s d H Q I (u F S o d H _ p ((Ok.bind q).imp λk f l i j g x h=>?_));cases k with
 |true=>exact mM (h l i j g (Grow.refl ..))
 |false=>exact mE (r l i f d j Q g h)
theorem nR(j:DT X E a n):DT X E (.UnaryOp .Not a pos) (iX n):=λF S g d H Q h q=>va (KJ mJ) (j F S g d H _ h ((Ok.bind q).imp λk f r o p i s l=>l r o p i (Grow.refl ..)))
def my(m db:ai->R PV):ai->R PV:=λf=>(dB m f).bind λk d=>match k with
 |true=>db d
 |false=>.ok (.bl ak) d
def FH(m db:ai->R PV):ai->R PV:=λf=>(dB m f).bind λk d=>match k with
 |true=>.ok (.bl ah) d
 |false=>db d
def ym(m:ai->R PV):ai->R PV:=λf=>(dB m f).bind λk d=>.ok (.bl (!k)) d
theorem GA{d:ai->R PV}{q:Type}{D:q->ai->(ag->Prop)->(Nat->ag->Prop)->Hp->Prop}{k:Bool->ai->R q}{F:ag->Prop}{S:Nat->ag->Prop}{p:ai}{o:St}{H:Hp}{P:Bool->Hp->Prop}(h:Ok X.K E o F S H ((dB d p).bind k) D) (f:∀c g l j i,aI X.K l j g o i->Grow (U S) (U j) F l H i->Ok X.K E o l j i (k c g) D->P c i):Ok X.K E o F S H (d p) (λpv _ y _ r=>∀v,aN X.K r y pv v->∃c,v=.bl c/\P c r):=by have u:=(Ok.bind h).imp (C':=λc g l j i=>P c i) λc g l j i s x w=>f c g l j i s x w;exact tP u
theorem tE{op}{d:ai->R PV}(h:DE X E a d):DE X E (.BoolOp op [a] pos) d:=λF S g f H Q i q=>b_ (Lz bM) (h F S g f H Q i q)
theorem rQ(s:DE X E a m)(r:DE X E (.BoolOp .And (b::rest) pos) db):DE X E (.BoolOp .And (a::b::rest) pos) (my m db):=λF S o f H Q p q=>by
 refine b_ (Jd bM bM) (s F S o f H _ p (GA q λk d l i j g u h=>?_));cases k with
 |true=>exact mM (r l i d f j Q g h)
 |false=>exact mE (h l i j g (Grow.refl ..) _ rfl)
theorem Py(j:DE X E a m):DE X E (.UnaryOp .Not a pos) (ym m):=λF S g d H Q h q=>b_ (P8 bM) (j F S g d H _ h (GA q λk f r o p i s l=>l r o p i (Grow.refl ..) _ rfl))
def cu{d:Type}(t:ai->R Bool)(m db:ai->R d):ai->R d:=λε=>(t ε).bind λk ε1=>match k with
 |true=>m ε1
 |false=>db ε1
theorem NZ(r:DT X E c n)(u:DE X E a m)(s:DE X E b db):DE X E (.IfExp c a b pos) (cu n m db):=λF S o f H Q p q=>by
 refine b_ (Ms mJ bM bM) (r F S o f H _ p ((Ok.bind q).imp λk d l i j g v h=>?_));cases k with
 |true=>exact mM (u l i d f j Q g h)
 |false=>exact mE (s l i d f j Q g h)
def P1(K:ax)(r:V->Hp->VK->Prop)(f:PV->Option PV):Prop:=∀(F:ag->Prop) (H:Hp) (x:PV) (v:V) (Q:VK) (pv:PV),aN K H F x v->f x=aa pv->(∀w g d,Al F g H d->aN K d g pv w->Q w d)->r v H Q
def d1(f:PV->Option PV)(m:ai->R PV):ai->R PV:=λε=>(m ε).bind λx ε1=>aO (f x) ε1
theorem Ov{r:V->Hp->VK->Prop}{f:PV->Option PV}(z:P1 X.K r f)(C:DE X E a m){F:ag->Prop}{S:Nat->ag->Prop}{j:ai}{d:St}{H:Hp}{Q:VK}(u:aI X.K F S j d H)(h:Ok X.K E d F S H (d1 f m j) (λpv _ p _ i=>∀v,aN X.K i p pv v->Q v i)):gf X a d H λx o=>r x o Q:=by
 refine C F S j d H _ u ((Ok.bind h).imp λx q G D o y I g v s=>?_);cases e:f x with
 |none=>rw[e]at g;exact g.elim
 |some pv=>rw[e]at g;exact z G o x v Q pv s e λw p i al l=>g p D i (y.al al) al.grow w l
theorem pI{d:UnaryOp}{r:V->Hp->VK->Prop}{f:PV->Option PV}(j:yD X (unaryOp d) r)(i:P1 X.K r f)(l:DE X E a m):DE X E (.UnaryOp d a pos) (d1 f m):=λF S p o H Q g h=>b_ (P0 j bM) (Ov i l g h)
end
def o0(X:Cx)(d:List ay):TA:=λb H Q=>Bx (∀a c s,Inv X c b H s->ar (au X.prog X.w) X.A (spliced (eO a (aZ d X.env))) (AP X c b Q) X.xe s)
def DA(X:Cx)(E:XK)(h:List ay)(d:ai->R (List PV)):Prop :=
 ∀F S c a H Q,aI X.K F S c a H->Ok X.K E a F S H (d c) (λb _ i _ g=>∀f,aS X.K g i b f->Q f g)->o0 X h a H Q
section
variable{X:Cx}{E:XK}{a b c e:ay}{j:List ay}{D db G d:ai->R PV}{m:ai->R (List PV)}{pos:Pos}
theorem ii{j:List ay}:PA X j (o0 X j):=λpos f s _ _ _ I h=>h.run pos f s I
theorem pc{t:TA}(h:PA X j t){f:St}{H:Hp}{Q:List V->Hp->Prop}(q:t f H Q):o0 X j f H Q:=⟨λpos g s I=>h pos g s f H Q I q⟩
def aD:ai->R (List PV):=λε=>.ok [] ε
def aB(d:ai->R PV)(m:ai->R (List PV)):ai->R (List PV):=λε=>(d ε).bind λx ε1=>(m ε1).bind λg f=>.ok (x::g) f
theorem bf:DA X E [] aD:=λF S i g H Q f h=>pc kn (h F S H f (Grow.refl ..) _ rfl)
theorem MY(y:DE X E e d)(w:DA X E j m)(u:aZ (e::j) X.env=(ak,bi e X.env)::aZ j X.env:=by rfl):DA X E (e::j) (aB d m):=λF S n g H Q q h=>by refine pc (jb bM ii u) (y F S n g H _ q ((Ok.bind h).imp λx f M I K i O A v p=>?_));refine w M I f g K _ i ((Ok.bind A).imp λN l L C J r B z o s=>?_);exact z L C J r (Grow.refl ..) _ ⟨v,o,rfl,p.grow B i.fit,s⟩
theorem aI.more{K:ax}{F N:ag->Prop}{S:Nat->ag->Prop}{p:ai}{n:St}{H:Hp}(r:aI K F S p n H)(s:∀b,N b->¬U S b/\∃o,H b=aa o):aI K (λb=>F b\/N b) S p n H:=by
 have mono:∀x v,aN K H F x v->aN K H (λb=>F b\/N b) x v:=aN.mono (λ_ h=>.inl h) (λ_ _ _ q=>q) (λ_ _ q _=>q);have f:∀x v,aS K H F x v->aS K H (λb=>F b\/N b) x v:=aS.mono (λ_ h=>.inl h) (λ_ _ _ q=>q) (λ_ _ q _=>q);refine⟨r.len,λb h=>h.elim (r.ex b) λz=>(s b z).2,λi pv e=>?_,λi u e=>?_,λi b h=>?_,r.dist⟩
 .obtain⟨v,l,g⟩:=r.val i pv e;exact⟨v,l,mono _ _ g⟩
 .obtain⟨v,l,g⟩:=r.own i u e;exact⟨v,l,g.mono mono f λ_ _ _ z=>z⟩
 .obtain⟨l,g,y⟩:=r.foot i b h;exact⟨l,λz=>z.elim g λw=>(s b w).1 ⟨i,h⟩,y⟩
def zP:PO->Option PV
 |.lst f=>aa (.lst f)
 |_=>ae
def dF(d:ai->R PO):ai->R PV:=λε=>(d ε).bind λf ε1=>aO (zP f) ε1
theorem DN.de{d:ai->R PO}(h:DN X E e d):DE X E e (dF d):=λF S ε s H Q A q=>by
 unfold dF at q;refine h F S ε s H Q A ?_;cases i:d ε with
 |no=>rw[i]at q;exact q.elim
 |er c u=>rw[i]at q;exact q
 |ok I ε1=>
  rw[i]at q;intro P l n B f a r J p;cases I with
  |dK g=>exact q.elim
  |lls T=>exact q.elim
  |ins C fs=>exact q.elim
  |dT g=>exact q.elim
  |inl C fs y v=>exact q.elim
  |lst v=>
   have N:∀b,r b->¬U l b/\∃o,n b=aa o:=λb z=>let ⟨_,_,x3,o,x4,_⟩:=p b z;⟨x3,o,x4⟩
   obtain⟨⟨x,L,K⟩,M⟩:=J;have O:Grow (U S) (U l) F (λb=>P b\/r b) H n:=⟨λb z=>.inl (f.fro b z),f.keep,f.there,λb z=>z.elim (f.fnew b) λw=>.inr (.inl (p b w).1),f.onew⟩
   exact q _ l n (B.more N) O _ ⟨a,x,rfl,.inl L,.inr ((M a).mpr rfl),aS.mono (λ_ z=>.inl z) (λ_ _ _ z=>z) (λ_ _ z _=>z) _ _ K⟩
def cW(f:List PV):Option PV:=if f.length<=1000 then aa (.tup f)else ae
def dE(f:List PV):Option PO:=if f.length<=1000 then aa (.lst f)else ae
def dL{g:Type}(f:List PV->Option g)(m:ai->R (List PV)):ai->R g:=λε=>(m ε).bind λh ε1=>aO (f h) ε1
def PL(K:ax)(r:List V->Hp->VK->Prop)(f:List PV->Option PV):Prop:=∀(F:ag->Prop) (H:Hp) (h:List PV) (i:List V) (Q:VK) (pv:PV),aS K H F h i->f h=aa pv->(∀w l g,Al F l H g->aN K g l pv w->Q w g)->r i H Q
def lS(K:ax)(r:List V->Hp->VK->Prop)(f:List PV->Option PO):Prop:=∀(F:ag->Prop) (H:Hp) (i:List PV) (l:List V) (Q:VK) (n:PO),(∀a,F a->∃o,H a=aa o)->aS K H F i l->f i=aa n ->
 (∀a h g p,Al F h H g->ef K g h n a p->(∀b,p b->H b=ae/\¬h b/\∃o,g b=aa o/\dY o)->Q (.ref a) g)->r l H Q
theorem AM{r:List V->Hp->VK->Prop}{f:List PV->Option PV}(B:PL X.K r f)(C:DA X E j m){F:ag->Prop}{S:Nat->ag->Prop}{o:ai}{g:St}{H:Hp}{Q:VK}(y:aI X.K F S o g H)(h:Ok X.K E g F S H (dL f m o) (λpv _ s _ n=>∀v,aN X.K n s pv v->Q v n)):o0 X j g H λi q=>r i q Q:=by
 refine C F S o g H _ y ((Ok.bind h).imp λi u J I q z K l x A=>?_);cases e:f i with
 |none=>rw[e]at l;exact l.elim
 |some pv=>rw[e]at l;exact B J q i x Q pv A e λw s n al p=>l s I n (z.al al) al.grow w p
theorem kX{O i F l:ag->Prop}{H f:Hp}(g:Grow O i F l H f){b:ag}(h:f b=ae):H b=ae:=by
 cases q:H b with
 |none=>rfl
 |some o=>obtain⟨o',e⟩:=g.there b o q;rw[h]at e;cases e
theorem xz{r:List V->Hp->VK->Prop}{f:List PV->Option PO}(P:lS X.K r f)(T:DA X E j m){F:ag->Prop}{S:Nat->ag->Prop}{u:ai}{l:St}{H:Hp}{Q:VK}(M:aI X.K F S u l H)(h:Ok X.K E l F S H (dL f m u) (λx _ s S' g=>∀a q,ef X.K g s x a q->(∀b,q b->H b=ae/\¬s b/\¬U S' b/\∃o,g b=aa o/\dY o)->Q (.ref a) g)):o0 X j l H λn y=>r n y Q:=by
 refine T F S u l H _ M ((Ok.bind h).imp λn C F1 Z y v W p L O=>?_);cases e:f n with
 |none=>rw[e]at p;exact p.elim
 |some x=>
  rw[e]at p;refine P F1 y n L Q x v.ex O e λa s g q al N Y=>p s Z g (v.al al) al.grow a q N λb z=>?_;obtain⟨A,K,o,J,I⟩:=Y b z;refine⟨kX W A,K,λ⟨i,w⟩=>?_,o,J,I⟩;obtain⟨_,_,o',B,_⟩:=v.foot i b w;rw[A]at B;cases B
theorem Af{n:Nat}(h:n<=1000):n<=bn:=lm (F_ h)
theorem LX{K:ax}:PL K (λf H Q=>f.length<=bn/\∀p,H p=ae->Q (.ref p) (upd H p (.tup f))) cW:=λF H f i Q pv g e q=>by
 unfold cW at e;split at e
 .cases e;refine⟨by rw[g.len];exact Af (by assumption),λp h=>q _ F _ (Al.new0 h) ⟨p,i,rfl,upd_same,(Al.new0 h).reps g⟩⟩
 .cases e
theorem uf{K:ax}{F:ag->Prop}{H:Hp}{l:ag}{g:List PV}{f:List V}(i:H l=ae)(h:aS K H F g f):ef K (upd H l (.lst f)) F (.lst g) l (λb=>b=l):=⟨⟨f,upd_same,(Al.new0 i).reps h⟩,λb=>kM⟩
theorem ux{F:ag->Prop}{H:Hp}{l:ag}{o:HO}(g:H l=ae)(i:∀a,F a->∃o,H a=aa o)(h:dY o):∀b,b=l->H b=ae/\¬F b/\∃f,(upd H l o) b=aa f/\dY f:=λb z=>by
 subst z;exact⟨g,(λw=>by obtain⟨o,q⟩:=i b w;rw[g]at q;cases q),o,upd_same,h⟩
theorem Qt{K:ax}:lS K (λf H Q=>f.length<=bn/\∀p,H p=ae->Q (.ref p) (upd H p (.lst f))) dE:=λF H f l Q n i h e q=>by
 unfold dE at e;split at e
 .cases e;exact⟨by rw[h.len];exact Af (by assumption),λp g=>q p F _ _ (Al.new0 g) (uf g h) (ux g i trivial)⟩
 .cases e
theorem kY{x1}(h:DA X E j m):DE X E (.Tuple j x1 pos) (dL cW m):=λF S i g H Q f q=>b_ (KA ii) (AM LX h f q)
theorem q_(h:DA X E j m):DN X E (.List j pos) (dL dE m):=λF S i g H Q f q=>b_ (QL ii) (xz Qt h f q)
theorem lX(h:DA X E j m):DE X E (.List j pos) (dF (dL dE m)):=(q_ h).de
variable{x:Str}{p:Pos}{A T:String}{r:List V->Hp->VK->Prop}{f:List PV->Option PV}{B:List PV->Option PO}
theorem eL(v:fO X (.builtin A) r)(l:PL X.K r f)(o:X.mg x=ae)(i:fg x=aa (.builtin A))(w:DA X E (e::j) m)(s:Gl X x:=by rfl)(n:x≠"__name__":=by decide)(h:(x==("__debug__":Str))=ak:=by decide)(u:aZ (e::j) X.env=(ak,bi e X.env)::aZ j X.env:=by rfl) (y:(eO pos (aZ j X.env)).any (·.1)=ak:=by rfl):DE X E (.Call (.Name x p) (e::j) [] pos) (dL f m):=λF S C z H Q g q=>b_ (lZ v s o i ii n h u y) (AM l w g q)
theorem wN(v:fO X (.builtin A) r)(l:lS X.K r B)(o:X.mg x=ae)(i:fg x=aa (.builtin A))(w:DA X E (e::j) m)(s:Gl X x:=by rfl)(n:x≠"__name__":=by decide)(h:(x==("__debug__":Str))=ak:=by decide)(u:aZ (e::j) X.env=(ak,bi e X.env)::aZ j X.env:=by rfl) (y:(eO pos (aZ j X.env)).any (·.1)=ak:=by rfl):DN X E (.Call (.Name x p) (e::j) [] pos) (dL B m):=λF S C z H Q g q=>b_ (lZ v s o i ii n h u y) (xz l w g q)
theorem yA(v:fO X (.type T) r)(l:PL X.K r f)(o:X.mg x=ae)(i:fg x=aa (.type T))(w:DA X E (e::j) m)(s:Gl X x:=by rfl)(n:x≠"__name__":=by decide)(h:(x==("__debug__":Str))=ak:=by decide)(u:aZ (e::j) X.env=(ak,bi e X.env)::aZ j X.env:=by rfl) (y:(eO pos (aZ j X.env)).any (·.1)=ak:=by rfl):DE X E (.Call (.Name x p) (e::j) [] pos) (dL f m):=λF S C z H Q g q=>b_ (A2 v s o i ii n h u y) (AM l w g q)
theorem EV(v:fO X (.type T) r)(l:lS X.K r B)(o:X.mg x=ae)(i:fg x=aa (.type T))(w:DA X E (e::j) m)(s:Gl X x:=by rfl)(n:x≠"__name__":=by decide)(h:(x==("__debug__":Str))=ak:=by decide)(u:aZ (e::j) X.env=(ak,bi e X.env)::aZ j X.env:=by rfl) (y:(eO pos (aZ j X.env)).any (·.1)=ak:=by rfl):DN X E (.Call (.Name x p) (e::j) [] pos) (dL B m):=λF S C z H Q g q=>b_ (A2 v s o i ii n h u y) (xz l w g q)
theorem dS{r:R2}{f:PV->PV->Option PV}(l:mv X r)(n:P2 X.K r f)(q:DE X E a D)(o:DE X E b db)(i:AA b:=by exact λ_ _=>rfl):DE X E (.Subscript a b pos) (d2 f D db):=λF S u s H Q g h=>b_ (EJ l bM bM i) (yn n q o g h)
def AI(X:Cx)(e:Option ay):TO:=λg H Q=>Bx (∀h s,Inv X h g H s->ar (au X.prog X.w) X.A (evalPart e X.env) (λu l=>∃o i,Inv X h g i l/\m9 u o/\Q o i) X.xe s)
theorem C0{o:Option ay}:L2.PO X o (AI X o):=λg s _ _ _ I h=>h.run g s I
theorem G0{o:Option ay}{t:TO}(h:L2.PO X o t){g:St}{H:Hp}{Q:Option Int->Hp->Prop}(q:t g H Q):AI X o g H Q:=⟨λi s I=>h i s g H Q I q⟩
def DO(X:Cx)(E:XK)(e:Option ay)(d:ai->R (Option Int)):Prop:=∀F S h g H Q,aI X.K F S h g H->Ok X.K E g F S H (d h) (λo _ _ _ i=>Q o i)->AI X e g H Q
def dU:ai->R (Option Int):=λε=>.ok ae ε
def iK:PV->Option Int
 |.int i=>aa i
 |_=>ae
def cU(d:ai->R PV):ai->R (Option Int):=λε=>(d ε).bind λx ε1=>aO ((iK x).map aa) ε1
theorem km:DO X E ae dU:=λF S l i H Q g h=>G0 L7 (h F S H g (Grow.refl ..))
theorem ju(w:DE X E e d):DO X E (aa e) (cU d):=λF S o l H Q s h=>by
 refine G0 (NY bM) (w F S o l H _ s ((Ok.bind h).imp λx n C y z u I g v q=>?_));cases x <;> first|exact(show False from g).elim|skip
 rename_i i;exact⟨i,q,g C y z u (Grow.refl ..)⟩
def dm{i:Type}(f:PV->Option Int->Option Int->Option i)(d:ai->R PV)(o n:ai->R (Option Int)):ai->R i:=λε=>(d ε).bind λx ε1=>(o ε1).bind λl h=>(n h).bind λu g=>aO (f x l u) g
def Fd(K:ax)(r:V->Option Int->Option Int->Hp->VK->Prop)(f:PV->Option Int->Option Int->Option PV):Prop:=∀(F:ag->Prop) (H:Hp) (x:PV) (h i:Option Int) (v:V) (Q:VK) (pv:PV),aN K H F x v->f x h i=aa pv->(∀w l g,Al F l H g->aN K g l pv w->Q w g)->r v h i H Q
theorem j5{r:V->Option Int->Option Int->Hp->VK->Prop}{f:PV->Option Int->Option Int->Option PV}{C I:Option ay}{K J:ai->R (Option Int)}{W:Pos}(Z:mG X r)(hp:Fd X.K r f)(he:DE X E e d)(hl:DO X E C K)(Y:DO X E I J):DE X E (.Subscript e (.Slice C I ae W) pos) (dm f d K J):=λF S M i H Q O h=>by
 refine b_ (Nd Z bM C0 C0) (he F S M i H _ O ((Ok.bind h).imp λx o F1 S1 H1 z g1 h1 v N=>?_));refine hl F1 S1 o i H1 _ z ((Ok.bind h1).imp λl n F2 S2 H2 y g2 h2=>?_);refine Y F2 S2 n i H2 _ y ((Ok.bind h2).imp λu L F3 S3 H3 P g3 g=>?_);cases s:f x l u with
 |none=>rw[s]at g;exact g.elim
 |some pv=>rw[s]at g;exact hp F3 H3 x l u v Q pv ((N.grow g2 z.fit).grow g3 y.fit) s λw F' H' al q=>g F' S3 H' (P.al al) al.grow w q
end
inductive aM where
 |next|ret (s:Slot)|brk|cont
def uN(K:ax)(H:Hp)(F:ag->Prop)(s:Slot)(v:V)(c:ag->Prop):Prop:=match s with
 |.val pv=>aN K H F pv v/\∀b,¬c b
 |.own d=>∃a,v=.ref a/\ef K H F d a c
 |.none=>False
def iY(b:List Nat)(c a:St):Prop:=∀i∈b,a[i]?=c[i]?
theorem iY.refl(a:List Nat)(b:St):iY a b b:=λ_ _=>rfl
theorem iY.trans{c:List Nat}{g f d:St}(a:iY c g f)(b:iY c f d):iY c g d:=λi h=>(b i h).trans (a i h)
theorem iY.set{a:List Nat}{b:St}{i:Nat}{x:Option V}(h:i∉a):iY a b (b.set i x):=λj c=>by rw[cN (by rintro rfl;exact h c)]
def u8(f:ag->Prop)(c:Nat->ag->Prop)(d:Hp)(a:ag->Prop):Prop:=∀b,a b->¬f b/\¬U c b/\∃o,d b=aa o/\dY o
def il(K:ax)(E:XK)(i:List Nat)(j:St)(F:ag->Prop)(S:Nat->ag->Prop)(H:Hp)(r:R aM)(D:jX):Prop:=match r with
 |.ok .next f=>∀g h a d,aI K g h f a d->Grow (U S) (U h) F g H d->iY i j a->D.nx a d
 |.ok .brk f=>∀g h a d,aI K g h f a d->Grow (U S) (U h) F g H d->iY i j a->D.bk a d
 |.ok .cont f=>∀g h a d,aI K g h f a d->Grow (U S) (U h) F g H d->iY i j a->D.ct a d
 |.ok (.ret s) f=>∀v g h a d l,aI K g h f a d->Grow (U S) (λb=>U h b\/l b) F g H d->iY i j a->uN K d g s v l->u8 g h d l->D.rt v d
 |.er c f=>∀x g h a d,aI K g h f a d->Grow (U S) (U h) F g H d->iY i j a->E c x d
 |.no=>False
def DS(X:Cx)(E:XK)(b:List Nat)(f:bo)(d:ai->R aM):Prop:=∀F S c a H D,aI X.K F S c a H->il X.K E b a F S H (d c) D->wpS X f D a H
def iC(X:Cx)(E:XK)(b:List Nat)(f:List bo)(d:ai->R aM):Prop:=∀F S c a H D,aI X.K F S c a H->il X.K E b a F S H (d c) D->pC X f D a H
section
variable{K:ax}{E:XK}{b:List Nat}{d i:St}{F m:ag->Prop}{S j:Nat->ag->Prop}{H l:Hp}{D:jX}
theorem il.from{r:R aM}(h:il K E b d F S H r D)(g:Grow (U S) (U j) F m H l)(p:iY b d i):il K E b i m j l r D:=by
 cases r with
 |no=>exact h
 |er c y=>exact λx w q a u n g' o=>h x w q a u n (g.trans g') (p.trans o)
 |ok f y=>
  cases f with
  |next=>exact λw q a u n g' o=>h w q a u n (g.trans g') (p.trans o)
  |brk=>exact λw q a u n g' o=>h w q a u n (g.trans g') (p.trans o)
  |cont=>exact λw q a u n g' o=>h w q a u n (g.trans g') (p.trans o)
  |ret s=>exact λv w q a u z n g' o=>h v w q a u z n (g.trans g') (p.trans o)
theorem il.bindE{o:Type}{r:R o}{k:o->ai->R aM}(h:il K E b d F S H (r.bind k) D):Ok K E d F S H r (λa f m j l=>il K E b d m j l (k a f) D):=by
 cases r with
 |no=>exact h
 |er c g=>exact λx u q s p n=>h x u q d s p n (iY.refl _ _)
 |ok a g=>exact λu q s p n=>h.from n (iY.refl _ _)
end
section
variable{X:Cx}{E:XK}{pin:List Nat}{l:bo}{rest:List bo}{d d1 d2:ai->R aM}{e:ay}{de:ai->R PV}{pos:Pos}
def ez:ai->R aM:=λε=>.ok .next ε
theorem hU:iC X E pin [] ez:=λF S c a H D b h=>AZ Kk (h F S a H b (Grow.refl ..) (iY.refl _ _))
def aG(d1 d2:ai->R aM):ai->R aM:=λε=>match d1 ε with
 |.ok .next ε1=>d2 ε1
 |r=>r
theorem bq(u:DS X E pin l d1)(q:iC X E pin rest d2):iC X E pin (l::rest) (aG d1 d2):=λF S i m H D n h=>by
 refine AZ (Jp Eh pT) (u F S i m H {D with nx:=pC X rest D} n ?_);unfold aG at h;split at h
 .rename_i g w;rw[w];exact λz x b y o v p=>q z x g b y D o (h.from v p)
 .rename_i r j;generalize d1 i=r1 at h j;cases r1 with
  |no=>exact h
  |er c a=>exact h
  |ok f a=>
   cases f with
   |next=>exact absurd rfl (j a)
   |brk=>exact h
   |cont=>exact h
   |ret s=>exact h
theorem bt(f:DS X E pin l d1):iC X E pin [l] d1:=λF S b a H D c h=>AZ (Kg Eh) (f F S b a H D c h)
def yv(f:aM):ai->R aM:=λa=>.ok f a
def GL(d:ai->R PV):ai->R aM:=λb=>(d b).bind λ_ a=>.ok .next a
def bY(d:ai->R PV):ai->R aM:=λε=>(d ε).bind λx ε1=>.ok (.ret (.val x)) ε1
theorem Grow.cup{O c F i:ag->Prop}{H f:Hp}(g:Grow O c F i H f):Grow O (λb=>c b\/False) F i H f:=⟨g.fro,g.keep,g.there,g.fnew,λa h=>h.elim (g.onew a) l7⟩
theorem dJ(j:DE X E e de):DS X E pin (.Return (aa e) pos) (bY de):=λF S c a H D g h=>fX (wT bM) (j F S c a H _ g (h.bindE.imp λx b p n o i q m v f=>m v p n a o (λ_=>False) i (Grow.refl ..).cup (iY.refl _ _) ⟨f,λ_ z=>z⟩ λ_ z=>z.elim))
theorem QM:DS X E pin (.Return ae pos) (yv (.ret (.val .non))):=λF S c a H D b h=>fX Rg (h _ F S a H (λ_=>False) b (Grow.refl ..).cup (iY.refl _ _) ⟨rfl,λ_ z=>z⟩ λ_ z=>z.elim)
def oY(d:ai->R PO):ai->R aM:=λε=>(d ε).bind λx ε1=>.ok (.ret (.own x)) ε1
theorem ES{dn:ai->R PO}(u:DN X E e dn):DS X E pin (.Return (aa e) pos) (oY dn):=λF S j g H D p h=>by
 refine fX (wT bM) (u F S j g H _ p ?_);unfold oY at h;cases i:dn j with
 |no=>rw[i]at h;exact h.elim
 |er c o=>rw[i]at h;exact λx J B G r v=>h x J B g G r v (iY.refl _ _)
 |ok K n=>rw[i]at h;intro I A C q f a y s m;exact h _ I A g C y q ⟨f.fro,f.keep,f.there,f.fnew,λb z=>z.elim (f.onew b) λw=>.inr (m b w).1⟩ (iY.refl _ _) ⟨a,rfl,s⟩ λb z=>let ⟨_,x2,x3,x4⟩:=m b z;⟨x2,x3,x4⟩
def jz(i:Nat):ai->R aM:=λa=>match a[i]? with
 |some (.own b)=>.ok (.ret (.own b)) (a.set i .none)
 |_=>.no
theorem aI.drop{K:ax}{F:ag->Prop}{S:Nat->ag->Prop}{c:ai}{n:St}{H:Hp}(r:aI K F S c n H)(i:Nat):aI K F (λj b=>S j b/\j≠i) (c.set i .none) n H:=by
 have no:∀{j s},(c.set i .none)[j]?=aa s->s≠.none->j≠i/\c[j]?=aa s:=λ{j s} e q=>by
  by_cases f:i=j
  .subst f;by_cases u:i<c.length
   .rw[d8 u]at e;exact absurd (cQ e).symm q
   .rw[oG (by rw[gs];lia)]at e;cases e
  .rw[cN f]at e;exact⟨c_ f,e⟩
 refine⟨by rw[gs];exact r.len,r.ex,λj pv e=>r.val j pv (no e (by intro z;cases z)).2,λj po e=>?_,λj b h=>?_,λj k b m g=>r.dist j k b m.1 g.1⟩
 .obtain⟨f,e⟩:=no e (by intro z;cases z);obtain⟨a,m,g⟩:=r.own j po e;have v:(λb=>S j b/\j≠i)=S j:=by funext b;simp[f]
  exact⟨a,m,by rw[v];exact g⟩
 .obtain⟨⟨po,p⟩,o⟩:=r.foot j b h.1;exact⟨⟨po,by rw[cN (c_ h.2)];exact p⟩,o⟩
theorem uH(i:Nat){x:Str}{p:Pos}(s:X.N[i]?=aa x:=by rfl)(n:eJ X.env.scope x:=by eq_refl)(r:(x==("__debug__":Str))=ak:=by decide)(v:(x==("__classdict__":Str))=ak:=by decide):DS X E pin (.Return (aa (.Name x p)) pos) (jz i):=λF S y f H D c h=>by
 unfold jz at h;split at h
 .rename_i g e;obtain⟨a,u,m⟩:=c.own i g e;refine fX (wT (fq s n r v)) ⟨_,u,h _ F (λj b=>S j b/\j≠i) f H (S i) (c.drop i) ⟨λ_ z=>z,λ_ _ z _=>z,λ_ o z=>⟨o,z⟩,λ_ z=>.inl z,λb z=>?_⟩ (iY.refl _ _) ⟨a,rfl,m⟩ λb z=>?_⟩
  .rcases z with⟨j,z,_⟩|z
   .exact .inl ⟨j,z⟩
   .exact .inl ⟨i,z⟩
  .exact⟨(c.foot i b z).2.1,λ⟨j,w,q⟩=>q (c.dist j i b w z),(c.foot i b z).2.2⟩
 .exact h.elim
theorem aI.set{K:ax}{F:ag->Prop}{S:Nat->ag->Prop}{ε:ai}{g:St}{H:Hp}{i:Nat}{pv:PV}{v:V}(r:aI K F S ε g H)(h:aN K H F pv v):aI K F (λj b=>S j b/\j≠i) (ε.set i (.val pv)) (g.set i (aa v)) H:=by
 have o:=r.drop i;have len:(ε.set i (.val pv)).length=(g.set i (aa v)).length:=by rw[gs,gs];exact r.len
 refine⟨len,r.ex,λj p e=>?_,λj po e=>?_,λj b h=>?_,o.dist⟩
 .by_cases c:i=j
  .subst c;have f:i<ε.length:=by have:=(cE.mp e).1;rw[gs]at this;exact this
   rw[d8 f]at e;cases e;exact⟨v,d8 (by rw[<-r.len];exact f),h⟩
  .rw[cN c]at e;obtain⟨w,n,m⟩:=r.val j p e;exact⟨w,by rw[cN c];exact n,m⟩
 .have c:i≠j:=by
   rintro rfl;have f:i<ε.length:=by have:=(cE.mp e).1;rw[gs]at this;exact this
   rw[d8 f]at e;cases e
  rw[cN c]at e;obtain⟨a,n,m⟩:=r.own j po e;have u:(λb=>S j b/\j≠i)=S j:=by funext b;simp[c_ c]
  exact⟨a,by rw[cN c];exact n,by rw[u];exact m⟩
 .obtain⟨⟨po,q⟩,s⟩:=o.foot j b h;refine⟨⟨po,?_⟩,s⟩;rw[cN (c_ h.2)]at q ⊢;exact q
theorem Grow.less{S:Nat->ag->Prop}{F:ag->Prop}{H:Hp}(i:Nat):Grow (U S) (U λj b=>S j b/\j≠i) F F H H:=⟨λ_ z=>z,λ_ _ z _=>z,λ_ o z=>⟨o,z⟩,λ_ z=>.inl z,λb ⟨j,z⟩=>.inl ⟨j,z.1⟩⟩
theorem aI.setOwn{K:ax}{F:ag->Prop}{S:Nat->ag->Prop}{o:ai}{v:St}{H:Hp}{i:Nat}{q:PO}{a:ag}{Sa:ag->Prop}(r:aI K F S o v H)(n:i<o.length)(h:ef K H F q a Sa)(s:u8 F S H Sa):aI K F (λj b=>(S j b/\j≠i)\/(j=i/\Sa b)) (o.set i (.own q)) (v.set i (aa (.ref a))) H:=by
 have A:=r.drop i;refine⟨by rw[gs,gs];exact r.len,r.ex,λj p e=>?_,λj g e=>?_,λj b h=>?_,λj k b f c=>?_⟩
 .have m:i≠j:=by rintro rfl;rw[d8 n]at e;cases e
  rw[cN m]at e;obtain⟨w,f,c⟩:=r.val j p e;exact⟨w,by rw[cN m];exact f,c⟩
 .by_cases m:i=j
  .subst m;rw[d8 n]at e;cases e;have u:(λb=>(S i b/\i≠i)\/(i=i/\Sa b))=Sa:=by funext b;simp
   exact⟨a,d8 (by rw[<-r.len];exact n),by rw[u];exact h⟩
  .rw[cN m]at e;obtain⟨C,f,c⟩:=r.own j g e;have u:(λb=>(S j b/\j≠i)\/(j=i/\Sa b))=S j:=by funext b;simp[c_ m]
   exact⟨C,by rw[cN m];exact f,by rw[u];exact c⟩
 .rcases h with h|⟨rfl,h⟩
  .obtain⟨⟨g,x⟩,B⟩:=A.foot j b h;refine⟨⟨g,?_⟩,B⟩;rw[cN (c_ h.2)]at x ⊢;exact x
  .obtain⟨z,D,y⟩:=s b h;exact⟨⟨q,d8 n⟩,z,y⟩
 .rcases f with f|⟨rfl,f⟩ <;> rcases c with c|⟨rfl,c⟩
  .exact r.dist j k b f.1 c.1
  .exact absurd ⟨j,f.1⟩ (s b c).2.1
  .exact absurd ⟨k,c.1⟩ (s b f).2.1
  .rfl
def bQ(i:Nat)(d:ai->R PV):ai->R aM:=λa=>(d a).bind λx ε1=>.ok .next (ε1.set i (.val x))
theorem fQ(i:Nat){x:Str}{p:Pos}(u:X.N.Nodup)(s:DE X E e de)(o:i∉pin:=by decide)(q:X.N[i]?=aa x:=by rfl)(m:Loc X.env.scope x:=by first|exact Or.inl rfl|exact Or.inr rfl)(n:jj e (aa (.Name x p)) pos.line X.env=pure ak:=by rfl)(r:X.fn x=ah\/X.env.scope.names.lookup x=aa .local:=by first|exact .inl rfl|exact .inr rfl):DS X E pin (.Assign [.Name x p] e pos) (bQ i de):=λF S c a H D g h=>fX (Bg u q m bM n r) (s F S c a H _ g (h.bindE.imp λx b z B y j A w v f=>w z _ _ y (j.set f) (Grow.less i) (iY.set o)))
def cV(i:Nat)(d:ai->R PO):ai->R aM:=λε=>(d ε).bind λx ε1=>if i<ε1.length then .ok .next (ε1.set i (.own x))else .no
theorem kr(i:Nat){x:Str}{p:Pos}{dn:ai->R PO}(K:X.N.Nodup)(J:DN X E e dn)(C:i∉pin:=by decide)(G:X.N[i]?=aa x:=by rfl)(A:Loc X.env.scope x:=by first|exact Or.inl rfl|exact Or.inr rfl)(B:jj e (aa (.Name x p)) pos.line X.env=pure ak:=by rfl)(I:X.fn x=ah\/X.env.scope.names.lookup x=aa .local:=by first|exact .inl rfl|exact .inr rfl):DS X E pin (.Assign [.Name x p] e pos) (cV i dn):=λF S q o H D u h=>by
 refine fX (Bg K G A bM B I) (J F S q o H _ u ?_);unfold cV at h;cases n:dn q with
 |no=>rw[n]at h;exact h.elim
 |er c s=>rw[n]at h;exact λx Q M O w L=>h x Q M o O w L (iY.refl _ _)
 |ok T g=>
  rw[n]at h;simp only[R.bind_ok]at h;intro P Y N v f a W y r;by_cases m:i<g.length
  .rw[if_pos m]at h;refine h P _ _ N (v.setOwn m y λb z=>(r b z).2) ⟨f.fro,f.keep,f.there,f.fnew,λb ⟨j,z⟩=>?_⟩ (iY.set C);rcases z with z|⟨_,z⟩
   .exact f.onew b ⟨j,z.1⟩
   .exact .inr (r b z).1
  .rw[if_neg m]at h;exact h.elim
theorem ig{c:ay}{a b:List bo}{t:ai->R Bool}(r:DT X E c t)(u:iC X E pin a d1)(s:iC X E pin b d2):DS X E pin (.If c a b pos) (cu t d1 d2):=λF S p g H D q h=>by
 refine fX (QW mJ pT pT) (r F S p g H _ q (h.bindE.imp λk f o m n i v j=>?_));cases k with
 |true=>exact mM (u o m f g n D i j)
 |false=>exact mE (s o m f g n D i j)
def EK:ai->R aM:=λ_=>.no
theorem QS{a:List bo}:iC X E pin a EK:=λ_ _ _ _ _ _ _ h=>h.elim
def cK(r:R aM):R aM:=match r with
 |.er _ _=>.no
 |r=>r
theorem jU(h:DS X.nox E0 pin l d):DS X E pin l (λa=>cK (d a)):=λF S a b H D i q=>Bx.mk λm s I=>by
 have q:il X.K E pin b F S H (cK (d a)) D:=q;have j:il X.K E0 pin b F S H (d a) D:=by
  cases e:d a with
  |no=>rw[e]at q;exact q
  |er c g=>rw[e]at q;exact q.elim
  |ok f g=>rw[e]at q;cases f <;> exact q
 exact f8 ((h F S a b H D i j).run m s (I.wish _)) (λ_ _ z=>z.unwish) λ_ _ z=>z.elim
def lh(X:Cx)(f a:ay):TI:=λb H h=>Bx (∀c s,Inv X c b H s->ar (au X.prog X.w) X.A (bi a X.env) (λv g=>ar (au X.prog X.w) X.A (mZ v) (wK X c b f h) X.xe g) X.xe s)
theorem vh{b a:ay}:PI X b a (lh X b a):=λc s _ _ _ I h=>h.run c s I
theorem Lo{f a:ay}{t:TI}(h:PI X f a t){b:St}{H:Hp}{c:It->Hp->Prop}(q:t b H c):lh X f a b H c:=⟨λg s I=>h g s b H c I q⟩
def DI(X:Cx)(E:XK)(q a:ay)(d:ai->R (List PV)):Prop:=∀F S m c H n,aI X.K F S m c H ->
 Ok X.K E c F S H (d m) (λg _ p r i=>∀J f o,aS X.K i p g f->f.length<=bn->Walk J f o->(∀h j b,Grow (U r) (U h) p j i b->o b)->n J i)->lh X q a c H n
def dZ(i:Nat)(db:ai->R aM):List PV->ai->R aM
 |[],b=>.ok .next b
 |x::c,b=>match db (b.set i (.val x))with
  |.ok .next a=>dZ i db c a
  |.ok .cont a=>dZ i db c a
  |.ok .brk a=>.ok .next a
  |r=>r
def bU(i:Nat)(b:ai->R (List PV))(db:ai->R aM):ai->R aM:=λε=>(b ε).bind λa ε1=>dZ i db a ε1
theorem iH(i:Nat){x:Str}{p:Pos}{o:ay}{r:List bo}{di:ai->R (List PV)}{G:ai->R aM}(v3:vp (au X.prog X.w) X.A X.env X.xe)(hc:X.calm=ah)(hN:X.N.Nodup)(hi:DI X E (.Name x p) o di)(hb:iC X E pin r G)(hp:i∉pin:=by decide) (B:X.N[i]?=aa x:=by rfl) (P:Loc X.env.scope x:=by first|exact Or.inl rfl|exact Or.inr rfl) (hs:∀x,lp o X.env x=pure x:=by intro _;rfl)(hf:X.fn x=ah\/X.env.scope.names.lookup x=aa .local:=by first|exact .inl rfl|exact .inr rfl):DS X E pin (.For (.Name x p) o r [] pos) (bU i di G):=λF S ε σ H D rl h=>by
 refine fX (E_ v3 hc vh (vj hN B P hf) pT hs) (hi F S ε σ H _ rl (h.bindE.imp λz K F1 S1 H1 Z g1 h1 J vs RR Y hz hw keep=>?_));refine FY hw (λk a n=>∃u w m,aI X.K u w m a n/\Grow (U S1) (U w) F1 u H1 n/\il X.K E pin a u w n (dZ i G (z.drop k) m) D) ⟨F1,S1,K,Z,Grow.refl ..,h1⟩ (λk a n _ ⟨u,w,m,_,g,_⟩=>keep w u n g) ?_ ?_
 .rintro k v a n hv ⟨u,w,m,N,C,q⟩;obtain⟨x,B,rx⟩:=Y.back hv;have hk:k<z.length:=(cE.mp B).1;have ed:z.drop k=x::z.drop (k+1):=by rw[qj hk];congr 1;exact(cE.mp B).2
  rw[ed]at q;have L:=rx.grow C Z.fit;have r2:=N.set (i:=i) L;have Q:Grow (U w) (U λj b=>w j b/\j≠i) u u n n:=Grow.less i;show pC X r _ (a.set i (aa v)) n;refine hb u _ _ _ n _ r2 ?_;unfold dZ at q;have q:=q.from Q (iY.set (x:=aa v) hp);cases e:G (m.set i (.val x))with
  |no=>rw[e]at q;exact q
  |er c y=>rw[e]at q;exact q
  |ok f y=>
   rw[e]at q;cases f with
   |next=>exact λW T I H3 M A O=>⟨W,T,y,M,(C.trans Q).trans A,q.from A O⟩
   |cont=>exact λW T I H3 M A O=>⟨W,T,y,M,(C.trans Q).trans A,q.from A O⟩
   |brk=>exact q
   |ret s=>exact q
 .rintro a n ⟨u,w,m,N,C,q⟩;have P:vs.length=z.length:=Y.len;rw[P,y3]at q;exact q u w a n N (Grow.refl ..) (iY.refl _ _)
def iN(t:ai->R Bool)(b:ai->R aM):Nat->ai->R aM
 |0,_=>.no
 |n+1,ε=>(t ε).bind λk ε1=>match k with
  |false=>.ok .next ε1
  |true=>match b ε1 with
   |.ok .next a=>iN t b n a
   |.ok .cont a=>iN t b n a
   |.ok .brk a=>.ok .next a
   |r=>r
theorem MT{c:ay}{n:List bo}{t:ai->R Bool}{j:ai->R aM}(O:ai->Nat)(P:vp (au X.prog X.w) X.A X.env X.xe)(W:DT X E c t)(Y:iC X E pin n j):DS X E pin (.While c n [] pos) (λv=>iN t j (O v) v):=λF S v σ H D Q h=>by
 refine fX (Qu P mJ pT) ⟨λm b u=>∃y x a,aI X.K y x a b u/\il X.K E pin b y x u (iN t j m a) D,⟨O v,F,S,v,Q,h⟩,?_⟩;rintro m i H1 ⟨F1,Z,A,T,q⟩;cases m with
 |zero=>exact q.elim
 |succ m=>
  refine W F1 Z A i H1 _ T (q.bindE.imp λk p M J K N g2 g=>?_);cases k with
  |false=>exact mE (g M J i K N (Grow.refl ..) (iY.refl _ _))
  |true=>
   refine mM ⟨λb u=>∃y x a,aI X.K y x a b u/\il X.K E pin b y x u (iN t j m a) D,λb u w=>⟨m,nk m,w⟩,Y M J p i K _ N ?_⟩;have g:il X.K E pin i M J K (match j p with
    |.ok .next a=>iN t j m a
    |.ok .cont a=>iN t j m a
    |.ok .brk a=>.ok .next a
    |r=>r) D:=g
   cases e:j p with
   |no=>rw[e]at g;exact g
   |er c o=>rw[e]at g;exact g
   |ok f o=>
    rw[e]at g;cases f with
    |next=>exact λL I z H3 B G C=>⟨L,I,o,B,g.from G C⟩
    |cont=>exact λL I z H3 B G C=>⟨L,I,o,B,g.from G C⟩
    |brk=>exact g
    |ret s=>exact g
end
def ye(K:ax)(E:XK)(i:List V)(F:ag->Prop)(S:Nat->ag->Prop)(H:Hp)(r:R Slot)(Q:VK):Prop:=match r with
 |.ok s h=>∀v d f a g,aI K d f h (i.map aa) a->Grow (U S) (λb=>U f b\/g b) F d H a->uN K a d s v g->u8 d f a g->(∀b,g b->H b=ae)->Q v a
 |.er c h=>∀x d f a,aI K d f h (i.map aa) a->Grow (U S) (U f) F d H a->E c x a
 |.no=>False
def b9(K:ax)(g:ai->R Slot):Sp:=λa H Q E=>∃F S b,aI K F S b (a.map aa) H/\ye K E a F S H (g b) Q
structure cX(CX:gR)(P:aR)(w:aL)(K:ax)(mg:Str->Option aj)(base:aC)(x:Str)(k:Nat)(ps:List Str)(sp:Sp):Prop where
 ex:∃f fd,mg x=aa (.ref f)/\kZ P w K mg base CX k f fd ps sp/\Binds K fd ps []/\vq K (.ref f)=ah
def back:ai->ai->Option ai
 |[],_=>aa []
 |.own _::a,.own c::b=>(back a b).map (.own c::·)
 |.own _::_,_=>ae
 |s::a,_::b=>(back a b).map (s::·)
 |_::_,[]=>ae
theorem xy:∀{a c b:ai},back a c=aa b->b.length=a.length/\∀(i:Nat) (s:Slot),b[i]?=aa s->(∃g f,a[i]?=aa (.own g)/\c[i]?=aa (.own f)/\s=.own f)\/(a[i]?=aa s/\∀g,s≠.own g)
 |[],_,b,h=>by cases h;exact⟨rfl,λi s e=>by simp at e⟩
 |.own g::a,.own f::c,b,h=>by
  unfold back at h;cases e:back a c with
  |none=>rw[e]at h;cases h
  |some r=>
   rw[e]at h;cases h;obtain⟨l,q⟩:=xy e;refine⟨by simp[l],λi s d=>?_⟩;cases i with
   |zero=>simp at d;subst d;exact .inl ⟨g,f,rfl,rfl,rfl⟩
   |succ i=>simpa using q i s (by simpa using d)
 |.own g::a,.none::c,b,h=>by cases h
 |.own g::a,.val _::c,b,h=>by cases h
 |.own g::a,[],b,h=>by cases h
 |.none::a,[],b,h=>by cases h
 |.val _::a,[],b,h=>by cases h
 |.none::a,x::c,b,h=>by
  have h:(back a c).map (Slot.none::·)=aa b:=by unfold back at h;cases x <;> exact h
  cases e:back a c with
  |none=>rw[e]at h;cases h
  |some r=>
   rw[e]at h;cases h;obtain⟨l,q⟩:=xy e;refine⟨by simp[l],λi s d=>?_⟩;cases i with
   |zero=>simp at d;subst d;exact .inr ⟨rfl,λ_ z=>by cases z⟩
   |succ i=>simpa using q i s (by simpa using d)
 |.val pv::a,x::c,b,h=>by
  have h:(back a c).map (Slot.val pv::·)=aa b:=by unfold back at h;cases x <;> exact h
  cases e:back a c with
  |none=>rw[e]at h;cases h
  |some r=>
   rw[e]at h;cases h;obtain⟨l,q⟩:=xy e;refine⟨by simp[l],λi s d=>?_⟩;cases i with
   |zero=>simp at d;subst d;exact .inr ⟨rfl,λ_ z=>by cases z⟩
   |succ i=>simpa using q i s (by simpa using d)
def bO(n:Nat)(d:ai->R aM):ai->R Slot:=λf=>match d (f++dP n .none)with
 |.ok (.ret r) a=>(aO (back f a) []).bind λb _=>.ok r b
 |.ok .next a=>(aO (back f a) []).bind λb _=>.ok (.val .non) b
 |.er c a=>(aO (back f a) []).bind λb _=>.er c b
 |_=>.no
section
variable{K:ax}{F x:ag->Prop}{S o:Nat->ag->Prop}{c l m:ai}{f:St}{H u:Hp}{d:List V}
theorem aI.start(r:aI K F S c (d.map aa) H)(n:Nat):aI K F S (c++dP n .none) (d.map aa++dP n ae) H:=by
 have A:c.length=(d.map aa).length:=r.len;have no:∀{j:Nat}{s:Slot},(c++dP n Slot.none)[j]?=aa s->s≠.none->c[j]?=aa s:=λ{j s} e y=>by
  by_cases B:j<c.length
  .rw[jk B]at e;exact e
  .rw[qb ∅,List.getElem?_replicate]at e;split at e
   .exact absurd (cQ e).symm y
   .cases e
 have p:∀{j:Nat}{v:Option V},(d.map aa)[j]?=aa v->(d.map aa++dP n ae)[j]?=aa v:=λ{j v} e=>by rw[jk (cE.mp e).1];exact e
 refine⟨by simp[A],r.ex,λj pv e=>?_,λj a e=>?_,λj b h=>?_,r.dist⟩
 .obtain⟨v,i,g⟩:=r.val j pv (no e (by intro z;cases z));exact⟨v,p i,g⟩
 .obtain⟨v,i,g⟩:=r.own j a (no e (by intro z;cases z));exact⟨v,p i,g⟩
 .obtain⟨⟨a,q⟩,w⟩:=r.foot j b h;exact⟨⟨a,by rw[jk (cE.mp q).1];exact q⟩,w⟩
theorem Ej{g:PO}{a:ag}{n:ag->Prop}(h:ef K H F g a n)(j:gA g=ah):∀b,n b↔b=a:=by
 cases g with
 |lst p=>exact h.2
 |dK i=>exact h.2
 |lls q=>cases j
 |ins C fs=>exact h.2
 |dT i=>exact h.2
 |inl C fs y p=>cases j
theorem L_{g:PO}{a:ag}{i:ag->Prop}(h:ef K H F g a i):i a:=by
 cases g with
 |lst j=>exact(h.2 a).mpr rfl
 |dK b=>exact(h.2 a).mpr rfl
 |lls n=>obtain⟨p,_,_,_,_,w⟩:=h;exact(w a).mpr (.inl rfl)
 |ins C fs=>exact(h.2 a).mpr rfl
 |dT b=>exact(h.2 a).mpr rfl
 |inl C fs y j=>obtain⟨_,_,_,_,_,_,_,_,_,_,w⟩:=h;exact(w a).mpr (.inl rfl)
theorem aI.back{Y:ag->Prop}{D:List Nat}{n:Nat}(C:aI K F S c (d.map aa) H)(r:aI K x o l f u)(g:Grow (U S) Y F x H u)(p:iY D (d.map aa++dP n ae) f)(Q:∀(i:Nat) (s:PO),c[i]?=aa (.own s)->i∈D)(T:back c l=aa m):∃B,aI K x B m (d.map aa) u/\(∀b,U B b->U o b)/\((∀(i:Nat) (s:PO),c[i]?=aa (.own s)->gA s=ah)->∀b,U S b->U B b):=by
 obtain⟨M,G⟩:=xy T;have inj:∀(i:Nat) (s:PO),c[i]?=aa (.own s)->∃a,(d.map aa)[i]?=aa (aa (.ref a))/\f[i]?=aa (aa (.ref a))/\ef K H F s a (S i):=λi s e=>by obtain⟨a,y,A⟩:=C.own i s e;refine⟨a,y,?_,A⟩;rw[p i (Q i s e),jk (cE.mp y).1];exact y
 have bk:∀(i:Nat) (s:PO),c[i]?=aa (.own s)->∃w,m[i]?=aa (.own w)/\l[i]?=aa (.own w):=λi s e=>by
  have N:i<m.length:=by rw[M];exact(cE.mp e).1
  rcases G i m[i] (by simp[N])with⟨p1,p2,q1,q2,q3⟩|⟨q1,q2⟩
  .exact⟨p2,by rw[fh N,q3],q2⟩
  .rw[e]at q1;exact absurd (cQ q1).symm (q2 s)
 refine⟨λi b=>o i b/\∃s,c[i]?=aa (.own s),⟨by rw[M];exact C.len,r.ex,λi pv e=>?_,λi s e=>?_,λi b h=>?_,λi j b y A=>r.dist i j b y.1 A.1⟩,λb ⟨i,h⟩=>⟨i,h.1⟩,λP b ⟨i,h⟩=>?_⟩
 .rcases G i _ e with⟨_,_,_,_,z⟩|⟨q1,_⟩
  .cases z
  .obtain⟨v,y,A⟩:=C.val i pv q1;exact⟨v,y,A.grow g C.fit⟩
 .rcases G i _ e with⟨p1,p2,q1,q2,q3⟩|⟨_,q2⟩
  .cases q3;obtain⟨a,y,A,O⟩:=inj i p1 q1;obtain⟨X,E,I⟩:=r.own i s q2;rw[A]at E;cases E;refine⟨a,y,?_⟩;have W:(λb=>o i b/\∃s,c[i]?=aa (.own s))=o i:=by funext b;exact propext ⟨λz=>z.1,λz=>⟨z,p1,q1⟩⟩
   rw[W];exact I
  .exact absurd rfl (q2 s)
 .obtain⟨s,q⟩:=h.2;obtain⟨w,L,J⟩:=bk i s q;exact⟨⟨w,L⟩,(r.foot i b h.1).2⟩
 .obtain⟨⟨s,q⟩,_⟩:=C.foot i b h;obtain⟨a,y,A,O⟩:=inj i s q;obtain⟨w,L,J⟩:=bk i s q;obtain⟨X,E,I⟩:=r.own i w J;rw[A]at E;cases E;have e:b=a:=(Ej O (P i s q) b).mp h;exact⟨i,e ▸ L_ I,s,q⟩
end
theorem x_{K:ax}{E:XK}{a:List V}{F:ag->Prop}{S:Nat->ag->Prop}{H:Hp}{r:R Slot}{Q:VK}(h:ye K E a F S H r Q):r≠.no:=λz=>by rw[z]at h;exact h
theorem JV{K:ax}{g:ai->R Slot}{m:Nat}(f:∀a,g a≠.no->a.length=m):∀b H Q E,b9 K g b H Q E->b.length=m:=λb H Q E ⟨F,S,a,c,ok⟩=>by have:=f a (x_ ok);have d:=c.len;rw[b7]at d;lia
theorem Q8{X:Cx}{E:XK}{u:List bo}{N P:List Str}{s:List V}{H:Hp}{Q:VK}{n:Nat}{g:ai->R Slot}{d:ai->R aM}{A:List Nat}(hn:N.length=P.length+n)(bp:∀a,g a≠.no->a.length=P.length) (mh:∀a,g a≠.no->∀(i:Nat) po,a[i]?=aa (.own po)->i∈A) (Z:∀a p m,g a=.ok p m->(∃pv,p=.val pv)\/∀(i:Nat) po,a[i]?=aa (.own po)->gA po=ah) (hg:∀a,g a≠.no->bO n d a=g a)(hb:iC X E A u d) (mj:b9 X.K g s H Q E):pC X u {nx:=λ_ l=>Q .non l,rt:=Q} (L2.start N s) H:=by
 obtain⟨F,S,a,L,ok⟩:=mj;have hl:=bp a (x_ ok);have h2:=L.len;rw[b7]at h2;have es:L2.start N s=s.map aa++dP n ae:=by unfold L2.start;rw[show N.length-s.length=n by lia]
 rw[es];refine hb F S _ _ H _ (L.start n) ?_;have W:=mh a (x_ ok);have lF:=hg a (x_ ok);have K:=Z a;rw[<-lF]at ok K;unfold bO at ok K;generalize d (a++dP n .none)=r at ok K ⊢;cases r with
 |no=>exact ok
 |er c h=>
  intro x q C j l D f G;have ok:ye X.K E s F S H ((aO (back a h) []).bind λm _=>.er c m) Q:=ok;cases e:back a h with
  |none=>rw[e]at ok;exact ok.elim
  |some m=>rw[e]at ok;obtain⟨B,y,o,_⟩:=L.back D f G W e;exact ok x q B l y ⟨f.fro,f.keep,f.there,f.fnew,λb z=>f.onew b (o b z)⟩
 |ok fl h=>
  have I:∀(p:Slot),(∀m,back a h=aa m->(∃pv,p=.val pv)\/∀(i:Nat) po,a[i]?=aa (.own po)->gA po=ah)->ye X.K E s F S H ((aO (back a h) []).bind λm _=>.ok p m) Q->∀(v:V) q C j l J,aI X.K q C h j l->Grow (U S) (λb=>U C b\/J b) F q H l->iY A (s.map aa++dP n ae) j->uN X.K l q p v J->u8 q C l J->Q v l:=by
   intro p O ok v q C j l J D f G T M;cases e:back a h with
   |none=>rw[e]at ok;exact ok.elim
   |some m=>
    rw[e]at ok;obtain⟨B,y,o,Y⟩:=L.back D f G W e;refine ok v q B l J y ⟨f.fro,f.keep,f.there,f.fnew,λb z=>f.onew b (z.imp (o b) id)⟩ T (λb z=>⟨(M b z).1,λw=>(M b z).2.1 (o b w),(M b z).2.2⟩) λb z=>?_;rcases O m e with⟨pv,rfl⟩|hf
    .exact absurd z (T.2 b)
    rcases f.onew b (.inr z)with w|w
    .exact absurd (o b (Y hf b w)) (M b z).2.1
    .exact w
  cases fl with
  |brk=>exact ok.elim
  |cont=>exact ok.elim
  |ret p=>exact I p (λm e=>K p m (by show(aO (back a h) []).bind _=_;rw[e];rfl)) ok
  |next=>exact λq C j l D f G=>I (.val .non) (λ_ _=>.inl ⟨_,rfl⟩) ok .non q C j l (λ_=>False) D ⟨f.fro,f.keep,f.there,f.fnew,λb z=>z.elim (f.onew b) l7⟩ G ⟨rfl,λ_ z=>z⟩ λ_ z=>z.elim
theorem JK{f:ag}{p:iS}{D:gR}{P:aR}{w:aL}{K:ax}{v:Str->Option aj}{j:aC}{x b:Str}{h:bo}{N l:List Str}{k n:Nat}{g:ai->R Slot}{d:ai->R aM}{m:List Nat}(Z:pf K x b h f p)(Y:cF N l (a_ h))(S:N.length=l.length+n)(hb:∀(kV o u:aj) (C:Option ag) (B y:aj) (q:List aj),q.length=l.length->g6 (kG x b (k6 h) (iM h) (a_ h) .none kV o u C B y) ⟨q,[]⟩=pure (l.zip q))(z:∀c,g c≠.no->c.length=l.length) (J:∀c,g c≠.no->∀(i:Nat) po,c[i]?=aa (.own po)->i∈m) (G:∀c r X,g c=.ok r X->(∃pv,r=.val pv)\/∀(i:Nat) po,c[i]?=aa (.own po)->gA po=ah) (T:∀c,g c≠.no->bO n d c=g c)(M:∀(A:aY) (a:List Env) (s:ao) (H:Hp) (E:XK),gB k (A.deeper (kF b (a_ h) s.heap.objs.size f p.code))->iC (jW D P w K v j N b (a_ h) f p.code A a s H E) E m (iM h) d):kZ P w K v j D (k+1) f p l (b9 K g):=by obtain⟨oc,od,kV,o,u,C,B,y,F,rfl,L,W⟩:=Z.ex;exact Jf L W Y (JV z) λA a s H vs Q E O I=>⟨_,pT,Q8 S z J G T (M A a s H E O) I⟩
theorem Fc{f:ag}{u:iS}{B:gR}{P:aR}{w:aL}{K:ax}{z:Str->Option aj}{l:aC}{x b:Str}{j:bo}{N m:List Str}{k n:Nat}{g:ai->R Slot}{d:ai->R aM}{p:List Nat}(Q:pf K x b j f u)(O:cF N m (a_ j))(F:N.length=m.length+n)(I:∀(kV v C:aj) (M:Option ag) (q J:aj) (r:List aj),r.length=m.length->g6 (kG x b (k6 j) (iM j) (a_ j) .none kV v C M q J) ⟨r,[]⟩=pure (m.zip r))(L:∀c,g c≠.no->c.length=m.length) (y:∀c,g c≠.no->∀(i:Nat) o,c[i]?=aa (.own o)->i∈p/\gA o=ah) (G:∀c,g c≠.no->bO n d c=g c)(D:∀(f:ag) (q:aj) (A:aY) (a:List Env) (s:ao) (H:Hp) (E:XK),gB k (A.deeper (kF b (a_ j) s.heap.objs.size f q))->iC (jW B P w K z l N b (a_ j) f q A a s H E) E p (iM j) d):kZ P w K z l B (k+1) f u m (b9 K g):=JK Q O F I L (λc h i o e=>(y c h i o e).1) (λc S T h=>.inr λi o e=>(y c (by rw[h];exact nofun) i o e).2) G λA a s H E=>D f u.code A a s H E
theorem RD{v:gR}{P:aR}{w:aL}{K:ax}{p:Str->Option aj}{c:aC}{x:Str}{b:bo}{N j:List Str}{k n:Nat}{g:ai->R Slot}{d:ai->R aM}{l:List Nat}(D:cS K p x b)(O:cF N j (a_ b))(C:N.length=j.length+n)(u:∀(kV q y:aj) (M:Option ag) (m J:aj) (o:List aj),o.length=j.length->g6 (kG x x (k6 b) (iM b) (a_ b) .none kV q y M m J) ⟨o,[]⟩=pure (j.zip o))(L:∀a,g a≠.no->a.length=j.length) (z:∀a,g a≠.no->∀(i:Nat) po,a[i]?=aa (.own po)->i∈l/\gA po=ah) (G:∀a,g a≠.no->bO n d a=g a)(B:∀(f:ag) (m:aj) (A:aY) (h:List Env) (s:ao) (H:Hp) (E:XK),gB k (A.deeper (kF x (a_ b) s.heap.objs.size f m))->iC (jW v P w K p c N x (a_ b) f m A h s H E) E l (iM b) d):cX v P w K p c x (k+1) j (b9 K g):=by obtain⟨f,I,F,r⟩:=D.ex;exact⟨f,I,F,Fc r O C u L z G B,r.binds u,r.kp⟩
abbrev cD:=Sum PV Nat
def iD(K:ax)(b:St)(F:ag->Prop)(H:Hp):List cD->List V->Prop
 |[],a=>a=[]
 |.inl pv::c,a=>∃v r,a=v::r/\aN K H F pv v/\iD K b F H c r
 |.inr i::c,a=>∃v r,a=v::r/\b[i]?=aa (aa v)/\iD K b F H c r
def DG(X:Cx)(E:XK)(g:List ay)(d:ai->R (List cD)):Prop :=
 ∀F S b a H Q,aI X.K F S b a H->Ok X.K E a F S H (d b) (λh _ i _ f=>∀c,iD X.K a i f h c->Q c f)->o0 X g a H Q
section
variable{X:Cx}{E:XK}{e:ay}{b:List ay}{de:ai->R PV}{c:ai->R (List cD)}{f:Pos}
def bW:ai->R (List cD):=λε=>.ok [] ε
def gV(d:ai->R PV)(c:ai->R (List cD)):ai->R (List cD):=λε=>(d ε).bind λx ε1=>(c ε1).bind λg a=>.ok (.inl x::g) a
def gO(i:Nat)(c:ai->R (List cD)):ai->R (List cD):=λd=>match d[i]? with
 |some (.own _)=>(c d).bind λg a=>.ok (.inr i::g) a
 |_=>.no
theorem ca:DG X E [] bW:=λF S g d H Q a h=>pc kn (h F S H a (Grow.refl ..) _ rfl)
theorem Ko(s:DE X E e de)(r:DG X E b c)(q:aZ (e::b) X.env=(ak,bi e X.env)::aZ b X.env:=by rfl):DG X E (e::b) (gV de c):=λF S j d H Q n h=>by refine pc (jb bM ii q) (s F S j d H _ n ((Ok.bind h).imp λx a G A C g J w v m=>?_));refine r G A a d C _ g ((Ok.bind w).imp λI i D z B o y u l p=>?_);exact u D z B o (Grow.refl ..) _ ⟨v,l,rfl,m.grow y g.fit,p⟩
theorem jv(i:Nat){x:Str}{p:Pos}(v:DG X E b c)(y:X.N[i]?=aa x:=by rfl)(s:eJ X.env.scope x:=by eq_refl)(w:(x==("__debug__":Str))=ak:=by decide)(A:(x==("__classdict__":Str))=ak:=by decide) (u:aZ (.Name x p::b) X.env=(ak,bi (.Name x p) X.env)::aZ b X.env:=by rfl):DG X E (.Name x p::b) (gO i c):=λF S m j H Q d h=>by
 unfold gO at h;split at h
 .rename_i q e;obtain⟨a,g,_⟩:=d.own i q e;refine pc (jb (fq y s w A) ii u) ⟨_,g,v F S m j H _ d ((Ok.bind h).imp λG l D B C o I z n r=>?_)⟩;exact z D B C o (Grow.refl ..) _ ⟨_,n,rfl,g,r⟩
 .exact h.elim
end
def eM(ε:ai):List cD->Option ai
 |[]=>aa []
 |.inl pv::a=>(eM ε a).map (.val pv::·)
 |.inr i::a=>match ε[i]? with
  |some (.own b)=>(eM ε a).map (.own b::·)
  |_=>ae
def fH:ai->List cD->ai->ai
 |ε,.inl _::b,_::a=>fH ε b a
 |ε,.inr i::b,s::a=>fH (ε.set i s) b a
 |ε,_,_=>ε
def cx:List cD->List Nat
 |[]=>[]
 |.inl _::as=>cx as
 |.inr i::as=>i::cx as
theorem EO:∀{as:List cD}{i:Nat},i∈cx as↔∃k:Nat,as[k]?=aa (.inr i)
 |[],i=>by simp[cx]
 |.inl _::as,i=>by
  unfold cx;rw[EO];constructor
  .rintro⟨k,h⟩;exact⟨k+1,by simpa using h⟩
  .rintro⟨k,h⟩;cases k with
   |zero=>simp at h
   |succ k=>exact⟨k,by simpa using h⟩
 |.inr j::as,i=>by
  unfold cx;rw[bI,EO];constructor
  .rintro(rfl|⟨k,h⟩)
   .exact⟨0,rfl⟩
   .exact⟨k+1,by simpa using h⟩
  .rintro⟨k,h⟩;cases k with
   |zero=>simp at h;exact .inl h.symm
   |succ k=>exact .inr ⟨k,by simpa using h⟩
theorem xP{d:ai}:∀{a:List cD}{c:ai},eM d a=aa c->c.length=a.length/\∀(k:Nat) (s:Slot),c[k]?=aa s->(∃pv,a[k]?=aa (.inl pv)/\s=.val pv)\/∃i f,a[k]?=aa (.inr i)/\d[i]?=aa (.own f)/\s=.own f
 |[],c,h=>by cases h;exact⟨rfl,λk s e=>by simp at e⟩
 |.inl pv::a,c,h=>by
  unfold eM at h;cases e:eM d a with
  |none=>rw[e]at h;cases h
  |some r=>
   rw[e]at h;cases h;obtain⟨l,q⟩:=xP e;refine⟨by simp[l],λk s b=>?_⟩;cases k with
   |zero=>simp at b;exact .inl ⟨pv,rfl,b.symm⟩
   |succ k=>simpa using q k s (by simpa using b)
 |.inr i::a,c,h=>by
  unfold eM at h;split at h
  .rename_i f g;cases e:eM d a with
   |none=>rw[e]at h;cases h
   |some r=>
    rw[e]at h;cases h;obtain⟨l,q⟩:=xP e;refine⟨by simp[l],λk s b=>?_⟩;cases k with
    |zero=>simp at b;exact .inr ⟨i,f,rfl,g,b.symm⟩
    |succ k=>simpa using q k s (by simpa using b)
  .cases h
theorem wQ:∀(c:List cD) (a b:ai),(fH a c b).length=a.length
 |[],a,b=>by cases b <;> rfl
 |.inl _::c,a,[]=>rfl
 |.inr _::c,a,[]=>rfl
 |.inl _::c,a,s::b=>wQ c a b
 |.inr i::c,a,s::b=>by show(fH (a.set i s) c b).length=_;rw[wQ,gs]
theorem r_:∀(a:List cD) (b c:ai) (j:Nat),j∉cx a->(fH b a c)[j]?=b[j]?
 |[],b,c,j,_=>by cases c <;> rfl
 |.inl _::a,b,[],j,_=>rfl
 |.inr _::a,b,[],j,_=>rfl
 |.inl _::a,b,s::c,j,h=>r_ a b c j h
 |.inr i::a,b,s::c,j,h=>by
  have d:¬(j=i\/j∈cx a):=by simpa[cx]using h
  show(fH (b.set i s) a c)[j]?=_;rw[r_ a _ c j λz=>d (.inr z),cN λz=>d (.inl z.symm)]
theorem tu:∀(a:List cD) (b c:ai) (j k:Nat) (s:Slot),(cx a).Nodup->j<b.length->a[k]?=aa (.inr j)->c[k]?=aa s->(fH b a c)[j]?=aa s
 |[],b,c,j,k,s,_,_,h,_=>by simp at h
 |_::a,b,[],j,k,s,_,_,_,h=>by simp at h
 |.inl _::a,b,t::c,j,0,s,_,_,h,_=>by simp at h
 |.inl _::a,b,t::c,j,k+1,s,nd,hj,h,g=>tu a b c j k s nd hj (by simpa using h) (by simpa using g)
 |.inr i::a,b,t::c,j,0,s,nd,hj,h,g=>by simp at h g;subst h g;have d:i∉cx a:=(j9.mp nd).1;show(fH (b.set i t) a c)[i]?=_;rw[r_ a _ c i d,d8 hj]
 |.inr i::a,b,t::c,j,k+1,s,nd,hj,h,g=>tu a (b.set i t) c j k s (j9.mp nd).2 (by rw[gs];exact hj) (by simpa using h) (by simpa using g)
theorem iD.len{K:ax}{c:St}{F:ag->Prop}{H:Hp}:∀{a:List cD}{b:List V},iD K c F H a b->b.length=a.length
 |[],_,h=>by rw[show _=[] from h];rfl
 |.inl _::a,_,⟨v,r,e,_,h⟩=>by rw[e,eU,eU,iD.len h]
 |.inr _::a,_,⟨v,r,e,_,h⟩=>by rw[e,eU,eU,iD.len h]
theorem iD.val{K:ax}{d:St}{F:ag->Prop}{H:Hp}:∀{as:List cD}{c:List V}{k:Nat}{pv:PV},iD K d F H as c->as[k]?=aa (.inl pv)->∃v,c[k]?=aa v/\aN K H F pv v
 |[],_,k,_,_,e=>by simp at e
 |.inl x::as,_,0,pv,⟨v,r,e,h,_⟩,q=>by simp at q;subst q e;exact⟨v,rfl,h⟩
 |.inr _::as,_,0,pv,_,q=>by simp at q
 |.inl x::as,_,k+1,pv,⟨v,r,e,_,h⟩,q=>by obtain⟨w,a,b⟩:=iD.val (k:=k) h (by simpa using q);subst e;exact⟨w,by simpa using a,b⟩
 |.inr x::as,_,k+1,pv,⟨v,r,e,_,h⟩,q=>by obtain⟨w,a,b⟩:=iD.val (k:=k) h (by simpa using q);subst e;exact⟨w,by simpa using a,b⟩
theorem iD.own{K:ax}{c:St}{F:ag->Prop}{H:Hp}:∀{as:List cD}{d:List V}{k i:Nat},iD K c F H as d->as[k]?=aa (.inr i)->∃v,d[k]?=aa v/\c[i]?=aa (aa v)
 |[],_,k,_,_,e=>by simp at e
 |.inr x::as,_,0,pv,⟨v,r,e,h,_⟩,q=>by simp at q;subst q e;exact⟨v,rfl,h⟩
 |.inl _::as,_,0,pv,_,q=>by simp at q
 |.inl x::as,_,k+1,pv,⟨v,r,e,_,h⟩,q=>by obtain⟨w,a,b⟩:=iD.own (k:=k) h (by simpa using q);subst e;exact⟨w,by simpa using a,b⟩
 |.inr x::as,_,k+1,pv,⟨v,r,e,_,h⟩,q=>by obtain⟨w,a,b⟩:=iD.own (k:=k) h (by simpa using q);subst e;exact⟨w,by simpa using a,b⟩
section
variable{K:ax}{F A:ag->Prop}{S m:Nat->ag->Prop}{c s f:ai}{u:St}{H y:Hp}{as:List cD}{d:List V}
def k7(as:List cD)(S:Nat->ag->Prop)(k:Nat)(b:ag):Prop:=∃i,as[k]?=aa (.inr i)/\S i b
theorem xC(b:ag)(h:U (k7 as S) b):U S b:=let ⟨_,i,_,h⟩:=h;⟨i,h⟩
theorem yB:∀{as:List cD}{i k l:Nat},(cx as).Nodup->as[k]?=aa (.inr i)->as[l]?=aa (.inr i)->k=l
 |[],_,_,_,_,h,_=>by simp at h
 |.inl _::as,i,0,_,_,h,_=>by simp at h
 |.inl _::as,i,_,0,_,_,h=>by simp at h
 |.inl _::as,i,k+1,l+1,nd,h1,h2=>by rw[yB (as:=as) (i:=i) (k:=k) (l:=l) nd (by simpa using h1) (by simpa using h2)]
 |.inr j::as,i,0,0,_,_,_=>rfl
 |.inr j::as,i,0,l+1,nd,h1,h2=>by simp at h1;subst h1;exact absurd (EO.mpr ⟨l,by simpa using h2⟩) (j9.mp nd).1
 |.inr j::as,i,k+1,0,nd,h1,h2=>by simp at h2;subst h2;exact absurd (EO.mpr ⟨k,by simpa using h1⟩) (j9.mp nd).1
 |.inr j::as,i,k+1,l+1,nd,h1,h2=>by rw[yB (as:=as) (i:=i) (k:=k) (l:=l) (j9.mp nd).2 (by simpa using h1) (by simpa using h2)]
theorem aI.cal(r:aI K F S c u H)(C:iD K u F H as d)(L:eM c as=aa s)(J:(cx as).Nodup):aI K F (k7 as S) s (d.map aa) H:=by
 obtain⟨G,B⟩:=xP L;have D:∀{k:Nat}{v:V},d[k]?=aa v->(d.map aa)[k]?=aa (aa v):=λ{k v} e=>by rw[eD,e];rfl
 refine⟨by rw[G,b7,C.len],r.ex,λk pv e=>?_,λk E e=>?_,λk b h=>?_,λk l b g o=>?_⟩
 .rcases B k _ e with⟨p,q1,n⟩|⟨_,_,_,_,z⟩
  .cases n;obtain⟨v,x,w⟩:=C.val q1;exact⟨v,D x,w⟩
  .cases z
 .rcases B k _ e with⟨_,_,z⟩|⟨i,p,q1,n,q3⟩
  .cases z
  .cases q3;obtain⟨v,x,w⟩:=C.own q1;obtain⟨a,b1,b2⟩:=r.own i E n;rw[w]at b1;cases b1;have M:k7 as S k=S i:=by
    funext b;exact propext ⟨λ⟨j,g,o⟩=>by rw[q1]at g;cases g;exact o,λh=>⟨i,q1,h⟩⟩
   exact⟨a,D x,by rw[M];exact b2⟩
 .obtain⟨i,g,o⟩:=h;obtain⟨⟨E,q⟩,n⟩:=r.foot i b o;have I:k<s.length:=by rw[G];exact(cE.mp g).1
  refine⟨?_,n⟩;rcases B k s[k] (by simp[I])with⟨_,z,_⟩|⟨j,p,z1,z2,z3⟩
  .rw[g]at z;cases z
  .exact⟨p,by rw[fh I,z3]⟩
 .obtain⟨i,x,w⟩:=g;obtain⟨j,b1,b2⟩:=o;have:=r.dist i j b w b2;subst this;exact yB J x b1
theorem aI.called{O':ag->Prop}(r:aI K F S c u H)(ha:iD K u F H as d)(hs:eM c as=aa s)(Q:(cx as).Nodup)(O:aI K A m f (d.map aa) y)(g:Grow (U (k7 as S)) O' F A H y)(hO:∀b,U m b->O' b)(M:∀(k:Nat) i,as[k]?=aa (.inr i)->∃D,f[k]?=aa (.own D)):∃Z,aI K A Z (fH c as f) u y/\Grow (U S) (U Z) F A H y/\∀b,U Z b->U m b\/U S b:=by
 have up:∀{k:Nat}{v:V},(d.map aa)[k]?=aa (aa v)->d[k]?=aa v:=λ{k v} e=>by
  rw[eD]at e;cases q:d[k]? with
  |none=>rw[q]at e;cases e
  |some x=>rw[q]at e;cases e;rfl
 have fit:Fit (U (k7 as S)) F H:=λb h=>r.fit b (xC b h);have L:∀i D,c[i]?=aa (.own D)->i<c.length:=λi D e=>(cE.mp e).1;have lt:∀(k:Nat) i,as[k]?=aa (.inr i)->i<c.length:=λk i e=>by
  obtain⟨hl,hg⟩:=xP hs;have E:k<s.length:=by rw[hl];exact(cE.mp e).1
  rcases hg k s[k] (by simp[E])with⟨_,z,_⟩|⟨j,p,z1,z2,z3⟩
  .rw[e]at z;cases z
  .rw[e]at z1;cases z1;exact L _ _ z2
 refine⟨λj b=>(∃k:Nat,as[k]?=aa (.inr j)/\m k b)\/(j∉cx as/\S j b),⟨by rw[wQ];exact r.len,O.ex,λj pv e=>?_,λj D e=>?_,λj b h=>?_,λi j b B C=>?_⟩,⟨g.fro,λb o e n=>g.keep b o e λz=>n (xC b z),g.there,λa z=>(g.fnew a z).imp id λw=>w.imp id (xC a),λb ⟨j,z⟩=>?_⟩,λb ⟨j,z⟩=>?_⟩
 .by_cases I:j∈cx as
  .obtain⟨k,E⟩:=EO.mp I;obtain⟨D,q⟩:=M k j E;rw[tu as c f j k _ Q (lt k j E) E q]at e;cases e
  .rw[r_ as c f j I]at e;obtain⟨v,B,C⟩:=r.val j pv e;exact⟨v,B,C.grow g fit⟩
 .by_cases I:j∈cx as
  .obtain⟨k,E⟩:=EO.mp I;obtain⟨po',q⟩:=M k j E;rw[tu as c f j k _ Q (lt k j E) E q]at e;cases e;obtain⟨a,B,C⟩:=O.own k D q;obtain⟨v,T,Y⟩:=ha.own E;rw[up B]at T;cases T;have X:(λb=>(∃k:Nat,as[k]?=aa (.inr j)/\m k b)\/(j∉cx as/\S j b))=m k:=by
    funext b;refine propext ⟨λz=>?_,λz=>.inl ⟨k,E,z⟩⟩;rcases z with⟨l,z1,z2⟩|⟨z,_⟩
    .rw[yB Q E z1];exact z2
    .exact absurd I z
   exact⟨a,Y,by rw[X];exact C⟩
  .rw[r_ as c f j I]at e;obtain⟨a,B,C⟩:=r.own j D e;have X:(λb=>(∃k:Nat,as[k]?=aa (.inr j)/\m k b)\/(j∉cx as/\S j b))=S j:=by
    funext b;refine propext ⟨λz=>?_,λz=>.inr ⟨I,z⟩⟩;rcases z with⟨l,z1,z2⟩|⟨_,z⟩
    .exact absurd (EO.mpr ⟨l,z1⟩) I
    .exact z
   have h3:ef K y A D a (S j):=by refine C.mono (λ_ _ q=>q.grow g fit) (λ_ _ q=>q.grow g fit) λb o z q=>g.keep b o q λ⟨l,i,N,J⟩=>?_;have:=r.dist i j b J z;subst this;exact I (EO.mpr ⟨l,N⟩)
   exact⟨a,B,by rw[X];exact h3⟩
 .rcases h with⟨k,B,C⟩|⟨B,C⟩
  .obtain⟨⟨D,q⟩,W⟩:=O.foot k b C;exact⟨⟨D,tu as c f j k _ Q (lt k j B) B q⟩,W⟩
  .obtain⟨⟨D,q⟩,W,o,P,q4⟩:=r.foot j b C;have no:¬U (k7 as S) b:=λ⟨l,i,N,J⟩=>by have:=r.dist i j b J C;subst this;exact B (EO.mpr ⟨l,N⟩)
   refine⟨⟨D,by rw[r_ as c f j B];exact q⟩,λz=>?_,o,g.keep b o P no,q4⟩;rcases g.fnew b z with w|w|w
   .exact W w
   .rw[P]at w;cases w
   .exact no w
 .have G:∀{i j:Nat}{b:ag},(∃k:Nat,as[k]?=aa (.inr i)/\m k b)->(j∉cx as/\S j b)->False:=λ{i j b} ⟨k,N,J⟩ ⟨w3,w4⟩=>by
   obtain⟨_,_,o,P,_⟩:=r.foot j b w4;rcases g.onew b (hO b ⟨k,J⟩)with⟨l,i',z1,z2⟩|z
   .have:=r.dist i' j b z2 w4;subst this;exact w3 (EO.mpr ⟨l,z1⟩)
   .rw[P]at z;cases z
  rcases B with B|B <;> rcases C with C|C
  .obtain⟨k,T,Y⟩:=B;obtain⟨l,b1,b2⟩:=C;have:=O.dist k l b Y b2;subst this;rw[T]at b1;cases b1;rfl
  .exact(G B C).elim
  .exact(G C B).elim
  .exact r.dist i j b B.2 C.2
 .rcases z with⟨k,_,z⟩|⟨_,z⟩
  .rcases g.onew b (hO b ⟨k,z⟩)with w|w
   .exact .inl (xC b w)
   .exact .inr w
  .exact .inl ⟨j,z⟩
 .rcases z with⟨k,_,z⟩|⟨_,z⟩
  .exact .inl ⟨k,z⟩
  .exact .inr ⟨j,z⟩
end
def DR(X:Cx)(E:XK)(e:ay)(d:ai->R Slot):Prop :=
 ∀F S f a H Q,aI X.K F S f a H->Ok X.K E a F S H (d f) (λs _ h i c=>∀v g,uN X.K c h s v g->(∀b,g b->H b=ae/\¬h b/\¬U i b/\∃o,c b=aa o/\dY o)->Q v c)->gf X e a H Q
def eZ:List cD->ai->Bool
 |[],_=>ah
 |.inl _::as,_::ss=>eZ as ss
 |.inr _::as,.own _::ss=>eZ as ss
 |_,_=>ak
theorem mI:∀{as:List cD}{ss:ai},eZ as ss=ah->∀(k:Nat) i,as[k]?=aa (.inr i)->∃a,ss[k]?=aa (.own a)
 |[],_,_,k,i,h=>by simp at h
 |.inl _::as,s::ss,q,0,i,h=>by simp at h
 |.inl _::as,s::ss,q,k+1,i,h=>by simpa using mI (as:=as) (ss:=ss) (by unfold eZ at q;exact q) k i (by simpa using h)
 |.inr _::as,.own a::ss,q,0,i,h=>⟨a,rfl⟩
 |.inr _::as,.own a::ss,q,k+1,i,h=>by simpa using mI (as:=as) (ss:=ss) (by unfold eZ at q;exact q) k i (by simpa using h)
 |.inr _::as,.val _::ss,q,k,i,h=>by cases q
 |.inr _::as,.none::ss,q,k,i,h=>by cases q
 |.inl _::as,[],q,k,i,h=>by cases q
 |.inr _::as,[],q,k,i,h=>by cases q
def fj{d:Type}(ε:ai)(b:List cD)(r:R d):R d:=match r with
 |.ok s a=>if eZ b a then .ok s (fH ε b a)else .no
 |.er c a=>if eZ b a then .er c (fH ε b a)else .no
 |.no=>.no
def aU(g:ai->R Slot)(c:ai->R (List cD)):ai->R Slot:=λε=>(c ε).bind λa ε1=>(aO (if(cx a).Nodup then eM ε1 a else ae) ε1).bind λb ε1=>fj ε1 a (g b)
section
variable{m:gR}{X:Cx}{E:XK}{pin:List Nat}{e:ay}{j:List ay}{l:ai->R (List cD)}{pos:Pos}{x:Str}{k:Nat}{n:List Str}{g:ai->R Slot}{p:Pos}{d:ai->R Slot}
theorem Pn{K:ax}{F0 u:ag->Prop}{S0 D:Nat->ag->Prop}{a:ai}{I:St}{H r:Hp}{c:List cD}{vs:List V}{Q:VK}(B:aI K u D a I r)(g1:Grow (U S0) (U D) F0 u H r)(S:iD K I u r c vs)(q:Ok K E I u D r ((aO (if(cx c).Nodup then eM a c else ae) a).bind λF a=>fj a c (g F)) λs _ A Y h=>∀v G,uN K h A s v G->(∀b,G b->H b=ae/\¬A b/\¬U Y b/\∃o,h b=aa o/\dY o)->Q v h):b9 K g vs r Q E:=by
 have q:=Ok.bind q;by_cases C:(cx c).Nodup
 .rw[if_pos C]at q;cases j:eM a c with
  |none=>rw[j]at q;exact q.elim
  |some F=>
   rw[j]at q;have q:=q u D r B (Grow.refl ..);dsimp only at q;refine⟨u,k7 c D,F,B.cal S j C,?_⟩;cases P:g F with
   |no=>rw[P]at q;exact q.elim
   |er cv T=>
    rw[P]at q;intro y A Y h L O;unfold fj at q;dsimp only at q;by_cases f:eZ c T=ah
    .rw[if_pos f]at q;obtain⟨W,J,N,_⟩:=B.called S j C L O (λ_ z=>z) (mI f);exact q y A W h J N
    .rw[if_neg f]at q;exact q.elim
   |ok s T=>
    rw[P]at q;intro v A Y h G L O rv M fr;unfold fj at q;dsimp only at q;by_cases f:eZ c T=ah
    .rw[if_pos f]at q;obtain⟨W,J,N,u2⟩:=B.called S j C L O (λ_ z=>.inl z) (mI f);refine q A W h J N v G rv λb z=>⟨kX g1 (fr b z),(M b z).1,λw=>?_,(M b z).2.2⟩
     rcases u2 b w with w|⟨i,w⟩
     .exact(M b z).2.1 w
     .obtain⟨_,_,o,Z,_⟩:=B.foot i b w;rw[fr b z]at Z;cases Z
    .rw[if_neg f]at q;exact q.elim
 .rw[if_neg C]at q;exact q.elim
theorem cg(c:cX m X.prog X.w X.K X.mg X.base x k n (b9 X.K g))(u:gB k X.A)(s:rL m X E)(B:DG X E (e::j) l)(y:Gl X x:=by rfl)(z:(x==("__debug__":Str))=ak:=by decide) (D:aZ (e::j) X.env=(ak,bi e X.env)::aZ j X.env:=by rfl) (C:(eO pos (aZ j X.env)).any (·.1)=ak:=by rfl):DR X E (.Call (.Name x p) (e::j) [] pos) (aU g l):=λF S i a H Q o h=>by obtain⟨f,L,v,J,A,w⟩:=c.ex;refine b_ (D7 J u y v w A .nil s ii z D C) (B F S i a H _ o ((Ok.bind h).imp λM b P N O r G q K I=>?_));rw[gG];exact Pn r G I q
def yo:Slot->Option PV
 |.val pv=>aa pv
 |.own (.lst a)=>aa (.lst a)
 |_=>ae
def br(d:ai->R Slot):ai->R PV:=λε=>(d ε).bind λs ε1=>aO (yo s) ε1
def xO:Slot->Option PO
 |.own a=>aa a
 |_=>ae
def i_(d:ai->R Slot):ai->R PO:=λε=>(d ε).bind λs a=>aO (xO s) a
theorem DR.dn(h:DR X E e d):DN X E e (i_ d):=λF S f i H Q w q=>by
 unfold i_ at q;refine h F S f i H Q w ?_;cases b:d f with
 |no=>rw[b]at q;exact q.elim
 |er c r=>rw[b]at q;exact q
 |ok s o=>
  rw[b]at q;cases s with
  |none=>exact q.elim
  |val pv=>exact q.elim
  |own J=>intro I D G y A v C u B;obtain⟨a,rfl,z⟩:=u;exact q I D G y A a C z B
theorem DR.de(h:DR X E e d):DE X E e (br d):=λF S ε b H Q f q=>by
 unfold br at q;cases a:d ε with
 |no=>rw[a]at q;exact q.elim
 |er c o=>refine h F S ε b H Q f ?_;rw[a]at q ⊢;exact q
 |ok s ε1=>
  cases s with
  |none=>rw[a]at q;exact q.elim
  |val pv=>refine h F S ε b H Q f ?_;rw[a]at q ⊢;exact λG B D w A v K u I=>q G B D w A v u.1
  |own z=>
   refine h.dn.de F S ε b H Q f ?_;unfold dF i_;rw[a]at q ⊢;cases z with
   |lst r=>exact q
   |dK i=>exact q
   |lls J=>exact q
   |ins C fs=>exact q
   |dT i=>exact q
   |inl C fs y r=>exact q
def o4(d:ai->R Slot):ai->R aM:=λb=>(d b).bind λs a=>.ok (.ret s) a
theorem zw(G:DR X E e d):DS X E pin (.Return (aa e) pos) (o4 d):=λF S o f H D A h=>by
 refine fX (wT bM) (G F S o f H _ A ?_);unfold o4 at h;cases i:d o with
 |no=>rw[i]at h;exact h.elim
 |er c u=>rw[i]at h;exact λx P L N C I=>h x P L f N C I (iY.refl _ _)
 |ok s r=>rw[i]at h;intro O K M B a v J y q;exact h v O K f M J B ⟨a.fro,a.keep,a.there,a.fnew,λb z=>z.elim (a.onew b) λw=>.inr (q b w).1⟩ (iY.refl _ _) y λb z=>(q b z).2
def l0(d:ai->R Slot):ai->R aM:=λb=>(d b).bind λ_ a=>.ok .next a
theorem tI(q:DR X E e d)(o:jj e ae pos.line X.env=pure ak:=by rfl):DS X E pin (.Expr e pos) (l0 d):=λF S c a H D f h=>fX (AB bM o) (q F S c a H _ f (h.bindE.imp λx b w s u i z r v B y A=>r w s a u i (Grow.refl ..) (iY.refl _ _)))
end
end Pu
namespace L2
section
variable{X:Cx}{l:List (ag×Obj)}{i:St}{H:Hp}{s:ao}{d:eC}{x:Str}{j:List Str}{g:List Nat}
theorem E2{E m N:ay}{y:Str}{Z J F:Pos}{G k:Nat}{tgf:V->Hp->St->Prop}{A:List ay}{wi:TI}{ts:TT}{te:TE}(B:iG X d x j g)(hk:k<=g.length)(hc:X.calm=ah)(hi:PI X N m wi)(gL:∀C r w W O,PG (bx X d j C r w W O) N λv M H Q=>∃vs,vs.length=k+1/\M.length=j.length/\tgf v H vs/\Q (vs++M.drop (k+1)) H)(ht:∀C r w W O,rN (bx X d j C r w W O) A ts) (he:∀C r w W O,PE (bx X d j C r w W O) E te) (hN:X.N.Nodup) (nE:X.N[G]?=aa y) (hxy:Loc X.env.scope y) (nG:jj (.ListComp E [⟨N,m,A,0⟩] d J) (aa (.Name y Z)) F.line X.env=pure ah) (hf:X.fn y=ah\/X.env.scope.names.lookup y=aa .local) (hs:∀x,lp m X.env x=pure x):PS X (.Assign [.Name y Z] (.ListComp E [⟨N,m,A,0⟩] d J) F) (λD i H=>yC wi tgf k ts te g i H λv H'=>D.nx (i.set G (aa v)) H'):=by
 intro l s i H D I h;rw[exec_Assign_Name_used _ _ _ _ nG];refine ap (wpAny_standAt (ap ?_));show ar _ X.A (do let _ <-comprehension (.ListComp E [⟨N,m,A,0⟩] d J) d X.env _ (newList []) ak (bi m X.env) (aa (ox (.Name y Z) X.env))) _ _ s;refine ap (f8 (?_:ar _ X.A _ (λ_ s'=>SP X l D .next s') X.xe s) (λ_ s' hq=>aF (aF hq)) λ_ _ e=>e);refine Gn (use:=aa (ox (.Name y Z) X.env)) B hk hc hi gL ht he hs I h λ{K s6 H3 H5 fp σ5 a f} Y f3 I6 q=>?_;obtain⟨mm,hn6,_⟩:=I6.loc;have J6:Inv X l i _ _:=Y.unblock f3 I6 (Heap.SameBut.refl _ _);have P:K.heap.objs.size≠X.env.locals:=λe=>absurd Y.lt (by rw[<-e];exact fA _);have S:∀z c,X.env.cells.lookup z=aa c->c≠K.heap.objs.size:=λz c e e2=>by obtain⟨vv,oo,ho,_⟩:=Y.cell z c e;exact absurd (bG ho) (by rw[e2];exact fA _)
 refine wpAny_assign_Name (Ge (v:=.ref a) J6 hN nE hxy rfl (λs7 I7 ⟨a7,sb7,ha7⟩=>?_) hf);have na7:K.heap.objs.size≠a7:=by
  rcases ha7 with z|z
  .rw[z];exact P
  .exact(S _ _ z).symm
 refine⟨mm,hn6.sameBut sb7 na7,λmn sb=>⟨_,_,?_,q⟩⟩;have T:H5 K.heap.objs.size=ae:=I6.free;refine I7.call' (s':={s7 with heap:=mn}) (ch:=[K.heap.objs.size]) rfl ⟨λb o e n hb L=>?_,λb o e n hb L=>?_,λb o e n L=>n,λb o e L=>?_,λb xs e=>e,λb o u e=>e,λb ps e=>e⟩ ?_ I7.bare λb hb=>?_
 .exact(sb.2 b (by simpa using L)).trans e
 .exact⟨o.slots,(sb.2 b (by simpa using L)).trans (by simpa using e)⟩
 .exact⟨o,(sb.2 b (by simpa using L)).trans e⟩
 .intro b u e;refine(I7.hok b u e).stay (λc v hc q=>(sb.2 c ?_).trans q) (λ_ q=>q) λ_ _ q=>q;rintro rfl;rcases hc with z|z
  .rw[<-z,T]at e;cases e
  .rw[T]at z;cases z
 .have e:b=K.heap.objs.size:=by simpa using hb
  subst e;refine⟨.inr Y.sz,P,S,λp hp e2=>?_⟩;obtain⟨e3,_⟩:=Y.pin p hp;exact absurd (bG e3) (by rw[e2];exact fA _)
theorem GS{n a:ay}{y:Str}{p w o f:Pos}{h:Nat}{m:List ay}{wi:TI}{ts:TT}{te:TE}(B:iG X d x j g)(K:X.calm=ah)(G:PI X (.Name x p) a wi)(E:∀C b c u q,rN (bx X d j C b c u q) m ts) (J:∀C b c u q,PE (bx X d j C b c u q) n te) (L:X.N.Nodup) (A:X.N[h]?=aa y) (r:Loc X.env.scope y) (z:jj (.ListComp n [⟨.Name x p,a,m,0⟩] d o) (aa (.Name y w)) f.line X.env=pure ah) (I:X.fn y=ah\/X.env.scope.names.lookup y=aa .local) (F:∀x,lp a X.env x=pure x):PS X (.Assign [.Name y w] (.ListComp n [⟨.Name x p,a,m,0⟩] d o) f) (λD i H=>yz wi ts te g i H λv M=>D.nx (i.set h (aa v)) M):=E2 B (kJ _) K G (C_ B) E J L A r z I F
end
end L2
namespace Pu
open L2
def cf(ε:ai):List Nat->Option (List cD)
 |[]=>aa []
 |j::cap=>match ε[j]? with
  |some (.val pv)=>(cf ε cap).map (.inl pv::·)
  |some (.own _)=>(cf ε cap).map (.inr j::·)
  |_=>ae
def bZ{b:Type}(cap:List Nat)(d:ai->R b)(x:PV):ai->R b:=λε=>(aO (cf ε cap) ε).bind λa _=>(aO (if(cx a).Nodup then eM ε (.inl x::a)else ae) ε).bind λc _=>fj ε (.inl x::a) (d c)
def bC{a:Type}(r:R a):R a:=match r with
 |.er _ _=>.no
 |r=>r
def gW(cap:List Nat)(dt:ai->R Bool)(de:ai->R PV):List PV->List PV->ai->R (List PV)
 |[],b,ε=>.ok b ε
 |x::d,b,ε=>(bC (bZ cap dt x ε)).bind λk a=>match k with
  |true=>(bC (bZ cap de x a)).bind λy c=>gW cap dt de d (b++[y]) c
  |false=>gW cap dt de d b a
def bP(cap:List Nat)(d:ai->R (List PV))(dt:ai->R Bool)(de:ai->R PV):ai->R PO:=λε=>(d ε).bind λc ε1=>(gW cap dt de c [] ε1).bind λb a=>.ok (.lst b) a
theorem tJ{K:ax}{F:ag->Prop}{S:Nat->ag->Prop}{f:ai}{d:St}{H:Hp}(r:aI K F S f d H):∀{b:List Nat}{i:List cD},cf f b=aa i->∃c,iD K d F H i c/\eY d b=c.map aa
 |[],i,h=>by cases h;exact⟨[],rfl,rfl⟩
 |j::b,i,h=>by
  unfold cf at h;split at h
  .rename_i pv e;cases q:cf f b with
   |none=>rw[q]at h;cases h
   |some bs=>
    rw[q]at h;cases h;obtain⟨c,m,l⟩:=tJ r q;obtain⟨v,g,n⟩:=r.val j pv e;refine⟨v::c,⟨v,c,rfl,n,m⟩,?_⟩;show(d[j]?).join::eY d b=_;rw[g,l];rfl
  .rename_i o e;cases q:cf f b with
   |none=>rw[q]at h;cases h
   |some bs=>
    rw[q]at h;cases h;obtain⟨c,m,l⟩:=tJ r q;obtain⟨a,g,n⟩:=r.own j o e;refine⟨.ref a::c,⟨_,c,rfl,g,m⟩,?_⟩;show(d[j]?).join::eY d b=_;rw[g,l];rfl
  .cases h
theorem Dg{K:ax}{E:XK}{F:ag->Prop}{S:Nat->ag->Prop}{s:ai}{f:St}{H:Hp}{I:Type}{b:List Nat}{d:ai->R I}{x:PV}{v:V}{C:I->ai->(ag->Prop)->(Nat->ag->Prop)->Hp->Prop}(r:aI K F S s f H) (O:aN K H F x v) (h:Ok K E f F S H (bC (bZ b d x s)) C):∃M l,aI K F M l (aa v::eY f b) H/\Ok K E0 (aa v::eY f b) F M H (d l) (λa _ q _ p=>∃j w,aI K q w j f p/\Grow (U S) (U w) F q H p/\C a j q w p):=by
 unfold bZ at h;cases D:cf s b with
 |none=>rw[D]at h;exact h.elim
 |some g=>
  rw[D]at h;simp only[bV,R.bind_ok]at h;by_cases A:(cx g).Nodup
  .rw[if_pos A]at h;cases u:eM s (.inl x::g)with
   |none=>rw[u]at h;exact h.elim
   |some l=>
    rw[u]at h;simp only[bV,R.bind_ok]at h;obtain⟨y,W,T⟩:=tJ r D;have o:iD K f F H (.inl x::g) (v::y):=⟨v,y,rfl,O,W⟩
    have n:aa v::eY f b=(v::y).map aa:=by rw[T];rfl
    have m:(cx (.inl x::g)).Nodup:=A;refine⟨k7 (.inl x::g) S,l,by rw[n];exact r.cal o u m,?_⟩;rw[n];cases B:d l with
    |no=>rw[B]at h;exact h.elim
    |er c G=>
     rw[B]at h;unfold fj at h;dsimp only at h;by_cases i:eZ (.inl x::g) G=ah
     .rw[if_pos i]at h;exact h.elim
     .rw[if_neg i]at h;exact h.elim
    |ok a G=>
     rw[B]at h;intro q w p P Q;unfold fj at h;dsimp only at h;by_cases i:eZ (.inl x::g) G=ah
     .rw[if_pos i]at h;obtain⟨N,J,L,_⟩:=r.called o u m P Q (λ_ z=>z) (mI i);exact⟨_,N,J,L,h q N p J L⟩
     .rw[if_neg i]at h;exact h.elim
  .rw[if_neg A]at h;exact h.elim
def mL(X:Cx)(a:List ay):TT:=λb H Q=>Bx (∀d s,Inv X d b H s->ar (au X.prog X.w) X.A (forIn a ah λc r=>if r=ah then do let ok <-mY c X.env (bi c X.env);pure (ForInStep.yield ok)else pure (ForInStep.yield r)) (TP X d b Q) X.xe s)
def DF(X:Cx)(E:XK)(c:List ay)(d:ai->R Bool):Prop:=∀F S f a H Q,aI X.K F S f a H->Ok X.K E a F S H (d f) (λb _ _ _ g=>Q b g)->mL X c a H Q
def cL:ai->R Bool:=λε=>.ok ah ε
theorem mB{X:Cx}{E:XK}:DF X E [] cL:=λF S d a H Q b h=>⟨λc s I=>EA c s a H Q I (h F S H b (Grow.refl ..))⟩
theorem mK{X:Cx}{E:XK}{c:ay}{d:ai->R Bool}(h:DT X E c d):DF X E [c] d:=λF S b a H Q f q=>⟨λg s I=>RI mJ g s a H Q I (h F S b a H Q f q)⟩
theorem Ok.bindB{K:ax}{E:XK}{b:St}{F s:ag->Prop}{S n:Nat->ag->Prop}{H p:Hp}{j i:Type}{D:i->ai->(ag->Prop)->(Nat->ag->Prop)->Hp->Prop}{r:R j}{k:j->ai->R i}(h:Ok K E b F S H (r.bind k) D)(g:Grow (U S) (U n) F s H p):Ok K E b s n p r (λa d _ _ _=>Ok K E b F S H (k a d) D):=by
 cases r with
 |no=>exact h
 |er c f=>exact λx u o q l m=>h x u o q l (g.trans m)
 |ok a f=>exact λu o q l m=>h
section
variable{X:Cx}{E:XK}{c:eC}{x:Str}{N':List Str}{cap:List Nat}
theorem Grow.stay{O a F d:ag->Prop}{H b:Hp}(g:Grow O a F d H b){l:ag}{o:HO}(e:H l=aa o)(n:¬O l)(f:¬F l):b l=aa o/\¬d l/\¬a l :=
 ⟨g.keep l o e n,λz=>(g.fnew l z).elim f λw=>w.elim (λq=>by rw[e]at q;cases q) n,λz=>(g.onew l z).elim n λq=>by rw[e]at q;cases q⟩
theorem aI.lay{K:ax}{F:ag->Prop}{S:Nat->ag->Prop}{i:ai}{h:St}{H:Hp}{l:ag}{o o':HO}(r:aI K F S i h H)(A:H l=aa o)(no:dY o)(y:¬F l)(m:¬U S l):Grow (λb=>U S b\/b=l) (U S) F F H (L2.upd H l o')/\Fit (λb=>U S b\/b=l) F H/\aI K F S i h (L2.upd H l o'):=by
 have f:Grow (λb=>U S b\/b=l) (U S) F F H (L2.upd H l o'):=⟨λ_ z=>z,λb o e n=>by rw[bh λz=>n (.inr z)];exact e,λb o e=>by
  by_cases p:b=l
  .subst p;exact⟨_,upd_same⟩
  .exact⟨o,by rw[bh p];exact e⟩,λ_ z=>.inl z,λ_ z=>.inl (.inl z)⟩
 have g:Fit (λb=>U S b\/b=l) F H:=λb z=>by
  rcases z with z|rfl
  .exact r.fit b z
  .exact⟨y,_,A,no⟩
 refine⟨f,g,r.len,λb z=>let ⟨o,q⟩:=r.ex b z;f.there b o q,λj pv e=>?_,λj v e=>?_,λj b z=>?_,r.dist⟩
 .obtain⟨w,d,a⟩:=r.val j pv e;exact⟨w,d,a.grow f g⟩
 .obtain⟨w,d,a⟩:=r.own j v e;refine⟨w,d,a.mono (λ_ _ q=>q.grow f g) (λ_ _ q=>q.grow f g) λb o z q=>?_⟩;rw[bh (by rintro rfl;exact m ⟨j,z⟩)];exact q
 .obtain⟨d,a,o,u,s⟩:=r.foot j b z;exact⟨d,a,o,by rw[bh (by rintro rfl;exact m ⟨j,z⟩)];exact u,s⟩
theorem Grow.lay{O d F h:ag->Prop}{H f:Hp}{l:ag}{o':HO}(g:Grow O d F h H f)(a:H l=ae):Grow O d F h H (L2.upd f l o'):=by
 refine⟨g.fro,λb o e n=>?_,λb o e=>?_,g.fnew,g.onew⟩
 .rw[bh (by rintro rfl;rw[a]at e;cases e)];exact g.keep b o e n
 .obtain⟨i,q⟩:=g.there b o e;exact⟨i,by rw[bh (by rintro rfl;rw[a]at e;cases e)];exact q⟩
theorem E3{elt B:ay}{px:Pos}{ifs:List ay}{di:ai->R (List PV)}{dt:ai->R Bool}{de:ai->R PV}(hi:DI X E (.Name x px) B di)(ht:∀C d f r p,DF (bx X c N' C d f r p) E0 ifs dt) (he:∀C d f r p,DE (bx X c N' C d f r p) E0 elt de){F:ag->Prop}{S:Nat->ag->Prop}{ε:ai}{j:St}{H:Hp}{Q:VK} (rl:aI X.K F S ε j H) (h:Ok X.K E j F S H (bP cap di dt de ε) (λpo _ s M g=>∀a Sa,ef X.K g s po a Sa->(∀b,Sa b->H b=ae/\¬s b/\¬U M b/\∃o,g b=aa o/\dY o)->Q (.ref a) g)):yz (lh X (.Name x px) B) (λj H Q=>∀C d f r p,mL (bx X c N' C d f r p) ifs j H Q) (λj H Q=>∀C d f r p,gf (bx X c N' C d f r p) elt j H Q) cap j H Q:=by
 refine hi F S ε j H _ rl ((Ok.bind h).imp λA ε1 O S1 H1 r1 g1 h1 J vs RR rs hz hw keep l hl=>?_);have h1:=h1.bind;have hvl:vs.length=A.length:=rs.len;have a0:Al O O H1 (upd H1 l (.lst [])):=Al.new0 hl;have nF1:¬O l:=λz=>by obtain⟨o,q⟩:=r1.ex l z;rw[hl]at q;cases q
 have nS1:¬U S1 l:=λ⟨i,z⟩=>by obtain⟨_,_,o,q,_⟩:=r1.foot i l z;rw[hl]at q;cases q
 have hH:H l=ae:=kX g1 hl;refine⟨λi m G g=>m=A.length-i/\i<=A.length/\∃s M Z T,aI X.K s M Z j g/\Grow (U S1) (U M) O s H1 g/\g l=aa (.lst G)/\¬s l/\¬U M l/\aS X.K g s T G/\G.length<=i /\ Ok X.K E j O S1 H1 (gW cap dt de (A.drop i) T Z) (λys' w W S2 N=>Ok X.K E j W S2 N (R.ok (PO.lst ys') w) (λpo _ s M g=>∀a Sa,ef X.K g s po a Sa->(∀b,Sa b->H b=ae/\¬s b/\¬U M b/\∃o,g b=aa o/\dY o)->Q (.ref a) g)),⟨_,rfl,kJ _,O,S1,ε1,[],r1.al a0,a0.grow,upd_same,nF1,nS1,rfl,a6 _,h1⟩,?_⟩;rintro i m G N ⟨rfl,hi,W,S2,w,T,P,L,el,nF2,nS2,n,hyl,q2⟩;have RH:=keep S2 W N L;by_cases bu:i<A.length
 .obtain⟨v,hv⟩:∃v,vs[i]?=aa v:=⟨_,fh ∅⟩
  obtain⟨go,yl⟩:=(hw N RH i).1 v hv;refine .inr ⟨go,λv' g y=>⟨[aa v'],rfl,rfl,?_⟩⟩;obtain⟨e1,e2⟩:=yl v' g y;subst e1 e2;obtain⟨px',hx,rx⟩:=rs.back hv;have ed:A.drop i=px'::A.drop (i+1):=by rw[qj bu];congr 1;exact(cE.mp hx).2
  rw[ed]at q2;have rx2:=rx.grow L r1.fit;have q3:=Ok.bindB q2 L;obtain⟨Sb,ss,rb,okb⟩:=Dg P rx2 q3;intro C d f r p;refine ht C d f r p W Sb ss _ g _ rb (okb.imp λb _ F3 _ H3 _ _ ⟨Y,S3,r3,K,q4⟩=>?_);obtain⟨el3,nF3,nS3⟩:=K.stay el nS2 nF2;cases b with
  |false=>exact mE ⟨_,∅,rfl,bu,F3,S3,Y,T,r3,L.trans K,el3,nF3,nS3,n.grow K P.fit,∅,q4⟩
  |true=>refine mM ?_;have q5:Ok X.K E j O S1 H1 ((bC (bZ cap de px' Y)).bind λy w=>gW cap dt de (A.drop (i+1)) (T++[y]) w) _:=q4;obtain⟨Sc,sc,rc,okc⟩:=Dg r3 (rx2.grow K P.fit) (Ok.bindB q5 (L.trans K));intro C d f r p;refine he C d f r p F3 Sc sc _ H3 _ rc (okc.imp λy _ F4 _ H4 _ _ ⟨ε4,S4,r4,g4,q6⟩ u ru=>?_);obtain⟨el4,nF4,nS4⟩:=g4.stay el3 nS3 nF3;have I:=(n.grow K P.fit).grow g4 r3.fit;obtain⟨gl,D,r5⟩:=r4.lay (o':=.lst (G++[u])) el4 trivial nF4 nS4;have g5:=((L.trans K).trans g4).lay (o':=.lst (G++[u])) hl;refine⟨el4,?_,_,∅,rfl,bu,F4,S4,ε4,T++[y],r5,g5,upd_same,nF4,nS4,(I.grow gl D).app (.one (ru.grow gl D)),by simp;lia,q6⟩;lia
 .have e:i=A.length:=∅
  subst e;refine .inl ⟨(hw N RH _).2 hvl.symm,?_⟩;rw[y3]at q2;exact q2 W S2 N P L W S2 N P (Grow.refl ..) l (λb=>b=l) ⟨⟨G,el,n⟩,λb=>kM⟩ λb z=>by subst z;exact⟨hH,nF2,nS2,_,el,trivial⟩
theorem jt{j d:ay}{m pos:Pos}{i:List ay}{o:ai->R (List PV)}{dt:ai->R Bool}{de:ai->R PV}(B:iG X c x N' cap)(w:X.calm=ah)(u:DI X E (.Name x m) d o)(q:∀C a b g f,DF (bx X c N' C a b g f) E0 i dt) (v:∀C a b g f,DE (bx X c N' C a b g f) E0 j de) (r:∀x,lp d X.env x=pure x:=by intro _;rfl):DN X E (.ListComp j [⟨.Name x m,d,i,0⟩] c pos) (bP cap o dt de):=λF S y l H Q p h=>b_ (MK (wi:=lh X (.Name x m) d) (ts:=λl H Q=>∀C a b g f,mL (bx X c N' C a b g f) i l H Q) (te:=λl H Q=>∀C a b g f,gf (bx X c N' C a b g f) j l H Q) (pos:=pos) B w vh (λC a b g f n s l H Q I h=>(h C a b g f).run n s I) (λC a b g f n s l H Q I h=>(h C a b g f).run n s I) r) (E3 u q v p h)
end
theorem KN(x y:Tx):tS x++tS y=tS (x++y):=by
 show(⟨x.toArray++y.toArray⟩:Str)=⟨(x++y).toArray⟩
 simp
def bj:PV->PV->Option PV
 |.int i,.int j=>aa (.int (i+j))
 |.str x,.str y=>if(x++y).length<=bd then aa (.str (x++y))else ae
 |.tup b,.tup a=>if b≠[]/\a≠[]/\b.length+a.length<=1000 then aa (.tup (b++a))else ae
 |.lst b,.lst a=>if b.length+a.length<=bd then aa (.lst (b++a))else ae
 |_,_=>ae
def ku:PV->PV->Option PV
 |.int i,.int j=>aa (.int (i-j))
 |_,_=>ae
def u7(i:Int):Bool:=decide (-(2^64)<i/\i<2^64)
def k_:PV->PV->Option PV
 |.int i,.int j=>if u7 i||u7 j then aa (.int (i*j))else ae
 |.str x,.int j=>if 0<=j/\j<=100/\x.length<=100 then aa (.str (dP j.toNat x).flatten)else ae
 |_,_=>ae
def hZ:PV->PV->Option PV
 |.int i,.int j=>if 0<j then aa (.int (i % j))else ae
 |_,_=>ae
def uj:PV->PV->Option PV
 |.int i,.int j=>if 0<=j/\j<=1000000/\i.natAbs<2^64 then aa (.int (i^j.toNat))else ae
 |_,_=>ae
def fS:PV->Option PV
 |.int i=>aa (.int (-i))
 |_=>ae
def Fu:R2:=λx y H Q=>∃l b c a,x=.ref l/\y=.ref b/\Rd H l (.lst c)/\Rd H b (.lst a)/\c.length+a.length<=bn/\∀p,H p=ae->Q (.ref p) (upd H p (.lst (c++a)))
def xi(K:ax):R2:=λx y H Q=>((lQ λi j=>V.int (i+j)) x y H Q\/∃i j,x=.str i/\y=.str j/\i.length+j.length<=bn/\Q (.str (i++j)) H)\/(Eb K x y H Q\/Fu x y H Q)
def FI:R2:=λx y H Q=>rI AJ (λi j=>.int (i*j)) x y H Q\/∃(z:Tx) (n:Nat),x=tV z/\y=.int n/\n<=100/\z.length<=100/\Q (tV (dP n z).flatten) H
section
variable{X:Cx}{K:ax}
theorem wE:P2 K (lQ λi j=>.int (i-j)) ku:=λF H x y v u Q pv b a e q=>by
 unfold ku at e;split at e
 .cases e;exact⟨_,_,b,a,q _ F H (Al.refl ..) rfl⟩
 .cases e
theorem vi:P2 K (rI (λ_ j=>0<j) λi j=>.int (i % j)) hZ:=λF H x y v u Q pv b a e q=>by
 unfold hZ at e;split at e
 .split at e
  .cases e;exact⟨_,_,b,a,by assumption,q _ F H (Al.refl ..) rfl⟩
  .cases e
 .cases e
theorem RK:P2 K (rI Et λi j=>.int (i^j.toNat)) uj:=λF H x y v u Q pv b a e q=>by
 unfold uj at e;split at e
 .split at e
  .cases e;exact⟨_,_,b,a,by assumption,q _ F H (Al.refl ..) rfl⟩
  .cases e
 .cases e
theorem pY:P1 K (rU λi=>.int (-i)) fS:=λF H x v Q pv a e q=>by
 unfold fS at e;split at e
 .cases e;exact⟨_,a,q _ F H (Al.refl ..) rfl⟩
 .cases e
theorem A0{d:List (ag×Obj)}{c:St}{H:Hp}{s:ao}{l:ag}{b:List V}(I:Inv X d c H s)(h:Rd H l (.lst b)):∃(a:List aj) (n:Nat),bL b a/\s.heap.get? l=aa {cls:=.type "list",data:=.seq a.toArray n}/\b.length<=bn:=by obtain⟨z,a,n,r,e⟩:=h.ok I.hok;exact⟨a,n,r,e,z⟩
theorem Lq:bS X (iR .Add) Fu:=by
 intro D s p H x y v u Q I i g h;obtain⟨l,b,z,w,rfl,rfl,f,j,C,q⟩:=h;cases i;cases g;obtain⟨c,n,r,e,_⟩:=A0 I f;obtain⟨a,A,d,o,_⟩:=A0 I j;have f:=r.length;have B:=d.length;refine PySem.P.add_list e o ?_ (by rw[cO,cO];lia);have m:c.toArray++a.toArray=(c++a).toArray:=by simp
 rw[m];exact⟨.ref _,_,I.lnew (t':=s.toks) (r.append d) (by rw[dD];lia),rfl,q _ I.fresh⟩
theorem fz:bS X (iR .Add) (xi X.K):=(SA.or Lh).or (Su.or Lq)
theorem fk:P2 K (xi K) bj:=λF H x y v u Q pv l j e q=>by
 unfold bj at e;split at e
 .cases e;exact .inl (.inl ⟨_,_,l,j,q _ F H (Al.refl ..) rfl⟩)
 .rename_i x y;split at e
  .rename_i c;cases e;refine .inl (.inr ⟨_,_,l.1,j.1,?_,?_⟩)
   .rw[ki,ki];rw[dD]at c;exact cq c kl
   .exact q _ F H (Al.refl ..) ⟨by rw[KN];rfl,c⟩
  .cases e
 .rename_i w s;split at e
  .rename_i c;cases e;obtain⟨a,n,rfl,r,f⟩:=l;obtain⟨b,m,rfl,o,d⟩:=j;have h:=f.len;have g:=d.len;refine .inr (.inl ⟨a,b,n,m,rfl,rfl,cp.of r,cp.of o,λz=>c.1 (by rw[z]at h;exact vB h.symm),by rw[h,g];exact Af c.2.2,λz=>absurd (by rw[z]at g;exact vB g.symm) c.2.1,λ_ p i=>?_⟩);exact q _ F _ (Al.new0 i) ⟨p,_,rfl,upd_same,(Al.new0 i).reps (f.app d)⟩
  .cases e
 .rename_i w s;split at e
  .rename_i c;cases e;obtain⟨a,n,rfl,r,B,f⟩:=l;obtain⟨b,m,rfl,o,A,d⟩:=j;have h:=f.len;have g:=d.len;refine .inr (.inr ⟨a,b,n,m,rfl,rfl,r,o,by rw[h,g];exact cq c kl,λp i=>?_⟩);exact q _ _ _ (Al.new i) ⟨p,_,rfl,.inl upd_same,.inr rfl,(Al.new i).reps (f.app d)⟩
  .cases e
 .cases e
theorem Ao:bS X (iR .Mult) FI:=Sl.or Oe
theorem z7:P2 K FI k_:=λF H x y v u Q pv b a e q=>by
 unfold k_ at e;split at e
 .rename_i i j;split at e
  .rename_i h;cases e;refine .inl ⟨_,_,b,a,?_,q _ F H (Al.refl ..) rfl⟩;rw[yU]at h;exact h.imp of_decide_eq_true of_decide_eq_true
  .cases e
 .rename_i x j;split at e
  .rename_i h;cases e;refine .inr ⟨x,j.toNat,b.1,?_,∅,h.2.2,q _ F H (Al.refl ..) ⟨rfl,?_⟩⟩
   .rw[show u=V.int j from a];congr 1;lia
   .rw[Nh];have c:j.toNat<=100:=∅
    exact cq (BM c h.2.2) (by decide)
  .cases e
 .cases e
def c7(f:Int->Int->Bool):PV->PV->Option PV
 |.int i,.int j=>aa (.bl (f i j))
 |_,_=>ae
theorem jc{f:Int->Int->Bool}:P2 K (lQ λi j=>.bl (f i j)) (c7 f):=λF H x y v u Q pv b a e q=>by
 unfold c7 at e;split at e
 .cases e;exact⟨_,_,b,a,q _ F H (Al.refl ..) rfl⟩
 .cases e
def dX:PV->Option V
 |.non=>aa .non
 |.bl b=>aa (.bl b)
 |.int i=>aa (.int i)
 |.str x=>aa (tV x)
 |_=>ae
theorem kW{H:Hp}{F:ag->Prop}{x:PV}{v w:V}(r:aN K H F x v)(e:dX x=aa w):v=w:=by
 cases x <;> simp[dX]at e <;> subst e
 .exact r
 .exact r
 .exact r
 .exact r.1
theorem zp{x:PV}{w:V}(e:dX x=aa w):j4 w=ah:=by
 cases x <;> simp[dX]at e <;> subst e <;> rfl
mutual
def dz:PV->PV->Option Bool
 |.tup c,y=>match y with
  |.tup a=>gC c a
  |_=>ae
 |.lst c,y=>match y with
  |.lst a=>gC c a
  |_=>ae
 |.non,y=>(dX y).map (i7 .non)
 |.bl b,y=>(dX y).map (i7 (.bl b))
 |.int i,y=>(dX y).map (i7 (.int i))
 |.str x,y=>(dX y).map (i7 (tV x))
 |.raw _,_=>ae
 |.exc _,_=>ae
def gC:List PV->List PV->Option Bool
 |[],c=>aa c.isEmpty
 |x::d,c=>match c with
  |[]=>aa ak
  |y::c=>(dz x y).bind λa=>(gC d c).map λb=>a&&b
end
mutual
def jf:PV->Nat
 |.tup a=>ip a+1
 |.lst a=>ip a+1
 |_=>0
def ip:List PV->Nat
 |[]=>0
 |x::a=>max (jf x) (ip a)
end
theorem Hg{H:Hp}{d a:Nat}{x y:V}{k:Bool}(h:iF K H d x y k)(l:d<=a):iF K H a x y k:=λX g i b s u v A I f c j=>h X g i b s u v A I f c ∅
theorem xG{H:Hp}{F:ag->Prop}{w:V}{y:PV}{u:V}{k:Bool}{d:Nat}(b:j4 w=ah)(e:(dX y).map (i7 w)=aa k)(a:aN K H F y u):iF K H d w u k:=by
 cases q:dX y with
 |none=>rw[q]at e;cases e
 |some z=>
  rw[q]at e;cases e;rw[kW a q];exact Ke b (zp q)
theorem JP{H:Hp}{a:ag}{c b:List V}(h:Rd H a (.lst c))(g:Rd H a (.lst b)):c=b:=by
 rcases h with h|⟨o,h⟩ <;> rcases g with g|⟨d,g⟩ <;> rw[h]at g <;> cases g <;> rfl
theorem Ru{a:Bool}{e:Nat->Bool}{n m:Nat}:gh (λj=>if j=0 then a else e (j-1)) (n+1) (m+1)=(a&&gh e n m):=by
 unfold gh;rw[show min (n+1) (m+1)=min n m+1 by lia,yR,oz,vA,if_pos rfl,Bool.and_assoc];congr 1;congr 1
 .simp
mutual
theorem Ac{H:Hp}{F:ag->Prop}:∀(x y:PV) {v:V}{k:Bool},dz x y=aa k->aN K H F x v->aN K H F y v->k=ah
 |.tup h,y,v,k,e,d,c=>by
  unfold dz at e;split at e
  .obtain⟨a,n,rfl,j,f⟩:=d;obtain⟨b,m,l,g,i⟩:=c;cases l;rw[j]at g;cases g;exact AT h _ e f i
  .cases e
 |.lst h,y,v,k,e,d,c=>by
  unfold dz at e;split at e
  .obtain⟨a,n,rfl,j,_,f⟩:=d;obtain⟨b,m,l,g,_,i⟩:=c;cases l;rw[JP j g]at f;exact AT h _ e f i
  .cases e
 |.non,y,v,k,e,d,c=>by
  unfold dz at e;cases q:dX y with
  |none=>rw[q]at e;cases e
  |some z=>rw[q]at e;cases e;rw[<-kW c q,show v=V.non from d];rfl
 |.bl b,y,v,k,e,d,c=>by
  unfold dz at e;cases q:dX y with
  |none=>rw[q]at e;cases e
  |some z=>rw[q]at e;cases e;rw[<-kW c q,show v=V.bl b from d];exact beq_self_eq_true b
 |.int b,y,v,k,e,d,c=>by
  unfold dz at e;cases q:dX y with
  |none=>rw[q]at e;cases e
  |some z=>rw[q]at e;cases e;rw[<-kW c q,show v=V.int b from d];exact beq_self_eq_true b
 |.str b,y,v,k,e,d,c=>by
  unfold dz at e;cases q:dX y with
  |none=>rw[q]at e;cases e
  |some z=>rw[q]at e;cases e;rw[<-kW c q,show v=tV b from d.1];exact beq_self_eq_true (tS b)
 |.raw _,_,_,_,e,_,_=>by unfold dz at e;cases e
 |.exc _,_,_,_,e,_,_=>by unfold dz at e;cases e
theorem AT{H:Hp}{F:ag->Prop}:∀(d c:List PV) {f:List V}{k:Bool},gC d c=aa k->aS K H F d f->aS K H F c f->k=ah
 |[],c,f,k,e,i,g=>by
  unfold gC at e;rw[show f=[] from i]at g;have:=g.len;cases c with
  |nil=>cases e;rfl
  |cons=>simp at this
 |x::d,c,f,k,e,i,g=>by
  unfold gC at e;obtain⟨v,r,rfl,m,l⟩:=i;cases c with
  |nil=>have:=g.len;simp at this
  |cons y c=>
   obtain⟨q,s,p,o,n⟩:=g;cases p;simp only at e;cases h:dz x y with
   |none=>rw[h]at e;cases e
   |some a=>
    cases j:gC d c with
    |none=>rw[h,j]at e;cases e
    |some b=>
     rw[h,j]at e;cases e;rw[Ac x y h m o,AT d c j l n];rfl
end
mutual
theorem RM{H:Hp}{F:ag->Prop}:∀(x y:PV) {v u:V}{k:Bool},dz x y=aa k->aN K H F x v->aN K H F y u->iF K H (jf x) v u k
 |.tup i,y,v,u,k,e,d,c=>by
  have p:=e;unfold dz at e;split at e
  .rename_i h;obtain⟨a,r,rfl,o,l⟩:=id d;obtain⟨b,q,rfl,n,j⟩:=id c;by_cases g:a=b
   .subst g;rw[Ac _ _ p d c];exact Dd
   .obtain⟨f,m,rfl⟩:=uD i h e l j;unfold jf;exact K4 (cp.of o) (cp.of n) g m
  .cases e
 |.lst i,y,v,u,k,e,d,c=>by
  have p:=e;unfold dz at e;split at e
  .rename_i h;obtain⟨a,r,rfl,o,_,l⟩:=id d;obtain⟨b,q,rfl,n,_,j⟩:=id c;by_cases g:a=b
   .subst g;rw[Ac _ _ p d c];exact Dd
   .obtain⟨f,m,rfl⟩:=uD i h e l j;unfold jf;exact Jc (.inl o) (.inl n) g m
  .cases e
 |.non,y,v,u,k,e,d,c=>by unfold dz at e;rw[show v=V.non from d];exact xG rfl e c
 |.bl b,y,v,u,k,e,d,c=>by unfold dz at e;rw[show v=V.bl b from d];exact xG rfl e c
 |.int b,y,v,u,k,e,d,c=>by unfold dz at e;rw[show v=V.int b from d];exact xG rfl e c
 |.str b,y,v,u,k,e,d,c=>by unfold dz at e;rw[show v=tV b from d.1];exact xG rfl e c
 |.raw _,_,_,_,_,e,_,_=>by unfold dz at e;cases e
 |.exc _,_,_,_,_,e,_,_=>by unfold dz at e;cases e
theorem uD{H:Hp}{F:ag->Prop}:∀(d c:List PV) {g i:List V}{k:Bool},gC d c=aa k->aS K H F d g->aS K H F c i -> ∃f:Nat->Bool,(∀(j:Nat) x y,g[j]?=aa x->i[j]?=aa y->iF K H (ip d) x y (f j))/\k=gh f g.length i.length
 |[],c,g,i,k,e,n,l=>by
  unfold gC at e;rw[show g=[] from n];refine⟨λ_=>ah,λj x y h=>by simp at h,?_⟩;have:=l.len;cases e;unfold gh;cases c with
  |nil=>simp at this;simp[this]
  |cons=>rw[this];simp
 |x::d,c,g,i,k,e,n,l=>by
  unfold gC at e;obtain⟨v,r,rfl,B,A⟩:=n;cases c with
  |nil=>
   cases e;rw[show i=[] from l];exact⟨λ_=>ah,λj x y _ h=>by simp at h,by simp[gh]⟩
  |cons y c=>
   obtain⟨u,E,rfl,D,C⟩:=l;simp only at e;cases m:dz x y with
   |none=>rw[m]at e;cases e
   |some a=>
    cases o:gC d c with
    |none=>rw[m,o]at e;cases e
    |some b=>
     rw[m,o]at e;cases e;obtain⟨f,z,rfl⟩:=uD d c o A C;refine⟨λj=>if j=0 then a else f (j-1),λj p q w s=>?_,by rw[eU,eU,Ru]⟩;cases j with
     |zero=>simp at w s;subst w s;show iF K H _ _ _ (if(0:Nat)=0 then a else f (0-1));rw[if_pos rfl];exact Hg (RM x y m B D) (by unfold ip;exact Nat.le_max_left _ _)
     |succ j=>show iF K H _ _ _ (if j+1=0 then a else f (j+1-1));rw[if_neg ∅];exact Hg (z j p q (by simpa using w) (by simpa using s)) (show ip d<=max (jf x) (ip d)from Nat.le_max_right _ _)
end
def eqT(neg:Bool)(x y:PV):Option PV:=match dX x,dX y with
 |some v,aa u=>if pM v u then aa (.bl (neg^^decide (v=u)))else ae
 |none,ae=>if jf x<=8 then(dz x y).map λk=>.bl (neg^^k)else ae
 |_,_=>ae
def Gx(K:ax):R2:=λx y H Q=>Fy x y H Q\/uc K ak x y H Q
def Da(K:ax):R2:=λx y H Q=>EB x y H Q\/uc K ah x y H Q
theorem n_(a:X.A.units+64<cLine):bS X (d9 .Eq) (Gx X.K):=Sw.or (Jy a)
theorem t5(a:X.A.units+64<cLine):bS X (d9 .NotEq) (Da X.K):=SM.or (OM a)
theorem Gy{H:Hp}{F:ag->Prop}{x y:PV}{v u:V}{k:Bool}{Q:VK}{neg:Bool}(h:dX x=ae)(e:dz x y=aa k)(B:jf x<=8)(A:aN K H F x v)(w:aN K H F y u)(q:Q (.bl (neg^^k)) H):uc K neg v u H Q:=by
 have d:∀{g:Bool},k=g->Q (.bl (if neg=ah then !g else g)) H:=λ{g} z=>by subst z;cases neg <;> simpa using q
 cases x with
 |tup c=>
  unfold dz at e;split at e
  .rename_i i;obtain⟨a,l,rfl,r,n⟩:=A;obtain⟨b,j,rfl,p,m⟩:=w;obtain⟨f,o,s⟩:=uD c i e n m;unfold jf at B;exact⟨a,b,l,j,ip c,f,rfl,rfl,.inr ⟨cp.of r,cp.of p⟩,∅,o,d s⟩
  .cases e
 |lst c=>
  unfold dz at e;split at e
  .rename_i i;obtain⟨a,l,rfl,r,_,n⟩:=A;obtain⟨b,j,rfl,p,_,m⟩:=w;obtain⟨f,o,s⟩:=uD c i e n m;unfold jf at B;exact⟨a,b,l,j,ip c,f,rfl,rfl,.inl ⟨.inl r,.inl p⟩,∅,o,d s⟩
  .cases e
 |raw _=>unfold dz at e;cases e
 |exc _=>unfold dz at e;cases e
 |non=>cases h
 |bl _=>cases h
 |int _=>cases h
 |str _=>cases h
theorem nW:P2 K (Gx K) (eqT ak):=λF H x y v u Q pv g f e q=>by
 unfold eqT at e;split at e
 .rename_i a b d h;split at e
  .rename_i i;cases e;rw[kW g d,kW f h];refine .inl ⟨i,?_⟩;have:=q (.bl (decide (a=b))) F H (Al.refl ..) (by simp[aN]);exact this
  .cases e
 .rename_i d h;split at e
  .rename_i j;cases c:dz x y with
   |none=>rw[c]at e;cases e
   |some k=>
    rw[c]at e;cases e;exact .inr (Gy (neg:=ak) d c j g f (q _ F H (Al.refl ..) rfl))
  .cases e
 .cases e
theorem uK:P2 K (Da K) (eqT ah):=λF H x y v u Q pv g f e q=>by
 unfold eqT at e;split at e
 .rename_i a b d h;split at e
  .rename_i i;cases e;rw[kW g d,kW f h];refine .inl ⟨i,?_⟩;have:=q (.bl (!decide (a=b))) F H (Al.refl ..) (by simp[aN]);exact this
  .cases e
 .rename_i d h;split at e
  .rename_i j;cases c:dz x y with
   |none=>rw[c]at e;cases e
   |some k=>
    rw[c]at e;cases e;exact .inr (Gy (neg:=ah) d c j g f (q _ F H (Al.refl ..) rfl))
  .cases e
 .cases e
end
end Pu
namespace Pu
open L2
section
variable{X:Cx}{K:ax}
def tw(i j:Tx):Bool:=!(yG (tS j) (tS i) 0 (tS j).length 1).isEmpty
def jA:List PV->Option (List V)
 |[]=>aa []
 |x::a=>(dX x).bind λv=>(jA a).map λr=>v::r
theorem Dc{H:Hp}{F:ag->Prop}:∀{a:List PV}{d b:List V},aS K H F a d->jA a=aa b->d=b/\b.all j4=ah
 |[],_,_,r,e=>by cases e;exact⟨r,rfl⟩
 |x::a,_,b,⟨v,r,rfl,g,f⟩,e=>by
  unfold jA at e;cases q:dX x with
  |none=>rw[q]at e;cases e
  |some w=>
   cases c:jA a with
   |none=>rw[q,c]at e;cases e
   |some j=>
    rw[q,c]at e;cases e;obtain⟨i,h⟩:=Dc f c;exact⟨by rw[kW g q,i],by rw[oz,zp q,h];rfl⟩
def gz(neg:Bool):PV->PV->Option PV
 |.str x,.str y=>aa (.bl (neg^^tw x y))
 |x,.lst a=>(dX x).bind λv=>(jA a).map λb=>.bl (neg^^iJ v b)
 |x,.tup a=>(dX x).bind λv=>(jA a).map λb=>.bl (neg^^iJ v b)
 |_,_=>ae
def GV(K:ax):R2:=λx y H Q=>(∃i j,x=.str i/\y=.str j/\Q (.bl (!(yG j i 0 j.length 1).isEmpty)) H)\/ur K ak x y H Q
def G6(K:ax):R2:=λx y H Q=>(∃i j,x=.str i/\y=.str j/\Q (.bl (!(!(yG j i 0 j.length 1).isEmpty))) H)\/ur K ah x y H Q
theorem P9:bS X (d9 .In) (GV X.K):=Sq.or Qi
theorem ED:bS X (d9 .NotIn) (G6 X.K):=SF.or Jx
theorem wZ{H:Hp}{F:ag->Prop}{x:PV}{c:List PV}{v:V}{p:ag}{b:List V}{Q:VK}{neg:Bool}{pv:PV}(g:aN K H F x v)(i:cB K H p b\/cp K H p b)(h:aS K H F c b)(e:((dX x).bind λv=>(jA c).map λf=>PV.bl (neg^^iJ v f))=aa pv) (q:∀w,aN K H F pv w->Q w H):ur K neg v (.ref p) H Q:=by
 cases a:dX x with
 |none=>rw[a]at e;cases e
 |some w=>
  cases d:jA c with
  |none=>rw[a,d]at e;cases e
  |some f=>
   rw[a,d]at e;cases e;obtain⟨rfl,j⟩:=Dc h d;rw[kW g a];refine⟨p,b,rfl,i,zp a,j,?_⟩;have:=q _ rfl;cases neg <;> simpa using this
theorem Jk:P2 K (GV K) (gz ak):=λF H x y v u Q pv d c e q=>by
 unfold gz at e;split at e
 .cases e;exact .inl ⟨_,_,d.1,c.1,by have:=q _ F H (Al.refl ..) rfl;simpa[tw]using this⟩
 .obtain⟨a,h,rfl,g,_,f⟩:=c;exact .inr (wZ (neg:=ak) d (.inl (.inl g)) f e λw b=>q w F H (Al.refl ..) b)
 .obtain⟨a,h,rfl,g,f⟩:=c;exact .inr (wZ (neg:=ak) d (.inr (cp.of g)) f e λw b=>q w F H (Al.refl ..) b)
 .cases e
theorem GR:P2 K (G6 K) (gz ah):=λF H x y v u Q pv d c e q=>by
 unfold gz at e;split at e
 .cases e;exact .inl ⟨_,_,d.1,c.1,by have:=q _ F H (Al.refl ..) rfl;simpa[tw]using this⟩
 .obtain⟨a,h,rfl,g,_,f⟩:=c;exact .inr (wZ (neg:=ah) d (.inl (.inl g)) f e λw b=>q w F H (Al.refl ..) b)
 .obtain⟨a,h,rfl,g,f⟩:=c;exact .inr (wZ (neg:=ah) d (.inr (cp.of g)) f e λw b=>q w F H (Al.refl ..) b)
 .cases e
def re(a:Bool):PV->PV->Option PV
 |x,.non=>match x with
  |.non=>aa (.bl (a^^ah))
  |.raw _=>ae
  |_=>aa (.bl (a^^ak))
 |_,_=>ae
theorem Jt{H:Hp}{F:ag->Prop}{x:PV}{v:V}(r:aN K H F x v)(h:x≠.non)(c:∀w,x≠.raw w):decide (v=V.non)=ak:=by
 refine decide_eq_false λz=>?_;subst z;cases x with
 |non=>exact h rfl
 |raw w=>exact c w rfl
 |bl _=>cases r
 |int _=>cases r
 |str _=>cases r.1
 |tup _=>obtain⟨a,b,e,_⟩:=r;cases e
 |lst _=>obtain⟨a,b,e,_⟩:=r;cases e
 |exc _=>obtain⟨a,e,_⟩:=r;cases e
theorem Jm{H:Hp}{F:ag->Prop}{x y:PV}{v u:V}{Q:VK}{pv:PV}{a:Bool}(c:aN K H F x v)(f:aN K H F y u)(e:re a x y=aa pv)(q:∀w d b,Al F d H b->aN K b d pv w->Q w b):u=.non/\Q (.bl (a^^decide (v=V.non))) H:=by
 unfold re at e;split at e
 .refine⟨f,?_⟩;split at e
  .cases e;rw[show v=V.non from c];exact q _ F H (Al.refl ..) rfl
  .cases e
  .rename_i h g;cases e;rw[Jt c (λz=>h z) (λw z=>g w z)];exact q _ F H (Al.refl ..) rfl
 .cases e
theorem Qe:P2 K (λx y H Q=>y=.non/\Q (.bl (decide (x=.non))) H) (re ak):=λF H x y v u Q pv b a e q=>by have:=Jm b a e q;simpa using this
def bv:List PV->Option PV
 |[.str x]=>aa (.int x.length)
 |[.lst a]=>aa (.int a.length)
 |[.tup a]=>aa (.int a.length)
 |_=>ae
theorem gU{H:Hp}{F:ag->Prop}{x:PV}{a:List V}(r:aS K H F [x] a):∃v,a=[v]/\aN K H F x v:=by obtain⟨v,b,rfl,d,c⟩:=r;rw[show b=[] from c];exact⟨v,rfl,d⟩
theorem fZ:PL K (λg H Q=>∃x n,g=[x]/\DP K x H n/\Q (.int n) H) bv:=λF H g i Q pv c e q=>by
 unfold bv at e;split at e
 .cases e;obtain⟨v,rfl,h⟩:=gU c;rw[h.1];exact⟨_,_,rfl,⟨by rw[ki];exact cq h.2 kl,rfl⟩,by rw[ki];exact q _ F H (Al.refl ..) rfl⟩
 .cases e;obtain⟨v,rfl,a,b,rfl,f,_,d⟩:=gU c;exact⟨_,_,rfl,.inl ⟨b,.inl f,rfl⟩,by rw[d.len];exact q _ F H (Al.refl ..) rfl⟩
 .cases e;obtain⟨v,rfl,a,b,rfl,f,d⟩:=gU c;exact⟨_,_,rfl,.inr ⟨b,cp.of f,rfl⟩,by rw[d.len];exact q _ F H (Al.refl ..) rfl⟩
 .cases e
def xJ:List PV->Option PO
 |[.lst a]=>aa (.lst a)
 |[.tup a]=>aa (.lst a)
 |_=>ae
theorem NO:lS K (λh H Q=>∃p c,h=[.ref p]/\(cB K H p c\/cp K H p c)/\∀l,H l=ae->Q (.ref l) (upd H l (.lst c))) xJ:=λF H h m Q n j i e q=>by
 unfold xJ at e;split at e
 .cases e;obtain⟨v,rfl,a,d,rfl,g,_,f⟩:=gU i;exact⟨a,d,rfl,.inl (.inl g),λl b=>q l F _ _ (Al.new0 b) (uf b f) (ux b j trivial)⟩
 .cases e;obtain⟨v,rfl,a,d,rfl,g,f⟩:=gU i;exact⟨a,d,rfl,.inr (cp.of g),λl b=>q l F _ _ (Al.new0 b) (uf b f) (ux b j trivial)⟩
 .cases e
def k8:List PV->Option PV
 |[.lst a]=>aa (.tup a)
 |[.tup a]=>aa (.tup a)
 |_=>ae
theorem yj:PL K (λg H Q=>∃p d,g=[.ref p]/\((cB K H p d/\∀l,H l=ae->Q (.ref l) (upd H l (.tup d)))\/(cp K H p d/\Q (.ref p) H))) k8:=λF H g j Q pv h e q=>by
 unfold k8 at e;split at e
 .cases e;obtain⟨v,rfl,a,b,rfl,c,_,f⟩:=gU h;exact⟨a,b,rfl,.inl ⟨.inl c,λl i=>q _ F _ (Al.new0 i) ⟨l,b,rfl,upd_same,(Al.new0 i).reps f⟩⟩⟩
 .cases e;obtain⟨v,rfl,a,b,rfl,c,f⟩:=gU h;exact⟨a,b,rfl,.inr ⟨cp.of c,q _ F H (Al.refl ..) ⟨a,b,rfl,c,f⟩⟩⟩
 .cases e
def fY:List PV->Option (List Tx)
 |[]=>aa []
 |.str x::a=>(fY a).map (x::·)
 |_=>ae
def am(ls:List Tx):List PV:=ls.map .str
theorem nP(a:List Tx):fY (am a)=aa a:=by
 induction a with
 |nil=>rfl
 |cons x a b=>show(fY (am a)).map (x::·)=_;rw[b];rfl
theorem wy:∀{a:List PV}{b:List Tx},fY a=aa b->a=am b
 |[],b,e=>by cases e;rfl
 |.str x::a,b,e=>by
  unfold fY at e;cases q:fY a with
  |none=>rw[q]at e;cases e
  |some r=>rw[q]at e;cases e;rw[wy q];rfl
 |.non::_,_,e=>by cases e
 |.bl _::_,_,e=>by cases e
 |.int _::_,_,e=>by cases e
 |.tup _::_,_,e=>by cases e
 |.lst _::_,_,e=>by cases e
 |.raw _::_,_,e=>by cases e
 |.exc _::_,_,e=>by cases e
theorem Sm{H:Hp}{F:ag->Prop}:∀{a:List Tx}{b:List V},aS K H F (am a) b↔b=b0 a/\∀x∈a,x.length<=bd
 |[],b=>by simp[am,aS,b0]
 |x::a,b=>by
  show(∃v r,b=v::r/\(v=tV x/\x.length<=bd)/\aS K H F (am a) r)↔_;constructor
  .rintro⟨v,r,rfl,⟨rfl,f⟩,h2⟩;obtain⟨rfl,d⟩:=Sm.mp h2;exact⟨rfl,λy c=>by
    rcases bI.mp c with rfl|c
    .exact f
    .exact d y c⟩
  .rintro⟨rfl,h⟩;exact⟨tV x,b0 a,rfl,⟨rfl,h x (by simp)⟩,Sm.mpr ⟨rfl,λy c=>h y (by simp[c])⟩⟩
def mw:List PV->Option (List Bool)
 |[]=>aa []
 |.bl b::a=>(mw a).map (b::·)
 |_=>ae
theorem E5{H:Hp}{F:ag->Prop}:∀{a:List PV}{c:List V}{bs:List Bool},aS K H F a c->mw a=aa bs->c=bs.map V.bl
 |[],_,_,r,e=>by cases e;exact r
 |.bl b::a,_,bs,⟨v,r,rfl,f,d⟩,e=>by
  unfold mw at e;cases q:mw a with
  |none=>rw[q]at e;cases e
  |some g=>rw[q]at e;cases e;rw[E5 d q,show v=V.bl b from f];rfl
 |.non::_,_,_,_,e=>by cases e
 |.str _::_,_,_,_,e=>by cases e
 |.int _::_,_,_,_,e=>by cases e
 |.tup _::_,_,_,_,e=>by cases e
 |.lst _::_,_,_,_,e=>by cases e
 |.raw _::_,_,_,_,e=>by cases e
 |.exc _::_,_,_,_,e=>by cases e
def uG:List PV->Option PV
 |[.lst a]=>(mw a).map λbs=>.bl (bs.all id)
 |_=>ae
theorem Hm:PL K (λc H Q=>∃(p:ag) (bs:List Bool),c=[.ref p]/\cB K H p (bs.map V.bl)/\Q (.bl (bs.all id)) H) uG:=λF H c i Q pv g e q=>by
 unfold uG at e;split at e
 .rename_i f;cases b:mw f with
  |none=>rw[b]at e;cases e
  |some bs=>
   rw[b]at e;cases e;obtain⟨v,rfl,a,j,rfl,d,_,h⟩:=gU g;rw[E5 h b]at d;exact⟨a,bs,rfl,.inl d,q _ F H (Al.refl ..) rfl⟩
 .cases e
def vd:PV->Option String
 |.non=>aa "NoneType"
 |.bl _=>aa "bool"
 |.int _=>aa "int"
 |.str _=>aa "str"
 |.tup _=>aa "tuple"
 |.lst _=>aa "list"
 |_=>ae
def jC:List PV->Option PV
 |[x,.raw (.ty T)]=>(vd x).bind λt=>(jH [] (.type t) (.type T)).map λb=>.bl b
 |_=>ae
theorem tT:fO X (.builtin "isinstance") (λa H Q=>∃x t T b,a=[x,.ty T]/\jh X.K H x (.type t)/\jH X.K (.type t) (.type T)=aa b/\Q (.bl b) H):=by
 intro m s i H a j Q I r h;obtain⟨x,t,T,b,rfl,ty,e,q⟩:=h;cases r with
 |cons g f=>
  cases f with
  |cons d c=>
   cases c;cases d;exact LS I g ty e λl=>⟨.bl b,H,I.tok _,rfl,q⟩
theorem Mw{H:Hp}{F:ag->Prop}{x:PV}{v:V}{t:String}(r:aN K H F x v)(e:vd x=aa t):jh K H v (.type t):=by
 cases x with
 |non=>cases e;rw[show v=V.non from r];exact .non
 |bl b=>cases e;rw[show v=V.bl b from r];exact .bl b
 |int b=>cases e;rw[show v=V.int b from r];exact .int b
 |str b=>cases e;rw[show v=tV b from r.1];exact .str _
 |tup d=>cases e;obtain⟨a,f,rfl,c,_⟩:=r;exact .tup c
 |lst d=>
  cases e;obtain⟨a,f,rfl,c,_⟩:=r;rcases c with c|⟨o,c⟩
  .exact .lst c
  .exact .frz c
 |raw _=>cases e
 |exc _=>cases e
theorem uv:PL K (λd H Q=>∃x t T b,d=[x,.ty T]/\jh K H x (.type t)/\jH K (.type t) (.type T)=aa b/\Q (.bl b) H) jC:=λF H d j Q pv f e q=>by
 unfold jC at e;split at e
 .rename_i x T;cases a:vd x with
  |none=>rw[a]at e;cases e
  |some t=>
   cases c:jH [] (.type t) (.type T)with
   |none=>rw[a,g8,c]at e;cases e
   |some b=>
    rw[a,g8,c]at e;cases e;obtain⟨v,l,rfl,i,h⟩:=f;obtain⟨u,rfl,g⟩:=gU h;rw[show u=V.ty T from g];exact⟨v,t,T,b,rfl,Mw i a,c,q _ F H (Al.refl ..) rfl⟩
 .cases e
theorem t6{E:XK}{x:Str}{T:String}{f:Pos}(c:X.mg x=ae)(a:fg x=aa (.type T))(d:Gl X x:=by rfl)(b:x≠"__name__":=by decide)(g:(x==("__debug__":Str))=ak:=by decide):DE X E (.Name x f) (dC (.raw (.ty T))):=λF S i h H Q r q=>b_ (Mn (v:=.ty T) d c a rfl b g) (q F S H r (Grow.refl ..) _ rfl)
def aW:PV->PV->Option PV
 |.lst a,.int i=>fI a i
 |.tup a,.int i=>fI a i
 |.str x,.int i=>(fI x i).map λc=>.str [c]
 |_,_=>ae
theorem Dl{H:Hp}{F:ag->Prop}{a:List PV}{b:List V}{i:Int}{x:PV}(r:aS K H F a b)(e:fI a i=aa x):∃v,fI b i=aa v/\aN K H F x v:=by
 unfold fI at e ⊢;rw[r.len];cases q:iI a.length i with
 |none=>rw[q]at e;cases e
 |some j=>rw[q]at e;exact r.get e
theorem dW:P2 K (Gs K) aW:=λF H x y v u Q pv b f e q=>by
 unfold aW at e;split at e
 .rename_i n i;obtain⟨a,d,rfl,j,_,g⟩:=b;obtain⟨w,m,l⟩:=Dl g e;exact .inl ⟨a,d,i,w,rfl,f,.inl j,m,q _ F H (Al.refl ..) l⟩
 .rename_i n i;obtain⟨a,d,rfl,j,g⟩:=b;obtain⟨w,m,l⟩:=Dl g e;exact .inr (.inl ⟨a,d,i,w,rfl,f,cp.of j,m,q _ F H (Al.refl ..) l⟩)
 .rename_i x i;cases h:fI x i with
  |none=>rw[h]at e;cases e
  |some c=>
   rw[h]at e;cases e;rw[b.1];exact .inr (.inr ⟨_,i,c,rfl,f,by rw[ki];exact cq b.2 kl,by rw[kt];exact h,q _ F H (Al.refl ..) ⟨rfl,by show 1<=bd;decide⟩⟩)
 .cases e
def gn{b:Type}(a:List b)(c d:Option Int):List b:=(a.drop (HT.sIx a.length 0 c)).take (HT.sIx a.length a.length d-HT.sIx a.length 0 c)
theorem NQ{b:Type}(a:List b)(c d:Option Int):(gn a c d).length<=a.length:=by unfold gn;rw[qa,m_];lia
def dG:PV->Option Int->Option Int->Option PV
 |.str x,b,c=>aa (.str (gn x b c))
 |.lst a,b,c=>aa (.lst (gn a b c))
 |.tup a,b,c=>if HT.sIx a.length 0 b=0/\HT.sIx a.length a.length c=a.length then ae else aa (.tup (gn a b c))
 |_,_,_=>ae
def EN(K:ax):V->Option Int->Option Int->Hp->VK->Prop:=λx a b H Q=>E9 x a b H Q\/(EF K x a b H Q\/F6 K x a b H Q)
theorem j7:mG X (EN X.K):=Sk.or (Sn.or LJ)
theorem DJ{H:Hp}{F:ag->Prop}{a:List PV}{b:List V}(r:aS K H F a b)(c d:Option Int):aS K H F (gn a c d) (nU b c d):=by unfold gn nU;rw[r.len];exact(r.drop _).take _
theorem j6:Fd K (EN K) dG:=λF H x h i v Q pv b e q=>by
 unfold dG at e;split at e
 .cases e;rw[b.1];refine .inl ⟨_,rfl,by rw[ki];exact cq b.2 kl,?_⟩;refine q _ F H (Al.refl ..) ⟨?_,cq (NQ ..) b.2⟩;unfold lU gn;rw[ki,kt];rfl
 .cases e;obtain⟨a,f,rfl,g,_,d⟩:=b;exact .inr (.inl ⟨a,f,rfl,.inl g,λp c=>q _ _ _ (Al.new c) ⟨p,_,rfl,.inl upd_same,.inr rfl,(Al.new c).reps (DJ d h i)⟩⟩)
 .split at e
  .cases e
  .rename_i j;cases e;obtain⟨a,f,rfl,g,d⟩:=b;exact .inr (.inr ⟨a,f,rfl,cp.of g,by rw[d.len];exact j,λp c=>q _ _ _ (Al.new0 c) ⟨p,_,rfl,upd_same,(Al.new0 c).reps (DJ d h i)⟩⟩)
 .cases e
variable{E:XK}{g l a b:ay}{d:ai->R PV}{m:ai->R (List PV)}{p f:Pos}
def dN:PV->Option (List PV)
 |.lst h=>aa h
 |.tup h=>aa h
 |.str x=>aa (x.map λc=>.str [c])
 |_=>ae
def aT(d:ai->R PV):ai->R (List PV):=λε=>(d ε).bind λx ε1=>aO (dN x) ε1
theorem z8{H:Hp}{F:ag->Prop}:∀(x:Tx),aS K H F (x.map λc=>PV.str [c]) (x.map sg)
 |[]=>rfl
 |c::x=>⟨sg c,x.map sg,rfl,⟨rfl,by show 1<=bd;decide⟩,z8 x⟩
theorem et(he:DE X E l d):DI X E g l (aT d):=λF S ε Z H Rr rl h=>Bx.mk λaf s I=>by
 have w:=he F S ε Z H (λv r=>∃B D u x,aI X.K B D u Z r/\aN X.K r B x v/\Ok X.K E Z B D r (aO (dN x) u) (λpvs _ F' S' H'=>∀J L RR,aS X.K H' F' pvs L->L.length<=bn->Walk J L RR->(∀S'' F'' Y,Grow (U S') (U S'') F' F'' H' Y->RR Y)->Rr J H')) rl
  ((Ok.bind h).imp λx u B D r G g1 q v N=>⟨B,D,u,x,G,N,q⟩)
 refine aP (w.run af s I) λv c ⟨x,r,y,rx,B,D,u,pv,G,N,q⟩=>?_;cases pv with
 |lst xs=>
  obtain⟨a,M,rfl,C,hF,ra⟩:=N;cases rx;obtain⟨O,rr,pp,P⟩:=y.list (.inl C);refine HJ pp.isList ?_;refine⟨c.heap.objs.size,[c.heap.objs.size],_,_,r,rfl,y.kept (t':=c.toks) λb o e=>bE _ e,Nz a _,⟨_,cG _ rfl,rfl,rfl⟩,λb T=>?_,q B D r G (Grow.refl ..) (zJ X.K a) M (λH=>cB X.K H a M) ra P NM λS2 F2 H2 g2=>.inl (g2.lst G.fit hF C)⟩;have e:b=c.heap.objs.size:=by simpa using T
  subst e;exact y.fpOk (a6 _) (y.hok.fresh (a6 _))
 |tup xs=>
  obtain⟨a,M,rfl,C,ra⟩:=N;cases rx;obtain⟨O,rr,pp,P⟩:=y.tuple (cp.of C);refine BW (show c.heap.IsTuple a O.toArray from pp) ?_;refine⟨c.heap.objs.size,[c.heap.objs.size],_,_,r,rfl,y.kept (t':=c.toks) λb o e=>bE _ e,Qa a _,⟨_,cG _ rfl,rfl,rfl⟩,λb T=>?_,q B D r G (Grow.refl ..) (AN X.K a) M (λH=>cp X.K H a M) ra P JC λS2 F2 H2 g2=>cp.of (g2.imm G.fit C id)⟩;have e:b=c.heap.objs.size:=by simpa using T
  subst e;exact y.fpOk (a6 _) (y.hok.fresh (a6 _))
 |str z=>
  obtain⟨rfl,P⟩:=N;obtain⟨t,rfl⟩:=rx;have qq:Rr (vc (tS z)) r:=q B D r G (Grow.refl ..) (vc (tS z)) (z.map sg) (λ_=>True) (z8 z) (by rw[b7];exact cq P kl) (by have:=Ow (z:=tS z);rw[kt]at this;exact this) λ_ _ _ _=>trivial;have W:∀(n:String) (j:Nat->aC->Prop),(∀i h,j i h->∃o n L,h.get? c.heap.objs.size=aa o/\o.cls=.type n/\o.data=.fields L /\ ["enumerate","zip","dict_itemiterator","dict_reverseitemiterator","odict_iterator","itertools.zip_longest","itertools.pairwise"].contains n=ak) ->
    (∀(A:aY) (i:Nat) (s:ao) (Q:aj->ao->Prop) (E:aj->ao->Prop),j i s.heap->Q (.ref c.heap.objs.size) s->ar (au X.prog X.w) A (mZ (.ref c.heap.objs.size)) Q E s) ->
    (∀A:aY,A.handled=ae->Walks X.prog X.w A c.heap.objs.size [c.heap.objs.size] [c.heap.objs.size] (tS z).cps.size (SignAt (tS z)) j) ->
    j 0 (c.heap.push {cls:=.type n,data:=.fields #[.str (tS z) t,.int 0 0]}) ->
    wK X af Z g Rr (.ref c.heap.objs.size) {c with heap:=c.heap.push {cls:=.type n,data:=.fields #[.str (tS z) t,.int 0 0]}}:=λn j q h2 h3 h4=>by
   refine⟨c.heap.objs.size,[c.heap.objs.size],j,vc (tS z),r,rfl,y.kept (t':=c.toks) λb o e=>bE _ e,PY q h2 h3,h4,λb T=>?_,qq⟩;have e:b=c.heap.objs.size:=by simpa using T
   subst e;exact y.fpOk (a6 _) (y.hok.fresh (a6 _))
  cases C:(tS z).cps.all (· < 128)
  .refine wpAny_pyIter_wide C (W "str_iterator" (λi h=>h.IsStrIter c.heap.objs.size "str_iterator" (tS z) t i) (λi h ⟨o,e1,e2,e3⟩=>⟨o,_,_,e1,e2,e3,by decide⟩) (λA i s Q E st h=>wpAny_pyIter_striter_wide st h) (λA' hA=>Walks.strWide hA _ (tS z) t) ⟨_,cG _ rfl,rfl,rfl⟩)
  .refine wpAny_pyIter_ascii C (W "str_ascii_iterator" (λi h=>h.IsStrIter c.heap.objs.size "str_ascii_iterator" (tS z) t i) (λi h ⟨o,e1,e2,e3⟩=>⟨o,_,_,e1,e2,e3,by decide⟩) (λA i s Q E st h=>wpAny_pyIter_striter_ascii st h) (λA' hA=>Walks.strAscii hA _ (tS z) t) ⟨_,cG _ rfl,rfl,rfl⟩)
 |non=>exact(show False from q).elim
 |bl _=>exact(show False from q).elim
 |int _=>exact(show False from q).elim
 |raw _=>exact(show False from q).elim
 |exc _=>exact(show False from q).elim
def eV(c:Int)(n:Nat):List PV:=(cJ n).map λi=>PV.int (c+(i:Nat))
theorem Kb{H:Hp}{F:ag->Prop}(c:Int)(n:Nat):aS K H F (eV c n) (rA c n):=by
 unfold eV rA
 induction (cJ n)with
 |nil=>rfl
 |cons x i h=>exact⟨_,_,rfl,rfl,h⟩
def jY:List PV->Option (List PV)
 |[.int j]=>if j<=1000000/\-1000000<=j then aa (eV 0 j.toNat)else ae
 |_=>ae
theorem t4(x:X.mg "range"=ae)(z:DA X E [a] m)(y:Gl X "range":=by rfl)(w:aZ [a] X.env=[(ak,bi a X.env)]:=by rfl):DI X E g (.Call (.Name "range" p) [a] [] f) (dL jY m):=λF S o i H L r h=>by
 refine Lo (Rm y x ii w) (z F S o i H _ r ((Ok.bind h).imp λD n C A B s J c G u=>?_));unfold jY at c;split at c
 .rename_i j;split at c
  .rename_i I;obtain⟨v,rfl,q⟩:=gU u;refine⟨j,by rw[show v=V.int j from q],∅,∅,c C A B s (Grow.refl ..) _ _ _ (Kb 0 j.toNat) (by rw[zS,sw];lia) LZ λ_ _ _ _=>trivial⟩
  .exact c.elim
 .exact c.elim
end
section
variable{K:ax}{F:ag->Prop}{S:Nat->ag->Prop}{f:ai}{l:St}{H:Hp}{i:Nat}{p m:List PV}{d:List V}{a:ag}
theorem aI.lstAt(r:aI K F S f l H)(e:f[i]?=aa (.own (.lst p))):∃a c,l[i]?=aa (aa (.ref a))/\H a=aa (.lst c)/\aS K H F p c/\S i a/\∀b,S i b->b=a:=by obtain⟨a,o,⟨c,n,j⟩,g⟩:=r.own i _ e;exact⟨a,c,o,n,j,(g a).mpr rfl,λb h=>(g b).mp h⟩
theorem aI.upd(r:aI K F S f l H)(e:f[i]?=aa (.own (.lst p)))(D:l[i]?=aa (aa (.ref a)))(h:aS K H F m d):aI K F S (f.set i (.own (.lst m))) l (upd H a (.lst d))/\Grow (U S) (U S) F F H (upd H a (.lst d)):=by
 obtain⟨N,J,E,M,L,y,B⟩:=r.lstAt e;rw[D]at E;cases E;have A:i<f.length:=(cE.mp e).1;have g:Grow (U S) (U S) F F H (L2.upd H a (.lst d)):=⟨λ_ z=>z,λb o q n=>by rw[bh (by rintro rfl;exact n ⟨i,y⟩)];exact q,λb o q=>by
  by_cases C:b=a
  .subst C;exact⟨_,upd_same⟩
  .exact⟨o,by rw[bh C];exact q⟩,λ_ z=>.inl z,λ_ z=>.inl z⟩
 refine⟨⟨by rw[gs];exact r.len,λb z=>let ⟨o,q⟩:=r.ex b z;g.there b o q,λj pv q=>?_,λj po q=>?_,λj b z=>?_,r.dist⟩,g⟩
 .have s:i≠j:=by rintro rfl;rw[d8 A]at q;cases q
  rw[cN s]at q;obtain⟨v,x,u⟩:=r.val j pv q;exact⟨v,x,u.grow g r.fit⟩
 .by_cases s:i=j
  .subst s;rw[d8 A]at q;cases q;exact⟨a,D,⟨d,upd_same,h.grow g r.fit⟩,λb=>⟨B b,λz=>by rw[z];exact y⟩⟩
  .rw[cN s]at q;obtain⟨c,x,u⟩:=r.own j po q;refine⟨c,x,u.mono (λ_ _ z=>z.grow g r.fit) (λ_ _ z=>z.grow g r.fit) λb o z w=>?_⟩;rw[bh (by rintro rfl;exact s (r.dist i j b y z))];exact w
 .obtain⟨⟨po,x⟩,u,o,I,G⟩:=r.foot j b z;by_cases s:i=j
  .subst s;rw[B b z];exact⟨⟨_,d8 A⟩,by rw[<-B b z];exact u,_,upd_same,trivial⟩
  .exact⟨⟨po,by rw[cN s];exact x⟩,u,o,by rw[bh (by rintro rfl;exact s (r.dist i j b y z))];exact I,G⟩
end
section
variable{X:Cx}{E:XK}{pin:List Nat}{e b:ay}{de db:ai->R PV}{d:Pos}
def i6(a:ai)(i:Nat):Option (List PV):=match a[i]? with
 |some (.own (.lst c))=>aa c
 |_=>ae
theorem n9{a:ai}{i:Nat}{c:List PV}(h:i6 a i=aa c):a[i]?=aa (.own (.lst c)):=by
 unfold i6 at h;split at h
 .cases h;assumption
 .cases h
def rH(i:Nat)(de:ai->R PV):ai->R aM:=λc=>(aO (i6 c i) c).bind λ_ c=>(de c).bind λy a=>(aO (i6 a i) a).bind λf a=>if f.length<bd then .ok .next (a.set i (.own (.lst (f++[y]))))else .no
theorem Fp(i:Nat){x:Str}{p f c:Pos}(N:DE X E e de)(Q:X.N[i]?=aa x:=by rfl)(K:eJ X.env.scope x:=by eq_refl)(O:(x==("__debug__":Str))=ak:=by decide)(bB:(x==("__classdict__":Str))=ak:=by decide) (Z:qe (.Name x p) "append" X.env (bi (.Name x p) X.env)=bi (.Name x p) X.env:=by rfl)(Y:((eO c (aZ [e] X.env)).all (λx=>!x.1)&&(backToKw c (yM [] X.env)).all (λx=>x.1.isSome)&&decide ([e].length+([]:List ng).length+(if([]:List ng).isEmpty then 0 else 1)<30))=ah:=by rfl)(W:(f.endLine == c.line)=ah:=by rfl) (z:aZ [e] X.env=(ak,bi e X.env)::aZ [] X.env:=by rfl) (T:(eO c (aZ [] X.env)).any (·.1)=ak:=by rfl)(L:jj (.Call (.Attribute (.Name x p) "append" f) [e] [] c) ae d.line X.env=pure ak:=by rfl):DS X E pin (.Expr (.Call (.Attribute (.Name x p) "append" f) [e] [] c) d) (rH i de):=λF S r o H D s h=>by
 unfold rH at h;cases n:i6 r i with
 |none=>rw[n]at h;exact h.elim
 |some A=>
  rw[n]at h;simp only[bV,R.bind_ok]at h;obtain⟨a,B,m,P,_,_,_⟩:=s.lstAt (n9 n);refine fX (AB (A9 PySem.F.plainAttrs_list PySem.F.slot_list_append PySem.F.type_list_append Fs (fq Q K O bB) (jb bM kn z) Z Y W z T) L) ⟨.ref a,m,.inl ⟨rfl,_,cB.of P⟩,?_⟩;refine N F S r o H _ s (h.bindE.imp λy l F1 S1 H1 w g1 q v I=>?_);cases j:i6 l i with
  |none=>rw[j]at q;exact q.elim
  |some xs=>
   rw[j]at q;simp only[bV,R.bind_ok]at q;obtain⟨a',C,g,G,u,_,_⟩:=w.lstAt (n9 j);rw[m]at g;cases g;split at q
   .rename_i M;obtain⟨J,g2⟩:=w.upd (n9 j) m (u.app (.one I));exact⟨a,C,v,rfl,rfl,G,by rw[u.len];exact iq M kl,q F1 S1 o _ J g2 (iY.refl _ _)⟩
   .exact q.elim
def Nu:V->List V->Hp->VK->Prop:=λx f H Q=>∃l b c a,x=.ref l/\f=[.ref b]/\H l=aa (.lst c)/\Rd H b (.lst a)/\c.length+a.length<=bn/\Q .non (L2.upd H l (.lst (c++a)))
theorem N1:Hj X "list.extend" Nu:=by
 intro N s B H x G v J Q I j m h;obtain⟨l,b,D,C,rfl,rfl,i,w,L,q⟩:=h;cases j;obtain⟨u,rfl,o⟩:=m.one;cases o;obtain⟨z,c,n,r,M,e⟩:=I.lstM i;obtain⟨a,p,g,y,_⟩:=A0 I w;have K:=g.length;have f:c.toArray.size+a.toArray.size<=bn:=by rw[cO,cO];lia
 have A:¬(!c.toArray.isEmpty&&HE (c.toArray.size+a.toArray.size))=ah:=by rw[PD f,Bool.and_false];exact eT
 refine call_meets F.slot_list_extend ⟨_,e,rfl⟩ F.entry_list_extend (F.args_list_extend_2 _ _)
  (AutoSeq1.list_extend_list_list_0 l c.toArray n b a.toArray p A (by rw[cO];lia) ∅) ⟨e,y,?_⟩
 refine⟨.non,_,I.lset (its':=c++a) i e (by simp) (r.append g) ?_,rfl,q⟩;rw[dD];lia
def jy(i:Nat)(de:ai->R PV):ai->R aM:=λa=>(aO (i6 a i) a).bind λ_ a=>(de a).bind λy ε1=>(aO (i6 ε1 i) ε1).bind λf ε1=>match y with
 |.lst c=>if f.length+c.length<=bd then .ok .next (ε1.set i (.own (.lst (f++c))))else .no
 |_=>.no
theorem Ai(i:Nat){x:Str}{p g f:Pos}(Q:DE X E e de)(Z:X.N[i]?=aa x:=by rfl)(N:eJ X.env.scope x:=by eq_refl)(T:(x==("__debug__":Str))=ak:=by decide)(bB:(x==("__classdict__":Str))=ak:=by decide) (h1:qe (.Name x p) "extend" X.env (bi (.Name x p) X.env)=bi (.Name x p) X.env:=by rfl)(h2:((eO f (aZ [e] X.env)).all (λx=>!x.1)&&(backToKw f (yM [] X.env)).all (λx=>x.1.isSome)&&decide ([e].length+([]:List ng).length+(if([]:List ng).isEmpty then 0 else 1)<30))=ah:=by rfl)(h3:(g.endLine == f.line)=ah:=by rfl) (B:aZ [e] X.env=(ak,bi e X.env)::aZ [] X.env:=by rfl) (h5:(eO f (aZ [] X.env)).any (·.1)=ak:=by rfl)(O:jj (.Call (.Attribute (.Name x p) "extend" g) [e] [] f) ae d.line X.env=pure ak:=by rfl):DS X E pin (.Expr (.Call (.Attribute (.Name x p) "extend" g) [e] [] f) d) (jy i de):=λF S s r H D u h=>by
 unfold jy at h;cases o:i6 s i with
 |none=>rw[o]at h;exact h.elim
 |some C=>
  rw[o]at h;simp only[bV,R.bind_ok]at h;obtain⟨a,G,n,Y,_,_,_⟩:=u.lstAt (n9 o);refine fX (AB (A9 PySem.F.plainAttrs_list PySem.F.slot_list_extend PySem.F.type_list_extend N1 (fq Z N T bB) (jb bM kn B) h1 h2 h3 B h5) O) ⟨.ref a,n,.inl ⟨rfl,_,cB.of Y⟩,?_⟩;refine Q F S s r H _ u (h.bindE.imp λy m F1 S1 H1 A g1 q v L=>?_);cases l:i6 m i with
  |none=>rw[l]at q;exact q.elim
  |some xs=>
   rw[l]at q;simp only[bV,R.bind_ok]at q;obtain⟨a',I,j,K,z,_,_⟩:=A.lstAt (n9 l);rw[n]at j;cases j;split at q
   .rename_i ys;split at q
    .rename_i P;obtain⟨c,J,rfl,W,_,w⟩:=L;obtain⟨M,g2⟩:=A.upd (n9 l) n (z.app w);exact⟨a,c,I,J,rfl,rfl,K,W,by rw[z.len,w.len];exact cq P kl,q F1 S1 r _ M g2 (iY.refl _ _)⟩
    .exact q.elim
   .exact q.elim
end
mutual
def imm:PV->Bool
 |.lst _=>ak
 |.tup a=>mF a
 |_=>ah
def mF:List PV->Bool
 |[]=>ah
 |x::a=>imm x&&mF a
end
mutual
theorem aN.imm{K:ax}{H:Hp}{F i:ag->Prop}:∀(x:PV) {v:V},imm x=ah->aN K H F x v->aN K H i x v
 |.non,_,_,h=>h
 |.bl _,_,_,h=>h
 |.int _,_,_,h=>h
 |.str _,_,_,h=>h
 |.raw _,_,_,h=>h
 |.exc _,_,_,h=>h
 |.lst _,_,e,_=>by simp[Pu.imm]at e
 |.tup b,_,e,⟨a,c,g,f,d⟩=>⟨a,c,g,f,aS.imm b (by simpa[Pu.imm]using e) d⟩
theorem aS.imm{K:ax}{H:Hp}{F i:ag->Prop}:∀(a:List PV) {b:List V},mF a=ah->aS K H F a b->aS K H i a b
 |[],_,_,h=>h
 |x::a,_,e,⟨v,r,g,f,d⟩=>by
  have c:imm x=ah/\mF a=ah:=by simpa[mF]using e
  exact⟨v,r,g,aN.imm x c.1 f,aS.imm a c.2 d⟩
end
section
variable{K:ax}{F:ag->Prop}{S:Nat->ag->Prop}{ε:ai}{c:St}{H:Hp}{i:Nat}{d:List PV}
theorem aI.look(r:aI K F S ε c H)(e:ε[i]?=aa (.own (.lst d))):∃a,c[i]?=aa (aa (.ref a))/\¬F a/\aN K H (λb=>F b\/b=a) (.lst d) (.ref a)/\(∀b,F b\/b=a->∃o,H b=aa o) /\ (∀{g f},Al (λb=>F b\/b=a) g H f->Al F (λb=>g b/\b≠a) H f):=by
 obtain⟨a,l,p,j,n,m,q⟩:=r.lstAt e;have h:¬F a:=(r.foot i a m).2.1;refine⟨a,p,h,⟨a,l,rfl,.inl j,.inr rfl,aS.mono (λ_ z=>.inl z) (λ_ _ _ z=>z) (λ_ _ z _=>z) _ _ n⟩,λb z=>z.elim (r.ex b) λz=>by rw[z];exact⟨_,j⟩,λ{g f} al=>⟨λb z=>⟨al.fro b (.inl z),by rintro rfl;exact h z⟩,al.same,λb z=>?_⟩⟩;rcases al.fnew b z.1 with(w|w)|w
 .exact .inl w
 .exact absurd w z.2
 .exact .inr w
end
section
variable{X:Cx}{E:XK}{e b:ay}{de db:ai->R PV}{d p:Pos}{x y:Str}{l T:String}{r:List V->Hp->VK->Prop}{f:List PV->Option PV}{g:List PV->Option PO}
def ub(o:Option PV):Option PV:=o.bind λv=>if imm v then aa v else ae
theorem Jl{o:Option PV}{v:PV}(h:ub o=aa v):o=aa v/\imm v=ah:=by
 cases o with
 |none=>cases h
 |some w=>
  have h:(if imm w then aa w else ae)=aa v:=h;split at h
  .cases h;exact⟨rfl,by assumption⟩
  .cases h
def Gj:PO->Bool
 |.lst a=>mF a
 |_=>ak
def lW{c:Type}(f:List PV->Option c)(i:Nat):ai->R c:=λa=>(aO (i6 a i) a).bind λh a=>aO (f [.lst h]) a
theorem Ri{F:ag->Prop}{S:Nat->ag->Prop}{n:ai}{m:St}{H:Hp}{Q:VK}{i:Nat}(C:PL X.K r f)(u:aI X.K F S n m H)(h:Ok X.K E m F S H (lW (λc=>ub (f c)) i n) (λpv _ A _ j=>∀v,aN X.K j A pv v->Q v j)):∃a,m[i]?=aa (aa (.ref a))/\r [.ref a] H Q:=by
 unfold lW at h;cases s:i6 n i with
 |none=>rw[s]at h;exact h.elim
 |some c=>
  rw[s]at h;simp only[bV,R.bind_ok]at h;obtain⟨a,G,K,B,D,z⟩:=u.look (n9 s);refine⟨a,G,?_⟩;cases q:ub (f [.lst c])with
  |none=>rw[q]at h;exact h.elim
  |some pv=>rw[q]at h;obtain⟨J,I⟩:=Jl q;exact C _ H [.lst c] [.ref a] Q pv (.one B) J λw A j al o=>h _ S j (u.al (z al)) (z al).grow w (aN.imm pv I o)
theorem OS(i:Nat)(B:fO X (.builtin l) r)(u:PL X.K r f)(w:X.mg x=ae)(o:fg x=aa (.builtin l))(C:X.N[i]?=aa y:=by rfl)(G:eJ X.env.scope y:=by eq_refl)(A:(y==("__debug__":Str))=ak:=by decide) (J:(y==("__classdict__":Str))=ak:=by decide) (z:Gl X x:=by rfl) (v:x≠"__name__":=by decide) (n:(x==("__debug__":Str))=ak:=by decide) {c:Pos}(h:aZ [.Name y c] X.env=(ak,bi (.Name y c) X.env)::aZ [] X.env:=by rfl) (I:(eO d (aZ [] X.env)).any (·.1)=ak:=by rfl):DE X E (.Call (.Name x p) [.Name y c] [] d) (lW (λj=>ub (f j)) i):=λF S L K H Q m q=>by obtain⟨a,D,s⟩:=Ri u m q;exact b_ (lZ B z w o (jb (fq C G A J) kn h) v n h I) ⟨_,D,s⟩
def uT(o:Option PO):Option PO:=o.bind λv=>if Gj v then aa v else ae
theorem P5{F:ag->Prop}{S:Nat->ag->Prop}{s:ai}{q:St}{H:Hp}{Q:VK}{i:Nat}(hp:lS X.K r g)(A:aI X.K F S s q H)(h:Ok X.K E q F S H (lW (λm=>uT (g m)) i s) (λB _ K S' n=>∀a u,ef X.K n K B a u->(∀b,u b->H b=ae/\¬K b/\¬U S' b/\∃o,n b=aa o/\dY o)->Q (.ref a) n)):∃a,q[i]?=aa (aa (.ref a))/\r [.ref a] H Q:=by
 unfold lW at h;cases J:i6 s i with
 |none=>rw[J]at h;exact h.elim
 |some m=>
  rw[J]at h;simp only[bV,R.bind_ok]at h;obtain⟨a,ea,nF,Z,G,N⟩:=A.look (n9 J);refine⟨a,ea,?_⟩;cases I:g [.lst m]with
  |none=>rw[I]at h;exact h.elim
  |some B=>
   rw[I]at h;cases B with
   |dK D=>exact h.elim
   |lls cz=>exact h.elim
   |ins C fs=>exact h.elim
   |dT D=>exact h.elim
   |inl C fs y m=>exact h.elim
   |lst v=>
    have h:Ok X.K E q F S H (aO (if mF v then aa (PO.lst v)else ae) s) _:=h;split at h
    .rename_i hi;refine hp _ H [.lst m] [.ref a] Q _ G (.one Z) I λc K n u al ow fr=>h _ S n (A.al (N al)) (N al).grow c u ?_ λb z=>?_
     .obtain⟨⟨Y,o1,o2⟩,o3⟩:=ow;exact⟨⟨Y,o1,aS.imm v hi o2⟩,o3⟩
     .obtain⟨L,W,o,P,O⟩:=fr b z;refine⟨L,λw=>W w.1,λ⟨j,w⟩=>?_,o,P,O⟩;obtain⟨_,_,o',M,_⟩:=A.foot j b w;rw[L]at M;cases M
    .exact h.elim
theorem Oz(i:Nat)(B:fO X (.builtin l) r)(u:lS X.K r g)(w:X.mg x=ae)(o:fg x=aa (.builtin l))(C:X.N[i]?=aa y:=by rfl)(G:eJ X.env.scope y:=by eq_refl)(A:(y==("__debug__":Str))=ak:=by decide) (J:(y==("__classdict__":Str))=ak:=by decide) (z:Gl X x:=by rfl) (v:x≠"__name__":=by decide) (n:(x==("__debug__":Str))=ak:=by decide) {c:Pos}(h:aZ [.Name y c] X.env=(ak,bi (.Name y c) X.env)::aZ [] X.env:=by rfl) (I:(eO d (aZ [] X.env)).any (·.1)=ak:=by rfl):DN X E (.Call (.Name x p) [.Name y c] [] d) (lW (λj=>uT (g j)) i):=λF S L K H Q m q=>by obtain⟨a,D,s⟩:=P5 u m q;exact b_ (lZ B z w o (jb (fq C G A J) kn h) v n h I) ⟨_,D,s⟩
end
end Pu
namespace Pu
open L2
def pF(h:aC)(e T:ag)(c g:aj):Prop:=∃a b f d,h.get? e=aa a/\a.cls=c/\(a.data=.fields b/\a.dict=ae)/\b[1]?=aa (.ref T)/\T≠e/\h.get? T=aa f/\f.data=.fields d/\d[3]?=aa g
def Made(h:aC)(e:ag)(c:aj):Prop:=∃a b,h.get? e=aa a/\a.cls=c/\(a.data=.fields b/\a.dict=ae)/\b[1]?=aa .none
structure Kp(fs:List ag)(X:ag->Prop)(h h':aC):Prop where
 keep:∀b o,h.get? b=aa o->b∉fs->¬X b->h'.get? b=aa o
 slot:∀b o,h.get? b=aa o->b∈fs->¬X b->∃sl,h'.get? b=aa {o with slots:=sl}
 there:∀b o,h.get? b=aa o->∃o',h'.get? b=aa o'
theorem Kp.trans{fs:List ag}{X Y:ag->Prop}{h g f:aC}(a:Kp fs X h g)(b:Kp fs Y g f):Kp fs (λc=>X c\/Y c) h f where
 keep:=λc o e n x=>b.keep c o (a.keep c o e n λz=>x (.inl z)) n λz=>x (.inr z)
 slot:=λc o e n x=>by obtain⟨l,j⟩:=a.slot c o e n λz=>x (.inl z);obtain⟨d,i⟩:=b.slot c _ j n λz=>x (.inr z);exact⟨d,i⟩
 there:=λc o e=>let ⟨o',e'⟩:=a.there c o e;b.there c o' e'
theorem Kp.imp{fs d:List ag}{X Y:ag->Prop}{h j:aC}(a:Kp fs X h j)(f:∀b,b∈fs->b∈d)(g:∀b o,h.get? b=aa o->X b->Y b):Kp d Y h j where
 keep:=λc o e n x=>a.keep c o e (λz=>n (f c z)) λz=>x (g c o e z)
 slot:=λc o e n x=>by
  by_cases i:c∈fs
  .exact a.slot c o e i λz=>x (g c o e z)
  .exact⟨o.slots,a.keep c o e i λz=>x (g c o e z)⟩
 there:=a.there
theorem LR(f:Array aj->Array aj)(o:Obj):(nq f o).dict=o.dict:=by
 obtain⟨c,d,dt,a⟩:=o;cases dt <;> rfl
section
variable{M:Model}{A:aY}{E:aj->ao->Prop}{s:ao}
theorem Ek{z:aC}{l:Env}{g:List Env}{L e:ag}{w:Obj}{G:Array aj}{B:aj}{R5:Bool}{Q:Unit->ao->Prop}(ml:A.frames=aa (l::g)) (P:s.heap.FunFrames z (l::g)) (hf:l.frame=aa L) (S:s.heap.get? e=aa w) (I:w.data=.fields G) (Z:w.dict=ae) (v:1<G.size)(h:∀K T,Kp (gg (l::g)) (λb=>b=e) s.heap K->pF K e T w.cls .none->s.heap.objs.size<=T->Q () {s with heap:=K}):ar M A (do let a <-frameOf l;let r <-entryPlaceOf L R5;let b <-EntryCells.newEntry B a .none (dr L) .none r;ly (.ref e) 1 b) (λ_ Y=>ar M A (setFlight (.ref e) ae) Q E Y) E s:=by
 have y:e∉(l::g).filterMap (·.frame):=λhm=>by obtain⟨_,o,F,X⟩:=P.mem hm;rw[S]at F;injection F with F;subst F;exact X G I
 refine ap (wpAny_frameOf_fun ml P hf λc d=>?_);refine ap (wpAny_entryPlaceOf λr W=>?_);unfold EntryCells.newEntry newFields;refine ap (jI ?_ (W.sizeOk5 _ _ _ _ _));have n:c.get? e=aa w:=(d.2.1 e y).trans S;have m:=bE (h:=c) {cls:=.type "traceback",dict:=ae,data:=.fields ([B,.ref L,.none,dr L,.none]++(if r.isEmpty then dP 6 Value.none else r)).toArray} n;refine nj m I v ?_;have C:c.objs.size≠e:=p9 (bG n);have j:=ql I (·.setIfInBounds 1 (Value.ref c.objs.size));have i:=nc (nq (·.setIfInBounds 1 (Value.ref c.objs.size))) m (y4 j);have p:=(qd (c.push {cls:=.type "traceback",dict:=ae,data:=.fields ([B,.ref L,.none,dr L,.none]++(if r.isEmpty then dP 6 Value.none else r)).toArray}) (nq (·.setIfInBounds 1 (Value.ref c.objs.size))) (c_ C)).trans (cG c rfl);unfold setFlight;refine ap (l8 i j (x:=.ref c.objs.size) (by simp[v]) ?_);rw[if_pos (show(Value.ref c.objs.size != Value.none)=ah from by simp)];refine nj p rfl (by simp only[cO,dD,eU,qf] <;> lia) (h _ c.objs.size ?_ ?_ ?_)
 .have keep:∀b o,b≠e->c.get? b=aa o ->
    (((c.push {cls:=.type "traceback",dict:=ae,data:=.fields ([B,.ref L,.none,dr L,.none]++(if r.isEmpty then dP 6 Value.none else r)).toArray}).update e (nq (·.setIfInBounds 1 (Value.ref c.objs.size)))).update c.objs.size (nq (·.setIfInBounds 3 ((ae:Option ag).elim Value.none λf=>dr f)))).get? b=aa o:=λb o D u=>by
   have J:c.objs.size≠b:=p9 (bG u);rw[qd _ _ J,qd _ _ (c_ D)];exact bE _ u
  refine⟨λb o u O H=>keep b o H ((d.2.1 b O).trans u),λb o u O H=>?_,λb o u=>?_⟩
  .obtain⟨N,q⟩:=d.2.2 b o u;exact⟨N,keep b _ H q⟩
  .by_cases D:b=e
   .subst D;exact⟨_,(qd _ _ C).trans i⟩
   .obtain⟨N,q⟩:=d.2.2 b o u;exact⟨_,keep b _ D q⟩
 .refine⟨_,_,_,_,(qd _ _ C).trans i,HV _ _,⟨j,by rw[LR];exact Z⟩,by simp[v],C,nc _ p (y4 (ql rfl _)),ql rfl _,by first | (simp;done) | (rcases W with rfl|⟨_,_,_,_,_,_,_,rfl⟩ <;> simp)⟩
 .exact l9 d.1.symm
theorem OC{f:aC}{d:Env}{a:List Env}{L e:ag}{c:aj}{Q:Unit->ao->Prop}(o:A.frames=aa (d::a))(q:s.heap.FunFrames f (d::a))(i:d.frame=aa L)(p:Made s.heap e c)(h:∀g T,Kp (gg (d::a)) (λb=>b=e) s.heap g->pF g e T c .none->s.heap.objs.size<=T->Q () {s with heap:=g}):ar M A (leaving d (.ref e)) Q E s:=by obtain⟨v,u,j,r,⟨l,n⟩,m⟩:=p;subst r;unfold leaving noteFrame;simp only[i];refine ap (ap (l8 j l m ?_));rw[if_neg (by decide)];exact Ek o q i j l n (sE.mp m).1 h
theorem N3{n:aC}{i:Env}{d:List Env}{L e T:ag}{c:aj}{Q:Unit->ao->Prop}(I:A.frames=aa (i::d))(O:s.heap.FunFrames n (i::d))(w:i.frame=aa L)(K:pF s.heap e T c .none)(h:∀m p,Kp (gg (i::d)) (λb=>b=e\/b=T) s.heap m->pF m e p c .none->s.heap.objs.size<=p->Q () {s with heap:=m}):ar M A (noteFrame (.ref e) i) (λ_ G=>ar M A (setFlight (.ref e) ae) Q E G) E s:=by
 obtain⟨X,v,Y,D,x,W,⟨y,H⟩,C,F,r,j,B⟩:=K;subst W;unfold noteFrame;simp only[w];refine ap (l8 x y C ?_);rw[if_pos (show(Value.ref T != Value.none)=ah from by simp)];refine ap (l8 r j B ?_);rw[if_neg (show ¬((Value.none == dr L)=ah)from by simp[dr])];refine ap (nj r j (sE.mp B).1 ?_);have a:∀b,b≠T->(s.heap.update T (nq (·.setIfInBounds 3 Value.none))).get? b=s.heap.get? b:=λb f=>qd _ _ (c_ f);have g:∀b o,s.heap.get? b=aa o->(∀v,o.data≠.fields v)->b≠T:=λb o f u q=>by rw[q,r]at f;injection f with f;subst f;exact u D j
 refine Ek I (O.of_keeps λb o f u=>⟨o,(a b (g b o f u)).trans f,rfl⟩) w ((a e (c_ F)).trans x) y H (sE.mp C).1 λm p k P N=>?_;have J:Kp (gg (i::d)) (λb=>b=T) s.heap (s.heap.update T (nq (·.setIfInBounds 3 Value.none))):=by
  refine⟨λb o f _ l=>(a b l).trans f,λb o f _ l=>⟨o.slots,(a b l).trans f⟩,λb o f=>?_⟩;by_cases l:b=T
  .subst l;exact⟨_,nc _ r (y4 (ql j _))⟩
  .exact⟨o,(a b l).trans f⟩
 refine h m p ((J.trans k).imp (λ_ z=>z) λb o _ z=>z.symm) P ?_;have S:(s.heap.update T (nq (·.setIfInBounds 3 Value.none))).objs.size<=p:=N;rwa[HW]at S
theorem Qs{f:aC}{d:Env}{a:List Env}{L e T:ag}{c:aj}{Q:Unit->ao->Prop}(j:A.frames=aa (d::a))(m:s.heap.FunFrames f (d::a))(n:d.frame=aa L)(l:pF s.heap e T c .none)(h:∀g i,Kp (gg (d::a)) (λb=>b=e\/b=T) s.heap g->pF g e i c .none->s.heap.objs.size<=i->Q () {s with heap:=g}):ar M A (leaving d (.ref e)) Q E s:=by unfold leaving;exact ap (N3 j m n l h)
end
def cA(P:aR)(w:aL):gR:=λb H s E e s'=>∃(a T:ag) (c:aj) (d:Hp),e=.ref a/\s'.os=s.os/\mW s'.gens/\Un (gg b) [] H d s.heap s'.heap/\dH P w d s'.heap/\pF s'.heap a T c .none /\
 (s.heap.get? a=ae/\s.heap.get? T=ae/\d a=ae/\d T=ae)/\E c ae d
theorem Jb{P:aR}{w:aL}{H:Hp}{h:aC}{a:ag}{o:HO}(x:cn P w H h a o):∃u,h.get? a=aa u:=by
 cases o with
 |lst c=>obtain⟨_,_,_,_,e⟩:=x;exact⟨_,e⟩
 |tup c=>obtain⟨_,_,_,⟨o,e,_⟩,_⟩:=x;exact⟨_,e⟩
 |dK b=>obtain⟨_,_,_,_,o,_,_,e,_⟩:=x;exact⟨_,e⟩
 |dT b=>obtain⟨_,_,_,_,o,_,_,e,_⟩:=x;exact⟨_,e⟩
 |set S n=>obtain⟨o,_,_,_,e,_⟩:=x;exact⟨_,e⟩
 |ins C m fs=>obtain⟨_,_,_,e,_⟩:=x;exact⟨_,e⟩
 |own y=>exact x
 |xd fs=>obtain⟨_,⟨_,_,_,e,_⟩,_⟩:=x;exact⟨_,e⟩
 |rng j l=>obtain⟨_,_,_,e⟩:=x;exact⟨_,e⟩
 |frz i u=>obtain⟨e,_⟩:=x;exact⟨_,e⟩
 |tbl g=>obtain⟨_,e,_⟩:=x;exact⟨_,e⟩
 |met f y=>exact⟨_,x⟩
 |ext d=>obtain⟨_,e,_⟩:=x;exact e
theorem K9{P:aR}{w:aL}{H:Hp}{h:aC}{a:ag}(x:dH P w H h)(e:h.get? a=ae):H a=ae:=by
 cases q:H a with
 |none=>rfl
 |some u=>obtain⟨o,z⟩:=Jb (x a u q);rw[e]at z;cases z
theorem u5{fs:List ag}{H c:Hp}{h b:aC}{a:ag}(u:Un fs [] H c h b)(e:b.get? a=ae):h.get? a=ae:=by
 cases q:h.get? a with
 |none=>rfl
 |some o=>obtain⟨d,z⟩:=u.there a o q (by simp);rw[e]at z;cases z
theorem Gr{fs a:List ag}{H p:Hp}{h l j:aC}{X:ag->Prop}(u:Un fs [] H p h l)(k:Kp a X l j)(r:∀b o,h.get? b=aa o->b∈a->b∈fs)(g:∀b o,h.get? b=aa o->¬X b):Un fs [] H p h j where
 keep:=λb o e n d c=>k.keep b o (u.keep b o e n d c) (λz=>d (r b o e z)) (g b o e)
 slot:=λb o e n d c=>by
  obtain⟨q,m⟩:=u.slot b o e n d c;by_cases i:b∈a
  .obtain⟨f,s⟩:=k.slot b _ m i (g b o e);exact⟨f,s⟩
  .exact⟨q,k.keep b _ m i (g b o e)⟩
 free:=u.free
 there:=λb o e c=>let ⟨o',e'⟩:=u.there b o e c;k.there b o' e'
 tups:=u.tups
 frzs:=u.frzs
 tbls:=u.tbls
theorem E4{P:aR}{w:aL}{fs:List ag}{H:Hp}{h d:aC}{X:ag->Prop}(x:dH P w H h)(k:Kp fs X h d)(f:∀b∈fs,H b=ae)(g:∀b,X b->H b=ae):dH P w H d:=λb u e=>
 (x b u e).stay (λc v a q=>k.keep c v q (λz=>by
   have:=f c z;rcases a with rfl|a
   .rw[e]at this;cases this
   .rw[a]at this;cases this) λz=>by
   have:=g c z;rcases a with rfl|a
   .rw[e]at this;cases this
   .rw[a]at this;cases this) (λ_ q=>q) λ_ _ q=>q
section
variable{P:aR}{w:aL}{K:ax}{n:Str->Option aj}{l:aC}{N:List Str}{j:Str}{g:eC}{f:ag}{p:aj}{A:aY}{i:List Env}{d:ao}{m:Hp}{E:XK}
theorem eG:rL (cA P w) (jW (cA P w) P w K n l N j g f p A i d m E) E:=λaf Y H s e s' I h=>by
 obtain⟨a,T,c,X,rfl,J,M,un,B,Q,⟨S,W,G,Z⟩,O⟩:=h;have r:=I.call' (s':=s') (ch:=[]) J un B M (λb z=>absurd z (by simp));refine Qs (L:=d.heap.objs.size) I.ok.frames r.stack rfl Q λmn F k C y=>?_;have pA:(jW (cA P w) P w K n l N j g f p A i d m E).ex=[]:=rfl;have v:d.heap.get? a=ae:=u5 I.base S;have D:d.heap.get? T=ae:=u5 I.base W;have x:d.heap.get? F=ae:=u5 r.base (Hq y);have u:∀b o,d.heap.get? b=aa o->b≠a/\b≠T:=λb o e=>⟨(by rintro rfl;rw[v]at e;cases e),(by rintro rfl;rw[D]at e;cases e)⟩
 refine⟨a,F,c,X,rfl,r.os,r.bare,Gr r.base k (λb o e z=>?_) (λb o e z=>z.elim (u b o e).1 (u b o e).2),E4 r.hok k r.stkFree (λb z=>by rcases z with rfl|rfl <;> assumption),C,⟨v,x,G,r.hok.fresh y⟩,O⟩;rcases bI.mp (I.stkSub b z)with q|q
 .exact absurd (bG e) (by rw[q];exact fA _)
 .exact q
end
section
variable{X:Cx}{E:XK}{pin:List Nat}{e:ay}{de:ai->R PV}{x:Str}{C:ag}{i:List aj}{d f B:String}{l g j:Pos}
def Cz(X:Cx)(E:XK):Prop:=∀(n:List (ag×Obj)) (m:St) (H:Hp) (s:ao) (a:ag) (c:aj) (h:aC),Inv X n m H s->(∀b o,s.heap.get? b=aa o->h.get? b=aa o)->Made h a c->s.heap.get? a=ae->(E c ae H)->X.xe (.ref a) {s with heap:=h}
def zR(c:aj)(de:ai->R PV):ai->R aM:=λb=>(de b).bind λ_ a=>.er c a
theorem NT{h c:aC}{e:ag}{a:aj}{b:List aj}(m:Heap.MadeExcOf h c e a b):Made c e a:=by obtain⟨t,n,_,_⟩:=m.there;exact⟨_,_,n,rfl,⟨rfl,rfl⟩,rfl⟩
theorem Fz(hx:Cz X E)(hc:X.calm=ah)(O:OwnCls x C i d X.mg X.base)(Q:ExcBaseFacts B d f i)(he:DE X.nox E0 e de)(hg:Gl X x:=by rfl)(hd:(x==("__debug__":Str))=ak:=by decide)(M:aZ [e] X.env=[(ak,bi e X.env)]:=by rfl):DS X E pin (.Raise (aa (.Call (.Name x l) [e] [] g)) ae j) (zR (.ref C) (λw=>bC (de w))):=λF S w n H D Z q=>Bx.mk λP s I=>by
 obtain⟨W,N,nm,qn,bs,hdct,sn,sub,ab,col,dd,k0,k1,k2,k3,k5,mN,hC,hN,J,T⟩:=O.obj;refine wpAny_Raise_call_subT (C:=C) (nm:=nm) (q:=qn) (N:=N) (bs:=bs) (bm:=W) (hdct:=hdct) (sn:=sn) (sub:=sub) (ab:=ab) (col:=col) (dd:=dd) (k0:=k0) (k1:=k1) (k2:=k2) (k3:=k3) (k5:=k5)
  Q (mN:=mN) (T.hasType Q.hasBase) (I.ok.hd hc) (by rw[M];rfl) J (Bq I hg O.bound ⟨rfl,?_⟩ hd)
 have q2:Ok X.K E0 n F S H (de w) (λ_ b r o p=>il X.K E pin n r o p (.er (.ref C) b) D):=by
  have q:il X.K E pin n F S H ((bC (de w)).bind λ_ b=>.er (.ref C) b) D:=q;cases K:de w with
  |no=>rw[K]at q;exact q.elim
  |er c A=>rw[K]at q;exact q.elim
  |ok v A=>rw[K]at q;exact λF' S' H' r' g'=>q.from g' (iY.refl _ _)
 rw[M];refine HD (f8 (Bz (f8 ((he F S w n H (λv p=>∃r o b,aI X.K r o b n p/\il X.K E pin n r o p (.er (.ref C) b) D) Z (q2.imp λv b r o p L g1 h v' rv=>⟨r,o,b,L,h⟩)).run P s (I.wish _)) (λu Y ⟨v,p,y,L,r,o,b,G,ok⟩=>?_) λ_ _ z=>z.elim)) (λ_ _ z=>z) λ_ _ z=>z);have y:=y.unwish;refine Ht ⟨rfl,(by show 1<=bn;decide),y.bk _ _ hC,hN.keeps y.bk,T.keeps y.bk,λh' a m=>?_⟩;exact hx P n p Y a (.ref C) h' y m.keeps (NT m) m.new (ok ae r o n p G (Grow.refl ..) (iY.refl _ _))
end
section
variable{P:aR}{w:aL}{K:ax}{m:Str->Option aj}{j:aC}{N:List Str}{i:Str}{g:eC}{f:ag}{n:aj}{A:aY}{h:List Env}{d:ao}{l:Hp}{E:XK}
theorem Dj:Cz (jW (cA P w) P w K m j N i g f n A h d l E) E:=λM D H s a c B I G F new J=>by
 have p:Inv _ M D H {s with heap:=B}:=I.kept (t':=s.toks) G;refine OC (s:={s with heap:=B}) (L:=d.heap.objs.size) I.ok.frames p.stack rfl F λO C k x v=>?_;have r:d.heap.get? a=ae:=u5 I.base new;have u:d.heap.get? C=ae:=u5 p.base (Hq v);have y:H a=ae:=K9 I.hok new;refine⟨a,C,c,H,rfl,p.os,p.bare,Gr p.base k (λb o e z=>?_) (λb o e z=>by rw[show b=a from z,r]at e;cases e),E4 p.hok k p.stkFree (λb z=>by rw[show b=a from z];exact y),x,⟨r,u,y,p.hok.fresh v⟩,J⟩;rcases bI.mp (I.stkSub b z)with q|q
 .exact absurd (bG e) (by rw[q];exact fA _)
 .exact q
end
def XP(X:Cx)(g:List (ag×Obj))(d:St)(h:aj->Hp->Prop)(e:aj)(f:ao):Prop:=∃a b,Inv X g d b a/\cA X.prog X.w X.stack b a (λc _ i=>h c i) e f
abbrev ve(X:Cx)(a:ag):Cx:={X with A:=X.A.mark (aa (.ref a)),calm:=ak,xe:=λ_ _=>False}
def gy(g:Tx):List Tx->Tx
 |[]=>[]
 |[x]=>x
 |x::y::r=>x++g++gy g (y::r)
theorem CN(a b:Tx):tS (a++b)=tS a++tS b:=by apply Str.ext';simp[tS,Str.cps_append]
theorem FD(g:Tx):∀a:List Tx,Str.join (tS g) (a.map tS)=tS (gy g a)
 |[]=>rfl
 |[x]=>rfl
 |x::y::r=>by show tS x++tS g++Str.join (tS g) ((y::r).map tS)=tS (x++g++gy g (y::r));rw[FD g (y::r),CN,CN]
theorem F9(g:Tx)(a:List Tx):Txt.join (tS g) (a.map tS)=tS (gy g a):=by unfold Txt.join;rw[StrLaws.glued_eq_join,FD]
theorem CP(c:Nat):∀l:List Nat,PyProof.Rows.cnt c l=(l.count c:Nat)
 |[]=>rfl
 |a::l=>by
  rw[PyProof.Rows.cnt_cons,CP c l,BX];by_cases h:a=c
  .simp[h];lia
  .simp[h]
theorem K5(c:Nat)(x:Tx):Txt.count (tS x) (tS [c])=(x.count c:Nat):=by have:=PyProof.Rows.count_cnt (tS x) c;rw[kt,CP]at this;exact this
theorem JY(c:Nat)(x:Tx):tw [c] x=x.contains c:=by unfold tw;have:=StrLaws.found_one (tS x) c;rw[kt]at this;rw[show(tS [c])=⟨#[c]⟩from rfl,this];simp[List.contains_eq_mem]
theorem Be:∀{b:List Tx}{a:List aj},bL (b0 b) a->eE a (b.map tS)
 |[],_,r=>by cases r;exact .nil
 |x::b,_,r=>by
  cases r with
  |cons d c=>obtain⟨t,rfl⟩:=d;exact .cons _ t (Be c)
section
variable{X:Cx}{K:ax}
def gY(g:Tx)(ls:List Tx):Nat:=(ls.map m8).sum+ls.length*g.length
theorem Fj(g:Tx):∀a,(gy g a).length<=gY g a
 |[]=>kJ _
 |[x]=>by simp[gy,gY]
 |x::y::r=>by have h:=Fj g (y::r);show(x++g++gy g (y::r)).length<=_;generalize gy g (y::r)=z at h;unfold gY at *;simp only[dD,b8,g9,eU,Nat.add_mul]at *;lia
def z6(K:ax):V->List V->Hp->VK->Prop:=λx b H Q=>∃g p a,x=tV g/\b=[.ref p]/\(cB K H p (b0 a)\/cp K H p (b0 a))/\gY g a<=bd/\Q (tV (gy g a)) H
theorem DM:sq X "str.join" (z6 X.K):=by
 intro B s y H x z v A Q I m o h;obtain⟨g,p,b,rfl,rfl,d,w,q⟩:=h;obtain⟨t,rfl⟩:=m;obtain⟨u,rfl,n⟩:=vals1 o;cases n;have c:((b.map tS).map (·.length)).sum+(b.map tS).length*(tS g).length<=16777216:=by
  have e:((b.map tS).map (·.length))=b.map m8:=by rw[dQ];exact jJ λa _=>ki a
  rw[e,b7,ki];unfold gY bd at w;lia
 rcases d with d|d
 .obtain⟨l,i,j,r⟩:=I.list d;exact join_list j.isList (by simpa using Be i) c λf k=>⟨tV (gy g b),H,I.tok _,(by rw[F9];exact⟨f,rfl⟩),q⟩
 .obtain⟨l,i,j,r⟩:=I.tuple d;exact join_tuple j (by simpa using Be i) c λf k=>⟨tV (gy g b),H,I.tok _,(by rw[F9];exact⟨f,rfl⟩),q⟩
def D9:V->List V->Hp->VK->Prop:=λx a H Q=>∃y c,x=tV y/\a=[tV [c]]/\Q (.int (y.count c:Nat)) H
theorem Od:sq X "str.count" D9:=by intro j s d H x f v g Q I a b h;obtain⟨y,c,rfl,rfl,q⟩:=h;obtain⟨t,rfl⟩:=a;obtain⟨u,rfl,i,rfl⟩:=vals1 b;exact SC.count ⟨.int _,H,I.tok _,⟨_,by rw[K5]⟩,q⟩
def PM(K:ax)(r:V->List V->Hp->VK->Prop)(f:Tx->List PV->Option PV):Prop:=∀(F:ag->Prop) (H:Hp) (x:Tx) (b:List PV) (c:List V) (Q:VK) (pv:PV),x.length<=bd->aS K H F b c->f x b=aa pv->(∀w d a,Al F d H a->aN K a d pv w->Q w a)->r (tV x) c H Q
def xN:PV->Option Tx
 |.str x=>aa x
 |_=>ae
def lV(f:Tx->List PV->Option PV)(d:ai->R PV)(B:ai->R (List PV)):ai->R PV:=λc=>(d c).bind λx a=>(aO (xN x) a).bind λy a=>(B a).bind λg b=>aO (f y g) b
variable{E:XK}{o e:ay}{A:List ay}{d:ai->R PV}{B:ai->R (List PV)}{i:Str}{m b:Pos}{C:String}{r:V->List V->Hp->VK->Prop}{f:Tx->List PV->Option PV}
theorem Aj(g:PySem.Slot "str" i C)(W:typeOf (.builtin C)=pure (.type "method_descriptor"))(hm:sq X C r)(hp:PM X.K r f)(ho:DE X E o d)(ha:DA X E (e::A) B)(T:qe o i X.env (bi o X.env)=bi o X.env:=by rfl)(G:((eO b (aZ (e::A) X.env)).all (λx=>!x.1)&&(backToKw b (yM [] X.env)).all (λx=>x.1.isSome)&&decide ((e::A).length+([]:List ng).length+(if([]:List ng).isEmpty then 0 else 1)<30))=ah:=by rfl)(P:(m.endLine == b.line)=ah:=by rfl) (hs:aZ (e::A) X.env=(ak,bi e X.env)::aZ A X.env:=by rfl) (Ch:(eO b (aZ A X.env)).any (·.1)=ak:=by rfl):DE X E (.Call (.Attribute o i m) (e::A) [] b) (lV f d B):=λF S D n H Q M h=>by
 refine b_ (A9 PySem.F.plainAttrs_str g W hm bM ii T G P hs Ch) (ho F S D n H _ M ((Ok.bind h).imp λx c z s u O g1 l v L=>?_));cases x <;> first|exact(show False from l).elim|skip
 rename_i y;obtain⟨rfl,Z⟩:=L;refine⟨rfl,?_⟩;have l:Ok X.K E n z s u ((B c).bind λI a=>aO (f y I) a) _:=l;refine ha z s c n u _ O ((Ok.bind l).imp λq a F2 S2 H2 N g2 j J Y=>?_);cases e:f y q with
 |none=>rw[e]at j;exact j.elim
 |some pv=>rw[e]at j;exact hp F2 H2 y q J Q pv Z Y e λw F' H' al p=>j F' S2 H' (N.al al) al.grow w p
def mC(g:Tx):List PV->Option PV
 |[.lst c]=>(fY c).bind λa=>if gY g a<=bd then aa (.str (gy g a))else ae
 |[.tup c]=>(fY c).bind λa=>if gY g a<=bd then aa (.str (gy g a))else ae
 |_=>ae
theorem Fl:PM K (z6 K) mC:=λF H g D G Q pv I w e q=>by
 have l:∀(n:List PV) (p:ag) (c:List V),aS K H F n c->(cB K H p c\/cp K H p c)->((fY n).bind λj=>if gY g j<=bd then aa (PV.str (gy g j))else ae)=aa pv->z6 K (tV g) [.ref p] H Q:=λn p c h z e=>by
  cases s:fY n with
  |none=>rw[s]at e;cases e
  |some j=>
   rw[s,g8]at e;split at e
   .rename_i x;cases e;have y:=(Sm.mp (wy s ▸ h)).1;subst y;exact⟨g,p,j,rfl,rfl,z,x,q _ F H (Al.refl ..) ⟨rfl,cq (Fj g j) x⟩⟩
   .cases e
 unfold mC at e;split at e
 .obtain⟨v,rfl,a,c,rfl,u,_,h⟩:=gU w;exact l _ a c h (.inl (.inl u)) e
 .obtain⟨v,rfl,a,c,rfl,u,h⟩:=gU w;exact l _ a c h (.inr (cp.of u)) e
 .cases e
def wS(y:Tx):List PV->Option PV
 |[.str [c]]=>aa (.int (y.count c:Nat))
 |_=>ae
theorem O6:PM K D9 wS:=λF H y g h Q pv j a e q=>by
 unfold wS at e;split at e
 .rename_i c;cases e;obtain⟨v,rfl,rfl,_⟩:=gU a;exact⟨y,c,rfl,rfl,q _ F H (Al.refl ..) rfl⟩
 .cases e
theorem Pw(D:X.calm=ah):fO X (.type "list") (λF H Q=>∃y:Tx,F=[tV y]/\y.length<=bd/\∀l,H l=ae->Q (.ref l) (upd H l (.lst (y.map sg)))):=by
 intro af s σ H F us Q I r h;obtain⟨y,rfl,G,q⟩:=h;obtain⟨u,rfl,t,rfl⟩:=vals1 r;have J:(tS y).cps.size=y.length:=by simp[tS]
 refine PySem.call_list_str (I.ok.hd D) (tS y) t (hn:=by rw[J];exact cq G kl) λh' W a P hk hS Y=>?_;refine⟨.ref s.heap.objs.size,_,I.laid (t':=W) hk (a6 _) (show cn X.prog X.w _ h' _ (.lst (y.map sg))from⟨by rw[b7];exact cq G kl,a.toList,P,?_,by simpa using hS⟩),rfl,q _ (I.hok.fresh (a6 _))⟩;obtain⟨g,w⟩:=Y;rw[J]at g;have N:∀j v,a.toList[j]?=aa v->SignAt (tS y) j v:=λj v e=>w j v (by simpa using e);have M:a.toList.length=y.length:=by simpa using g
 generalize a.toList=L at N M;have x:∀(p:Tx) (L:List aj) (n:Nat),L.length=p.length->(∀(j:Nat) (v:aj),L[j]?=aa v->∃t,∀c,p[j]?=aa c->v=Value.str (tS [c]) t)->bL (p.map sg) L:=by
  intro p
  induction p with
  |nil=>intro L n g _;have:L=[]:=vB g;subst this;exact .nil
  |cons c p Z=>
   intro L n g w;cases L with
   |nil=>cases g
   |cons v L=>obtain⟨t,e⟩:=w 0 v rfl;have e:=e c rfl;subst e;exact .cons ⟨t,rfl⟩ (Z L (n+1) (by simpa using g) λj v e=>by obtain⟨t,z⟩:=w (j+1) v (by simpa using e);exact⟨t,λc D=>z c (by simpa using D)⟩)
 refine x y L 0 M λj v e=>?_;obtain⟨c,u,T,S⟩:=N j v e;refine⟨u,λP O=>?_⟩;have e5:y[j]?=aa c:=by simpa[tS]using T
 rw[e5]at O;cases O;exact S
end
section
variable{K:ax}{F u:ag->Prop}{S B:Nat->ag->Prop}{ε A:ai}{y:St}{H H':Hp}{i:Nat}{po:PO}
theorem aI.hide(r:aI K F S ε y H)(i:Nat):aI K F (λj b=>S j b/\j≠i) (ε.set i .none) y H:=by
 have g:∀(j:Nat) (s:Slot),s≠.none->(ε.set i .none)[j]?=aa s->ε[j]?=aa s/\j≠i:=λj s m e=>by
  by_cases c:i=j
  .subst c;rw[List.getElem?_set]at e;simp only[if_true]at e;split at e
   .exact absurd (cQ e).symm m
   .cases e
  .rw[cN c]at e;exact⟨e,c_ c⟩
 refine⟨by rw[gs];exact r.len,r.ex,λj pv e=>r.val j pv (g j _ (by intro z;cases z) e).1,λj po e=>?_,λj b h=>?_,λj k b f d=>r.dist j k b f.1 d.1⟩
 .obtain⟨o,c⟩:=g j _ (by intro z;cases z) e;obtain⟨a,f,d⟩:=r.own j po o;have n:(λb=>S j b/\j≠i)=S j:=by funext b;simp[c]
  exact⟨a,f,by rw[n];exact d⟩
 .obtain⟨⟨po,q⟩,l⟩:=r.foot j b h.1;exact⟨⟨po,by rw[cN (c_ h.2)];exact q⟩,l⟩
theorem _root_.Pu.Grow.wide{O P a F u:ag->Prop}{H H':Hp}(g:Grow O a F u H H')(h:∀b,O b->P b):Grow P a F u H H' :=⟨g.fro,λb o q n=>g.keep b o q λz=>n (h b z),g.there,λb z=>(g.fnew b z).imp id λw=>w.imp id (h b),λb z=>(g.onew b z).imp (h b) id⟩
theorem aI.unhide(r:aI K F S ε y H)(e:ε[i]?=aa (.own po))(m:aI K u B A y H')(g:Grow (U λj b=>S j b/\j≠i) (U B) F u H H')(I:A[i]?=aa .none):∃v,v i=S i/\aI K u v (A.set i (.own po)) y H'/\Grow (U S) (U v) F u H H'/\(∀b o,S i b->H b=aa o->H' b=aa o):=by
 have G:i<A.length:=(cE.mp I).1;have D:∀b,S i b->¬U (λj b=>S j b/\j≠i) b:=λb h ⟨j,z,c⟩=>c (r.dist j i b z h);have E:∀b o,S i b->H b=aa o->H' b=aa o:=λb o h q=>g.keep b o q (D b h);have L:∀b,B i b->False:=λb h=>by
  obtain⟨⟨po,q⟩,_⟩:=m.foot i b h;rw[I]at q;cases q
 have l:Fit (U λj b=>S j b/\j≠i) F H:=λb ⟨j,z,_⟩=>(r.foot j b z).2;have s:∀b,S i b->¬u b/\¬U B b:=λb h=>by
  obtain⟨_,d,o,C,_⟩:=r.foot i b h;refine⟨λz=>?_,λz=>?_⟩
  .rcases g.fnew b z with w|w|w
   .exact d w
   .rw[C]at w;cases w
   .exact D b h w
  .rcases g.onew b z with w|w
   .exact D b h w
   .rw[C]at w;cases w
 refine⟨λj b=>if j=i then S i b else B j b,by simp,⟨by rw[gs];exact m.len,m.ex,λj pv q=>?_,λj p q=>?_,λj b h=>?_,λj k b f d=>?_⟩,⟨g.fro,λb o q n=>g.keep b o q λ⟨j,z⟩=>n ⟨j,z.1⟩,g.there,λb z=>(g.fnew b z).imp id λw=>w.imp id λ⟨j,w⟩=>⟨j,w.1⟩,λb ⟨j,z⟩=>?_⟩,E⟩
 .have c:i≠j:=by rintro rfl;rw[d8 G]at q;cases q
  rw[cN c]at q;exact m.val j pv q
 .by_cases c:i=j
  .subst c;rw[d8 G]at q;cases q;obtain⟨a,f,d⟩:=r.own i _ e;refine⟨a,f,?_⟩;simp only[if_true];exact d.mono (λ_ _ z=>z.grow g l) (λ_ _ z=>z.grow g l) λb o z w=>E b o z w
  .rw[cN c]at q;obtain⟨a,f,d⟩:=m.own j p q;exact⟨a,f,by simp only[if_neg (c_ c)];exact d⟩
 .by_cases c:j=i
  .subst c;simp only[if_true]at h;obtain⟨_,d,o,C,M⟩:=r.foot j b h;exact⟨⟨po,d8 G⟩,(s b h).1,o,E b o h C,M⟩
  .simp only[if_neg c]at h;obtain⟨⟨p,q⟩,J⟩:=m.foot j b h;exact⟨⟨p,by rw[cN (c_ c)];exact q⟩,J⟩
 .by_cases c:j=i
  .by_cases x:k=i
   .rw[c,x]
   .simp only[if_pos c]at f;simp only[if_neg x]at d;exact absurd ⟨k,d⟩ (s b f).2
  .by_cases x:k=i
   .simp only[if_neg c]at f;simp only[if_pos x]at d;exact absurd ⟨j,f⟩ (s b d).2
   .simp only[if_neg c]at f;simp only[if_neg x]at d;exact m.dist j k b f d
 .by_cases c:j=i
  .simp only[if_pos c]at z;exact .inl ⟨i,z⟩
  .simp only[if_neg c]at z;exact(g.onew b ⟨j,z⟩).imp (λ⟨k,w⟩=>⟨k,w.1⟩) id
variable{a b:ag}{m:List (List PV)}{f:List ag}{j:Nat}{C:List PV}{l:List V}
theorem gE.len(h:gE K H F m f):f.length=m.length:=by
 unfold gE at h
 induction h with
 |nil=>rfl
 |cons _ _ c=>simp[c]
theorem gE.get(h:gE K H F m f)(e:m[j]?=aa C):∃b l,f[j]?=aa b/\H b=aa (.lst l)/\aS K H F C l:=by
 unfold gE at h
 induction h generalizing j with
 |nil=>simp at e
 |cons r _ c=>
  cases j with
  |zero=>simp at e;subst e;obtain⟨l,g,d⟩:=r;exact⟨_,l,rfl,g,d⟩
  |succ j=>obtain⟨b,l,q⟩:=c (j:=j) (by simpa using e);exact⟨b,l,by simpa using q⟩
theorem gE.set(h:gE K H F m f)(z:f.Nodup)(e:f[j]?=aa b){H':Hp}(s:∀x v,aS K H F x v->aS K H' F x v)(q:∀c o,c∈f->c≠b->H c=aa o->H' c=aa o)(I:∃n,H' b=aa (.lst n)/\aS K H' F C n):gE K H' F (m.set j C) f:=by
 unfold gE at h ⊢
 induction h generalizing j with
 |nil=>exact .nil
 |cons r G E=>
  rename_i x c m f;have g:=j9.mp z;cases j with
  |zero=>simp at e;subst e;refine .cons I ?_;exact gE.mono (K:=K) s (λd o p=>q d o (by simp[p]) (by rintro rfl;exact g.1 p)) G
  |succ j=>
   have w:f[j]?=aa b:=by simpa using e
   have D:b∈f:=oy w;obtain⟨l,L,J⟩:=r;exact .cons ⟨l,q c _ (by simp) (by rintro rfl;exact g.1 D) L,s _ _ J⟩ (E g.2 w λd o p=>q d o (by simp[p]))
theorem aI.updL(r:aI K F S ε y H)(e:ε[i]?=aa (.own (.lls m)))(Z:y[i]?=aa (aa (.ref a)))(Y:H a=aa (.lst (f.map .ref)))(X:gE K H F m f)(L:f.Nodup)(M:a∉f)(P:∀b,S i b↔b=a\/b∈f)(O:f[j]?=aa b)(h:aS K H F C l):aI K F S (ε.set i (.own (.lls (m.set j C)))) y (L2.upd H b (.lst l))/\Grow (U S) (U S) F F H (L2.upd H b (.lst l)):=by
 have N:b∈f:=oy O;have E:S i b:=(P b).mpr (.inr N);have W:a≠b:=by rintro rfl;exact M N
 have G:i<ε.length:=(cE.mp e).1;have g:Grow (U S) (U S) F F H (L2.upd H b (.lst l)):=⟨λ_ z=>z,λc o q n=>by rw[bh (by rintro rfl;exact n ⟨i,E⟩)];exact q,λc o q=>by
  by_cases s:c=b
  .subst s;exact⟨_,upd_same⟩
  .exact⟨o,by rw[bh s];exact q⟩,λ_ z=>.inl z,λ_ z=>.inl z⟩
 refine⟨⟨by rw[gs];exact r.len,λb z=>let ⟨o,q⟩:=r.ex b z;g.there b o q,λk pv q=>?_,λk po q=>?_,λk c z=>?_,r.dist⟩,g⟩
 .have p:i≠k:=by rintro rfl;rw[d8 G]at q;cases q
  rw[cN p]at q;obtain⟨v,D,x⟩:=r.val k pv q;exact⟨v,D,x.grow g r.fit⟩
 .by_cases p:i=k
  .subst p;rw[d8 G]at q;cases q;exact⟨a,Z,f,by rw[bh W];exact Y,X.set L O (λ_ _ z=>z.grow g r.fit) (λc o _ s w=>by rw[bh s];exact w) ⟨l,upd_same,h.grow g r.fit⟩,L,M,P⟩
  .rw[cN p]at q;obtain⟨c,D,x⟩:=r.own k po q;refine⟨c,D,x.mono (λ_ _ z=>z.grow g r.fit) (λ_ _ z=>z.grow g r.fit) λd o z w=>?_⟩;rw[bh (by rintro rfl;exact p (r.dist i k d E z))];exact w
 .obtain⟨⟨po,D⟩,x,o,T,Q⟩:=r.foot k c z;have I:∃J,(L2.upd H b (.lst l)) c=aa J/\dY J:=by
   by_cases s:c=b
   .subst s;exact⟨_,upd_same,trivial⟩
   .exact⟨o,by rw[bh s];exact T,Q⟩
  by_cases p:i=k
  .subst p;exact⟨⟨_,d8 G⟩,x,I⟩
  .exact⟨⟨po,by rw[cN p];exact D⟩,x,I⟩
theorem gE.frz(h:gE K H F m f)(c:∀b∈f,F b):aS K H F (m.map .lst) (f.map .ref):=by
 unfold gE at h
 induction h with
 |nil=>rfl
 |cons r _ d=>obtain⟨l,o,n⟩:=r;exact⟨_,_,rfl,⟨_,l,rfl,.inl o,c _ (by simp),n⟩,d λb g=>c b (by simp[g])⟩
theorem aI.frzL(r:aI K F S ε y H)(e:ε[i]?=aa (.own (.lls m))):∃a u B,aI K u B (ε.set i (.val (.lst (m.map .lst)))) y H/\Grow (U S) (U B) F u H H/\y[i]?=aa (aa (.ref a))/\aN K H u (.lst (m.map .lst)) (.ref a):=by
 obtain⟨a,G,f,L,I,P,Q,E⟩:=r.own i _ e;have D:i<ε.length:=(cE.mp e).1;have g:∀b,F b->F b\/S i b:=λb h=>.inl h;have mono:∀x v,aN K H F x v->aN K H (λb=>F b\/S i b) x v:=aN.mono g (λ_ _ _ q=>q) (λ_ _ q _=>q);have c:∀x v,aS K H F x v->aS K H (λb=>F b\/S i b) x v:=aS.mono g (λ_ _ _ q=>q) (λ_ _ q _=>q);have w:aN K H (λb=>F b\/S i b) (.lst (m.map .lst)) (.ref a):=⟨a,_,rfl,.inl L,.inr ((E a).mpr (.inl rfl)),(I.mono c λ_ _ _ z=>z).frz λb J=>.inr ((E b).mpr (.inr J))⟩
 refine⟨a,λb=>F b\/S i b,λj b=>S j b/\j≠i,⟨by rw[gs];exact r.len,λb h=>?_,λj pv q=>?_,λj po q=>?_,λj b h=>?_,λj k b N M=>r.dist j k b N.1 M.1⟩,?_,G,w⟩
 .rcases h with h|h
  .exact r.ex b h
  .obtain⟨_,_,o,q,_⟩:=r.foot i b h;exact⟨o,q⟩
 .by_cases d:i=j
  .subst d;rw[d8 D]at q;cases q;exact⟨_,G,w⟩
  .rw[cN d]at q;obtain⟨v,p,n⟩:=r.val j pv q;exact⟨v,p,mono _ _ n⟩
 .by_cases d:i=j
  .subst d;rw[d8 D]at q;cases q
  .rw[cN d]at q;obtain⟨v,p,n⟩:=r.own j po q;refine⟨v,p,?_⟩;have s:=n.mono (H':=H) mono c λ_ _ _ z=>z;have O:(λb=>S j b/\j≠i)=S j:=by funext b;simp[c_ d]
   rw[O];exact s
 .obtain⟨⟨po,p⟩,n,s⟩:=r.foot j b h.1;refine⟨⟨po,by rw[cN (c_ h.2)];exact p⟩,λz=>?_,s⟩;rcases z with z|z
  .exact n z
  .exact h.2 (r.dist j i b h.1 z)
 .refine⟨λ_ h=>.inl h,λb o h _=>h,λb o h=>⟨o,h⟩,λb h=>?_,λb ⟨j,h⟩=>.inl ⟨j,h.1⟩⟩;rcases h with h|h
  .exact .inl h
  .exact .inr (.inr ⟨i,h⟩)
end
section
variable{X:Cx}{E:XK}{pin:List Nat}{e b b1:ay}{de db d1:ai->R PV}{d:Pos}
def kx(a:ai)(i:Nat):Option (List (List PV)):=match a[i]? with
 |some (.own (.lls c))=>aa c
 |_=>ae
theorem uF{a:ai}{i:Nat}{c:List (List PV)}(h:kx a i=aa c):a[i]?=aa (.own (.lls c)):=by
 unfold kx at h;split at h
 .cases h;assumption
 .cases h
def yi(i:Nat):ai->R PV:=λa=>(aO (kx a i) a).bind λc a=>.ok (.lst (c.map .lst)) (a.set i (.val (.lst (c.map .lst))))
theorem IU(i:Nat){x:Str}{d:Pos}(n:X.N[i]?=aa x:=by rfl)(l:eJ X.env.scope x:=by eq_refl)(m:(x==("__debug__":Str))=ak:=by decide)(q:(x==("__classdict__":Str))=ak:=by decide):DE X E (.Name x d) (yi i):=λF S f v H Q r h=>by
 unfold yi at h;cases c:kx f i with
 |none=>rw[c]at h;exact h.elim
 |some w=>rw[c]at h;obtain⟨a,u,s,j,g,p,o⟩:=r.frzL (uF c);exact b_ (fq n l m q) ⟨_,p,h u s H j g _ o⟩
def tQ(i:Nat):ai->R PV:=λa=>(aO (kx a i) a).bind λc a=>.ok (.int (c.length:Nat)) a
theorem O3(i:Nat){y:Str}{p c:Pos}(m:X.mg "len"=ae)(s:X.N[i]?=aa y:=by rfl)(u:eJ X.env.scope y:=by eq_refl)(o:(y==("__debug__":Str))=ak:=by decide) (z:(y==("__classdict__":Str))=ak:=by decide) (n:Gl X "len":=by rfl)(g:aZ [.Name y c] X.env=(ak,bi (.Name y c) X.env)::aZ [] X.env:=by rfl) (w:(eO d (aZ [] X.env)).any (·.1)=ak:=by rfl):DE X E (.Call (.Name "len" p) [.Name y c] [] d) (tQ i):=λF S j A H Q r h=>by
 unfold tQ at h;cases f:kx j i with
 |none=>rw[f]at h;exact h.elim
 |some x=>rw[f]at h;obtain⟨a,v,G,q,l,B,C,D⟩:=r.own i _ (uF f);refine b_ (lZ fK n m rfl (jb (fq s u o z) kn g) (by decide) (by decide) g w) ⟨_,v,.ref a,x.length,rfl,.inl ⟨_,cB.of q,?_⟩,h F S H r (Grow.refl ..) _ rfl⟩;rw[b7,l.len]
def xW(i:Nat)(d1 db de:ai->R PV):ai->R aM:=λl=>(de l).bind λy f=>(aO (kx f i) f).bind λ_ f=>(d1 f).bind λn a=>(aO (kx a i) a).bind λg a=>(aO ((iK n).bind (iI g.length)) a).bind λj a=>
 (db (a.set i .none)).bind λm c=>match c[i]?,g[j]? with
  |some .none,aa h=>(aO ((iK m).bind (iI h.length)) c).bind λo c=>.ok .next (c.set i (.own (.lls (g.set j (h.set o y)))))
  |_,_=>.no
theorem Hi{K:ax}{H:Hp}{F:ag->Prop}{x:PV}{v:V}{k:Int}(h:aN K H F x v)(e:iK x=aa k):v=.int k:=by
 cases x <;> simp[iK]at e;subst e;exact h
theorem RC(i:Nat){x:Str}{p l g:Pos}(h1:DE X E b1 d1)(hb:DE X E b db)(he:DE X E e de)(hN:X.N[i]?=aa x:=by rfl)(hv:eJ X.env.scope x:=by eq_refl)(hd:(x==("__debug__":Str))=ak:=by decide)(bB:(x==("__classdict__":Str))=ak:=by decide) (hpx:AA b1:=by exact λ_ _=>rfl) (ha:∀v,ox (.Subscript (.Subscript (.Name x p) b1 l) b g) X.env v=(do
   let ov <-ou [v] (bi (.Subscript (.Name x p) b1 l) X.env)
   let iv <-ou [v,ov] (bi b X.env)
   standAt g
   ou [v,ov,iv] (setItem ov iv v)
   release [v,ov,iv] []):=by intro _;rfl) (hs:swapsWithSole [.Subscript (.Subscript (.Name x p) b1 l) b g] e d.line X.env=pure ak:=by rfl) (hw:swappedStores [.Subscript (.Subscript (.Name x p) b1 l) b g] e X.env=pure ae:=by rfl)
  (ho:(su [.Subscript (.Subscript (.Name x p) b1 l) b g] X.env).map (·.2)=[ox (.Subscript (.Subscript (.Name x p) b1 l) b g) X.env]:=by rfl):DS X E pin (.Assign [.Subscript (.Subscript (.Name x p) b1 l) b g] e d) (xW i d1 db de):=λF S ε r H D rl h=>by
 refine fX (Mq bM (IM (EJ dO (fq hN hv hd bB) bM hpx) bM Q2 ha) hs hw ho) (he F S ε r H _ rl (h.bindE.imp λy A F1 S1 H1 Q g1 q v rv=>?_));cases e0:kx A i with
 |none=>rw[e0]at q;exact q.elim
 |some xss0=>
  rw[e0]at q;simp only[bV,R.bind_ok]at q;obtain⟨a,ea,_⟩:=Q.own i _ (uF e0);refine⟨.ref a,ea,h1 F1 S1 A r H1 _ Q (q.bindE.imp λk1 u F2 S2 H2 n g2 f u1 O=>?_)⟩;cases K:kx u i with
  |none=>rw[K]at f;exact f.elim
  |some cz=>
   rw[K]at f;simp only[bV,R.bind_ok]at f;obtain⟨a',C,as,sV,W,nd,na,G⟩:=n.own i _ (uF K);rw[ea]at C;cases C;cases m:(iK k1).bind (iI cz.length)with
   |none=>rw[m]at f;exact f.elim
   |some j1=>
    rw[m]at f;simp only[bV,R.bind_ok]at f;cases e3:iK k1 with
    |none=>rw[e3]at m;cases m
    |some i1=>
     rw[e3,g8]at m;have hj1:=(zT m).2.1;obtain⟨L,B⟩:∃L,cz[j1]?=aa L:=⟨_,fh hj1⟩
     obtain⟨c,vs,hc,eF,hr⟩:=W.get B;refine .inl ⟨a,_,i1,.ref c,rfl,Hi O e3,cB.of sV,?_,?_⟩
     .unfold fI;rw[b7,W.len,m,g8,eD,hc];rfl
     .have P:=n.hide i;refine hb F2 _ _ r H2 _ P ?_;cases e4:db (u.set i .none)with
      |no=>rw[e4]at f;exact f.elim
      |er c ε'=>rw[e4]at f;exact λx F' S' H' r' g'=>f x F' S' r H' r' (g'.wide λb ⟨j,z⟩=>⟨j,z.1⟩) (iY.refl _ _)
      |ok k2 s=>
       rw[e4]at f;intro F3 S3 H3 r3 g3 u2 N;simp only[R.bind_ok]at f;rw[B]at f;cases J:s[i]? with
       |none=>rw[J]at f;exact f.elim
       |some sl=>
        rw[J]at f;cases sl with
        |val _=>exact f.elim
        |own _=>exact f.elim
        |none=>
         dsimp only at f;cases e6:iK k2 with
         |none=>rw[e6]at f;exact f.elim
         |some i2=>
          rw[e6,g8]at f;cases e7:iI L.length i2 with
          |none=>rw[e7]at f;exact f.elim
          |some j2=>
           rw[e7]at f;simp only[bV,R.bind_ok]at f;obtain⟨S4,eS,r4,I,Y⟩:=n.unhide (uF K) r3 g3 J;have hi:i<s.length:=(cE.mp J).1;have hS4:∀b,S4 i b↔b=a\/b∈as:=by rw[eS];exact G
           have hcS:S2 i c:=(G c).mpr (.inr (oy hc));have T:gE X.K H3 F3 cz as:=W.mono (λ_ _ z=>z.grow I n.fit) λb o hb w=>Y b o ((G b).mpr (.inr hb)) w;have ha4:=Y a _ ((G a).mpr (.inl rfl)) sV;have Z:=hr.grow I n.fit;have M:=(rv.grow g2 Q.fit).grow I n.fit;obtain⟨r5,g5⟩:=r4.updL (i:=i) (d8 hi) ea ha4 T nd na hS4 hc (Z.set M j2);rw[List.set_set]at r5;exact⟨c,vs,i2,j2,rfl,Hi N e6,Y c _ hcS eF,by rw[hr.len];exact e7,f F3 S4 r _ r5 (I.trans g5) (iY.refl _ _)⟩
end
def o7(a:List Nat)(de:ai->R PO):List PV->List (List PV)->ai->R (List (List PV))
 |[],d,c=>.ok d c
 |x::g,d,c=>(bC (bZ a de x c)).bind λy b=>match y with
  |.lst f=>o7 a de g (d++[f]) b
  |_=>.no
def xX(c:List Nat)(h:ai->R (List PV))(de:ai->R PO):ai->R PO:=λd=>(h d).bind λg b=>(o7 c de g [] b).bind λf a=>.ok (.lls f) a
theorem MD{K:ax}{E:XK}{F:ag->Prop}{S:Nat->ag->Prop}{w:ai}{g:St}{H:Hp}{J:Type}{f:List Nat}{d:ai->R J}{x:PV}{v:V}{C:J->ai->(ag->Prop)->(Nat->ag->Prop)->Hp->Prop}(r:aI K F S w g H) (Q:aN K H F x v) (h:Ok K E g F S H (bC (bZ f d x w)) C):∃N m,aI K F N m (aa v::eY g f) H/\Ok K E0 (aa v::eY g f) F N H (d m) (λa _ u Z s=>∃l q,aI K u q l g s/\Grow (U S) (U q) F u H s/\(∀b,U q b->U Z b\/U S b)/\C a l u q s):=by
 unfold bZ at h;cases G:cf w f with
 |none=>rw[G]at h;exact h.elim
 |some i=>
  rw[G]at h;simp only[bV,R.bind_ok]at h;by_cases B:(cx i).Nodup
  .rw[if_pos B]at h;cases y:eM w (.inl x::i)with
   |none=>rw[y]at h;exact h.elim
   |some m=>
    rw[y]at h;simp only[bV,R.bind_ok]at h;obtain⟨A,Y,X⟩:=tJ r G;have p:iD K g F H (.inl x::i) (v::A):=⟨v,A,rfl,Q,Y⟩
    have o:aa v::eY g f=(v::A).map aa:=by rw[X];rfl
    have n:(cx (.inl x::i)).Nodup:=B;refine⟨k7 (.inl x::i) S,m,by rw[o];exact r.cal p y n,?_⟩;rw[o];cases D:d m with
    |no=>rw[D]at h;exact h.elim
    |er c I=>
     rw[D]at h;unfold fj at h;dsimp only at h;by_cases j:eZ (.inl x::i) I=ah
     .rw[if_pos j]at h;exact h.elim
     .rw[if_neg j]at h;exact h.elim
    |ok a I=>
     rw[D]at h;intro u q s T W;unfold fj at h;dsimp only at h;by_cases j:eZ (.inl x::i) I=ah
     .rw[if_pos j]at h;obtain⟨O,L,M,P⟩:=r.called p y n T W (λ_ z=>z) (mI j);exact⟨_,O,L,M,P,h u O s L M⟩
     .rw[if_neg j]at h;exact h.elim
  .rw[if_neg B]at h;exact h.elim
theorem gE.snoc{K:ax}{H:Hp}{F:ag->Prop}{d:List (List PV)}{f:List ag}{c:List PV}{b:ag}{a:List V}(h:gE K H F d f)(i:H b=aa (.lst a))(g:aS K H F c a):gE K H F (d++[c]) (f++[b]):=yO h ⟨a,i,g⟩
section
variable{X:Cx}{E:XK}{n:eC}{x:Str}{N':List Str}{cap:List Nat}
theorem Rh{elt O:ay}{px:Pos}{di:ai->R (List PV)}{de:ai->R PO}(hi:DI X E (.Name x px) O di)(he:∀C d f N M,DN (bx X n N' C d f N M) E0 elt de){F:ag->Prop}{S:Nat->ag->Prop}{ε:ai}{B:St}{H:Hp}{Q:VK} (rl:aI X.K F S ε B H) (h:Ok X.K E B F S H (xX cap di de ε) (λpo _ G W r=>∀a Sa,ef X.K r G po a Sa->(∀b,Sa b->H b=ae/\¬G b/\¬U W b/\∃o,r b=aa o/\dY o)->Q (.ref a) r)):yz (lh X (.Name x px) O) (λB H Q=>∀C d f N M,mL (bx X n N' C d f N M) [] B H Q) (λB H Q=>∀C d f N M,gf (bx X n N' C d f N M) elt B H Q) cap B H Q:=by
 refine hi F S ε B H _ rl ((Ok.bind h).imp λK ε1 F1 S1 H1 r1 g1 h1 J vs RR rs hz hw keep l hl=>?_);have h1:=h1.bind;have hvl:vs.length=K.length:=rs.len;have a0:Al F1 F1 H1 (upd H1 l (.lst [])):=Al.new0 hl;have nF1:¬F1 l:=λz=>by obtain⟨o,q⟩:=r1.ex l z;rw[hl]at q;cases q
 have nS1:¬U S1 l:=λ⟨i,z⟩=>by obtain⟨_,_,o,q,_⟩:=r1.foot i l z;rw[hl]at q;cases q
 have hH:H l=ae:=kX g1 hl;refine⟨λi m Y r=>m=K.length-i/\i<=K.length/\∃G W ε' T u,aI X.K G W ε' B r/\Grow (U S1) (U W) F1 G H1 r/\Y=u.map .ref/\r l=aa (.lst Y)/\¬G l/\¬U W l/\gE X.K r G T u/\u.Nodup/\l∉u/\(∀b∈u,H b=ae/\¬G b/\¬U W b)/\u.length<=i /\ Ok X.K E B F1 S1 H1 (o7 cap de (K.drop i) T ε') (λys' D F2 S2 H2=>Ok X.K E B F2 S2 H2 (R.ok (PO.lls ys') D) (λpo _ G W r=>∀a Sa,ef X.K r G po a Sa->(∀b,Sa b->H b=ae/\¬G b/\¬U W b/\∃o,r b=aa o/\dY o)->Q (.ref a) r)),⟨_,rfl,kJ _,F1,S1,ε1,[],[],r1.al a0,a0.grow,rfl,upd_same,nF1,nS1,Paired.nil,BG,(by simp),(by simp),a6 _,h1⟩,?_⟩;rintro i m Y H2 ⟨rfl,hi,F2,S2,D,T,u,r2,g2,rfl,el,nF2,nS2,p,nd,nl,A,hyl,q2⟩;have RH:=keep S2 F2 H2 g2;by_cases bu:i<K.length
 .obtain⟨v,hv⟩:∃v,vs[i]?=aa v:=⟨_,fh ∅⟩
  obtain⟨go,yl⟩:=(hw H2 RH i).1 v hv;refine .inr ⟨go,λv' r y=>⟨[aa v'],rfl,rfl,?_⟩⟩;obtain⟨e1,e2⟩:=yl v' r y;subst e1 e2;obtain⟨px',hx,rx⟩:=rs.back hv;have ed:K.drop i=px'::K.drop (i+1):=by rw[qj bu];congr 1;exact(cE.mp hx).2
  rw[ed]at q2;have rx2:=rx.grow g2 r1.fit;intro C d f N M;have e0:=mB (X:=bx X n N' C d f N M) (E:=E0);refine Bx.mk λaf s I=>?_;refine EA af s _ r _ I ?_;simp only[if_true];have q5:Ok X.K E B F1 S1 H1 ((bC (bZ cap de px' D)).bind λy D=>match y with
   |.lst Y=>o7 cap de (K.drop (i+1)) (T++[Y]) D
   |_=>.no) _:=q2
  obtain⟨Sc,sc,rc,okc⟩:=MD r2 rx2 (Ok.bindB q5 g2);intro C d f N M;refine he C d f N M F2 Sc sc _ r _ rc (okc.imp λy _ F4 S4b H4 _ _ ⟨ε4,S4,r4,g4,u4,q6⟩ a Sa ow fr=>?_);obtain⟨el4,nF4,nS4⟩:=g4.stay el nS2 nF2;cases y with
  |dK _=>exact q6.elim
  |lls _=>exact q6.elim
  |ins _ _=>exact q6.elim
  |dT _=>exact q6.elim
  |inl _ _ _ _=>exact q6.elim
  |lst Y=>
   obtain⟨⟨us,hA,hR⟩,mr⟩:=ow;obtain⟨f1,f2,f3,o,f4,f5⟩:=fr a ((mr a).mpr rfl);have nS4a:¬U S4 a:=λz=>(u4 a z).elim f3 λ⟨j,w⟩=>by obtain⟨_,_,o',w1,_⟩:=r2.foot j a w;rw[f1]at w1;cases w1
   have iy:a≠l:=by rintro rfl;rw[el]at f1;cases f1
   have kpA:∀b o,b∈u->r b=aa o->H4 b=aa o/\¬F4 b/\¬U S4 b:=λb o g w=>g4.stay w (A b g).2.2 (A b g).2.1;have inA:∀b∈u,∃vs,r b=aa (.lst vs):=λb g=>by
    obtain⟨j,hj⟩:=HX g;obtain⟨xs',Cq⟩:∃z,T[j]?=aa z:=by have:=(cE.mp hj).1;rw[p.len]at this;exact⟨_,fh this⟩
    obtain⟨b',L,k1,k2,_⟩:=p.get Cq;rw[hj]at k1;cases k1;exact⟨L,k2⟩
   have Z:gE X.K H4 F4 T u:=p.mono (λ_ _ z=>z.grow g4 r2.fit) λb o g w=>(kpA b o g w).1;have haas:a∉u:=λz=>by obtain⟨L,w⟩:=inA a z;rw[f1]at w;cases w
   obtain⟨gl,P,r5⟩:=r4.lay (o':=.lst (u.map .ref++[.ref a])) el4 trivial nF4 nS4;have g5:=(g2.trans g4).lay (o':=.lst (u.map .ref++[.ref a])) hl;have hHa:H a=ae:=kX g1 (kX g2 f1);refine⟨el4,?_,_,∅,rfl,bu,F4,S4,ε4,T++[Y],u++[a],r5,g5,by simp,upd_same,nF4,nS4,?_,?_,?_,?_,by simp;lia,q6⟩
   .rw[b7];lia
   .exact gE.snoc (Z.mono (λ_ _ z=>z.grow gl P) λb o g w=>by rw[bh (by rintro rfl;exact nl g)];exact w) (by rw[bh iy];exact hA) (hR.grow gl P)
   .rw[vH];refine⟨nd,by simp,λb g c hc=>?_⟩;simp at hc;subst hc;rintro rfl;exact haas g
   .simp only[iP,iu,not_or];exact⟨nl,c_ iy⟩
   .intro b g;simp only[iP,iu]at g;rcases g with g|rfl
    .obtain⟨L,w⟩:=inA b g;exact⟨(A b g).1,(kpA b _ g w).2⟩
    .exact⟨hHa,f2,nS4a⟩
 .have e:i=K.length:=∅
  subst e;refine .inl ⟨(hw H2 RH _).2 hvl.symm,?_⟩;rw[y3]at q2;refine q2 F2 S2 H2 r2 g2 F2 S2 H2 r2 (Grow.refl ..) l (λb=>b=l\/b∈u) ⟨u,el,p,nd,nl,λb=>kM⟩ λb z=>?_;rcases z with rfl|g
  .exact⟨hH,nF2,nS2,_,el,trivial⟩
  .obtain⟨j,hj⟩:=HX g;obtain⟨xs',Cq⟩:∃z,T[j]?=aa z:=by have:=(cE.mp hj).1;rw[p.len]at this;exact⟨_,fh this⟩
   obtain⟨b',L,k1,k2,_⟩:=p.get Cq;rw[hj]at k1;cases k1;exact⟨(A b g).1,(A b g).2.1,(A b g).2.2,_,k2,trivial⟩
variable{pin:List Nat}
theorem Ot{F:ag->Prop}{S:Nat->ag->Prop}{l:ai}{d:St}{H:Hp}{D:jX}{i:Nat}{dn:ai->R PO}(G:i∉pin)(L:aI X.K F S l d H)(h:il X.K E pin d F S H (cV i dn l) D):Ok X.K E d F S H (dn l) (λv _ m u g=>∀a s,ef X.K g m v a s->(∀b,s b->H b=ae/\¬m b/\¬U u b/\∃o,g b=aa o/\dY o)->D.nx (d.set i (aa (.ref a))) g):=by
 unfold cV at h;cases r:dn l with
 |no=>rw[r]at h;exact h.elim
 |er c y=>rw[r]at h;exact λx m u g B I=>h x m u d g B I (iY.refl _ _)
 |ok v p=>
  rw[r]at h;simp only[R.bind_ok]at h;intro K M J A f a s C w;by_cases q:i<p.length
  .rw[if_pos q]at h;refine h K _ _ J (A.setOwn q C λb z=>(w b z).2) ⟨f.fro,f.keep,f.there,f.fnew,λb ⟨j,z⟩=>?_⟩ (iY.set G);rcases z with z|⟨_,z⟩
   .exact f.onew b ⟨j,z.1⟩
   .exact .inr (w b z).1
  .rw[if_neg q]at h;exact h.elim
theorem Ds{F:ag->Prop}{S:Nat->ag->Prop}{l:ai}{f:St}{H:Hp}{D:jX}{i:Nat}{dn:ai->R PO}(Q:i∉pin)(rl:aI X.K F S l f H)(h:il X.K E pin f F S H (bQ i (dF dn) l) D):Ok X.K E f F S H (dn l) (λq _ p u j=>∀a d,ef X.K j p q a d->(∀b,d b->H b=ae/\¬p b/\¬U u b/\∃o,j b=aa o/\dY o)->D.nx (f.set i (aa (.ref a))) j):=by
 unfold bQ dF at h;cases s:dn l with
 |no=>rw[s]at h;exact h.elim
 |er c J=>rw[s]at h;exact λx p u j N g'=>h x p u f j N g' (iY.refl _ _)
 |ok q I=>
  rw[s]at h;intro G B m M g a d O A;cases q with
  |dK r=>exact h.elim
  |lls cz=>exact h.elim
  |ins C fs=>exact h.elim
  |dT r=>exact h.elim
  |inl C fs y v=>exact h.elim
  |lst v=>
   have Y:∀b,d b->¬U B b/\∃o,m b=aa o:=λb z=>let ⟨_,_,x3,o,x4,_⟩:=A b z;⟨x3,o,x4⟩
   obtain⟨⟨K,T,P⟩,W⟩:=O;have Z:Grow (U S) (U B) F (λb=>G b\/d b) H m:=⟨λb z=>.inl (g.fro b z),g.keep,g.there,λb z=>z.elim (g.fnew b) λw=>.inr (.inl (A b w).1),g.onew⟩
   have L:aN X.K m (λb=>G b\/d b) (.lst v) (.ref a):=⟨a,K,rfl,.inl T,.inr ((W a).mpr rfl),aS.mono (λ_ z=>.inl z) (λ_ _ _ z=>z) (λ_ _ z _=>z) _ _ P⟩
   exact h _ _ _ m ((M.more Y).set L) (Z.trans (Grow.less i)) (iY.set Q)
section
variable{b a:ay}{y:Str}{g j d c:Pos}{l:ai->R (List PV)}{dt:ai->R Bool}{de:ai->R PV}{m:ai->R PO}{f:List ay}
theorem CS(i:Nat)(T:X.N.Nodup)(B:iG X n x N' cap)(P:X.calm=ah)(M:DI X E (.Name x g) a l)(J:∀C o p r q,DF (bx X n N' C o p r q) E0 f dt) (O:∀C o p r q,DE (bx X n N' C o p r q) E0 b de)(L:i∉pin:=by decide) (A:X.N[i]?=aa y:=by rfl) (G:Loc X.env.scope y:=by first|exact Or.inl rfl|exact Or.inr rfl) (z:jj (.ListComp b [⟨.Name x g,a,f,0⟩] n d) (aa (.Name y j)) c.line X.env=pure ah:=by rfl)(N:X.fn y=ah\/X.env.scope.names.lookup y=aa .local:=by first|exact .inl rfl|exact .inr rfl) (K:∀x,lp a X.env x=pure x:=by intro _;rfl):DS X E pin (.Assign [.Name y j] (.ListComp b [⟨.Name x g,a,f,0⟩] n d) c) (bQ i (dF (bP cap l dt de))):=λF S W u H D w h=>fX (GS (wi:=lh X (.Name x g) a) (ts:=λu H Q=>∀C o p r q,mL (bx X n N' C o p r q) f u H Q) (te:=λu H Q=>∀C o p r q,gf (bx X n N' C o p r q) b u H Q) B P vh (λC o p r q v s u H Q I h=>(h C o p r q).run v s I) (λC o p r q v s u H Q I h=>(h C o p r q).run v s I) T A G z N K) (E3 M J O w (Ds L w h))
theorem NH(i:Nat)(P:X.N.Nodup)(B:iG X n x N' cap)(O:X.calm=ah)(L:DI X E (.Name x g) a l)(N:∀C o p r q,DN (bx X n N' C o p r q) E0 b m)(K:i∉pin:=by decide) (A:X.N[i]?=aa y:=by rfl) (G:Loc X.env.scope y:=by first|exact Or.inl rfl|exact Or.inr rfl) (z:jj (.ListComp b [⟨.Name x g,a,[],0⟩] n d) (aa (.Name y j)) c.line X.env=pure ah:=by rfl)(M:X.fn y=ah\/X.env.scope.names.lookup y=aa .local:=by first|exact .inl rfl|exact .inr rfl) (J:∀x,lp a X.env x=pure x:=by intro _;rfl):DS X E pin (.Assign [.Name y j] (.ListComp b [⟨.Name x g,a,[],0⟩] n d) c) (cV i (xX cap l m)):=λF S T u H D w h=>fX (GS (wi:=lh X (.Name x g) a) (ts:=λu H Q=>∀C o p r q,mL (bx X n N' C o p r q) [] u H Q) (te:=λu H Q=>∀C o p r q,gf (bx X n N' C o p r q) b u H Q) B O vh (λC o p r q v s u H Q I h=>(h C o p r q).run v s I) (λC o p r q v s u H Q I h=>(h C o p r q).run v s I) P A G z M J) (Rh L N w (Ot K w h))
end
def qW:List PV->Option PO
 |[.str y]=>aa (.lst (y.map λc=>.str [c]))
 |_=>ae
theorem N_{K:ax}:lS K (λb H Q=>∃y:Tx,b=[tV y]/\y.length<=bd/\∀l,H l=ae->Q (.ref l) (upd H l (.lst (y.map sg)))) qW:=λF H b g Q h f c e q=>by
 unfold qW at e;split at e
 .cases e;obtain⟨v,rfl,rfl,d⟩:=gU c;exact⟨_,rfl,d,λl a=>q l F _ _ (Al.new0 a) (uf a (z8 _)) (ux a f trivial)⟩
 .cases e
end
def fU(a:List Nat):Nat->ai->Bool
 |_,[]=>ah
 |i,.own c::b=>a.contains i&&gA c&&fU a (i+1) b
 |i,_::b=>fU a (i+1) b
theorem t9{c:List Nat}:∀{b:ai}{k:Nat},fU c k b=ah->∀(i:Nat) a,b[i]?=aa (.own a)->k+i∈c/\gA a=ah
 |[],_,_,i,a,e=>by simp at e
 |.own q::b,k,h,0,a,e=>by simp only[HY,Option.some.injEq,Slot.own.injEq]at e;subst e;simp only[fU,iT]at h;exact⟨by simpa using h.1.1,h.1.2⟩
 |.own q::b,k,h,i+1,a,e=>by simp only[fU,iT]at h;have:=t9 (k:=k+1) h.2 i a (by simpa using e);rwa[HZ,BY]at this
 |.val q::b,k,h,0,a,e=>by simp at e
 |.none::b,k,h,0,a,e=>by simp at e
 |.val q::b,k,h,i+1,a,e=>by have:=t9 (k:=k+1) (by simpa[fU]using h) i a (by simpa using e);rwa[HZ,BY]at this
 |.none::b,k,h,i+1,a,e=>by have:=t9 (k:=k+1) (by simpa[fU]using h) i a (by simpa using e);rwa[HZ,BY]at this
def bR(len:Nat)(b:List Nat)(g:ai->R Slot):ai->R Slot:=λa=>if a.length=len/\fU b 0 a=ah then g a else .no
theorem dw{q:gR}{P:aR}{w:aL}{K:ax}{o:Str->Option aj}{g:aC}{x:Str}{c:bo}{N b:List Str}{k n:Nat}{d:ai->R aM}{pin:List Nat}(D:cS K o x c)(G:cF N b (a_ c))(y:N.length=b.length+n)(B:∀(kV p u:aj) (F:Option ag) (l C:aj) (m:List aj),m.length=b.length->g6 (kG x x (k6 c) (iM c) (a_ c) .none kV p u F l C) ⟨m,[]⟩=pure (b.zip m))(v:∀(f:ag) (l:aj) (A:aY) (j:List Env) (s:ao) (H:Hp) (E:XK),gB k (A.deeper (kF x (a_ c) s.heap.objs.size f l))->iC (jW q P w K o g N x (a_ c) f l A j s H E) E pin (iM c) d):cX q P w K o g x (k+1) b (b9 K (bR b.length pin (bO n d))):=by
 have no:∀{a},bR b.length pin (bO n d) a≠.no->a.length=b.length/\fU pin 0 a=ah:=λ{a} h=>by
  unfold bR at h;by_cases z:a.length=b.length/\fU pin 0 a=ah
  .exact z
  .rw[if_neg z]at h;exact absurd rfl h
 exact RD D G y B (λa h=>(no h).1) (λa h i r e=>by have:=t9 (no h).2 i r e;rwa[sL]at this) (λa h=>by unfold bR;rw[if_pos (no h)]) v
theorem L8{f:ag}{r:iS}{u:gR}{P:aR}{w:aL}{K:ax}{q:Str->Option aj}{j:aC}{x a:Str}{g:bo}{N c:List Str}{k n:Nat}{d:ai->R aM}{pin:List Nat}(J:pf K x a g f r)(I:cF N c (a_ g))(C:N.length=c.length+n)(D:∀(kV p y:aj) (G:Option ag) (m F:aj) (o:List aj),o.length=c.length->g6 (kG x a (k6 g) (iM g) (a_ g) .none kV p y G m F) ⟨o,[]⟩=pure (c.zip o))(B:∀(f:ag) (m:aj) (A:aY) (l:List Env) (s:ao) (H:Hp) (E:XK),gB k (A.deeper (kF a (a_ g) s.heap.objs.size f m))->iC (jW u P w K q j N a (a_ g) f m A l s H E) E pin (iM g) d):kZ P w K q j u (k+1) f r c (b9 K (bR c.length pin (bO n d))):=by
 have no:∀{b},bR c.length pin (bO n d) b≠.no->b.length=c.length/\fU pin 0 b=ah:=λ{b} h=>by
  unfold bR at h;by_cases z:b.length=c.length/\fU pin 0 b=ah
  .exact z
  .rw[if_neg z]at h;exact absurd rfl h
 exact Fc J I C D (λb h=>(no h).1) (λb h i v e=>by have:=t9 (no h).2 i v e;rwa[sL]at this) (λb h=>by unfold bR;rw[if_pos (no h)]) B
theorem GM{P:List aj->Prop}(h:∀a,P [a])(c:List aj)(d:c.length=1):P c:=by
 cases c with
 |nil=>cases d
 |cons a r=>cases r with
  |nil=>exact h a
  |cons b r=>cases d
theorem G3{P:List aj->Prop}(h:∀a b,P [a,b])(c:List aj)(d:c.length=2):P c:=by
 cases c with
 |nil=>cases d
 |cons a r=>exact GM (P:=λr=>P (a::r)) (h a) r (y6 d)
theorem Ea{P:List aj->Prop}(h:∀a b c,P [a,b,c])(d:List aj)(f:d.length=3):P d:=by
 cases d with
 |nil=>cases f
 |cons a r=>exact G3 (P:=λr=>P (a::r)) (h a) r (y6 f)
theorem QE{P:List aj->Prop}(h:∀a b c d,P [a,b,c,d])(f:List aj)(g:f.length=4):P f:=by
 cases f with
 |nil=>cases g
 |cons a r=>exact Ea (P:=λr=>P (a::r)) (h a) r (y6 g)
theorem Sy{d:iS}{c:List Str}(h:∀a,g6 d ⟨[a],[]⟩=pure (c.zip [a]))(b:List aj)(f:b.length=1):g6 d ⟨b,[]⟩=pure (c.zip b):=GM (P:=λb=>g6 d ⟨b,[]⟩=pure (c.zip b)) h b f
theorem Sj{f:iS}{d:List Str}(h:∀a b,g6 f ⟨[a,b],[]⟩=pure (d.zip [a,b]))(c:List aj)(g:c.length=2):g6 f ⟨c,[]⟩=pure (d.zip c):=G3 (P:=λc=>g6 f ⟨c,[]⟩=pure (d.zip c)) h c g
theorem Sv{g:iS}{f:List Str}(h:∀a b c,g6 g ⟨[a,b,c],[]⟩=pure (f.zip [a,b,c]))(d:List aj)(i:d.length=3):g6 g ⟨d,[]⟩=pure (f.zip d):=Ea (P:=λd=>g6 g ⟨d,[]⟩=pure (f.zip d)) h d i
theorem SL{i:iS}{g:List Str}(h:∀a b c d,g6 i ⟨[a,b,c,d],[]⟩=pure (g.zip [a,b,c,d]))(f:List aj)(j:f.length=4):g6 i ⟨f,[]⟩=pure (g.zip f):=QE (P:=λf=>g6 i ⟨f,[]⟩=pure (g.zip f)) h f j
theorem im{P:aR}{w:aL}{X:Cx}:rL (cA P w) X E0:=λ_ _ _ _ _ _ _ h=>by obtain⟨a,T,c,b,_,_,_,_,_,_,_,z⟩:=h;exact z.elim
theorem fV:fg "len"=aa (.builtin "len"):=by decide +kernel
theorem Ha:fg "all"=aa (.builtin "all"):=by decide +kernel
theorem Ob:fg "any"=aa (.builtin "any"):=by decide +kernel
theorem n0:fg "sorted"=aa (.builtin "sorted"):=by decide +kernel
theorem uB:fg "isinstance"=aa (.builtin "isinstance"):=by decide +kernel
theorem Oq:fg "int"=aa (.type "int"):=by decide +kernel
theorem Oc:fg "bool"=aa (.type "bool"):=by decide +kernel
theorem ME:fg "str"=aa (.type "str"):=by decide +kernel
theorem DZ:fg "list"=aa (.type "list"):=by decide +kernel
theorem rj:fg "tuple"=aa (.type "tuple"):=by decide +kernel
theorem Mt:fg "set"=aa (.type "set"):=by decide +kernel
def n6:ay->Bool
 |.Starred _ _=>ah
 |_=>ak
theorem jR{e:ay}{b:List ay}{a:Env}(h:n6 e=ak):aZ (e::b) a=(ak,bi e a)::aZ b a:=by
 cases e <;> first|rfl|cases h
section
variable{X:Cx}{E:XK}{e:ay}{a:List ay}{d:ai->R PV}{b:ai->R (List PV)}{c:ai->R (List cD)}
theorem aV(g:DE X E e d)(f:DA X E a b)(h:n6 e=ak:=by rfl):DA X E (e::a) (aB d b):=MY g f (jR h)
theorem bg(g:DE X E e d)(f:DG X E a c)(h:n6 e=ak:=by rfl):DG X E (e::a) (gV d c):=Ko g f (jR h)
end
def xD:List aj:=[.type "ValueError",.type "Exception",.type "BaseException",.type "object"]
theorem Qw{K:ax}{h:aC}{C:ag}{B:List aj}{nw:String}(X:K.In h)(q:sM K C B nw=ah):∃i N w p bs E j a G c F D A z y x g,h.get? C=aa (excClassObj w p C N bs i E j a G c F D A z y x nw)/\h.Ns N g/\g "__init__"=ae/\OwnTail h B i:=by
 unfold sM at q;split at q
 case h_2=>cases q
 case h_1 d0 cdata slots look=>
  split at q
  case h_2=>cases q
  case h_1 C2 tl s0 s1 s2 s3 nn s5 em es=>
   rw[iT,iT,iT,iT,iT]at q;obtain⟨⟨⟨⟨⟨v,u⟩,f⟩,s⟩,b⟩,r⟩:=q;have o:=beq_iff_eq.mp v;have n:=beq_iff_eq.mp u;have d:=beq_iff_eq.mp r;subst o n;cases cdata;dsimp only at em f b d;subst em;have m:=H_ _ |>.mp f
   subst m;have l:slots=#[s0,s1,s2,s3,aa (.builtin nn),s5]:=by cases slots;exact congrArg Array.mk es
   subst l;exact⟨tl,_,_,_,_,_,_,_,_,_,d0,s0,s1,s2,s3,s5,_,X _ _ look,Heap.Ns.of_isNs (PySem.W.isNs_of_in X b),PySem.W.nsMap_none_of_in X b d,PySem.W.tail_of_in X s⟩
theorem Kv{K:ax}{h:aC}{a:Str->Option aj}{x:Str}{C:ag}{B:List aj}{nw:String}(X:K.In h)(e:a x=aa (.ref C))(q:sM K C B nw=ah):OwnCls x C B nw a h:=⟨e,Qw X q⟩
def subB(K:ax)(D C:ag):Bool:=match K.lookup C with
 |some ⟨_,_,.cls a,_⟩=>a.mro.contains (.ref D)
 |_=>ak
def Ff(K:ax)(C:ag):Bool :=
 yH K (.ref C) "__getattribute__" == aa (aa (.builtin "BaseException.__getattribute__"))&&yH K (.ref C) "__getattr__" == aa ae&&yH K (.ref C) "__class__" == aa (aa (.builtin "object.__class__")) &&
 PySem.W.specialIn K (.builtin "object.__class__") "__get__" == aa (aa (.builtin "getset_descriptor.__get__"))&&PySem.W.takesIn K (.builtin "object.__class__") == aa ah&&PySem.W.mroIn K C (.type "object") == aa ah&&PySem.W.mroIn K C (.type "BaseException") == aa ah&&(PySem.W.clsIn K C).isSome
def zo(K:ax):Bool:=K.all λp=>match p.2.cls with
 |.type t=>t != "list"
 |_=>ah
theorem Go{a:ag}{o:Obj}:∀{K:ax},K.lookup a=aa o->(a,o)∈K
 |[],e=>by cases e
 | (b,u)::K,e=>by
  rw[kK]at e;cases q:a == b with
  |true=>rw[q]at e;cases e;rw[beq_iff_eq.mp q];exact ln ..
  |false=>rw[q]at e;exact j8 _ (Go e)
theorem E6{K:ax}{H:Hp}{F:ag->Prop}:∀a:List Int,aS K H F (a.map .int) (a.map V.int)
 |[]=>rfl
 |x::a=>⟨.int x,a.map V.int,rfl,rfl,E6 a⟩
theorem PZ{K:ax}{H:Hp}{a:ag}{b:List V}(h:zo K=ah)(s:cB K H a b):Rd H a (.lst b):=by
 rcases s with s|⟨o,d,n,c,f,_⟩
 .exact s
 .have:=l_.mp h _ (Go c);rw[f]at this;simp at this
theorem QB{K:ax}{g:ai->R Slot}{H:Hp}{a:ag}{c:List Int}{E:XK}(d:Rd H a (.lst (c.map V.int)))(h:g [.val (.lst (c.map .int))]=.ok (.val (.bl ah)) [.val (.lst (c.map .int))]):b9 K g [.ref a] H (λv _=>v=.bl ah) E:=by
 refine⟨λb=>b=a,λ_ _=>False,[.val (.lst (c.map .int))],⟨rfl,λb e=>?_,λi pv e=>?_,λi l e=>?_,λi b z=>z.elim,λi j b z=>z.elim⟩,?_⟩
 .subst e;rcases d with d|⟨o,d⟩ <;> exact⟨_,d⟩
 .cases i with
  |zero=>cases e;exact⟨_,rfl,a,_,rfl,d,rfl,E6 c⟩
  |succ i=>simp at e
 .cases i with
  |zero=>cases e
  |succ i=>simp at e
 .rw[h];exact λv q n p m _ _ f _ _=>f.1
theorem SG{K:ax}{x:Str}{i:Int}{t:Tok}(e:e_ K cR x=aa (aa (.int i t))):∃t,e_ K cR x=aa (aa (.int i t)):=⟨t,e⟩
theorem Sz{K:ax}{x:Str}{l:Tx}{t:Tok}(e:e_ K cR x=aa (aa (.str (tS l) t))):∃t,e_ K cR x=aa (aa (.str (tS l) t)):=⟨t,e⟩
def c8(K:ax)(x:Str)(a:bo):Prop:=∃f oc g kV h d j b i c,e_ K cR x=aa (aa (.ref f))/\K.lookup f=aa ⟨oc,g,.func (kG x x (k6 a) (iM a) (a_ a) .none kV h d j b i),c⟩/\yK K b x=ah/\vq K (.ref f)=ah
theorem Si{K:ax}{x:Str}{b:bo}{f:ag}{oc kV j h d m:aj}{i n:Option ag}{g:Array (Option aj)}(a:e_ K cR x=aa (aa (.ref f)))(l:K.lookup f=aa ⟨oc,i,.func (kG x x (k6 b) (iM b) (a_ b) .none kV j h n d m),g⟩)(c:yK K d x=ah) (k:vq K (.ref f)=ah):c8 K x b:=⟨f,oc,i,kV,j,h,n,d,m,g,a,l,c,k⟩
theorem c8.at{K:ax}{h:aC}{b:Str->Option aj}{x:Str}{st:bo}(d:c8 K x st)(X:K.In h)(G:h.Ns cR b):cS K b x st:=by obtain⟨f,oc,j,kV,m,i,p,o,n,g,a,l,c,k⟩:=d;exact⟨f,_,nr X G a,Gi l c k⟩
def iZ(a:List (aE×PV))(k:aE):Option PV:=(a.find? λb=>decide (b.1=k)).map (·.2)
def nQ(a:List (aE×PV))(k:aE)(v:PV):List (aE×PV):=if(a.any λb=>decide (b.1=k))=ah then a.map (λb=>if b.1=k then(b.1,v)else b)else a++[(k,v)]
def gT:PV->Option aE
 |.int i=>aa (.inl i)
 |.str x=>aa (.inr (tS x))
 |_=>ae
section
variable{K:ax}{F:ag->Prop}{S:Nat->ag->Prop}{ε:ai}{l:St}{H:Hp}{i:Nat}{d:List (aE×PV)}{f:List (aE×V)}{a:ag}
theorem r9{x:PV}{v:V}{k:aE}(r:aN K H F x v)(e:gT x=aa k):v=kV k:=by
 cases x <;> simp[gT]at e
 .subst e;exact r
 .subst e;exact r.1
theorem gZ.len(h:gZ K H F d f):f.length=d.length:=by
 unfold gZ at h
 induction h with
 |nil=>rfl
 |cons _ _ b=>simp[b]
theorem gZ.val(h:gZ K H F d f)(k:aE):(∃x v,iZ d k=aa x/\jx f k=aa v/\aN K H F x v)\/(iZ d k=ae/\jx f k=ae):=by
 unfold gZ at h
 induction h with
 |nil=>exact .inr ⟨rfl,rfl⟩
 |@cons p q ps qs r _ ih=>
  by_cases e:p.1=k
  .refine .inl ⟨p.2,q.2,by simp[iZ,kI,e],?_,r.2⟩;rw[xT (by rw[<-r.1];exact e)]
  .have b:¬q.1=k:=by rw[<-r.1];exact e
   rw[xp b];have:iZ (p::ps) k=iZ ps k:=by simp[iZ,kI,e]
   rw[this];exact ih
theorem gZ.any(h:gZ K H F d f)(k:aE):(d.any λb=>decide (b.1=k))=f.any λb=>decide (b.1=k):=by
 unfold gZ at h
 induction h with
 |nil=>rfl
 |cons r _ c=>rw[lw,lw,c,r.1]
theorem gZ.put(h:gZ K H F d f)(k:aE){x:PV}{v:V}(r:aN K H F x v):gZ K H F (nQ d k x) (fL f k v):=by
 unfold nQ fL;rw[h.any k];split
 .rename_i b;clear b;unfold gZ at h ⊢
  induction h with
  |nil=>exact .nil
  |@cons p q ps qs r1 _ ih=>
   refine .cons ?_ ih;dsimp only;by_cases e:p.1=k
   .rw[if_pos e,if_pos (by rw[<-r1.1];exact e)];exact⟨r1.1,r⟩
   .rw[if_neg e,if_neg (by rw[<-r1.1];exact e)];exact r1
 .exact yO h ⟨rfl,r⟩
theorem aI.dkAt(r:aI K F S ε l H)(e:ε[i]?=aa (.own (.dK d))):∃a f,l[i]?=aa (aa (.ref a))/\H a=aa (.dK f)/\gZ K H F d f/\S i a/\∀b,S i b->b=a:=by obtain⟨a,n,⟨g,m,j⟩,c⟩:=r.own i _ e;exact⟨a,g,n,m,j,(c a).mpr rfl,λb h=>(c b).mp h⟩
theorem aI.updO{p po':PO}{o':HO}(r:aI K F S ε l H)(e:ε[i]?=aa (.own p))(P:gA p=ah)(G:l[i]?=aa (aa (.ref a)))(O:dY o')(h:∀A,(∀x v,aN K H F x v->aN K A F x v)->(∀x v,aS K H F x v->aS K A F x v)->A a=aa o'->∀J:ag->Prop,(∀b,J b↔b=a)->ef K A F po' a J):aI K F S (ε.set i (.own po')) l (L2.upd H a o')/\Grow (U S) (U S) F F H (L2.upd H a o'):=by
 obtain⟨Q,I,N⟩:=r.own i p e;rw[G]at I;cases I;have s:=Ej N P;have C:S i a:=(s a).mpr rfl;have E:∀b,S i b->b=a:=λb z=>(s b).mp z;have B:i<ε.length:=(cE.mp e).1;have g:Grow (U S) (U S) F F H (L2.upd H a o'):=⟨λ_ z=>z,λb o q n=>by rw[bh (by rintro rfl;exact n ⟨i,C⟩)];exact q,λb o q=>by
  by_cases D:b=a
  .subst D;exact⟨_,upd_same⟩
  .exact⟨o,by rw[bh D];exact q⟩,λ_ z=>.inl z,λ_ z=>.inl z⟩
 refine⟨⟨by rw[gs];exact r.len,λb z=>let ⟨o,q⟩:=r.ex b z;g.there b o q,λj pv q=>?_,λj p q=>?_,λj b z=>?_,r.dist⟩,g⟩
 .have m:i≠j:=by rintro rfl;rw[d8 B]at q;cases q
  rw[cN m]at q;obtain⟨v,y,u⟩:=r.val j pv q;exact⟨v,y,u.grow g r.fit⟩
 .by_cases m:i=j
  .subst m;rw[d8 B]at q;cases q;exact⟨a,G,h _ (λ_ _ z=>z.grow g r.fit) (λ_ _ z=>z.grow g r.fit) upd_same _ s⟩
  .rw[cN m]at q;obtain⟨c,y,u⟩:=r.own j p q;refine⟨c,y,u.mono (λ_ _ z=>z.grow g r.fit) (λ_ _ z=>z.grow g r.fit) λb o z w=>?_⟩;rw[bh (by rintro rfl;exact m (r.dist i j b C z))];exact w
 .obtain⟨⟨p,y⟩,u,o,M,L⟩:=r.foot j b z;by_cases m:i=j
  .subst m;rw[E b z];exact⟨⟨_,d8 B⟩,by rw[<-E b z];exact u,_,upd_same,O⟩
  .exact⟨⟨p,by rw[cN m];exact y⟩,u,o,by rw[bh (by rintro rfl;exact m (r.dist i j b C z))];exact M,L⟩
end
def cY(b:ai)(i:Nat):Option (List (aE×PV)):=match b[i]? with
 |some (.own (.dK a))=>aa a
 |_=>ae
theorem lc{b:ai}{i:Nat}{a:List (aE×PV)}(h:cY b i=aa a):b[i]?=aa (.own (.dK a)):=by
 unfold cY at h;split at h
 .cases h;assumption
 .cases h
section
variable{X:Cx}{E:XK}{pin:List Nat}{e b c:ay}{de db f:ai->R PV}{d:Pos}
def rD:ai->R PO:=λa=>.ok (.dK []) a
theorem Dy:DN X E (.Dict [] [] d) rD:=λF S l i H Q g h=>b_ Ld λp a=>by
 have al:Al F F H (upd H p (.dK [])):=Al.new0 a;refine h F S _ (g.al al) al.grow p (λb=>b=p) ⟨⟨[],upd_same,.nil⟩,λb=>kM⟩ λb z=>?_;subst z;refine⟨a,λz=>?_,λ⟨j,z⟩=>?_,_,upd_same,trivial⟩
 .obtain⟨o,q⟩:=g.ex b z;rw[a]at q;cases q
 .obtain⟨_,_,o,q,_⟩:=g.foot j b z;rw[a]at q;cases q
def ik(i:Nat)(db:ai->R PV):ai->R PV:=λε=>(aO (cY ε i) ε).bind λ_ ε=>(db ε).bind λk ε1=>(aO (cY ε1 i) ε1).bind λa ε1=>aO ((gT k).bind λk=>iZ a k) ε1
theorem xl(i:Nat){y:Str}{A:Pos}(hu:X.A.units+64<cLine)(L:DE X E b db)(N:X.N[i]?=aa y:=by rfl)(O:eJ X.env.scope y:=by eq_refl)(K:(y==("__debug__":Str))=ak:=by decide) (P:(y==("__classdict__":Str))=ak:=by decide) (I:Au b:=by exact λ_ _=>rfl):DE X E (.Subscript (.Name y A) b d) (ik i db):=λF S o z H Q p h=>by
 unfold ik at h;cases n:cY o i with
 |none=>rw[n]at h;exact h.elim
 |some s=>
  rw[n]at h;simp only[bV,R.bind_ok]at h;obtain⟨a,B,w,_⟩:=p.dkAt (lc n);refine b_ (IW ∅ (fq N O K P) bM I) ⟨.ref a,w,L F S o z H _ p ((Ok.bind h).imp λk j Y T W r g1 q u C=>?_)⟩;cases m:cY j i with
  |none=>rw[m]at q;exact q.elim
  |some G=>
   rw[m]at q;simp only[bV,R.bind_ok]at q;obtain⟨a',Z,g,M,J,_⟩:=r.dkAt (lc m);rw[w]at g;cases g;cases l:gT k with
   |none=>rw[l]at q;exact q.elim
   |some D=>
    rw[l,g8]at q;rw[r9 C l];rcases J.val D with⟨x,v,h1,h2,h3⟩|⟨h1,h2⟩
    .rw[h1]at q;exact⟨a,v,rfl,by rw[<-h2];exact mD.k M,q Y T W r (Grow.refl ..) v h3⟩
    .rw[h1]at q;exact q.elim
def ij(i:Nat)(db f:ai->R PV):ai->R PV:=λg=>(aO (cY g i) g).bind λ_ g=>(db g).bind λk h=>(f h).bind λz a=>(aO (cY a i) a).bind λj a=>aO ((gT k).map λk=>(iZ j k).getD z) a
theorem xV(i:Nat){y:Str}{j g:Pos}(hu:X.A.units+64<cLine)(hb:DE X E b db)(hc:DE X E c f)(hN:X.N[i]?=aa y:=by rfl)(eP:eJ X.env.scope y:=by eq_refl)(hd:(y==("__debug__":Str))=ak:=by decide) (bB:(y==("__classdict__":Str))=ak:=by decide)(l:qe (.Name y j) "get" X.env (bi (.Name y j) X.env)=bi (.Name y j) X.env:=by rfl) (B:(g.endLine == d.line)=ah:=by rfl) (s1:n6 b=ak:=by rfl) (Z:n6 c=ak:=by rfl):DE X E (.Call (.Attribute (.Name y j) "get" g) [b,c] [] d) (ij i db f):=λF S J I H Q L h=>by
 have K:aZ [b,c] X.env=[(ak,bi b X.env),(ak,bi c X.env)]:=by rw[jR s1,jR Z];rfl
 have m:M2 X (.Name y j) "get" g b c d:=⟨l,by rw[K];rfl,B,by rw[K];rfl⟩
 unfold ij at h;cases G:cY J i with
 |none=>rw[G]at h;exact h.elim
 |some M=>
  rw[G]at h;simp only[bV,R.bind_ok]at h;obtain⟨a,Y,O,A,_⟩:=L.dkAt (lc G);refine b_ (Lk ∅ (fq hN eP hd bB) bM bM m) ⟨.ref a,O,a,rfl,.inl ⟨_,.inl A⟩,hb F S J I H _ L ((Ok.bind h).imp λk p F1 S1 H1 r1 g1 q u ru=>?_)⟩;refine hc F1 S1 p I H1 _ r1 ((Ok.bind q).imp λz o W P T s g2 q w r=>?_);cases D:cY o i with
  |none=>rw[D]at q;exact q.elim
  |some kvs=>
   rw[D]at q;simp only[bV,R.bind_ok]at q;obtain⟨a',ws,n,N,hk,_⟩:=s.dkAt (lc D);rw[O]at n;cases n;cases C:gT k with
   |none=>rw[C]at q;exact q.elim
   |some ky=>
    rw[C,oE]at q;rw[r9 ru C];rcases hk.val ky with⟨x,v,l,h2,B⟩|⟨l,h2⟩
    .rw[l]at q;exact⟨aa v,by rw[<-h2];exact mD.k N,q W P T s (Grow.refl ..) v B⟩
    .rw[l]at q;exact⟨ae,by rw[<-h2];exact mD.k N,q W P T s (Grow.refl ..) w r⟩
def fG(i:Nat)(db de:ai->R PV):ai->R aM:=λj=>(de j).bind λy g=>(aO (cY g i) g).bind λ_ g=>(db g).bind λk a=>(aO (cY a i) a).bind λh a=>(aO (gT k) a).bind λk a=>if h.length<bd then .ok .next (a.set i (.own (.dK (nQ h k y))))else .no
theorem pZ(i:Nat){y:Str}{C j:Pos}(hu:X.A.units+64<cLine)(hb:DE X E b db)(he:DE X E e de)(hN:X.N[i]?=aa y:=by rfl)(eP:eJ X.env.scope y:=by eq_refl)(hd:(y==("__debug__":Str))=ak:=by decide) (bB:(y==("__classdict__":Str))=ak:=by decide) (Y:jj e (aa (.Subscript (.Name y C) b j)) d.line X.env=pure ak:=by rfl):DS X E pin (.Assign [.Subscript (.Name y C) b j] e d) (fG i db de):=λF S K o H D P h=>by
 refine fX (Du ∅ (fq hN eP hd bB) bM bM Y) (he F S K o H _ P (h.bindE.imp λy l F1 S1 H1 r g1 q v N=>?_));cases B:cY l i with
 |none=>rw[B]at q;exact q.elim
 |some I=>
  rw[B]at q;simp only[bV,R.bind_ok]at q;obtain⟨a,L,z,ha0,_⟩:=r.dkAt (lc B);refine⟨.ref a,z,hb F1 S1 l o H1 _ r (q.bindE.imp λk p F2 S2 H2 G g2 g u O=>?_)⟩;cases n:cY p i with
  |none=>rw[n]at g;exact g.elim
  |some w=>
   rw[n]at g;simp only[bV,R.bind_ok]at g;obtain⟨a',M,m,ha,J,_⟩:=G.dkAt (lc n);rw[z]at m;cases m;cases A:gT k with
   |none=>rw[A]at g;exact g.elim
   |some s=>
    rw[A]at g;simp only[bV,R.bind_ok]at g;split at g
    .rename_i Z;rw[r9 O A];have eQ:=J.put s (N.grow g2 r.fit);obtain⟨Q,g3⟩:=G.updO (po':=.dK (nQ w s y)) (o':=.dK (fL M s v)) (lc n) rfl z trivial λH' W m2 x Sa T=>⟨⟨_,x,eQ.mono W⟩,T⟩
     exact⟨a,_,rfl,yF.k ha (by rw[J.len];exact iq Z kl),g F2 S2 o _ Q g3 (iY.refl _ _)⟩
    .exact g.elim
end
section
variable{X:Cx}
def uE(a d:ag):HO:=.ext λh=>h.IsValuesView a d
theorem NA:sq X "dict.values" (λx c H Q=>∃d b,x=.ref d/\c=[]/\H d=aa (.dK b)/\∀a,H a=ae->Q (.ref a) (upd H a (uE a d))):=by
 intro B s u H x c v w Q I i j h;obtain⟨d,b,rfl,rfl,r,q⟩:=h;cases i;cases j.zero;obtain⟨z,p,g,l,f⟩:=uJ I.hok r;refine call_meetsIn PySem.F.slot_dict_values f.typeIs PySem.F.entry_dict_values (PySem.F.args_dict_values_1 _) (meets_dict_values (gi X.prog X.w) d p) ⟨⟨g,f⟩,?_⟩;refine⟨.ref s.heap.objs.size,_,I.laid (a:=s.heap.objs.size) (o:=uE s.heap.objs.size d) (t':=s.toks) (λ_ _ q=>bE _ q) (a6 _) ?_,rfl,q _ I.fresh⟩;exact⟨⟨_,cG _ rfl,rfl,rfl⟩,⟨_,cG _ rfl⟩,λA y ⟨o,n,m⟩ k=>⟨o,k o n,m⟩⟩
theorem KV.at{kvs:List (aE×V)}{a:List (aE×aj)}(r:KV kvs a){i:Nat}{k:aE}{u:aj}(h:a[i]?=aa (k,u)):∃v,kvs[i]?=aa (k,v)/\RelV v u:=by
 unfold KV at r
 induction r generalizing i with
 |nil=>simp at h
 |@cons p q ps qs r1 _ ih=>
  cases i with
  |zero=>simp at h;subst h;exact⟨p.2,by simp[show k=p.1 from r1.1.symm],r1.2⟩
  |succ i=>exact ih (by simpa using h)
def kw(a:List (aE×V)):Option Bool:=match a with
 |[]=>aa ak
 | (_,.int i)::r=>(kw r).map λb=>(decide (i≠0))||b
 |_=>ae
theorem ET:∀{a:List (aE×V)}{b:Bool},kw a=aa b->(∀(i:Nat) k v,a[i]?=aa (k,v)->∃n,v=.int n)/\b=(cJ a.length).any λi=>match a[i]? with|aa (_,.int n)=>decide (n≠0)|_=>ak
 |[],b,h=>by simp[kw]at h;subst h;exact⟨by simp,rfl⟩
 | (k,.int n)::r,b,h=>by
  simp only[kw,lx]at h;obtain⟨l,j,g⟩:=h;obtain⟨f,d⟩:=ET j;refine⟨λi c v e=>?_,?_⟩
  .cases i with
   |zero=>simp at e;exact⟨n,e.2.symm⟩
   |succ i=>exact f i c v (by simpa using e)
  .rw[eU,yR,lw,vI,<-g,d];rfl
 | (_,.non)::_,_,h=>by simp[kw]at h
 | (_,.bl _)::_,_,h=>by simp[kw]at h
 | (_,.str _)::_,_,h=>by simp[kw]at h
 | (_,.ref _)::_,_,h=>by simp[kw]at h
 | (_,.ty _)::_,_,h=>by simp[kw]at h
theorem Kw(P:X.calm=ah):fO X (.builtin "any") (λA H Q=>∃(p d:ag) (a:List (aE×V)) (b:Bool),A=[.ref p]/\H p=aa (uE p d)/\H d=aa (.dK a)/\kw a=aa b/\Q (.bl b) H):=by
 intro af s D H A us Q I r h;obtain⟨p,d,a,b,rfl,m,O,T,q⟩:=h;obtain⟨u,rfl,F⟩:=vals1 r;cases F;obtain⟨l,_,_⟩:=(show cn X.prog X.w H s.heap p (uE p d)from I.hok p _ m)
 obtain⟨z,hs,g,f,Z⟩:=uJ I.hok O;obtain⟨B,j⟩:=Z.dictAt;obtain⟨M,L⟩:=ET T;refine call_any_walk (wpAny_pyIter_values l j ?_);refine⟨s.heap.objs.size,_,_,_,_,_,λi=>match a[i]? with|aa (_,.int n)=>decide (n≠0)|_=>ak,rfl,Walks.dictValues (tD (I.ok.hd P)) _ d (c0 j.lt_size) g B,⟨⟨_,cG _ rfl,rfl,rfl⟩,j.push _⟩,λi v s' Q' E' l y=>?_,λh' E k=>?_⟩
 .obtain⟨K,N⟩:=l;obtain⟨w,C,Y⟩:=KV.at f N;obtain⟨n,rfl⟩:=M i K w C;obtain⟨t,rfl⟩:=Y;dsimp only at y;rw[C]at y;exact PyProof.Rows.truthy_int (by rw[show(n != 0)=decide (n≠0) by by_cases z:n=0 <;> simp[z]];exact y)
 .have I1:Inv X af D H {s with heap:=s.heap.push {cls:=.type "dict_valueiterator",data:=.fields #[.ref d,.int 0 0,.int g.length 0,.int B 0]},toks:=s.toks}:=I.kept (t':=s.toks) λb o e=>bE _ e;have W:(cJ g.length).any (λi=>match a[i]? with|aa (_,.int n)=>decide (n≠0)|_=>ak)=b:=by rw[<-f.length];exact L.symm
  rw[W];exact⟨.bl _,H,Inv.turned (t':=E) I1 (it:=s.heap.objs.size) (λb o S e=>k b o (by simpa using S) e) I.fresh (p9 I.lt) (.inr I.sz) (λx c e z=>by obtain⟨v,G⟩:=I.cell x c e;exact absurd G.lt (by rw[z];exact fA _)) (λJ m z=>absurd (bG (I.pin J m).1) (by rw[z];exact fA _)),rfl,q⟩
end
section
variable{X:Cx}{E:XK}{pin:List Nat}{e b c:ay}{de db I:ai->R PV}{A:Pos}
def pQ:List (aE×PV)->Option Bool
 |[]=>aa ak
 | (_,.int i)::r=>(pQ r).map λb=>(decide (i≠0))||b
 |_=>ae
theorem OG{K:ax}{H:Hp}{F:ag->Prop}{a:List (aE×PV)}{d:List (aE×V)}{k:Bool}(h:gZ K H F a d)(e:pQ a=aa k):kw d=aa k:=by
 unfold gZ at h
 induction h generalizing k with
 |nil=>exact e
 |@cons p q D qs r _ ih=>
  obtain⟨l,pv⟩:=p;obtain⟨j,g⟩:=q;cases pv <;> simp only[pQ,lx]at e <;> try cases e
  obtain⟨i,f⟩:=r;obtain rfl:g=V.int _:=f;rename_i h;simp only[kw,ih h.1,oE];rw[<-h.2]
def ut(i:Nat):ai->R PV:=λa=>(aO (cY a i) a).bind λd a=>aO ((pQ d).map .bl) a
theorem NF(i:Nat){y:Str}{g p f d:Pos}(G:X.calm=ah)(z:X.mg "any"=ae)(J:X.N[i]?=aa y:=by rfl)(L:eJ X.env.scope y:=by eq_refl)(D:(y==("__debug__":Str))=ak:=by decide) (O:(y==("__classdict__":Str))=ak:=by decide) (C:Gl X "any":=by rfl)(x:qe (.Name y g) "values" X.env (bi (.Name y g) X.env)=bi (.Name y g) X.env:=by rfl) (w:(f.endLine == d.line)=ah:=by rfl)(u:aZ [.Call (.Attribute (.Name y g) "values" f) [] [] d] X.env=(ak,bi (.Call (.Attribute (.Name y g) "values" f) [] [] d) X.env)::aZ [] X.env:=by rfl) (M:(eO A (aZ [] X.env)).any (·.1)=ak:=by rfl):DE X E (.Call (.Name "any" p) [.Call (.Attribute (.Name y g) "values" f) [] [] d] [] A) (ut i):=λF S v P H Q s h=>by
 unfold ut at h;cases o:cY v i with
 |none=>rw[o]at h;exact h.elim
 |some l=>
  rw[o]at h;simp only[bV,R.bind_ok]at h;obtain⟨a,r,K,j,B,T,_⟩:=s.dkAt (lc o);cases n:pQ l with
  |none=>rw[n]at h;exact h.elim
  |some k=>
   rw[n,oE]at h;refine b_ (lZ (Kw G) C z Ob (jb (K3 PySem.F.plainAttrs_dict PySem.F.slot_dict_values PySem.F.type_dict_values NA (fq J L D O) x w) kn u) (by decide) (by decide) u M) ⟨.ref a,K,.inr (.inr (.inl ⟨rfl,.inl ⟨_,j⟩⟩)),a,r,rfl,rfl,j,λq m=>?_⟩;have al:Al F F H (L2.upd H q (uE q a)):=Al.new0 m;have N:a≠q:=by rintro rfl;rw[j]at m;cases m
   exact⟨q,a,r,k,rfl,upd_same,by rw[bh N];exact j,OG B n,h F S _ (s.al al) al.grow _ rfl⟩
def xj(X:Cx)(E:XK)(m:List ay)(d:ai->R (PO×List cD)):Prop :=
 ∀F S i f H Q,aI X.K F S i f H->Ok X.K E f F S H (d i) (λp _ h n g=>∀a l j,ef X.K g h p.1 a l->(∀b,l b->H b=ae/\¬h b/\¬U n b/\∃o,g b=aa o/\dY o)->iD X.K (f++[aa (.ref a)]) h g p.2 j->Q j g)->o0 X m f H Q
theorem iD.app{K:ax}{g:St}{F:ag->Prop}{H:Hp}(d:St):∀{l:List cD}{j:List V},iD K g F H l j->iD K (g++d) F H l j
 |[],_,h=>h
 |.inl _::_,_,⟨v,r,e,a,f⟩=>⟨v,r,e,a,f.app d⟩
 |.inr i::_,_,⟨v,r,e,a,f⟩=>⟨v,r,e,by rw[jk (cE.mp a).1];exact a,f.app d⟩
theorem ef.stay{K:ax}{O i F h:ag->Prop}{H f:Hp}{po:PO}{a:ag}{Sa:ag->Prop}(n:ef K H F po a Sa)(g:Grow O i F h H f)(fit:Fit O F H)(d:∀b,Sa b->¬F b/\¬O b/\∃o,H b=aa o/\dY o):ef K f h po a Sa/\∀b,Sa b->¬h b/\¬i b/\∃o,f b=aa o/\dY o:=by refine⟨n.mono (λ_ _ z=>z.grow g fit) (λ_ _ z=>z.grow g fit) λb o z w=>(g.stay w (d b z).2.1 (d b z).1).1,λb z=>?_⟩;obtain⟨s,r,o,q,p⟩:=d b z;obtain⟨m,l,j⟩:=g.stay q r s;exact⟨l,j,o,m,p⟩
variable{m:List ay}{dn:ai->R PO}{C:ai->R (List cD)}{B:ai->R (PO×List cD)}
def gN(dn:ai->R PO)(C:ai->R (List cD)):ai->R (PO×List cD):=λf=>(dn f).bind λg d=>(C d).bind λh a=>.ok (g,.inr a.length::h) a
theorem Lj(w:DN X E e dn)(v:DG X E m C)(u:n6 e=ak:=by rfl):xj X E (e::m) (gN dn C):=λF S q i H Q r h=>by refine pc (jb bM ii (jR u)) (w F S q i H _ r ((Ok.bind h).imp λT d P L N n W y a J s o=>?_));refine v P L d i N _ n ((Ok.bind y).imp λY p O K M l D x j G=>?_);obtain⟨f,g⟩:=s.stay D n.fit λb z=>(o b z).2;refine x O K M l (Grow.refl ..) a J (.ref a::j) f (λb z=>⟨(o b z).1,g b z⟩) ⟨.ref a,j,rfl,?_,G.app _⟩;rw[l.len,qb (a6 _),Nat.sub_self];rfl
def rG(d:ai->R PV)(B:ai->R (PO×List cD)):ai->R (PO×List cD):=λg=>(d g).bind λx f=>(B f).bind λp a=>.ok (p.1,.inl x::p.2) a
theorem C9(y:DE X E e de)(w:xj X E m B)(u:n6 e=ak:=by rfl):xj X E (e::m) (rG de B):=λF S l f H Q q h=>by refine pc (jb bM ii (jR u)) (y F S l f H _ q ((Ok.bind h).imp λx d Y O T g K G v o=>?_));refine w Y O d f T _ g ((Ok.bind G).imp λp j W N P r J D a M n s i L=>?_);exact D W N P r (Grow.refl ..) a M _ s (λb z=>⟨kX K (i b z).1,(i b z).2⟩) ⟨v,n,rfl,o.grow J g.fit,L⟩
theorem aI.push{K:ax}{F:ag->Prop}{S:Nat->ag->Prop}{d:ai}{y:St}{H:Hp}{w:PO}{a:ag}{i:ag->Prop}(r:aI K F S d y H)(D:ef K H F w a i)(x:∀b,i b->¬F b/\¬U S b/\∃o,H b=aa o/\dY o):aI K F (λj b=>S j b\/(j=d.length/\i b)) (d++[.own w]) (y++[aa (.ref a)]) H:=by
 have lt:∀j b,S j b->j<d.length:=λj b z=>by obtain⟨⟨p,q⟩,_⟩:=r.foot j b z;exact(cE.mp q).1
 refine⟨by simp[r.len],r.ex,λj pv q=>?_,λj p q=>?_,λj b z=>?_,λj k b g f=>?_⟩
 .by_cases h:j<d.length
  .rw[jk h]at q;obtain⟨v,u,l⟩:=r.val j pv q;exact⟨v,by rw[jk (by rw[<-r.len];exact h)];exact u,l⟩
  .rw[qb ∅]at q;cases s:j-d.length with
   |zero=>rw[s]at q;simp at q
   |succ n=>rw[s]at q;simp at q
 .by_cases h:j<d.length
  .rw[jk h]at q;obtain⟨v,u,l⟩:=r.own j p q;refine⟨v,by rw[jk (by rw[<-r.len];exact h)];exact u,?_⟩;have:(λb=>S j b\/(j=d.length/\i b))=S j:=by funext b;exact propext ⟨λz=>z.elim id λz=>absurd z.1 (c0 h),.inl⟩
   rw[this];exact l
  .rw[qb ∅]at q;cases s:j-d.length with
   |zero=>
    rw[s]at q;simp at q;subst q;have L:j=d.length:=∅
    subst L;refine⟨a,by rw[r.len,qb (a6 _),Nat.sub_self];rfl,?_⟩;have:(λb=>S d.length b\/(d.length=d.length/\i b))=i:=by funext b;exact propext ⟨λz=>z.elim (λz=>absurd (lt _ _ z) (fA _)) (·.2),λz=>.inr ⟨rfl,z⟩⟩
    rw[this];exact D
   |succ n=>rw[s]at q;simp at q
 .rcases z with z|⟨rfl,z⟩
  .obtain⟨⟨p,q⟩,l⟩:=r.foot j b z;exact⟨⟨p,by rw[jk (lt j b z)];exact q⟩,l⟩
  .obtain⟨J,M,G⟩:=x b z;exact⟨⟨w,by rw[qb (a6 _),Nat.sub_self];rfl⟩,J,G⟩
 .rcases g with g|⟨rfl,g⟩ <;> rcases f with f|⟨rfl,f⟩
  .exact r.dist j k b g f
  .exact absurd ⟨j,g⟩ (x b f).2.1
  .exact absurd ⟨k,f⟩ (x b g).2.1
  .rfl
theorem aI.pop{K:ax}{F:ag->Prop}{S:Nat->ag->Prop}{d:ai}{n:Slot}{h:St}{u:Option V}{H:Hp}(r:aI K F S (d++[n]) (h++[u]) H):aI K F (λj b=>S j b/\j<d.length) d h H:=by
 have len:d.length=h.length:=by have:=r.len;simpa using this
 refine⟨len,r.ex,λj pv q=>?_,λj p q=>?_,λj b z=>?_,λj k b l i=>r.dist j k b l.1 i.1⟩
 .have a:=(cE.mp q).1;obtain⟨v,g,f⟩:=r.val j pv (by rw[jk a];exact q);exact⟨v,by rw[jk (by rw[<-len];exact a)]at g;exact g,f⟩
 .have a:=(cE.mp q).1;obtain⟨v,g,f⟩:=r.own j p (by rw[jk a];exact q);refine⟨v,by rw[jk (by rw[<-len];exact a)]at g;exact g,?_⟩;have:(λb=>S j b/\j<d.length)=S j:=by funext b;simp[a]
  rw[this];exact f
 .obtain⟨⟨p,q⟩,f⟩:=r.foot j b z.1;exact⟨⟨p,by rw[jk z.2]at q;exact q⟩,f⟩
def EH{d:Type}:R d->R d
 |.ok s a=>.ok s a.dropLast
 |.er c a=>.er c a.dropLast
 |.no=>.no
def tF(g:ai->R Slot)(B:ai->R (PO×List cD)):ai->R Slot:=λd=>(B d).bind λp a=>(aO (if(cx p.2).Nodup then eM (a++[.own p.1]) p.2 else ae) a).bind λf a=>EH (fj (a++[.own p.1]) p.2 (g f))
theorem CY{a:ai}{n:Nat}(h:a.length=n+1):∃l x,a=l++[x]/\l.length=n:=by
 refine⟨a.dropLast,a.getLast (by intro z;rw[z]at h;cases h),(List.dropLast_concat_getLast _).symm,by rw[BZ,h];rfl⟩
theorem Grow.pushed{K:ax}{F s:ag->Prop}{S i:Nat->ag->Prop}{f H p:Hp}{n:Nat}{h:ag->Prop}(g:Grow (U λj b=>S j b\/(j=n/\h b)) (U i) F s H p){r:ag->Prop}{l:Nat->ag->Prop}(a:Grow (U l) (U S) r F f H)(d:∀b,h b->f b=ae):Grow (U l) (U λj b=>i j b/\j<n) r s f p where
 fro:=λb z=>g.fro b (a.fro b z)
 keep:=λb o q no=>g.keep b o (a.keep b o q no) λ⟨j,z⟩=>by
  rcases z with z|⟨_,z⟩
  .rcases a.onew b ⟨j,z⟩with w|w
   .exact no w
   .rw[w]at q;cases q
  .rw[d b z]at q;cases q
 there:=λb o q=>let ⟨o',q'⟩:=a.there b o q;g.there b o' q'
 fnew:=λb z=>by
  rcases g.fnew b z with w|w|⟨j,w|⟨_,w⟩⟩
  .exact a.fnew b w
  .exact .inr (.inl (kX a w))
  .exact .inr ((a.onew b ⟨j,w⟩).symm)
  .exact .inr (.inl (d b w))
 onew:=λb ⟨j,z,_⟩=>by
  rcases g.onew b ⟨j,z⟩with⟨k,w|⟨_,w⟩⟩|w
  .exact a.onew b ⟨k,w⟩
  .exact .inr (d b w)
  .exact .inr (kX a w)
variable{G:gR}{x:Str}{k:Nat}{D:List Str}{g:ai->R Slot}{p:Pos}
theorem PQ(c:cX G X.prog X.w X.K X.mg X.base x k D (b9 X.K g))(hr:gB k X.A)(hx:rL G X E)(ha:xj X E (e::m) B)(hg:Gl X x:=by rfl)(hd:(x==("__debug__":Str))=ak:=by decide) (h1:aZ (e::m) X.env=(ak,bi e X.env)::aZ m X.env:=by rfl) (h2:(eO A (aZ m X.env)).any (·.1)=ak:=by rfl):DR X E (.Call (.Name x p) (e::m) [] A) (tF g B):=λF S ε W H Q rl h=>by
 obtain⟨f,fd,hm,Fn,hb,hk⟩:=c.ex;refine b_ (D7 Fn hr hg hm hk hb .nil hx ii hd h1 h2) (ha F S ε W H _ rl ?_);unfold tF at h;cases ed:B ε with
 |no=>rw[ed]at h;exact h.elim
 |er cv d=>rw[ed]at h;exact h
 |ok pa d=>
  obtain⟨P,q⟩:=pa;rw[ed]at h;simp only[R.bind_ok]at h;intro F1 S1 H1 r1 g1 a Sa vs ow Z T;dsimp only at h T ow;have O:=r1.push ow λb z=>(Z b z).2;by_cases L:(cx q).Nodup
  .rw[if_pos L]at h;cases m:eM (d++[.own P]) q with
   |none=>rw[m]at h;exact h.elim
   |some ss=>
    rw[m]at h;simp only[bV,R.bind_ok]at h;rw[gG];refine⟨F1,k7 q _,ss,O.cal T m L,?_⟩;have len:∀n,(fH (d++[.own P]) q n).length=d.length+1:=λn=>by rw[wQ];simp
    cases eg:g ss with
    |no=>rw[eg]at h;exact h.elim
    |er cv n=>
     rw[eg]at h;intro y F' S' H' Y g';unfold fj at h;dsimp only at h;by_cases u:eZ q n=ah
     .rw[if_pos u]at h;obtain⟨S2,J,g2,_⟩:=O.called T m L Y g' (λ_ z=>z) (mI u);obtain⟨l,sl,N,ll⟩:=CY (len n);rw[N]at J;have h:Ok X.K E W F S H (R.er cv (fH (d++[.own P]) q n).dropLast:R Slot) _:=h;rw[N,List.dropLast_concat]at h;have M:=Grow.pushed (K:=X.K) g2 g1 λb z=>(Z b z).1;rw[<-ll]at M;exact h y F' _ H' J.pop M
     .rw[if_neg u]at h;exact h.elim
    |ok s n=>
     rw[eg]at h;intro v F' S' H' Sr Y g' rv r fr;unfold fj at h;dsimp only at h;by_cases u:eZ q n=ah
     .rw[if_pos u]at h;obtain⟨S2,J,g2,u2⟩:=O.called T m L Y g' (λ_ z=>.inl z) (mI u);obtain⟨l,sl,N,ll⟩:=CY (len n);rw[N]at J;have h:Ok X.K E W F S H (R.ok s (fH (d++[.own P]) q n).dropLast:R Slot) _:=h;rw[N,List.dropLast_concat]at h;have M:=Grow.pushed (K:=X.K) g2 g1 λb z=>(Z b z).1;rw[<-ll]at M;refine h F' _ H' J.pop M v Sr rv λb z=>⟨kX g1 (fr b z),(r b z).1,λ⟨j,w,_⟩=>?_,(r b z).2.2⟩
      rcases u2 b ⟨j,w⟩with w|⟨i,w⟩
      .exact(r b z).2.1 w
      .obtain⟨_,_,o,y1,_⟩:=O.foot i b w;rw[fr b z]at y1;cases y1
     .rw[if_neg u]at h;exact h.elim
  .rw[if_neg L]at h;exact h.elim
end
section
variable{X:Cx}{E:XK}{h:List Nat}{e b c o:ay}{de l j d:ai->R PV}{i:ai->R (List PV)}{g p q f:Pos}
def OL(X:Cx)(r:List V->Hp->VK->Prop):List V->Hp->VK->Prop:=λn H Q=>∃(p:ag) (m:List Tx),n=[.ref p]/\cB X.K H p (b0 m)/\(fJ m).length<4000/\∀a,H a=ae->r [.ref a] (upd H a (o6 X a (fJ m))) Q
end
section
variable{X:Cx}
theorem Es:∀(a:List aj) (ss:List Str),a.length=ss.length->(∀(i:Nat) v x,a[i]?=aa v->ss[i]?=aa x->∃t,v=.str x t)->eE a ss
 |[],[],_,_=>.nil
 |v::a,x::ss,b,h=>by obtain⟨t,rfl⟩:=h 0 v x rfl rfl;exact .cons x t (Es a ss (y6 b) λi v x d c=>h (i+1) v x (by simpa using d) (by simpa using c))
 |[],_::_,b,_=>by cases b
 |_::_,[],b,_=>by cases b
theorem Rn(S:X.calm=ah):fO X (.builtin "sorted") (λo H Q=>∃(d:ag) (kvs:List (aE×V)) (a:List Tx),o=[.ref d]/\H d=aa (.dK kvs)/\kvs.map (·.1)=a.map (λx=>Sum.inr (tS x))/\a.length<64/\∀l,H l=ae->Q (.ref l) (upd H l (.lst (b0 (aX a))))):=by
 intro af s F H o us Q I r h;obtain⟨d,kvs,a,rfl,P,w,B,q⟩:=h;obtain⟨u,rfl,G⟩:=vals1 r;cases G;obtain⟨z,N,p,b,Z⟩:=uJ I.hok P;obtain⟨ep,K⟩:=Z.dictAt;have D:p.length=a.length:=by have g:=congrArg m8 w;simp only[b7]at g;rw[<-b.length];exact g
 refine LY (PySem.W.kdu_collect (PySem.W.kdl_dict (knd:=gi X.prog X.w) (kvs:=p) (ep:=ep) N) (tD (I.ok.hd S)) K (by rw[<-b.length];exact z) λA j aA k m=>?_);have f:eE aA.toList (a.map tS):=by
  refine Es _ _ (by rw[b7,iQ,m.1,D]) λi v x g c=>?_;obtain⟨L,y,Y,W⟩:=m.2 i v (by rw[<-oF];exact g);obtain⟨wv,T,_⟩:=KV.at b Y;have n:(kvs.map (·.1))[i]?=aa L:=by rw[eD,T];rfl
  rw[w,eD]at n;rw[eD]at c;cases C:a[i]? with
  |none=>rw[C]at c;cases c
  |some l=>
   rw[C]at n c;cases n;cases c;exact Value.isStrOf_shape W
 have E:Inv X af F H {s with heap:=A,toks:=j}:=I.kept (t':=j) k;refine⟨a.map tS,f,by rw[iQ,m.1,D];exact B,λc J aJ e M O b1 b2 b3=>?_⟩;exact⟨.ref _,_,Inv.sorted (s1:={s with heap:=A,toks:=j}) (ss:=a.map tS) E rfl B M O b1 b2 b3,rfl,q _ E.fresh⟩
def pP:List (aE×PV)->Option (List Tx)
 |[]=>aa []
 | (.inr k,_)::r=>(pP r).map (k.cps.toList::·)
 |_=>ae
theorem FX:∀{a:List (aE×PV)}{b:List Tx},pP a=aa b->a.map (·.1)=b.map (λx=>Sum.inr (tS x))
 |[],b,h=>by cases h;rfl
 | (.inr k,_)::r,b,h=>by simp only[pP,lx]at h;obtain⟨l,c,rfl⟩:=h;rw[b8,b8,FX c,pG]
 | (.inl _,_)::_,_,h=>by cases h
def xh(b:List (aE×PV)):Option PO:=(pP b).bind λa=>if a.length<64/\(∀x∈a,x.length<=bd)then aa (.lst (am (aX a)))else ae
def om(i:Nat):ai->R PO:=λε=>(aO (cY ε i) ε).bind λa ε=>aO (xh a) ε
theorem gZ.keys{K:ax}{H:Hp}{F:ag->Prop}{a:List (aE×PV)}{b:List (aE×V)}(h:gZ K H F a b):b.map (·.1)=a.map (·.1):=by
 unfold gZ at h
 induction h with
 |nil=>rfl
 |cons r _ c=>rw[b8,b8,c,r.1]
theorem MW{E:XK}(i:Nat){y:Str}{v p g:Pos}(J:X.calm=ah)(C:X.mg "sorted"=ae)(L:X.N[i]?=aa y:=by rfl)(N:eJ X.env.scope y:=by eq_refl)(I:(y==("__debug__":Str))=ak:=by decide) (O:(y==("__classdict__":Str))=ak:=by decide) (G:Gl X "sorted":=by rfl):DN X E (.Call (.Name "sorted" p) [.Name y v] [] g) (om i):=λF S u P H Q d h=>by
 unfold om at h;cases q:cY u i with
 |none=>rw[q]at h;exact h.elim
 |some m=>
  rw[q]at h;simp only[bV,R.bind_ok]at h;obtain⟨a,A,M,K,D,T,_⟩:=d.dkAt (lc q);unfold xh at h;cases n:pP m with
  |none=>rw[n]at h;exact h.elim
  |some r=>
   rw[n,g8]at h;split at h
   .rename_i s;refine b_ (lZ (Rn J) G C n0 (jb (fq L N I O) kn (jR rfl)) (by decide) (by decide) (jR rfl) rfl) ⟨.ref a,M,a,A,r,rfl,K,by rw[D.keys];exact FX n,s.1,λl f=>?_⟩;have al:Al F F H (L2.upd H l (.lst (b0 (aX r)))):=Al.new0 f;refine h F S _ (d.al al) al.grow l (λc=>c=l) ⟨⟨_,upd_same,Sm.mpr ⟨rfl,λx B=>s.2 x ((eI _).mem_iff.mp B)⟩⟩,λc=>kM⟩ λb z=>?_;subst z;exact⟨f,λz=>y8 (d.ex _ z) (λo w=>by rw[f]at w;cases w),λ⟨j,z⟩=>y8 (d.foot j b z).2.2 (λo w=>by rw[f]at w;cases w.1),_,upd_same,trivial⟩
   .exact h.elim
end
end Pu
namespace L2
def xA:Bool->Keyed->Array Keyed->Nat->Nat->Nat->StateT bJ Sem (Option Nat):=sortPriv% PySem.Builtin.gallop
def F7:Array Keyed->Array Keyed->StateT bJ Sem (Array Keyed):=sortPriv% PySem.Builtin.mergeLo
def Ga:Array Keyed->Array Keyed->StateT bJ Sem (Array Keyed):=sortPriv% PySem.Builtin.mergeHi
def kO(κ:KeyKind)(p:Keyed):κ.α:=(κ.keyOf p.1).getD κ.dflt
def gS(b:KeyKind)(p:Keyed):Prop:=∃a,b.keyOf p.1=aa a
theorem gS.k{κ:KeyKind}{p:Keyed}(h:gS κ p):κ.keyOf p.1=aa (kO κ p):=by obtain⟨a,e⟩:=h;unfold kO;rw[e];rfl
def io(κ:KeyKind)(kz:gI)(c:aR)(w:aL)(A:aY)(s:ao):Prop :=
 ∀(E:aj->ao->Prop) (x y:aj) (a b:κ.α) {Q:Bool->ao->Prop},κ.keyOf x=aa a->κ.keyOf y=aa b->Q (κ.blt a b) s->ar (au c w) A (keyLt' kz x y) Q E s
theorem OneLt.ok{κ:KeyKind}(f:κ.OneLt){prog:aR}{w:aL}{A:aY}{s:ao}:io κ oneType' prog w A s:=λE x y a b _ d c h=>by rw[keyLt'_oneType];exact f prog w A E s x y a b d c h
structure SB(kz:gI)(st:bJ):Prop where
 kind:kindOf st=kz
 failed:failedOf st=ae
section
variable{a:aR}{w:aL}{A:aY}{E:aj->ao->Prop}{s:ao}{d:KeyKind}{f:gI}
theorem vg(j:io d f a w A s){b:bJ}{x y:Keyed}{Q:Option Bool->bJ->Prop}(i:SB f b)(g:gS d x)(c:gS d y)(h:Q (aa (d.blt (kO d x) (kO d y))) b):wpS (au a w) A E s (lt' x y) Q b:=by rw[lt'_eq];refine aK (lz ?_);rw[i.kind];exact aK (sN (BQ (j _ x.1 y.1 _ _ g.k c.k ⟨rfl,aQ h⟩)))
theorem fo{c:bJ}{b:Array Keyed}{i:Nat}(g:i<b.size){Q:Keyed->bJ->Prop}(h:Q b[i] c):wpS (au a w) A E s (elem' b i) Q c:=by rw[elem'_eq,getElem?_pos b i g];exact aQ h
def CJ(c:Bool)(g:Keyed)(j:Array Keyed)(h i:Nat):StateT bJ Sem (Option Bool) :=elem' j (h+i) >>= λx=>if c=ah then lt' x g else lt' g x >>= λb=>pure (b.map (!·))
def lT(d:KeyKind)(b:Bool)(c x:Keyed):Bool:=if b=ah then d.blt (kO d x) (kO d c)else !d.blt (kO d c) (kO d x)
theorem L4(p:io d f a w A s){l:bJ}{c:Bool}{j:Keyed}{g:Array Keyed}{b i:Nat}{Q:Option Bool->bJ->Prop}(o:SB f l)(n:gS d j)(q:b+i<g.size)(m:gS d g[b+i])(h:Q (aa (lT d c j g[b+i])) l):wpS (au a w) A E s (CJ c j g b i) Q l:=by
 refine aK (fo q ?_);cases c
 .rw[if_neg (by simp)];exact aK (vg p o n m (aQ h))
 .rw[if_pos rfl];exact vg p o m n h
theorem Gg(hO:io d f a w A s){K:bJ}(hk:SB f K){G:Bool}{L:Keyed}{z:Array Keyed}{u n b:Nat}{Q:Option Nat->bJ->Prop}(kQ:gS d L)(hn:u+n<=z.size)(hA:∀i (g:i<z.size),gS d z[i]) (B:Nat->Bool) (hB:∀i (g:i<n),B i=lT d G L (z[u+i]'∅))(mono:∀i j,i<=j->j<n->B j=ah->B i=ah) (hh:b<n)(h:∀r,r<=n->(∀i,i<r->B i=ah)->(∀i,r<=i->i<n->B i=ak)->Q (aa r) K):wpS (au a w) A E s (xA G L z u n b) Q K:=by
 have O:∀{i:Nat}{Q:Option Bool->bJ->Prop},i<n->Q (aa (B i)) K->wpS (au a w) A E s (CJ G L z u i) Q K:=λ{i Q} g q=>L4 hO hk kQ ∅ (hA _ _) (by rw[<-hB i g];exact q);have dn:∀{i j:Nat},i<=j->j<n->B i=ak->B j=ak:=λ{i j} bK hj hf=>by
  cases e:B j with
  |false=>rfl
  |true=>rw[mono i j bK hj e]at hf;cases hf
 unfold xA;refine aK (O hh ?_);cases hr:B b with
 |true=>
  dsimp only;rw[if_pos rfl];refine aK (gJ (gK (I:=λx c m=>m=K/\∃l o,c=(ae,l,o)/\l<o/\x<o/\l<n-b/\B (b+l)=ah) (Q:=λc m=>m=K/\∃l o,c=(ae,l,o)/\l<o/\l<n-b/\B (b+l)=ah/\(n-b<=o\/(o<n-b/\B (b+o)=ak))) ?_ ?_ ?_) ?_)
  .rintro x c m _ P ⟨rfl,l,o,rfl,J,T,H,p⟩;dsimp only;by_cases v:o ≥ n-b
   .rw[if_pos v];exact aQ ⟨rfl,l,o,rfl,J,H,p,.inl v⟩
   .rw[if_neg v];refine aK (O ∅ ?_);cases e:B (b+o)with
    |true=>exact aQ ⟨rfl,o,2*o+1,rfl,∅,∅,∅,e⟩
    |false=>exact aQ ⟨rfl,l,o,rfl,J,H,p,.inr ⟨∅,e⟩⟩
  .rintro c m ⟨rfl,l,o,rfl,J,T,H,p⟩;exact⟨rfl,l,o,rfl,J,H,p,.inl ∅⟩
  .exact⟨rfl,0,1,rfl,∅,∅,∅,hr⟩
  rintro c m ⟨rfl,l,o,rfl,J,H,p,M⟩;dsimp only;have Z:b+l+1<=b+min o (n-b):=∅
  have Y:b+min o (n-b)<=n:=∅
  have X:∀i,i<b+l+1->B i=ah:=λi g=>mono i (b+l) ∅ ∅ p;have W:∀i,b+min o (n-b)<=i->i<n->B i=ak:=by
   intro i g N;rcases M with M|⟨M,S⟩
   .lia
   .exact dn (i:=b+o) ∅ N S
  clear M;generalize b+l+1=lo at *;generalize b+min o (n-b)=g at *;refine aK (gJ (gK (I:=λx c y=>y=m/\∃l r,c=(ae,l,r)/\l<=r/\r<=n/\r-l<=n-x/\(∀i,i<l->B i=ah)/\(∀i,r<=i->i<n->B i=ak)) (Q:=λc y=>y=m/\∃l r,c=(ae,l,r)/\r<=n/\(∀i,i<r->B i=ah)/\(∀i,r<=i->i<n->B i=ak)) ?_ ?_ ?_) ?_)
  .rintro x c y _ P ⟨rfl,l,r,rfl,a1,F,a3,D,C⟩;dsimp only;by_cases v:l ≥ r
   .rw[if_pos v];have:l=r:=∅
    subst this;exact aQ ⟨rfl,l,l,rfl,F,D,C⟩
   .rw[if_neg v];refine aK (O ∅ ?_);cases e:B (l+(r-l) / 2)with
    |true=>exact aQ ⟨rfl,_,r,rfl,∅,F,∅,λi g=>mono _ _ ∅ ∅ e,C⟩
    |false=>exact aQ ⟨rfl,l,_,rfl,∅,∅,∅,D,λi g N=>dn (i:=l+(r-l) / 2) g N e⟩
  .rintro c y ⟨rfl,l,r,rfl,a1,F,a3,D,C⟩;have:l=r:=∅
   subst this;exact⟨rfl,l,l,rfl,F,D,C⟩
  .exact⟨rfl,lo,g,rfl,Z,Y,∅,X,W⟩
  .rintro c y ⟨rfl,l,r,rfl,F,D,C⟩;exact aQ (h r F D C)
 |false=>
  dsimp only;rw[if_neg (by simp)];refine aK (gJ (gK (I:=λx c m=>m=K/\∃l o,c=(ae,l,o)/\l<o/\x<o/\l<=b/\B (b-l)=ak) (Q:=λc m=>m=K/\∃l o,c=(ae,l,o)/\l<o/\l<=b/\B (b-l)=ak/\(b+1<=o\/(o<=b/\B (b-o)=ah))) ?_ ?_ ?_) ?_)
  .rintro x c m _ P ⟨rfl,l,o,rfl,J,T,H,p⟩;dsimp only;by_cases v:o ≥ b+1
   .rw[if_pos v];exact aQ ⟨rfl,l,o,rfl,J,H,p,.inl v⟩
   .rw[if_neg v];refine aK (O ∅ ?_);cases e:B (b-o)with
    |false=>exact aQ ⟨rfl,o,2*o+1,rfl,∅,∅,∅,e⟩
    |true=>exact aQ ⟨rfl,l,o,rfl,J,H,p,.inr ⟨∅,e⟩⟩
  .rintro c m ⟨rfl,l,o,rfl,J,T,H,p⟩;exact⟨rfl,l,o,rfl,J,H,p,.inl ∅⟩
  .exact⟨rfl,0,1,rfl,∅,∅,∅,hr⟩
  rintro c m ⟨rfl,l,o,rfl,J,H,p,M⟩;dsimp only;have Z:b+1-min o (b+1)<=b-l:=∅
  have Y:b-l<=n:=∅
  have X:∀i,i<b+1-min o (b+1)->B i=ah:=by
   intro i g;rcases M with M|⟨M,S⟩
   .lia
   .exact mono i (b-o) ∅ ∅ S
  have W:∀i,b-l<=i->i<n->B i=ak:=λi g N=>dn (i:=b-l) ∅ N p;clear M p;generalize b+1-min o (b+1)=lo at *;generalize b-l=g at *;refine aK (gJ (gK (I:=λx c y=>y=m/\∃l r,c=(ae,l,r)/\l<=r/\r<=n/\r-l<=n-x/\(∀i,i<l->B i=ah)/\(∀i,r<=i->i<n->B i=ak)) (Q:=λc y=>y=m/\∃l r,c=(ae,l,r)/\r<=n/\(∀i,i<r->B i=ah)/\(∀i,r<=i->i<n->B i=ak)) ?_ ?_ ?_) ?_)
  .rintro x c y _ P ⟨rfl,l,r,rfl,a1,F,a3,D,C⟩;dsimp only;by_cases v:l ≥ r
   .rw[if_pos v];have:l=r:=∅
    subst this;exact aQ ⟨rfl,l,l,rfl,F,D,C⟩
   .rw[if_neg v];refine aK (O ∅ ?_);cases e:B (l+(r-l) / 2)with
    |true=>exact aQ ⟨rfl,_,r,rfl,∅,F,∅,λi g=>mono _ _ ∅ ∅ e,C⟩
    |false=>exact aQ ⟨rfl,l,_,rfl,∅,∅,∅,D,λi g N=>dn (i:=l+(r-l) / 2) g N e⟩
  .rintro c y ⟨rfl,l,r,rfl,a1,F,a3,D,C⟩;have:l=r:=∅
   subst this;exact⟨rfl,l,l,rfl,F,D,C⟩
  .exact⟨rfl,lo,g,rfl,Z,Y,∅,X,W⟩
  .rintro c y ⟨rfl,l,r,rfl,F,D,C⟩;exact aQ (h r F D C)
end
section
variable{κ:KeyKind}{kz:gI}
def bN(κ:KeyKind)(x y:Keyed):Prop:=κ.kle (kO κ x) (kO κ y)
theorem bN.trans{x y z:Keyed}(b:bN κ x y)(a:bN κ y z):bN κ x z:=sO b a
structure MS(κ:KeyKind)(T o ra rb:List Keyed):Prop where
 perm:(o++(ra++rb)).Perm T
 so:o.Pairwise (bN κ)
 sa:ra.Pairwise (bN κ)
 sb:rb.Pairwise (bN κ)
 oa:∀x∈o,∀y∈ra,bN κ x y
 ob:∀x∈o,∀y∈rb,bN κ x y
theorem MS.stepA{T o x f d:List Keyed}(h:MS κ T o (x++f) d)(i:∀u∈x,∀v∈d,bN κ u v):MS κ T (o++x) f d:=by
 obtain⟨n,m,c,l,g,j⟩:=h;rw[Ia]at c;refine⟨by simpa[gu]using n,?_,c.2.1,l,?_,?_⟩
 .rw[Ia];exact⟨m,c.1,λu a v b=>g u a v (mX _ b)⟩
 .intro u a v b;rcases iP.mp a with a|a
  .exact g u a v (ir _ b)
  .exact c.2.2 u a v b
 .intro u a v b;rcases iP.mp a with a|a
  .exact j u a v b
  .exact i u a v b
theorem MS.swap{T o b a:List Keyed}(h:MS κ T o b a):MS κ T o a b :=⟨(yY _ List.perm_append_comm).trans h.perm,h.so,h.sb,h.sa,h.ob,h.oa⟩
theorem MS.stepB{T o x a b:List Keyed}(h:MS κ T o a (x++b))(c:∀u∈x,∀v∈a,bN κ u v):MS κ T (o++x) a b :=(h.swap.stepA c).swap
def gF(κ:KeyKind)(T:List Keyed)(r:Array Keyed):Prop:=r.toList.Perm T/\r.toList.Pairwise (bN κ)
theorem MS.endA{T o a:List Keyed}{r:Array Keyed}(h:MS κ T o a [])(e:r.toList=o++a):gF κ T r:=by obtain⟨f,d,c,i,b,g⟩:=h;refine⟨by rw[e];simpa using f,?_⟩;rw[e,Ia];exact⟨d,c,b⟩
theorem MS.last{T o b a:List Keyed}{r:Array Keyed}(h:MS κ T o b a)(c:∀u∈a,∀v∈b,bN κ u v)(e:r.toList=o++(a++b)):gF κ T r:=by
 have d:MS κ T o b (a++[]):=by simpa using h
 exact(d.stepB c).endA (by rw[e];simp)
theorem lf(a:Array Keyed)(i j:Nat):(a.extract i j).toList=(a.toList.drop i).take (j-i):=by simp[Array.toList_extract,List.extract_eq_take_drop]
theorem rJ(a:Array Keyed)(i:Nat):(a.extract i a.size).toList=a.toList.drop i:=by rw[lf,oC];simp
theorem EY{a:Array Keyed}{i:Nat}(h:i<a.size):a.toList.drop i=a[i]::a.toList.drop (i+1):=by rw[qj (by simpa using h)];simp
theorem G_(a:Array Keyed)(i k:Nat):a.toList.drop i=(a.extract i (i+k)).toList++a.toList.drop (i+k):=by rw[lf,show i+k-i=k by lia,<-List.drop_drop,oA]
theorem qU{a:Array Keyed}{i:Nat}{x:Keyed}(h:x∈a.toList.drop i):∃j,∃d:j<a.size,i<=j/\a[j]=x:=by
 obtain⟨k,c,e⟩:=y9 h;rw[B2]at e;have b:i+k<a.size:=by simp at c;lia
 exact⟨i+k,b,∅,by simpa using e⟩
theorem EU{a:Array Keyed}{i k:Nat}{x:Keyed}(h:x∈(a.extract i (i+k)).toList):∃j,∃c:j<a.size,i<=j/\j<i+k/\a[j]=x:=by
 rw[lf]at h;obtain⟨m,b,e⟩:=y9 h;rw[B3,B2]at e;refine⟨i+m,?_,∅,?_,by simpa using e⟩
 all_goals simp at b;lia
def uy(κ:KeyKind)(a:Array Keyed):Prop:=∀i j (b:j<a.size) (c:i<=j),bN κ (a[i]'∅) a[j]
theorem uy.pw{a:Array Keyed}(h:uy κ a):a.toList.Pairwise (bN κ):=by rw[Ib];intro i j c b d;have:=h i j (by simpa using b) ∅;simpa using this
structure fR(κ:KeyKind)(a b c:Array Keyed)(d f:Nat):Prop where
 ms:MS κ (a.toList++b.toList) c.toList (a.toList.drop d) (b.toList.drop f)
 la:d<=a.size
 lb:f<=b.size
variable{a b c:Array Keyed}{d f:Nat}
theorem fR.pushA(h:fR κ a b c d f)(i:d<a.size)(l:∀j (g:j<b.size),f<=j->bN κ a[d] b[j]):fR κ a b (c.push a[d]) (d+1) f:=by refine⟨?_,i,h.lb⟩;rw[vC];refine MS.stepA (by rw[B4,<-EY i];exact h.ms) λu n v m=>?_;obtain⟨j,g,o,rfl⟩:=qU m;rw[iu.mp n];exact l j g o
theorem fR.pushB(h:fR κ a b c d f)(i:f<b.size)(l:∀j (g:j<a.size),d<=j->bN κ b[f] a[j]):fR κ a b (c.push b[f]) d (f+1):=by refine⟨?_,h.la,i⟩;rw[vC];refine MS.stepB (by rw[B4,<-EY i];exact h.ms) λu n v m=>?_;obtain⟨j,g,o,rfl⟩:=qU m;rw[iu.mp n];exact l j g o
theorem fR.extA{k:Nat}(h:fR κ a b c d f)(p:d+k<=a.size)(m:∀i (l:i<a.size),d<=i->i<d+k->∀j (g:j<b.size),f<=j->bN κ a[i] b[j]):fR κ a b (c++a.extract d (d+k)) (d+k) f:=by refine⟨?_,p,h.lb⟩;rw[jm];refine MS.stepA (by rw[<-G_];exact h.ms) λu o v n=>?_;obtain⟨j,g,s,rfl⟩:=qU n;obtain⟨i,l,r,q,rfl⟩:=EU o;exact m i l r q j g s
theorem fR.extB{k:Nat}(h:fR κ a b c d f)(p:f+k<=b.size)(m:∀i (l:i<b.size),f<=i->i<f+k->∀j (g:j<a.size),d<=j->bN κ b[i] a[j]):fR κ a b (c++b.extract f (f+k)) d (f+k):=by refine⟨?_,h.la,p⟩;rw[jm];refine MS.stepB (by rw[<-G_];exact h.ms) λu o v n=>?_;obtain⟨j,g,s,rfl⟩:=qU n;obtain⟨i,l,r,q,rfl⟩:=EU o;exact m i l r q j g s
theorem fR.doneA(h:fR κ a b c d f)(e:f=b.size):gF κ (a.toList++b.toList) (c++a.extract d a.size++b.extract f b.size):=by have:=h.ms;rw[show b.toList.drop f=[] by rw[B5];simp[e]]at this;refine this.endA ?_;rw[jm,jm,rJ,rJ,show b.toList.drop f=[] by rw[B5];simp[e],gG]
theorem fR.doneB(h:fR κ a b c d f)(e:d=a.size):gF κ (a.toList++b.toList) (c++a.extract d a.size++b.extract f b.size):=by have:=h.ms;rw[show a.toList.drop d=[] by rw[B5];simp[e]]at this;refine this.swap.endA ?_;rw[jm,jm,rJ,rJ,show a.toList.drop d=[] by rw[B5];simp[e],gG]
theorem fR.last(h:fR κ a b c d f)(e:d+1=a.size)(n:∀j (g:j<b.size),bN κ b[j] (a[d]'∅)):gF κ (a.toList++b.toList) (c++b.extract f b.size++a.extract d a.size):=by
 refine h.ms.last (λu m v l=>?_) (by rw[jm,jm,rJ,rJ,gu]);obtain⟨j,g,q,rfl⟩:=qU m;obtain⟨i,o,p,rfl⟩:=qU l;have:i=d:=∅
 subst this;exact n j g
end
section
variable{b:aR}{w:aL}{A:aY}{E:aj->ao->Prop}{s:ao}{a:KeyKind}{c:gI}
theorem AX(z:io a c b w A s){l:bJ}(v:SB c l){f:Keyed}{d:Array Keyed}{base n hint:Nat}{Q:Option Nat->bJ->Prop}(o:gS a f)(u:base+n<=d.size)(B:∀i (g:i<d.size),gS a d[i]) (p:∀i j (G:i<=j) (m:j<base+n),base<=i->bN a (d[i]'∅) (d[j]'∅)) (x:hint<n)(h:∀r,r<=n->(∀i (g:i<d.size),base<=i->i<base+r->bN a d[i] f)->(∀i (g:i<d.size),base+r<=i->i<base+n->a.klt (kO a f) (kO a d[i]))->Q (aa r) l):wpS (au b w) A E s (xA ak f d base n hint) Q l:=by
 refine Gg z v o u B (λi=>if g:i<n then lT a ak f (d[base+i]'∅)else ak) (λi g=>by rw[dif_pos g]) ?_ x ?_
 .intro i j G m e;rw[dif_pos m]at e;rw[dif_pos ∅];simp only[lT,jK,if_false,H_]at e ⊢;exact sO (p (base+i) (base+j) ∅ ∅ ∅) e
 .intro r q D C;refine h r q (λi g y F=>?_) (λi g y F=>?_)
  .have:=D (i-base) ∅;rw[dif_pos ∅]at this;simp only[lT,jK,if_false,H_,show base+(i-base)=i by lia]at this;exact this
  .have:=C (i-base) ∅ ∅;rw[dif_pos ∅]at this;simp only[lT,jK,if_false,Bool.not_eq_false',show base+(i-base)=i by lia]at this;exact this
theorem Av(z:io a c b w A s){l:bJ}(v:SB c l){f:Keyed}{d:Array Keyed}{base n hint:Nat}{Q:Option Nat->bJ->Prop}(o:gS a f)(u:base+n<=d.size)(B:∀i (g:i<d.size),gS a d[i]) (p:∀i j (G:i<=j) (m:j<base+n),base<=i->bN a (d[i]'∅) (d[j]'∅)) (x:hint<n)(h:∀r,r<=n->(∀i (g:i<d.size),base<=i->i<base+r->a.klt (kO a d[i]) (kO a f))->(∀i (g:i<d.size),base+r<=i->i<base+n->bN a f d[i])->Q (aa r) l):wpS (au b w) A E s (xA ah f d base n hint) Q l:=by
 refine Gg z v o u B (λi=>if g:i<n then lT a ah f (d[base+i]'∅)else ak) (λi g=>by rw[dif_pos g]) ?_ x ?_
 .intro i j G m e;rw[dif_pos m]at e;rw[dif_pos ∅];simp only[lT,if_true]at e ⊢;exact KeyOrd.klt_of_kle_of_klt (p (base+i) (base+j) ∅ ∅ ∅) e
 .intro r q D C;refine h r q (λi g y F=>?_) (λi g y F=>?_)
  .have:=D (i-base) ∅;rw[dif_pos ∅]at this;simp only[lT,if_true,show base+(i-base)=i by lia]at this;exact this
  .have:=C (i-base) ∅ ∅;rw[dif_pos ∅]at this;simp only[lT,if_true,show base+(i-base)=i by lia]at this;exact this
end
structure gD(st aw:bJ):Prop where
 kind:kindOf aw=kindOf st
 arr:arrOf aw=arrOf st
 pend:bz aw=bz st
 failed:failedOf aw=failedOf st
theorem gD.rfl{st:bJ}:gD st st:=⟨_root_.rfl,_root_.rfl,_root_.rfl,_root_.rfl⟩
theorem gD.sb{b:gI}{a c:bJ}(h:gD a c)(k:SB b a):SB b c:=⟨h.kind.trans k.kind,h.failed.trans k.failed⟩
section
variable{d:aR}{w:aL}{A:aY}{E:aj->ao->Prop}{s:ao}{κ:KeyKind}{kz:gI}
theorem cM{a f:Type}{M:Model}{c:Prop}[Decidable c]{t e:StateT a Sem f}{Q:f->a->Prop}{b:a}(h:c->wpS M A E s t Q b)(g:¬c->wpS M A E s e Q b):wpS M A E s (if c then t else e) Q b:=by
 split
 .exact h ‹_›
 .exact g ‹_›
def NS:Nat->StateT bJ Sem Unit:=sortPriv% PySem.Builtin.setMinGallop
theorem gD.trans{a b c:bJ}(g:gD a b)(f:gD b c):gD a c:=⟨f.kind.trans g.kind,f.arr.trans g.arr,f.pend.trans g.pend,f.failed.trans g.failed⟩
theorem z_{a b:bJ}{g:Nat}{Q:Unit->bJ->Prop}(f:gD b a)(h:∀c,gD b c->Q () c):wpS (au d w) A E s (NS g) Q a :=nt (h _ (f.trans ⟨rfl,rfl,rfl,rfl⟩))
theorem O_(hO:io κ kz d w A s){M:bJ}(hk:SB kz M){a b:Array Keyed}{Q:Array Keyed->bJ->Prop}(ha:0<a.size)(hb:0<b.size)(hA:∀i (P:i<a.size),gS κ a[i]) (hB:∀i (P:i<b.size),gS κ b[i]) (sa:uy κ a) (sb:uy κ b)(h0:bN κ b[0] a[0]) (hl:∀j (q:j<b.size),bN κ b[j] a[a.size-1])(h:∀r G,gD M G->gF κ (a.toList++b.toList) r->Q r G):wpS (au d w) A E s (F7 a b) Q M:=by
 have jP:∀{i:Nat} (P:i<a.size),i+1=a.size->∀j (q:j<b.size),bN κ b[j] a[i]:=λ{i} P e j q=>by
  have:i=a.size-1:=∅
  subst this;exact hl j q
 have I0:fR κ a b #[b[0]] 0 1:=by
  have B:fR κ a b #[] 0 0:=⟨⟨by simp,by simp,by simpa using sa.pw,by simpa using sb.pw,by simp,by simp⟩,∅,∅⟩
  exact B.pushB hb λj q _=>h0.trans (sa 0 j q ∅)
 unfold F7;refine aK (sN (nh ⟨rfl,?_⟩));refine aK (fo hb ?_);by_cases e1:1=b.size
 .rw[if_pos (by simp[<-e1])];exact aQ (h _ _ .rfl (I0.doneA e1))
 rw[if_neg (by simpa using e1)];by_cases e2:0+1=a.size
 .rw[if_pos (by simp[<-e2])];exact aQ (h _ _ .rfl (I0.last e2 (jP ∅ ∅)))
 rw[if_neg (by simpa using e2)];refine aK (lz ?_);refine aK (gJ (gK (I:=λx c G=>gD M G/\∃f l p K,c=(ae,f,l,p,K)/\fR κ a b f l p/\l+1<a.size/\p<b.size/\x+1<=l+p) (Q:=λc G=>gD M G/\∃r,c.1=aa r/\gF κ (a.toList++b.toList) r) ?_ ?_ ?_) ?_);rotate_left
 .rintro c G ⟨_,f,l,p,K,rfl,z,B,u,N⟩;lia
 .exact⟨.rfl,_,0,1,_,rfl,I0,∅,∅,∅⟩
 .rintro⟨c1,c⟩ G ⟨v,r,rfl,Y⟩;exact aQ (h r G v Y)
 rintro x c G _ hx ⟨v,f,l,p,K,rfl,z,B,u,N⟩;refine aK (gJ (gK (I:=λy c C=>C=G/\∃f l p F D,c=(ae,f,l,p,F,D)/\fR κ a b f l p/\l+1<a.size/\p<b.size/\x+1+y<=l+p) (Q:=λc C=>C=G/\((∃r Z,c=(aa r,Z)/\gF κ (a.toList++b.toList) r)\/∃f l p F D,c=(ae,f,l,p,F,D)/\fR κ a b f l p/\l+1<a.size/\p<b.size/\x+1+1<=l+p)) ?_ ?_ ?_) ?_)
 .rintro y c C _ hy ⟨rfl,f,l,p,F,D,rfl,z,B,u,N⟩;dsimp only;refine aK (fo u (aK (fo ∅ (aK (vg hO (v.sb hk) (hB p u) (hA l ∅) ?_)))));cases e:κ.blt (kO κ b[p]) (kO κ (a[l]'∅))with
  |true=>
   dsimp only;rw[if_pos rfl];refine aK (fo u ?_);have O:=z.pushB u λj q fc=>bN.trans (lA e) (sa l j q fc);by_cases J:p+1=b.size
   .rw[if_pos (by simp[J])];exact aQ ⟨rfl,.inl ⟨_,_,rfl,O.doneA J⟩⟩
   rw[if_neg (by simpa using J)];split
   .exact aQ ⟨rfl,.inr ⟨_,_,_,_,_,rfl,O,∅,∅,∅⟩⟩
   .exact aQ ⟨rfl,_,_,_,_,_,rfl,O,∅,∅,∅⟩
  |false=>
   dsimp only;rw[if_neg (by simp)];refine aK (fo ∅ ?_);have O:=z.pushA ∅ λj q fc=>bN.trans (show bN κ (a[l]'∅) b[p] from e) (sb p j q fc);by_cases J:l+1+1=a.size
   .rw[if_pos (by simp[J])];exact aQ ⟨rfl,.inl ⟨_,_,rfl,O.last J (jP ∅ ∅)⟩⟩
   rw[if_neg (by simpa using J)];split
   .exact aQ ⟨rfl,.inr ⟨_,_,_,_,_,rfl,O,∅,∅,∅⟩⟩
   .exact aQ ⟨rfl,_,_,_,_,_,rfl,O,∅,∅,∅⟩
 .rintro c C ⟨rfl,f,l,p,F,D,rfl,z,B,u,N⟩;lia
 .exact⟨rfl,_,_,_,_,_,rfl,z,B,u,∅⟩
 rintro c C ⟨rfl,⟨r,Z,rfl,Y⟩|⟨f,l,p,F,D,rfl,z,B,u,N⟩⟩
 .exact aQ ⟨v,r,rfl,Y⟩
 refine aK (sN (nh ⟨rfl,?_⟩));refine aK (gJ (gK (I:=λy c C=>gD M C/\∃f l p K F D,c=(ae,f,l,p,K,F,D)/\fR κ a b f l p/\l+1<a.size/\p<b.size/\x+2+y<=l+p) (Q:=λc C=>gD M C/\((∃r Z,c=(aa r,Z)/\gF κ (a.toList++b.toList) r)\/∃f l p K F D,c=(ae,f,l,p,K,F,D)/\fR κ a b f l p/\l+1<a.size/\p<b.size/\x+1+1<=l+p)) ?_ ?_ ?_) ?_);rotate_left
 .rintro c C ⟨_,f,l,p,K,F,D,rfl,z,B,u,N⟩;lia
 .exact⟨v,_,_,_,_,_,_,rfl,z,B,u,∅⟩
 .rintro c C ⟨v,⟨r,Z,rfl,Y⟩|⟨f,l,p,K,F,D,rfl,z,B,u,N⟩⟩
  .exact aQ ⟨v,r,rfl,Y⟩
  .dsimp only;refine aK (nt (aQ ⟨⟨v.kind,v.arr,v.pend,v.failed⟩,_,_,_,_,rfl,z,B,u,∅⟩))
 clear B u N z v I0 e1 e2;rintro y c C _ hy ⟨v,f,l,p,K,F,D,rfl,z,B,u,N⟩;clear hx hy;have lG:∀{i j:Nat} (L:i<=j) (q:j<b.size),bN κ (b[i]'∅) b[j]:=λ{i j} L q=>sb i j q L;have qB:∀{i j:Nat} (L:i<=j) (q:j<a.size),bN κ (a[i]'∅) a[j]:=λ{i j} L q=>sa i j q L;refine(?_:wpS (au d w) A E s _ ?Q _);extract_lets -merge x1 x2 x3 x4 x5 x6 x7 x8 x9 xa xb xc jp;have q:∀g W,gD M W->wpS (au d w) A E s (jp () g) ?Q W:=by
  intro g W H;dsimp -zeta only[jp,x1,x2,x3,x4,x5,x6,x7,x8,x9,xa,xb,xc];refine aK (z_ H λW H=>?_);refine aK (fo u ?_);refine aK (AX hO (H.sb hk) (base:=l) (n:=a.size-l) (hint:=0) (hB p u) ∅ hA (λi j L q _=>qB L ∅) ∅ λk kT eQ fE=>?_);dsimp -zeta only;extract_lets -merge y1 jp2;have v6:∀o n,fR κ a b o n p->l+k<=n->n+1<a.size->wpS (au d w) A E s (jp2 () o n) ?Q W:=by
   intro o n X oV e4;dsimp -zeta only[jp2,y1];refine aK (fo u ?_);have S:=X.pushB u λj q g=>lA (fE j q ∅ ∅);refine cM (λe5=>?_) λe5=>?_
   .exact aQ ⟨H,.inl ⟨_,_,rfl,S.doneA (by simpa using e5)⟩⟩
   have e5':p+1≠b.size:=by simpa using e5
   refine aK (fo ∅ ?_);refine aK (Av hO (H.sb hk) (base:=p+1) (n:=b.size-(p+1)) (hint:=0) (hA _ _) ∅ hB (λi j L q _=>lG L ∅) ∅ λk' m1 m2 m3=>?_);dsimp -zeta only;extract_lets -merge z1 z2 jp3;have v8:∀o m,fR κ a b o n m->p+1+k'<=m->m<b.size->wpS (au d w) A E s (jp3 () o m) ?Q W:=by
    intro o m v9 e6 e7;dsimp -zeta only[jp3,z1,z2];refine aK (fo ∅ ?_);have v_:=v9.pushA ∅ (λj q g=>m3 j q ∅ ∅);refine cM (λe7=>?_) λe7=>?_
    .have T:n+1+1=a.size:=by simpa using e7
     exact aQ ⟨H,.inl ⟨_,_,rfl,v_.last T (jP ∅ T)⟩⟩
    have T:n+1+1≠a.size:=by simpa using e7
    refine cM (λe8=>?_) λe8=>?_
    .exact aQ ⟨H,.inr ⟨_,_,_,_,_,_,rfl,v_,∅,∅,∅⟩⟩
    .exact aQ ⟨H,_,_,_,_,_,_,rfl,v_,∅,∅,∅⟩
   clear_value jp3;refine cM (λCr=>?_) (λCr=>?_)
   .have v9:=S.extB (k:=k') ∅ (λi P g1 g2 j q g3=>bN.trans (lA (m2 i P g1 g2)) (qB g3 q));refine cM (λe6=>?_) λe6=>?_
    .exact aQ ⟨H,.inl ⟨_,_,rfl,v9.doneA (by simpa using e6)⟩⟩
    have e6':p+1+k'≠b.size:=by simpa using e6
    exact v8 _ _ v9 ∅ ∅
   .exact v8 _ _ S ∅ ∅
  clear_value jp2;refine cM (λhk0=>?_) (λhk0=>?_)
  .have X:fR κ a b (f++a.extract l (l+k)) (l+k) p:=z.extA ∅ λi P g1 g2 j q g3=>(eQ i P g1 g2).trans (lG g3 q);refine cM (λJ=>?_) λJ=>?_
   .have oV:l+k+1=a.size:=by simpa using J
    exact aQ ⟨H,.inl ⟨_,_,rfl,X.last oV (jP ∅ oV)⟩⟩
   have oV:l+k+1≠a.size:=by simpa using J
   refine cM (λe4=>?_) λe4=>?_
   .exact aQ ⟨H,.inl ⟨_,_,rfl,X.doneB (by simpa using e4)⟩⟩
   have e4':l+k≠a.size:=by simpa using e4
   exact v6 _ _ X ∅ ∅
  .exact v6 _ _ z ∅ ∅
 exact cM (λ_=>q _ _ v) λ_=>q _ _ v
end
def AV(d:KeyKind):KeyKind where
 α:=d.α
 blt:=λa b=>d.blt b a
 irrefl:=d.irrefl
 trans:=λa b c g f=>d.trans c b a f g
 negTrans:=λa b c h=>(d.negTrans c b a h).symm
 total:=λa b g f=>d.total a b f g
 keyOf:=d.keyOf
 dflt:=d.dflt
section
variable{κ:KeyKind}{g:gI}
theorem tG{x y:Keyed}(h:bN κ y x):bN (AV κ) x y:=h
theorem CK{a:Array Keyed}{n:Nat}(h:0<n)(b:n<=a.size):(a.toList.take n).reverse=(a[n-1]'∅)::(a.toList.take (n-1)).reverse:=by
 obtain⟨m,rfl⟩:∃m,n=m+1:=⟨n-1,∅⟩
 rw[List.take_succ_eq_append_getElem (by simp;lia),Ic];simp
theorem Gu(a:Array Keyed)(p n:Nat)(b:p<=n):a.toList.take n=a.toList.take p++(a.extract p n).toList:=by
 rw[lf]
 conv=>lhs;rw[show n=p+(n-p) by lia]
 rw[List.take_add]
theorem rh{a:Array Keyed}{n:Nat}(d:n<=a.size){x:Keyed}(h:x∈a.toList.take n):∃j,∃f:j<a.size,j<n/\a[j]=x:=by
 obtain⟨m,b,e⟩:=y9 h;rw[B3]at e;have c:m<n:=by simp at b;lia
 exact⟨m,∅,c,by simpa using e⟩
theorem Az{a:Array Keyed}{p n:Nat}(d:n<=a.size){x:Keyed}(h:x∈(a.extract p n).toList):∃j,∃f:j<a.size,p<=j/\j<n/\a[j]=x:=by
 rw[lf]at h;obtain⟨m,b,e⟩:=y9 h;rw[B3,B2]at e;have c:p+m<n:=by simp at b;lia
 exact⟨p+m,∅,∅,c,by simpa using e⟩
theorem pA(a:Array Keyed)(n:Nat):(a.extract 0 n).toList=a.toList.take n:=by rw[lf];simp
structure fW(κ:KeyKind)(a b c:Array Keyed)(f d:Nat):Prop where
 ms:MS (AV κ) (a.toList++b.toList) c.toList (a.toList.take f).reverse (b.toList.take d).reverse
 la:f<=a.size
 lb:d<=b.size
variable{a b c:Array Keyed}{f d:Nat}
theorem fW.pushA(h:fW κ a b c f d)(o:0<f)(p:f-1<a.size)(l:∀j (i:j<b.size),j<d->bN κ b[j] a[f-1]):fW κ a b (c.push a[f-1]) (f-1) d:=by refine⟨?_,∅,h.lb⟩;rw[vC];refine MS.stepA (by rw[B4,<-CK o h.la];exact h.ms) λu n v m=>?_;obtain⟨j,i,q,rfl⟩:=rh h.lb (qm.mp m);rw[iu.mp n];exact tG (l j i q)
theorem fW.pushB(h:fW κ a b c f d)(o:0<d)(p:d-1<b.size)(l:∀j (i:j<a.size),j<f->bN κ a[j] b[d-1]):fW κ a b (c.push b[d-1]) f (d-1):=by refine⟨?_,h.la,∅⟩;rw[vC];refine MS.stepB (by rw[B4,<-CK o h.lb];exact h.ms) λu n v m=>?_;obtain⟨j,i,q,rfl⟩:=rh h.la (qm.mp m);rw[iu.mp n];exact tG (l j i q)
theorem fW.extA{p:Nat}(h:fW κ a b c f d)(l:p<=f)(o:∀i (n:i<a.size),p<=i->i<f->∀j (m:j<b.size),j<d->bN κ b[j] a[i]):fW κ a b (c++(a.extract p f).reverse) p d:=by refine⟨?_,cq l h.la,h.lb⟩;rw[jm,Array.toList_reverse];refine MS.stepA (by rw[<-Ic,<-Gu _ _ _ l];exact h.ms) λu r v q=>?_;obtain⟨j,m,x,rfl⟩:=rh h.lb (qm.mp q);obtain⟨i,n,w,s,rfl⟩:=Az h.la (qm.mp r);exact tG (o i n w s j m x)
theorem fW.extB{p:Nat}(h:fW κ a b c f d)(l:p<=d)(o:∀i (n:i<b.size),p<=i->i<d->∀j (m:j<a.size),j<f->bN κ a[j] b[i]):fW κ a b (c++(b.extract p d).reverse) f p:=by refine⟨?_,h.la,cq l h.lb⟩;rw[jm,Array.toList_reverse];refine MS.stepB (by rw[<-Ic,<-Gu _ _ _ l];exact h.ms) λu r v q=>?_;obtain⟨j,m,x,rfl⟩:=rh h.la (qm.mp q);obtain⟨i,n,w,s,rfl⟩:=Az h.lb (qm.mp r);exact tG (o i n w s j m x)
theorem zD{T:List Keyed}{r q:Array Keyed}(h:gF (AV κ) T q)(e:r.toList=q.toList.reverse):gF κ T r:=by refine⟨by rw[e];exact(Ie _).trans h.1,?_⟩;rw[e,Ig];exact h.2
theorem fW.doneA(h:fW κ a b c f d)(e:f=0):gF κ (a.toList++b.toList) (a.extract 0 f++b.extract 0 d++c.reverse):=by have:=h.ms;rw[e,BV,List.reverse_nil]at this;refine zD (q:=(c.toList++(b.toList.take d).reverse).toArray) (this.swap.endA (by simp)) ?_;rw[jm,jm,pA,pA,e];simp
theorem fW.doneB(h:fW κ a b c f d)(e:d=0):gF κ (a.toList++b.toList) (a.extract 0 f++b.extract 0 d++c.reverse):=by have:=h.ms;rw[e,BV,List.reverse_nil]at this;refine zD (q:=(c.toList++(a.toList.take f).reverse).toArray) (this.endA (by simp)) ?_;rw[jm,jm,pA,pA,e];simp
theorem fW.first(h:fW κ a b c f d)(e:d=1)(p:∀j (n:j<a.size),bN κ (b[0]'(by have:=h.lb;lia)) a[j]):gF κ (a.toList++b.toList) (b.extract 0 d++a.extract 0 f++c.reverse):=by
 refine zD (q:=(c.toList++((a.toList.take f).reverse++(b.toList.take d).reverse)).toArray) (h.ms.swap.last (λu m v l=>?_) (by simp)) ?_
 .obtain⟨i,o,s,rfl⟩:=rh h.la (qm.mp m);obtain⟨j,n,r,rfl⟩:=rh h.lb (qm.mp l);have:j=0:=∅
  subst this;exact tG (p i o)
 .rw[jm,jm,pA,pA];simp
end
section
variable{f:aR}{w:aL}{A:aY}{E:aj->ao->Prop}{s:ao}{d:KeyKind}{l:gI}
theorem Lw(hO:io d l f w A s){T:bJ}(hk:SB l T){a b:Array Keyed}{Q:Array Keyed->bJ->Prop}(ha:0<a.size)(hb:0<b.size)(hA:∀i (hi:i<a.size),gS d a[i]) (hB:∀i (hi:i<b.size),gS d b[i]) (sa:uy d a) (sb:uy d b)(h0:bN d b[0] a[0]) (hl:∀j (z:j<b.size),bN d b[j] a[a.size-1])(h:∀r K,gD T K->gF d (a.toList++b.toList) r->Q r K):wpS (au f w) A E s (Ga a b) Q T:=by
 have lG:∀{i j:Nat} (S:i<=j) (z:j<b.size),bN d (b[i]'∅) b[j]:=λ{i j} S z=>sb i j z S;have qB:∀{i j:Nat} (S:i<=j) (z:j<a.size),bN d (a[i]'∅) a[j]:=λ{i j} S z=>sa i j z S;have hf:∀j (z:j<a.size),bN d b[0] a[j]:=λj z=>h0.trans (qB ∅ z);have I0:fW d a b #[a[a.size-1]] (a.size-1) b.size:=by
  have C:fW d a b #[] a.size b.size:=by
   refine⟨⟨?_,by simp,?_,?_,by simp,by simp⟩,∅,∅⟩
   .simp only[<-iQ,Ih,f_];exact List.Perm.append (Ie _) (Ie _)
   .simp only[<-iQ,Ih,Ig];exact sa.pw
   .simp only[<-iQ,Ih,Ig];exact sb.pw
  exact C.pushA ha ∅ λj z _=>hl j z
 unfold Ga;refine aK (sN (nh ⟨rfl,?_⟩));refine aK (fo ∅ ?_);refine cM (λe1=>aQ (h _ _ .rfl (I0.doneA (by simpa using e1)))) λe1=>?_;have sX:a.size-1≠0:=by simpa using e1
 refine cM (λe2=>?_) λe2=>?_
 .have lE:b.size=1:=by simpa using e2
  exact aQ (h _ _ .rfl (I0.first lE hf))
 have lE:b.size≠1:=by simpa using e2
 refine aK (lz ?_);refine aK (gJ (gK (I:=λx c K=>gD T K/\∃u v q P,c=(ae,v,q,u,P)/\fW d a b u v q/\0<v/\v<=a.size/\1<q/\q<=b.size/\x+1+v+q<=a.size+b.size) (Q:=λc K=>gD T K/\∃r,c.1=aa r/\gF d (a.toList++b.toList) r) ?_ ?_ ?_) ?_);rotate_left
 .rintro c K ⟨_,u,v,q,P,rfl,B,C,N,M,L,W⟩;lia
 .exact⟨.rfl,_,_,_,_,rfl,I0,∅,∅,∅,∅,∅⟩
 .rintro⟨c1,c⟩ K ⟨J,r,rfl,hD⟩;exact aQ (h r K J hD)
 rintro x c K _ hx ⟨J,u,v,q,P,rfl,B,C,N,M,L,W⟩;refine aK (gJ (gK (I:=λy c F=>F=K/\∃u v q H G,c=(ae,v,q,u,H,G)/\fW d a b u v q/\0<v/\v<=a.size/\1<q/\q<=b.size/\x+1+y+v+q<=a.size+b.size) (Q:=λc F=>F=K/\((∃r c',c=(aa r,c')/\gF d (a.toList++b.toList) r)\/∃u v q H G,c=(ae,v,q,u,H,G)/\fW d a b u v q/\0<v/\v<=a.size/\1<q/\q<=b.size/\x+1+1+v+q<=a.size+b.size)) ?_ ?_ ?_) ?_)
 .rintro y c F _ hy ⟨rfl,u,v,q,H,G,rfl,B,C,N,M,L,W⟩;dsimp only;refine aK (fo ∅ (aK (fo ∅ (aK (vg hO (J.sb hk) (hB (q-1) ∅) (hA (v-1) ∅) ?_)))));cases e:d.blt (kO d (b[q-1]'∅)) (kO d (a[v-1]'∅))with
  |true=>
   dsimp only;rw[if_pos rfl];refine aK (fo ∅ ?_);have X:=B.pushA C ∅ λj z fc=>bN.trans (lG (show j<=q-1 by lia) ∅) (lA e);refine cM (λO=>?_) λO=>?_
   .exact aQ ⟨rfl,.inl ⟨_,_,rfl,X.doneA (by simpa using O)⟩⟩
   have oV:v-1≠0:=by simpa using O
   refine cM (λe4=>?_) λe4=>?_
   .exact aQ ⟨rfl,.inr ⟨_,_,_,_,_,rfl,X,∅,∅,∅,∅,∅⟩⟩
   .exact aQ ⟨rfl,_,_,_,_,_,rfl,X,∅,∅,∅,∅,∅⟩
  |false=>
   dsimp only;rw[if_neg (by simp)];refine aK (fo ∅ ?_);have X:=B.pushB ∅ ∅ λj z fc=>bN.trans (qB (show j<=v-1 by lia) ∅) (show bN d (a[v-1]'∅) (b[q-1]'∅)from e);refine cM (λO=>?_) λO=>?_
   .exact aQ ⟨rfl,.inl ⟨_,_,rfl,X.first (by simpa using O) hf⟩⟩
   have oV:q-1≠1:=by simpa using O
   refine cM (λe4=>?_) λe4=>?_
   .exact aQ ⟨rfl,.inr ⟨_,_,_,_,_,rfl,X,∅,∅,∅,∅,∅⟩⟩
   .exact aQ ⟨rfl,_,_,_,_,_,rfl,X,∅,∅,∅,∅,∅⟩
 .rintro c F ⟨rfl,u,v,q,H,G,rfl,B,C,N,M,L,W⟩;lia
 .exact⟨rfl,_,_,_,_,_,rfl,B,C,N,M,L,∅⟩
 rintro c F ⟨rfl,⟨r,c',rfl,hD⟩|⟨u,v,q,H,G,rfl,B,C,N,M,L,W⟩⟩
 .exact aQ ⟨J,r,rfl,hD⟩
 refine aK (sN (nh ⟨rfl,?_⟩));refine aK (gJ (gK (I:=λy c F=>gD T F/\∃u v q P H G,c=(ae,v,q,u,P,H,G)/\fW d a b u v q/\0<v/\v<=a.size/\1<q/\q<=b.size/\x+2+y+v+q<=a.size+b.size) (Q:=λc F=>gD T F/\((∃r c',c=(aa r,c')/\gF d (a.toList++b.toList) r)\/∃u v q P H G,c=(ae,v,q,u,P,H,G)/\fW d a b u v q/\0<v/\v<=a.size/\1<q/\q<=b.size/\x+1+1+v+q<=a.size+b.size)) ?_ ?_ ?_) ?_);rotate_left
 .rintro c F ⟨_,u,v,q,P,H,G,rfl,B,C,N,M,L,W⟩;lia
 .exact⟨J,_,_,_,_,_,_,rfl,B,C,N,M,L,∅⟩
 .rintro c F ⟨J,⟨r,c',rfl,hD⟩|⟨u,v,q,P,H,G,rfl,B,C,N,M,L,W⟩⟩
  .exact aQ ⟨J,r,rfl,hD⟩
  .dsimp only;exact aK (z_ J λZ D=>aQ ⟨D,_,_,_,_,rfl,B,C,N,M,L,∅⟩)
 clear C N M L W B J I0 e1 e2;rintro y c F _ hy ⟨J,u,v,q,P,H,G,rfl,B,C,N,M,L,W⟩;clear hx hy;refine(?_:wpS (au f w) A E s _ ?Q _);extract_lets -merge x1 x2 x3 x4 x5 x6 x7 x8 x9 xa xb xc jp;have z:∀g Z,gD T Z->wpS (au f w) A E s (jp () g) ?Q Z:=by
  intro g Z D;dsimp -zeta only[jp,x1,x2,x3,x4,x5,x6,x7,x8,x9,xa,xb,xc];refine aK (z_ D λZ D=>?_);refine aK (fo ∅ ?_);refine aK (AX hO (D.sb hk) (base:=0) (n:=v) (hint:=v-1) (hB (q-1) ∅) ∅ hA (λi j S z _=>qB S ∅) ∅ λp kT eQ fE=>?_);dsimp -zeta only;extract_lets -merge y1 y2 jp2;have v6:∀n o,fW d a b o n q->0<n->n<=p->wpS (au f w) A E s (jp2 () n o) ?Q Z:=by
   intro n o v7 oV e4;dsimp -zeta only[jp2,y1,y2];refine aK (fo ∅ ?_);have Y:=v7.pushB ∅ ∅ λj z g=>eQ j z ∅ ∅;refine cM (λe5=>?_) λe5=>?_
   .exact aQ ⟨D,.inl ⟨_,_,rfl,Y.first (by simpa using e5) hf⟩⟩
   have e5':q-1≠1:=by simpa using e5
   refine aK (fo ∅ ?_);refine aK (Av hO (D.sb hk) (base:=0) (n:=q-1) (hint:=q-1-1) (hA _ _) ∅ hB (λi j S z _=>lG S ∅) ∅ λp' m1 m2 m3=>?_);dsimp -zeta only;extract_lets -merge z1 z2 z3 jp3;have v8:∀m o,fW d a b o n m->1<m->m<=p'->wpS (au f w) A E s (jp3 () m o) ?Q Z:=by
    intro m o v9 e6 e7;dsimp -zeta only[jp3,z1,z2,z3];refine aK (fo ∅ ?_);have v_:=v9.pushA ∅ ∅ (λj z g=>lA (m2 j z ∅ ∅));refine cM (λe7=>?_) λe7=>?_
    .exact aQ ⟨D,.inl ⟨_,_,rfl,v_.doneA (by simpa using e7)⟩⟩
    have e7':n-1≠0:=by simpa using e7
    refine cM (λe8=>?_) λe8=>?_
    .exact aQ ⟨D,.inr ⟨_,_,_,_,_,_,rfl,v_,∅,∅,∅,∅,∅⟩⟩
    .exact aQ ⟨D,_,_,_,_,_,_,rfl,v_,∅,∅,∅,∅,∅⟩
   clear_value jp3;refine cM (λCr=>?_) (λCr=>?_)
   .have v9:=Y.extB (p:=p') ∅ (λi hi g1 g2 j z g3=>bN.trans (qB (show j<=n-1 by lia) ∅) (m3 i hi ∅ ∅));refine cM (λe6=>?_) λe6=>?_
    .exact aQ ⟨D,.inl ⟨_,_,rfl,v9.first (by simpa using e6) hf⟩⟩
    refine cM (λe9=>?_) λe9=>?_
    .exact aQ ⟨D,.inl ⟨_,_,rfl,v9.doneB (by simpa using e9)⟩⟩
    have e6':p'≠1:=by simpa using e6
    have e9':p'≠0:=by simpa using e9
    exact v8 _ _ v9 ∅ ∅
   .exact v8 _ _ Y ∅ ∅
  clear_value jp2;refine cM (λhk0=>?_) (λhk0=>?_)
  .have v7:fW d a b (u++(a.extract p v).reverse) p q:=B.extA ∅ λi hi g1 g2 j z g3=>bN.trans (lG (show j<=q-1 by lia) ∅) (lA (fE i hi ∅ ∅));refine cM (λO=>?_) λO=>?_
   .exact aQ ⟨D,.inl ⟨_,_,rfl,v7.doneA (by simpa using O)⟩⟩
   have oV:p≠0:=by simpa using O
   exact v6 _ _ v7 ∅ ∅
  .exact v6 _ _ B ∅ ∅
 exact cM (λ_=>z _ _ J) λ_=>z _ _ J
end
def putL(a:Array Keyed)(c:Nat)(l:List Keyed):Array Keyed:=l.zipIdx.foldl (λa (b:Keyed×Nat)=>a.setIfInBounds (c+b.2) b.1) a
theorem zN:∀(l:List Keyed) (n b:Nat) (a:Array Keyed),b+n+l.length<=a.size -> ((l.zipIdx n).foldl (λa (c:Keyed×Nat)=>a.setIfInBounds (b+c.2) c.1) a).size=a.size /\ ∀k,((l.zipIdx n).foldl (λa (c:Keyed×Nat)=>a.setIfInBounds (b+c.2) c.1) a)[k]?=if b+n<=k/\k<b+n+l.length then l[k-(b+n)]? else a[k]?
 |[],n,b,a,_=>⟨rfl,λk=>by rw[if_neg (by simp)];rfl⟩
 |x::l,n,b,a,h=>by
  have g:b+(n+1)+l.length<=(a.setIfInBounds (b+n) x).size:=by simp at h ⊢;lia
  obtain⟨j,i⟩:=zN l (n+1) b (a.setIfInBounds (b+n) x) g;rw[List.zipIdx_cons,g7];refine⟨by rw[j];simp,λk=>?_⟩;rw[i];by_cases f:b+n=k
  .subst f;rw[if_neg ∅,if_pos (by simp)];rw[Array.getElem?_setIfInBounds_self_of_lt (by simp at h;lia)];simp
  .by_cases d:b+(n+1)<=k/\k<b+(n+1)+l.length
   .rw[if_pos d,if_pos (by simp;lia)];rw[show k-(b+n)=k-(b+(n+1))+1 by lia,BR]
   .rw[if_neg d,if_neg (by simp;lia),Array.getElem?_setIfInBounds_ne f]
theorem KD{a:Array Keyed}{b:Nat}{l:List Keyed}(h:b+l.length<=a.size):(putL a b l).size=a.size:=(zN l 0 b a ∅).1
theorem AF{a:Array Keyed}{b:Nat}{l:List Keyed}(h:b+l.length<=a.size)(k:Nat):(putL a b l)[k]?=if b<=k/\k<b+l.length then l[k-b]? else a[k]? :=(zN l 0 b a ∅).2 k
theorem Pa{a:Array Keyed}{b n:Nat}{l:List Keyed}(h:b+n<=a.size)(d:l.Perm ((a.toList.drop b).take n)):(putL a b l).toList.Perm a.toList:=by
 have f:l.length=n:=by rw[d.length_eq,qa,m_];simp;lia
 have e:(putL a b l).toList=a.toList.take b++(l++a.toList.drop (b+n)):=by
  apply qi;intro k;rw[oF,AF ∅,List.getElem?_append,List.getElem?_append,qa,Ii,BU,f];simp only[iQ,oF];rw[show min b a.size=b by lia];by_cases c:k<b
  .rw[if_neg ∅,if_pos c,if_pos c]
  .rw[if_neg c];by_cases i:k<b+n
   .rw[if_pos ∅,if_pos ∅]
   .rw[if_neg ∅,if_neg ∅];congr 1;lia
 rw[e];have g:a.toList=a.toList.take b++((a.toList.drop b).take n++a.toList.drop (b+n)):=by rw[<-List.drop_drop,oA,oA]
 conv=>rhs;rw[g]
 exact yY _ (List.Perm.append_right _ d)
section
variable{κ:KeyKind}{kz:gI}
def Run(κ:KeyKind)(a:Array Keyed)(b n:Nat):Prop:=∀i j x y,b<=i->i<=j->j<b+n->a[i]?=aa x->a[j]?=aa y->bN κ x y
theorem bN.refl(x:Keyed):bN κ x x:=ma _
structure Wr(a a':Array Keyed)(lo n:Nat):Prop where
 perm:a'.toList.Perm a.toList
 size:a'.size=a.size
 out:∀k,k<lo\/lo+n<=k->a'[k]?=a[k]?
theorem Run.keep{a m:Array Keyed}{c n b f:Nat}(h:Run κ a c n)(w:Wr a m b f)(d:c+n<=b\/b+f<=c):Run κ m c n:=by intro i j x y q p o l g;rw[w.out i ∅]at l;rw[w.out j ∅]at g;exact h i j x y q p o l g
end
section
variable{b:aR}{w:aL}{A:aY}{E:aj->ao->Prop}{s:ao}{κ:KeyKind}{kz:gI}
theorem P_{a:Type}{M:Model}{Q:PUnit->a->Prop}{d c:a}(h:Q ⟨⟩ c):wpS M A E s (set c:StateT a Sem PUnit) Q d:=by unfold wpS;rw[StateT.run_set];exact aF ⟨rfl,h⟩
theorem RQ(a:Array Keyed){p q t:Nat}(d:p<=q)(c:q<=t):(a.extract p q).toList++(a.extract q t).toList=(a.extract p t).toList:=by rw[lf,lf,lf,show t-p=(q-p)+(t-q) by lia,List.take_add,List.drop_drop,show p+(q-p)=q by lia]
theorem QY{a:Array Keyed}{c d o k f:Nat}(Z:c+d+o<=a.size)(hk:k<d)(h0:0<f)(hnb:f<=o)(Y:Run κ a c d)(X:Run κ a (c+d) o)(a1:∀i (l:i<a.size),c<=i->i<c+k->bN κ a[i] (a[c+d]'∅)) (b2:∀i (l:i<a.size),c+d+f<=i->i<c+d+o->bN κ (a[c+d-1]'∅) a[i]){r:Array Keyed} (u:gF κ ((a.extract (c+k) (c+d)).toList++(a.extract (c+d) (c+d+f)).toList) r):Wr a (putL a (c+k) r.toList) c (d+o)/\Run κ (putL a (c+k) r.toList) c (d+o):=by
 rw[RQ _ ∅ ∅]at u;have bp:r.toList.length=d-k+f:=by rw[u.1.length_eq,lf,qa,m_,iQ];lia
 have D:c+k+r.toList.length<=a.size:=∅
 have B:∀m∈r.toList,∃t,∃C:t<a.size,c+k<=t/\t<c+d+f/\a[t]=m:=λm B=>Az ∅ (u.1.mem_iff.mp B);have G:∀{i j:Nat} (z:i<=j) (h:j<c+d),c<=i->bN κ (a[i]'∅) (a[j]'∅):=λ{i j} z h l=>Y i j _ _ l z h (getElem?_pos _ _ _) (getElem?_pos _ _ _);have F:∀{i j:Nat} (z:i<=j) (h:j<c+d+o),c+d<=i->bN κ (a[i]'∅) (a[j]'∅):=λ{i j} z h l=>X i j _ _ l z h (getElem?_pos _ _ _) (getElem?_pos _ _ _);have J:∀i (l:i<a.size) j (h:j<a.size),c<=i->i<c+k->c+d<=j->j<c+d+o->bN κ a[i] a[j]:=λi l j h c1 I N c4=>(a1 i l c1 I).trans (F N c4 (a6 _));refine⟨⟨?_,KD D,λq hq=>?_⟩,?_⟩
 .refine Pa (n:=d-k+f) ∅ ?_;have:=u.1;rwa[lf,show c+d+f-(c+k)=d-k+f by lia]at this
 .rw[AF D,if_neg ∅]
 .intro i j x y h1 K h3 p g;rw[AF D]at p g;by_cases M:c+k<=i/\i<c+k+r.toList.length
  .rw[if_pos M]at p;obtain⟨t,C,W,T,rfl⟩:=B x (oy p);by_cases v:c+k<=j/\j<c+k+r.toList.length
   .rw[if_pos v]at g;by_cases H:i=j
    .subst H;rw[p]at g;cases g;exact bN.refl _
    .obtain⟨S,Q⟩:=cE.mp p;obtain⟨P,O⟩:=cE.mp g;have:=Ib.mp u.2 (i-(c+k)) (j-(c+k)) S P ∅;rw[Q,O]at this;exact this
   .rw[if_neg v]at g;obtain⟨h,rfl⟩:=sE.mp g;by_cases L:t<c+d
    .exact(G (show t<=c+d-1 by lia) ∅ ∅).trans (b2 j h ∅ ∅)
    .exact F ∅ ∅ ∅
  .rw[if_neg M]at p;obtain⟨l,rfl⟩:=sE.mp p;by_cases v:c+k<=j/\j<c+k+r.toList.length
   .rw[if_pos v]at g;obtain⟨t,C,W,T,rfl⟩:=B y (oy g);by_cases L:t<c+d
    .exact G ∅ L ∅
    .exact J i l t C ∅ ∅ ∅ ∅
   .rw[if_neg v]at g;obtain⟨h,rfl⟩:=sE.mp g;by_cases I:i<c+k
    .by_cases N:j<c+k
     .exact G K ∅ h1
     .exact J i l j h ∅ I ∅ ∅
    .exact F K ∅ ∅
theorem C6{a:Array Keyed}{d c f:Nat}(p:d+c+f<=a.size)(v:0<c)(q:0<f)(m:Run κ a d c)(l:Run κ a (d+c) f)(r:bN κ (a[d+c-1]'∅) (a[d+c]'∅)):Run κ a d (c+f):=by
 intro i j x y o n z h g;by_cases u:j<d+c
 .exact m i j x y o n u h g
 .by_cases B:i<d+c
  .exact((m i (d+c-1) x _ o ∅ ∅ h (getElem?_pos _ _ _)).trans r).trans (l (d+c) j _ y ∅ ∅ ∅ (getElem?_pos _ _ _) g)
  .exact l i j x y ∅ n ∅ h g
theorem Wr.same{a:Array Keyed}{lo n:Nat}:Wr a a lo n:=⟨qg _,rfl,λ_ _=>rfl⟩
theorem O7(I:io κ kz b w A s){m:bJ}(hk:SB kz m)(v:∀i (l:i<(arrOf m).size),gS κ (arrOf m)[i]){i c a pw f C:Nat}(M:(bz m)[i]?=aa (c,a,pw)) (L:(bz m)[i+1]?=aa (c+a,f,C)) (J:0<a) (D:0<f) (o:c+a+f<=(arrOf m).size)(y:Run κ (arrOf m) c a) (x:Run κ (arrOf m) (c+a) f) {Q:Bool->bJ->Prop}(h:∀q,SB kz q->bz q=((bz m).setIfInBounds i (c,a+f,pw)).eraseIdxIfInBounds (i+1)->Wr (arrOf m) (arrOf q) c (a+f)->Run κ (arrOf q) c (a+f)->Q ah q):wpS (au b w) A E s (mergeAt' i) Q m:=by
 obtain⟨kd,d,H,mg,fl⟩:=m;have P:kz=kd:=hk.kind.symm;have mo:fl=ae:=hk.failed;subst mo;subst P;replace v:∀i (l:i<d.size),gS κ d[i]:=v;replace o:c+a+f<=d.size:=o;replace y:Run κ d c a:=y;replace x:Run κ d (c+a) f:=x;replace M:H[i]?=aa (c,a,pw):=M;replace L:H[i+1]?=aa (c+a,f,C):=L;replace h:∀q,SB kz q->bz q=(H.setIfInBounds i (c,a+f,pw)).eraseIdxIfInBounds (i+1)->Wr d (arrOf q) c (a+f)->Run κ (arrOf q) c (a+f)->Q ah q:=h;have g1:∀{i j:Nat} (p:i<=j) (g:j<c+a),c<=i->bN κ (d[i]'∅) (d[j]'∅):=λ{i j} p g l=>y i j _ _ l p g (getElem?_pos _ _ _) (getElem?_pos _ _ _);have g2:∀{i j:Nat} (p:i<=j) (g:j<c+a+f),c+a<=i->bN κ (d[i]'∅) (d[j]'∅):=λ{i j} p g l=>x i j _ _ l p g (getElem?_pos _ _ _) (getElem?_pos _ _ _);unfold mergeAt';refine aK (lz ?_);dsimp only;rw[M,L];dsimp only;refine aK (P_ ?_);generalize (H.setIfInBounds i (c,a+f,pw)).eraseIdxIfInBounds (i+1)=pend at *;refine aK (fo ∅ ?_);refine aK (AX I ⟨rfl,rfl⟩ (base:=c) (n:=a) (hint:=0) (v _ _) ∅ v (λi j p g l=>g1 p g l) J λk m1 Z m3=>?_);dsimp only;refine cM (λW=>?_) λW=>?_
 .have X:a<=k:=by have:a-k=0:=(by simpa using W);lia
  refine aQ (h _ ⟨rfl,rfl⟩ rfl Wr.same (C6 o J D y x (Z _ _ ∅ ∅)))
 have X:k<a:=by have:a-k≠0:=(by simpa using W);lia
 refine aK (fo ∅ ?_);refine aK (Av I ⟨rfl,rfl⟩ (base:=c+a) (n:=f) (hint:=f-1) (v _ _) ∅ v (λi j p g l=>g2 p g l) ∅ λu n1 Y N=>?_);dsimp only;have F:c+k+(a-k)-1=c+a-1:=∅
 simp only[F]at Y N;refine cM (λT=>?_) λT=>?_
 .have lE:u=0:=by simpa using T
  refine aQ (h _ ⟨rfl,rfl⟩ rfl Wr.same (C6 o J D y x (N _ _ ∅ ∅)))
 have lE:u≠0:=by simpa using T
 have xs:(d.extract (c+k) (c+a)).size=a-k:=by simp;lia
 have ys:(d.extract (c+a) (c+a+u)).size=u:=by simp;lia
 refine cM (λ_=>?_) λ_=>?_
 all_goals
  first
   |refine aK (O_ I ⟨rfl,rfl⟩ ∅ ∅ ?_ ?_ ?_ ?_ ?_ ?_ ?_)
   |refine aK (Lw I ⟨rfl,rfl⟩ ∅ ∅ ?_ ?_ ?_ ?_ ?_ ?_ ?_)
  .intro j g;rw[nu];exact v _ _
  .intro j g;rw[nu];exact v _ _
  .intro i j g p;rw[nu,nu];exact g1 ∅ ∅ ∅
  .intro i j g p;rw[nu,nu];exact g2 ∅ ∅ ∅
  .rw[nu,nu];exact lA (m3 _ _ ∅ ∅)
  .intro j g;rw[nu,nu];have:=Y (c+a+j) ∅ ∅ ∅;have e:c+k+((d.extract (c+k) (c+a)).size-1)=c+a-1:=∅
   simp only[e];exact lA this
  .rintro r ⟨O,G,K,mg',S⟩ ⟨B,z,c3,c4⟩ hD;change O=kz at B;change G=d at z;change K=pend at c3;change S=ae at c4;subst B z c3 c4;refine aK (nt ?_);refine aK (lz ?_);obtain⟨w1,w2⟩:=QY o X ∅ n1 y x (λi l B z=>Z i l B z) (λi l B z=>N i l B z) hD;exact aQ (h _ ⟨rfl,rfl⟩ rfl w1 w2)
end
section
variable{κ:KeyKind}{kz:gI}
theorem zX{a:Array Keyed}{i:Nat}{x:Keyed}(h:a[i]?=aa x):KK κ a i=kO κ x:=by unfold KK kO;rw[h]
theorem rP{a:Array Keyed}{i:Nat}(h:i<a.size):KK κ a i=kO κ a[i]:=zX (getElem?_pos _ _ _)
def hG(κ:KeyKind)(a:Array Keyed)(lo n:Nat):Prop:=∀i j,lo<=i->i<=j->j<lo+n->κ.kle (KK κ a i) (KK κ a j)
def nL(κ:KeyKind)(a:Array Keyed)(lo n:Nat):Prop:=∀i j,lo<=i->i<=j->j<lo+n->κ.kle (KK κ a j) (KK κ a i)
theorem hG.run{a:Array Keyed}{b n:Nat}(h:hG κ a b n):Run κ a b n:=by intro i j x y l g f d c;have:=h i j l g f;rw[zX d,zX c]at this;exact this
theorem Wr.trans{a b c:Array Keyed}{d n:Nat}(g:Wr a b d n)(f:Wr b c d n):Wr a c d n :=⟨f.perm.trans g.perm,f.size.trans g.size,λk h=>(f.out k h).trans (g.out k h)⟩
theorem Wr.mono{a b:Array Keyed}{d n c f:Nat}(h:Wr a b d n)(j:c<=d)(i:d+n<=c+f):Wr a b c f :=⟨h.perm,h.size,λk g=>h.out k ∅⟩
theorem Ja{a:Array Keyed}{i j:Nat}(b:j<=a.size)(d:i<=j):Wr a (mirror a i j ((j-i) / 2)) i (j-i) :=⟨B6.mp (mirror_perm _ _ _ _),mirror_size _ _ _ _,λk c=>by rw[getElem?_mirror_all b,if_neg ∅]⟩
theorem M9{a:Array Keyed}{b d:Nat}(c:b<a.size)(f:d<=b):Wr a (bubble a b d) (b-d) (d+1) :=⟨B6.mp (bubble_perm _ _ _),bubble_size _ _ _,λk g=>by rw[getElem?_bubble c d f,if_neg ∅,if_neg ∅]⟩
def AllK(κ:KeyKind)(a:Array Keyed):Prop:=∀i (b:i<a.size),gS κ a[i]
theorem AllK.of{a b:Array Keyed}(h:AllK κ a)(p:b.toList.Perm a.toList):AllK κ b:=by intro i f;have c:b[i]∈a.toList:=p.mem_iff.mp (by simp);obtain⟨j,d,e⟩:=y9 c;rw[<-e];simpa using h j (by simpa using d)
end
section
variable{d:aR}{w:aL}{A:aY}{E:aj->ao->Prop}{s:ao}{κ:KeyKind}{f:gI}
theorem o9(m:io κ f d w A s){a:bJ}(l:SB f a)(g:AllK κ (arrOf a)){i j:Nat}{Q:Option Bool->bJ->Prop}(c:i<(arrOf a).size)(b:j<(arrOf a).size)(h:Q (aa (κ.blt (KK κ (arrOf a) i) (KK κ (arrOf a) j))) a):wpS (au d w) A E s (ltAt' i j) Q a:=by rw[rP c,rP b]at h;rw[ltAt'_eq];refine aK (lz ?_);exact aK (fo c (aK (fo b (vg m l (g i c) (g j b) h))))
theorem uA{b a:bJ}{lo n i j:Nat}{Q:Unit->bJ->Prop}(m:SB f a)(o:bz a=bz b)(l:Wr (arrOf b) (arrOf a) lo n)(r:i<=j)(p:j<=(arrOf b).size)(q:lo<=i)(u:j<=lo+n)(h:∀c,SB f c->bz c=bz b->Wr (arrOf b) (arrOf c) lo n->(∀k,KK κ (arrOf c) k=if i<=k/\k<j then KK κ (arrOf a) (i+j-1-k)else KK κ (arrOf a) k)->Q () c):wpS (au d w) A E s (reverseSlice' i j) Q a:=by
 have g:j<=(arrOf a).size:=by rw[l.size];exact p
 exact wpS_reverse (h _ ⟨m.kind,m.failed⟩ o (l.trans ((Ja g r).mono q ∅)) λk=>KK_mirror g k)
theorem RJ{i:Type}{c:Prop}[Decidable c]{j h:StateT bJ Sem i}{Q:i->bJ->Prop}{g:bJ}{J:bJ->Prop}(l:¬c->J g)(a:∀b,J b->wpS (au d w) A E s h Q b)(m:c->(∀b,J b->wpS (au d w) A E s h Q b)->wpS (au d w) A E s j Q g):wpS (au d w) A E s (if c then j else h) Q g :=cM (λe=>m e a) λe=>a g (l e)
theorem Aw{a:Array Keyed}{lo x:Nat}(b:hG κ a lo x)(h:1<=x)(e:κ.kle (KK κ a (lo+x-1)) (KK κ a (lo+x))):hG κ a lo (x+1):=λi j c n o=>by
 by_cases l:j<lo+x
 .exact b i j c n l
 .have g:j=lo+x:=∅
  subst g;by_cases m:i=lo+x
  .subst m;exact ma _
  .exact sO (b i (lo+x-1) c ∅ ∅) e
theorem CV{a:Array Keyed}{lo x:Nat}(b:nL κ a lo x)(h:1<=x)(e:κ.kle (KK κ a (lo+x)) (KK κ a (lo+x-1))):nL κ a lo (x+1):=λi j c n o=>by
 by_cases l:j<lo+x
 .exact b i j c n l
 .have g:j=lo+x:=∅
  subst g;by_cases m:i=lo+x
  .subst m;exact ma _
  .exact sO e (b i (lo+x-1) c ∅ ∅)
theorem Mb{a:Array Keyed}{lo x b:Nat}(g:∀i,lo+x-(b+1)<=i->i<lo+x->KK κ a i=KK κ a (lo+x-1))(h:KK κ a (lo+x)=KK κ a (lo+x-1)):∀i,lo+(x+1)-(b+1+1)<=i->i<lo+(x+1)->KK κ a i=KK κ a (lo+(x+1)-1):=λi l j=>by
 rw[show lo+(x+1)-1=lo+x by lia];by_cases c:i=lo+x
 .rw[c]
 .rw[g i ∅ ∅,h]
theorem DB{a b:Array Keyed}{i j n:Nat}(g:∀k,KK κ b k=if i<=k/\k<j then KK κ a (i+j-1-k)else KK κ a k)(c:∀k,i<=k->k<j->KK κ a k=KK κ a n):∀k,KK κ b k=KK κ a k:=λk=>by
 rw[g];split
 .rw[c _ ∅ ∅,c k ∅ ∅]
 .rfl
theorem JZ(S:io κ f d w A s){v:bJ}(P:SB f v)(T:AllK κ (arrOf v)){lo a:Nat}(h1:1<=a)(hsz:lo+a<=(arrOf v).size){Q:Option Nat->bJ->Prop}(h:∀n p,SB f p->bz p=bz v->Wr (arrOf v) (arrOf p) lo a->1<=n->n<=a->hG κ (arrOf p) lo n->Q (aa n) p):wpS (au d w) A E s (countRun' lo a) Q v:=by
 have one:hG κ (arrOf v) lo 1:=λi j r y D=>by
  have:i=j:=∅
  subst this;exact ma _
 have go:∀{u:bJ},Wr (arrOf v) (arrOf u) lo a->(arrOf u).size=(arrOf v).size:=λw=>w.size;unfold countRun';refine aK (gJ (gK (I:=λx c g=>g=v/\c=(ae,x)/\hG κ (arrOf v) lo x) (Q:=λc g=>g=v/\∃n,c=(ae,n)/\1<=n/\n<=a/\hG κ (arrOf v) lo n/\(n=a\/κ.klt (KK κ (arrOf v) (lo+n)) (KK κ (arrOf v) (lo+n-1)))) ?_ ?_ ?_) ?_)
 .rintro x c g sZ qC ⟨rfl,rfl,o⟩;dsimp only;refine aK (o9 S P T ∅ ∅ ?_);cases e:κ.blt (KK κ (arrOf g) (lo+x)) (KK κ (arrOf g) (lo+x-1))with
  |true=>exact aQ ⟨rfl,x,rfl,∅,∅,o,.inr e⟩
  |false=>exact aQ ⟨rfl,rfl,Aw o ∅ e⟩
 .rintro c g ⟨rfl,rfl,o⟩;rw[show max 1 a=a by lia]at o ⊢;exact⟨rfl,a,rfl,∅,∅,o,.inl rfl⟩
 .exact⟨rfl,rfl,one⟩
 rintro c p ⟨rfl,n,rfl,n1,n2,o,hn⟩;dsimp only;refine cM (λe1=>aQ (h n p P rfl Wr.same n1 n2 o)) λe1=>?_;have sX:n≠a:=by simpa using e1
 replace hn:κ.klt (KK κ (arrOf p) (lo+n)) (KK κ (arrOf p) (lo+n-1)):=hn.resolve_left sX;refine RJ (J:=λC=>SB f C/\bz C=bz p/\Wr (arrOf p) (arrOf C) lo a/\nL κ (arrOf C) lo (n+1)) (λen=>⟨P,rfl,Wr.same,λi j r y D=>?_⟩) (λC ⟨eQ,fN,s_,hD⟩=>?_) λen key=>?_
 .have en':n=1:=∅
  by_cases hi:i=j
  .subst hi;exact ma _
  .have e1:i=lo+n-1:=∅
   have e2:j=lo+n:=∅
   rw[e1,e2];exact lA hn
 .refine aK (sN (nh ⟨rfl,?_⟩));refine aK (gJ (gK (I:=λx c l=>∃b,c=(ae,x,b)/\SB f l/\bz l=bz p/\Wr (arrOf p) (arrOf l) lo a/\nL κ (arrOf l) lo x/\b+1<=x/\(∀i,lo+x-(b+1)<=i->i<lo+x->KK κ (arrOf l) i=KK κ (arrOf l) (lo+x-1))) (Q:=λc l=>∃m b,c=(ae,m,b)/\SB f l/\bz l=bz p/\Wr (arrOf p) (arrOf l) lo a/\1<=m/\m<=a/\nL κ (arrOf l) lo m/\b+1<=m/\(∀i,lo+m-(b+1)<=i->i<lo+m->KK κ (arrOf l) i=KK κ (arrOf l) (lo+m-1))) ?_ ?_ ?_) ?_)
  .rintro x c l sZ qC ⟨b,rfl,B,G,z,F,hq,H⟩;have sz3:=z.size;dsimp only;refine aK (o9 S B (T.of z.perm) ∅ ∅ ?_);cases e3:κ.blt (KK κ (arrOf l) (lo+x)) (KK κ (arrOf l) (lo+x-1))with
   |true=>
    have sS:nL κ (arrOf l) lo (x+1):=CV F ∅ (lA e3);dsimp only;rw[if_pos rfl];refine cM (λCs=>?_) λCs=>?_
    .refine aK (uA (κ:=κ) (lo:=lo) (n:=a) B G z ∅ ∅ ∅ ∅ λbT js iz Y Ct=>?_);have X:=DB Ct H;exact aQ ⟨0,rfl,js,iz,Y,λi j r y D=>by rw[X,X];exact sS i j r y D,∅,λi r y=>by congr 1;lia⟩
    .exact aQ ⟨0,rfl,B,G,z,sS,∅,λi r y=>by congr 1;lia⟩
   |false=>
    dsimp only;rw[if_neg (by simp)];refine aK (o9 S B (T.of z.perm) ∅ ∅ ?_);cases e4:κ.blt (KK κ (arrOf l) (lo+x-1)) (KK κ (arrOf l) (lo+x))with
    |true=>exact aQ ⟨x,b,rfl,B,G,z,∅,∅,F,hq,H⟩
    |false=>have ex:KK κ (arrOf l) (lo+x)=KK κ (arrOf l) (lo+x-1):=KeyOrd.kle_antisymm e4 e3;exact aQ ⟨b+1,rfl,B,G,z,CV F ∅ (by rw[ex];exact ma _),∅,Mb H ex⟩
  .rintro c l ⟨b,rfl,B,G,z,F,hq,H⟩;rw[show max (n+1) a=a by lia]at F hq H ⊢;exact⟨a,b,rfl,B,G,z,∅,∅,F,hq,H⟩
  .exact⟨0,rfl,eQ,fN,s_,hD,∅,λi r y=>by congr 1;lia⟩
  rintro c l ⟨m,b,rfl,B,G,z,m1,m2,F,hq,H⟩;dsimp only;refine cM (λCs=>?_) λCs=>?_
  .refine aK (uA (κ:=κ) (lo:=lo) (n:=a) B G z ∅ ∅ ∅ ∅ λbT js iz Y Ct=>?_);have X:=DB Ct H;have O:nL κ (arrOf bT) lo m:=λi j r y D=>by rw[X,X];exact F i j r y D
   refine aK (uA (κ:=κ) (lo:=lo) (n:=a) js iz Y ∅ ∅ ∅ ∅ λu Z N K W=>?_);have M:hG κ (arrOf u) lo m:=λi j r y D=>by rw[W,W,if_pos ⟨r,∅⟩,if_pos ⟨∅,D⟩];exact O _ _ ∅ ∅ ∅
   have sz5:=K.size;refine aK (gJ (gK (I:=λx c g=>g=u/\c=(ae,x)/\hG κ (arrOf u) lo x) (Q:=λc g=>g=u/\∃n,c=(ae,n)/\1<=n/\n<=a/\hG κ (arrOf u) lo n/\(n=a\/κ.klt (KK κ (arrOf u) (lo+n)) (KK κ (arrOf u) (lo+n-1)))) ?_ ?_ ?_) ?_)
   .rintro x c g sZ qC ⟨rfl,rfl,o⟩;dsimp only;refine aK (o9 S Z (T.of K.perm) ∅ ∅ ?_);cases e:κ.blt (KK κ (arrOf g) (lo+x)) (KK κ (arrOf g) (lo+x-1))with
    |true=>exact aQ ⟨rfl,x,rfl,∅,∅,o,.inr e⟩
    |false=>exact aQ ⟨rfl,rfl,Aw o ∅ e⟩
   .rintro c g ⟨rfl,rfl,o⟩;rw[show max m a=a by lia]at o ⊢;exact⟨rfl,a,rfl,∅,∅,o,.inl rfl⟩
   .exact⟨rfl,rfl,M⟩
   rintro c g ⟨rfl,q,rfl,q1,q2,L,_⟩;exact aQ (h q g Z N K q1 q2 L)
  .have js:=B;have iz:=G;have Y:=z;have O:=F;refine aK (uA (κ:=κ) (lo:=lo) (n:=a) js iz Y ∅ ∅ ∅ ∅ λu Z N K W=>?_);have M:hG κ (arrOf u) lo m:=λi j r y D=>by rw[W,W,if_pos ⟨r,∅⟩,if_pos ⟨∅,D⟩];exact O _ _ ∅ ∅ ∅
   have sz5:=K.size;refine aK (gJ (gK (I:=λx c g=>g=u/\c=(ae,x)/\hG κ (arrOf u) lo x) (Q:=λc g=>g=u/\∃n,c=(ae,n)/\1<=n/\n<=a/\hG κ (arrOf u) lo n/\(n=a\/κ.klt (KK κ (arrOf u) (lo+n)) (KK κ (arrOf u) (lo+n-1)))) ?_ ?_ ?_) ?_)
   .rintro x c g sZ qC ⟨rfl,rfl,o⟩;dsimp only;refine aK (o9 S Z (T.of K.perm) ∅ ∅ ?_);cases e:κ.blt (KK κ (arrOf g) (lo+x)) (KK κ (arrOf g) (lo+x-1))with
    |true=>exact aQ ⟨rfl,x,rfl,∅,∅,o,.inr e⟩
    |false=>exact aQ ⟨rfl,rfl,Aw o ∅ e⟩
   .rintro c g ⟨rfl,rfl,o⟩;rw[show max m a=a by lia]at o ⊢;exact⟨rfl,a,rfl,∅,∅,o,.inl rfl⟩
   .exact⟨rfl,rfl,M⟩
   rintro c g ⟨rfl,q,rfl,q1,q2,L,_⟩;exact aQ (h q g Z N K q1 q2 L)
 .refine aK (o9 S P T ∅ ∅ ?_);cases e2:κ.blt (KK κ (arrOf p) lo) (KK κ (arrOf p) (lo+n-1))with
  |true=>exact aQ (h n p P rfl Wr.same n1 n2 o)
  |false=>
   dsimp only;rw[if_neg (by simp)];have hall:∀i,lo<=i->i<lo+n->KK κ (arrOf p) i=KK κ (arrOf p) lo:=λi r y=>KeyOrd.kle_antisymm (sO (o i (lo+n-1) r ∅ ∅) e2) (o lo i (a6 _) r y);refine aK (uA (κ:=κ) (lo:=lo) (n:=a) P rfl Wr.same ∅ ∅ ∅ ∅ λC eQ fN s_ lJ=>?_);have hD:nL κ (arrOf C) lo (n+1):=by
    have hv:∀i,lo<=i->i<lo+n->KK κ (arrOf C) i=KK κ (arrOf p) lo:=λi r y=>by rw[lJ,if_pos ⟨r,y⟩];exact hall _ ∅ ∅
    have hl:κ.klt (KK κ (arrOf C) (lo+n)) (KK κ (arrOf p) lo):=by rw[lJ,if_neg ∅,<-hall (lo+n-1) ∅ ∅];exact hn
    intro i j r y D;by_cases hj:j<lo+n
    .rw[hv i r ∅,hv j ∅ hj];exact ma _
    .have kg:j=lo+n:=∅
     subst kg;by_cases hi:i=lo+n
     .subst hi;exact ma _
     .rw[hv i r ∅];exact lA hl
   exact key C ⟨eQ,fN,s_,hD⟩
theorem Os{g c:bJ}{lo n a b:Nat}{Q:Unit->bJ->Prop}(m:SB f c)(o:bz c=bz g)(l:Wr (arrOf g) (arrOf c) lo n)(u:b<=a)(p:a<(arrOf g).size)(r:lo<=b)(q:a<lo+n)(h:∀i,SB f i->bz i=bz g->Wr (arrOf g) (arrOf i) lo n->(∀k,KK κ (arrOf i) k=if k=b then KK κ (arrOf c) a else if b<k/\k<=a then KK κ (arrOf c) (k-1)else KK κ (arrOf c) k)->Q () i):wpS (au d w) A E s (moveDown' a b) Q c:=by
 have j:a<(arrOf c).size:=by rw[l.size];exact p
 rw[moveDown'_eq];refine nt (h _ ⟨m.kind,m.failed⟩ o (l.trans ((M9 j (show a-b<=a by lia)).mono ∅ ∅)) λk=>?_);have:=KK_bubble (κ:=κ) j (show a-b<=a by lia) k;rw[show a-(a-b)=b by lia]at this;exact this
theorem Jo(O:io κ f d w A s){b:bJ}(N:SB f b)(P:AllK κ (arrOf b)){lo n ok:Nat}(M:ok<=n)(K:lo+n<=(arrOf b).size)(L:hG κ (arrOf b) lo ok){Q:Bool->bJ->Prop}(h:∀y,SB f y->bz y=bz b->Wr (arrOf b) (arrOf y) lo n->hG κ (arrOf y) lo n->Q ah y):wpS (au d w) A E s (binarySort' lo n ok) Q b:=by
 unfold binarySort';refine aK (gJ (gK (I:=λk c a=>c=(ae,())/\SB f a/\bz a=bz b/\Wr (arrOf b) (arrOf a) lo n/\hG κ (arrOf a) lo (min k n)) (Q:=λc a=>c=(ae,())/\SB f a/\bz a=bz b/\Wr (arrOf b) (arrOf a) lo n/\hG κ (arrOf a) lo n) ?_ ?_ ?_) ?_)
 .rintro k c a Z eQ ⟨rfl,p,v,o,g⟩;have sz:=o.size;rw[show min k n=k by lia]at g;refine aK (gJ (gK (I:=λx c m=>m=a/\∃l r,c=(ae,l,r)/\l<=r/\r<=k/\r-l<=k-x /\ (∀i,i<l->κ.kle (KK κ (arrOf a) (lo+i)) (KK κ (arrOf a) (lo+k)))/\(∀i,r<=i->i<k->κ.klt (KK κ (arrOf a) (lo+k)) (KK κ (arrOf a) (lo+i)))) (Q:=λc m=>m=a/\∃l r,c=(ae,l,r)/\l<=k /\ (∀i,i<l->κ.kle (KK κ (arrOf a) (lo+i)) (KK κ (arrOf a) (lo+k)))/\(∀i,l<=i->i<k->κ.klt (KK κ (arrOf a) (lo+k)) (KK κ (arrOf a) (lo+i)))) ?_ ?_ ?_) ?_)
  .rintro x c m _ hx ⟨rfl,l,r,rfl,Y,z,X,u,q⟩;dsimp only;refine cM (λH=>?_) λH=>?_
   .have:l=r:=∅
    subst this;exact aQ ⟨rfl,l,l,rfl,z,u,q⟩
   .refine aK (o9 O p (P.of o.perm) ∅ ∅ ?_);cases e:κ.blt (KK κ (arrOf m) (lo+k)) (KK κ (arrOf m) (lo+(l+r) / 2))with
    |true=>exact aQ ⟨rfl,l,(l+r) / 2,rfl,∅,∅,∅,u,λi C S=>KeyOrd.klt_of_klt_of_kle e (g _ _ ∅ ∅ ∅)⟩
    |false=>exact aQ ⟨rfl,(l+r) / 2+1,r,rfl,∅,∅,∅,λi C=>sO (g (lo+i) (lo+(l+r) / 2) ∅ ∅ ∅) e,q⟩
  .rintro c m ⟨rfl,l,r,rfl,Y,z,X,u,q⟩;have:l=r:=∅
   subst this;exact⟨rfl,l,l,rfl,z,u,q⟩
  .exact⟨rfl,0,k,rfl,∅,∅,∅,λi hi=>∅,λi C S=>∅⟩
  .rintro c m ⟨rfl,l,r,rfl,z,u,q⟩;dsimp only;refine aK (Os (κ:=κ) (lo:=lo) (n:=n) p v o ∅ ∅ ∅ ∅ λbH B T J D=>aQ ⟨rfl,B,T,J,?_⟩);rw[show min (k+1) n=k+1 by lia];intro i j G F W;rw[D,D]
   repeat' split
   all_goals first
    | (exfalso;lia)
    |exact ma _
    | (have:=u (i-lo) ∅;rw[show lo+(i-lo)=i by lia]at this;exact this)
    | (have:=q (j-1-lo) ∅ ∅;rw[show lo+(j-1-lo)=j-1 by lia]at this;exact lA this)
    |exact g _ _ ∅ ∅ ∅
 .rintro c a ⟨rfl,p,v,o,g⟩;rw[show min (max (max ok 1) n) n=n by lia]at g;exact⟨rfl,p,v,o,g⟩
 .refine⟨rfl,N,rfl,Wr.same,λi j G F W=>?_⟩;by_cases C:ok=0
  .have:i=j:=∅
   subst this;exact ma _
  .exact L i j G F ∅
 .rintro c a ⟨rfl,p,v,o,g⟩;exact aQ (h a p v o g)
end
theorem On{c:Prop}[Decidable c]{a b n:Nat}(f:a+1<n)(d:b+1<n):(if c then a else b)+1<n:=by split <;> assumption
def kB:Nat->List (Nat×Nat)->Nat->Prop
 |f,[],t=>f=t
 |f,(a,n)::l,t=>a=f/\0<n/\kB (f+n) l t
theorem kB.app:∀{l1:List (Nat×Nat)}{f t:Nat}{b:List (Nat×Nat)},kB f (l1++b) t↔∃m,kB f l1 m/\kB m b t
 |[],f,t,b=>by simp[kB]
 | (a,n)::l1,f,t,b=>by
  simp only[qo,kB,kB.app (l1:=l1)];constructor
  .rintro⟨h,g,m,d,c⟩;exact⟨m,⟨h,g,d⟩,c⟩
  .rintro⟨m,⟨h,g,d⟩,c⟩;exact⟨h,g,m,d,c⟩
theorem kB.le:∀{l:List (Nat×Nat)}{f t:Nat},kB f l t->f+l.length<=t/\∀e∈l,f<=e.1/\e.1+e.2<=t
 |[],f,t,h=>⟨by cases h;simp,by simp⟩
 | (a,n)::l,f,t,⟨g,j,d⟩=>by
  obtain⟨i,c⟩:=kB.le d;refine⟨by simp;lia,λe b=>?_⟩;rcases bI.mp b with rfl|b
  .subst g;exact⟨a6 _,by simp;lia⟩
  .have:=c e b;exact⟨∅,this.2⟩
def PL(a:Array (Nat×Nat×Nat)):List (Nat×Nat):=a.toList.map λe=>(e.1,e.2.1)
structure iL(κ:KeyKind)(arr:Array Keyed)(pd:Array (Nat×Nat×Nat))(lo:Nat):Prop where
 ch:kB 0 (PL pd) lo
 run:∀e∈PL pd,Run κ arr e.1 e.2
theorem xM(a:Array (Nat×Nat×Nat)):(PL a).length=a.size:=by simp[PL]
theorem nN(a:Array (Nat×Nat×Nat))(e:Nat×Nat×Nat):PL (a.push e)=PL a++[(e.1,e.2.1)]:=by simp[PL]
theorem xo(a:Array (Nat×Nat×Nat))(k pw:Nat):PL (a.modify k λx=>(x.1,x.2.1,pw))=PL a:=by
 apply qi;intro i;simp only[PL,eD,oF,Array.getElem?_modify];split
 .cases a[i]? <;> rfl
 .rfl
theorem Ng{j:Array (Nat×Nat×Nat)}{i:Nat}(h:i+1<j.size):∃a f b d g sb c m,j[i]?=aa (b,d,g)/\j[i+1]?=aa (sb,c,m)/\PL j=a++(b,d)::(sb,c)::f /\ PL ((j.setIfInBounds i (b,d+c,g)).eraseIdxIfInBounds (i+1))=a++(b,d+c)::f:=by
 obtain⟨l⟩:=j;simp only[cO]at h;have e:l=l.take i++l[i]::l[i+1]::l.drop (i+2):=by rw[<-qj,<-qj,oA]
 obtain⟨a,x,y,f,n,p⟩:∃a x y f,a.length=i/\l=a++x::y::f:=⟨l.take i,l[i],l[i+1],l.drop (i+2),by simp;lia,e⟩
 subst n p;obtain⟨b,d,g⟩:=x;obtain⟨sb,c,m⟩:=y;refine⟨a.map λe=>(e.1,e.2.1),f.map λe=>(e.1,e.2.1),b,d,g,sb,c,m,by simp,by simp[qb],by simp[PL],?_⟩;have o:((a++(b,d,g)::(sb,c,m)::f).toArray.setIfInBounds a.length (b,d+c,g)).eraseIdxIfInBounds (a.length+1)=(a++(b,d+c,g)::f).toArray:=by rw[List.setIfInBounds_toArray,List.set_append_right _ _ (a6 _),List.eraseIdxIfInBounds_toArray];congr 1;rw[List.eraseIdx_append_of_length_le ∅];simp
 rw[o];simp[PL]
section
variable{prog:aR}{w:aL}{A:aY}{E:aj->ao->Prop}{s:ao}{κ:KeyKind}{kz:gI}
theorem iL.keep{a f:Array Keyed}{c:Array (Nat×Nat×Nat)}{b n:Nat}(h:iL κ a c b)(w:Wr a f b n):iL κ f c b :=⟨h.ch,λe d=>(h.run e d).keep w (.inl (h.ch.le.2 e d).2)⟩
theorem AH(I:io κ kz prog w A s){a:bJ}(G:SB kz a)(J:AllK κ (arrOf a)){i l:Nat}(g:iL κ (arrOf a) (bz a) l)(F:l<=(arrOf a).size)(H:i+1<(bz a).size){Q:Bool->bJ->Prop}(h:∀c,SB kz c->Wr (arrOf a) (arrOf c) 0 l->iL κ (arrOf c) (bz c) l->(bz c).size+1=(bz a).size->Q ah c):wpS (au prog w) A E s (mergeAt' i) Q a:=by
 obtain⟨X,W,f,j,T,sb,u,S,L,K,d,p⟩:=Ng H;have v:=g.ch;rw[d]at v;obtain⟨m,y,P,O,N,M,x⟩:=kB.app.mp v;subst P N;have b1:=y.le;have b2:=x.le;have B:Run κ (arrOf a) f j:=g.run (f,j) (by rw[d];simp);have z:Run κ (arrOf a) (f+j) u:=g.run (f+j,u) (by rw[d];simp);refine O7 I G J L K O M ∅ B z λc C n o D=>h c C (o.mono ∅ ∅) ⟨?_,?_⟩ ?_
 .rw[n,p];exact kB.app.mpr ⟨f,y,rfl,∅,by rw[<-BY];exact x⟩
 .rw[n,p];intro e b;rcases iP.mp b with b|b
  .exact(g.run e (by rw[d];exact mX _ b)).keep o (.inl (b1.2 e b).2)
  .rcases bI.mp b with rfl|b
   .exact D
   .exact(g.run e (by rw[d];simp[b])).keep o (.inr (by have:=(b2.2 e b).1;lia))
 .have r:=xM (bz c);have q:=xM (bz a);rw[n,p]at r;rw[d]at q;rw[n,<-r,<-q];simp;lia
theorem Kd(hO:io κ kz prog w A s){st:bJ}(hk:SB kz st)(hA:AllK κ (arrOf st))(hp:bz st=#[]){Q:Unit->bJ->Prop}(h:∀aw,SB kz aw->(arrOf aw).toList.Perm (arrOf st).toList->Run κ (arrOf aw) 0 (arrOf st).size->Q () aw):wpS (au prog w) A E s sortRuns' Q st:=by
 unfold sortRuns';refine aK (lz ?_);dsimp only;obtain⟨b,Sd⟩:∃b,b=(arrOf st).size:=⟨_,rfl⟩
 have R6:((sortPriv% PySem.Builtin.SortState.a) st).size=b:=Sd.symm;simp only[R6];refine aK (gJ (gK (I:=λx c o=>∃f,c=(ae,f)/\x<=f/\f<=b/\SB kz o/\(arrOf o).toList.Perm (arrOf st).toList/\(arrOf o).size=b/\iL κ (arrOf o) (bz o) f) (Q:=λc o=>c=(ae,b)/\SB kz o/\(arrOf o).toList.Perm (arrOf st).toList/\(arrOf o).size=b/\iL κ (arrOf o) (bz o) b) ?_ ?_ ?_) ?_);rotate_left
 .rintro c o ⟨f,rfl,b1,b2,kT,L,S,O⟩;have:f=b:=∅
  subst this;exact⟨rfl,kT,L,S,O⟩
 .exact⟨0,rfl,∅,∅,hk,qg _,Sd.symm,by rw[hp];exact⟨rfl,by simp[PL]⟩⟩
 .rintro c o ⟨rfl,kT,L,S,O⟩;dsimp only;refine aK (gJ (gK (I:=λx c l=>c=(ae,())/\SB kz l/\(arrOf l).toList.Perm (arrOf st).toList/\(arrOf l).size=b/\iL κ (arrOf l) (bz l) b/\(bz l).size+x<=b+1) (Q:=λc l=>c=(ae,())/\SB kz l/\(arrOf l).toList.Perm (arrOf st).toList/\(arrOf l).size=b/\iL κ (arrOf l) (bz l) b/\(bz l).size<=1) ?_ ?_ ?_) ?_)
  .rintro x c l _ hx ⟨rfl,F,fN,wb,P,hb⟩;refine aK (lz ?_);refine cM (λe1=>aQ ⟨rfl,F,fN,wb,P,e1⟩) λe1=>?_;have sX:1<(bz l).size:=Nat.lt_of_not_le e1;refine aK (AH hO F (hA.of fN) P ∅ ?_ λN M jQ G hq=>?_)
   .exact On (show(bz l).size-2-1+1<(bz l).size by lia) (show(bz l).size-2+1<(bz l).size by lia)
   .exact aQ ⟨rfl,M,jQ.perm.trans fN,jQ.size.trans wb,G,∅⟩
  .rintro c l ⟨rfl,F,fN,wb,P,hb⟩;exact⟨rfl,F,fN,wb,P,∅⟩
  .have:=O.ch.le.1;rw[xM]at this;exact⟨rfl,kT,L,S,O,∅⟩
  .rintro c l ⟨rfl,F,fN,wb,P,hb⟩;refine aQ (h l F fN ?_);rw[<-Sd];have hc:=P.ch;have hr:=P.run;have hl:=xM (bz l)
   match hq:PL (bz l),hc,hr,hl with
   |[],hc,hr,hl=>
    cases hc;intro i j x y a1 a2 a3;lia
   |[(a,n)],hc,hr,hl=>
    obtain⟨d1,d2,d3⟩:=hc;cases d1;have d3':0+n=b:=d3;have:=hr (0,n) (by simp);rw[show b=n by lia];exact this
   |_::_::_,hc,hr,hl=>simp at hl;lia
 rintro x c o _ hx ⟨f,rfl,b1,b2,kT,L,S,O⟩;dsimp only;refine cM (λe1=>?_) λe1=>?_
 .have:f=b:=∅
  subst this;exact aQ ⟨rfl,kT,L,S,O⟩
 refine aK (JZ hO kT (hA.of L) ∅ ∅ λr l F we s_ f1 f2 sU=>?_);dsimp only;refine cM (λe2=>?_) λe2=>?_
 .refine aK (sN (nh ⟨rfl,?_⟩));refine aK (Jo hO F ((hA.of L).of s_.perm) ∅ (by rw[s_.size];lia) sU λN M hq3 jQ Y=>?_);rw[if_neg (by simp)];have K:Wr (arrOf o) (arrOf N) f (b-f):=s_.trans (jQ.mono ∅ ∅);have wf:bz N=bz o:=hq3.trans we;generalize hn:min (b-f) _=n at *;have n1:0<n:=∅
  have n2:f+n<=b:=∅
  clear F s_ sU we jQ hq3;have G:iL κ (arrOf N) (bz N) f:=by rw[wf];exact O.keep K
  have gc:(arrOf N).toList.Perm (arrOf st).toList:=K.perm.trans L;have oO:(arrOf N).size=b:=K.size.trans S;have hR:Run κ (arrOf N) f n:=Y.run;clear K wf;refine aK (lz ?_);obtain⟨kd,arr,W,mg,fl⟩:=N;dsimp only;cases hbk:W.back? with
  |none=>
   dsimp only;refine aK (nt (aQ ⟨f+n,rfl,∅,n2,⟨M.kind,M.failed⟩,gc,oO,?_⟩));refine⟨?_,?_⟩
   .show kB 0 (PL (W.push (f,n,0))) _;rw[nN];exact kB.app.mpr ⟨f,G.ch,rfl,n1,rfl⟩
   .show ∀e∈PL (W.push (f,n,0)),_;rw[nN];intro e m;rcases iP.mp m with m|m
    .exact G.run e m
    .rw[iu.mp m];exact hR
  |some bk=>
   obtain⟨s1,m1,q1⟩:=bk;dsimp only;refine aK (gJ (gK (I:=λx c g=>c=(ae,())/\SB kz g/\(arrOf g).toList.Perm (arrOf st).toList/\(arrOf g).size=b/\iL κ (arrOf g) (bz g) f/\Run κ (arrOf g) f n) (Q:=λc g=>c=(ae,())/\SB kz g/\(arrOf g).toList.Perm (arrOf st).toList/\(arrOf g).size=b/\iL κ (arrOf g) (bz g) f/\Run κ (arrOf g) f n) ?_ (λ_ _ hh=>hh) ?_) ?_)
   .rintro y c g _ hy ⟨rfl,B,C,J,u,H⟩;refine aK (lz ?_);have vO:∀{p:bJ},p=g->((ae,()):Option Unit×Unit)=(ae,())/\SB kz p/\(arrOf p).toList.Perm (arrOf st).toList/\(arrOf p).size=b/\iL κ (arrOf p) (bz p) f/\Run κ (arrOf p) f n:=λe=>by subst e;exact⟨rfl,B,C,J,u,H⟩
    by_cases hg:1<(bz g).size
    .obtain⟨z,q,d,v,D⟩:=g;have X:d.size > 1:=hg;dsimp only;rw[if_pos X,getElem?_pos d (d.size-2) ∅];obtain⟨u1,u2,u3⟩:=d[d.size-2];dsimp only;refine cM (λ_=>aQ (vO rfl)) λ_=>?_;refine aK (AH hO B (hA.of C) u ∅ (show d.size-2+1<d.size by lia) λp lK T Z _=>?_);exact aQ ⟨rfl,lK,T.perm.trans C,T.size.trans J,Z,H.keep T (.inr ∅)⟩
    .obtain⟨z,q,d,v,D⟩:=g;have X:¬d.size > 1:=hg;dsimp only;rw[if_neg X];exact aQ (vO rfl)
   .exact⟨rfl,M,gc,oO,G,hR⟩
   rintro c g ⟨rfl,B,C,J,u,H⟩;obtain⟨z,q,d,v,D⟩:=g;dsimp only;refine aK (nt (aK (nt (aQ ⟨f+n,rfl,∅,n2,⟨B.kind,B.failed⟩,C,J,?_⟩))));refine⟨?_,?_⟩
   .show kB 0 (PL ((d.modify (d.size-1) λx=>(x.1,x.2.1,_)).push (f,n,0))) _;rw[nN,xo];exact kB.app.mpr ⟨f,u.ch,rfl,n1,rfl⟩
   .show ∀e∈PL ((d.modify (d.size-1) λx=>(x.1,x.2.1,_)).push (f,n,0)),_;rw[nN,xo];intro e m;rcases iP.mp m with m|m
    .exact u.run e m
    .rw[iu.mp m];exact H
 .have M:=F;have Y:=sU;have K:Wr (arrOf o) (arrOf l) f (b-f):=s_;have wf:bz l=bz o:=we;have n1:0<r:=∅
  have n2:f+r<=b:=∅
  have G:iL κ (arrOf l) (bz l) f:=by rw[wf];exact O.keep K
  have gc:(arrOf l).toList.Perm (arrOf st).toList:=K.perm.trans L;have oO:(arrOf l).size=b:=K.size.trans S;have hR:Run κ (arrOf l) f r:=Y.run;clear K wf;refine aK (lz ?_);obtain⟨kd,arr,W,mg,fl⟩:=l;dsimp only;cases hbk:W.back? with
  |none=>
   dsimp only;refine aK (nt (aQ ⟨f+r,rfl,∅,n2,⟨M.kind,M.failed⟩,gc,oO,?_⟩));refine⟨?_,?_⟩
   .show kB 0 (PL (W.push (f,r,0))) _;rw[nN];exact kB.app.mpr ⟨f,G.ch,rfl,n1,rfl⟩
   .show ∀e∈PL (W.push (f,r,0)),_;rw[nN];intro e m;rcases iP.mp m with m|m
    .exact G.run e m
    .rw[iu.mp m];exact hR
  |some bk=>
   obtain⟨s1,m1,q1⟩:=bk;dsimp only;refine aK (gJ (gK (I:=λx c g=>c=(ae,())/\SB kz g/\(arrOf g).toList.Perm (arrOf st).toList/\(arrOf g).size=b/\iL κ (arrOf g) (bz g) f/\Run κ (arrOf g) f r) (Q:=λc g=>c=(ae,())/\SB kz g/\(arrOf g).toList.Perm (arrOf st).toList/\(arrOf g).size=b/\iL κ (arrOf g) (bz g) f/\Run κ (arrOf g) f r) ?_ (λ_ _ hh=>hh) ?_) ?_)
   .rintro y c g _ hy ⟨rfl,B,C,J,u,H⟩;refine aK (lz ?_);have vO:∀{p:bJ},p=g->((ae,()):Option Unit×Unit)=(ae,())/\SB kz p/\(arrOf p).toList.Perm (arrOf st).toList/\(arrOf p).size=b/\iL κ (arrOf p) (bz p) f/\Run κ (arrOf p) f r:=λe=>by subst e;exact⟨rfl,B,C,J,u,H⟩
    by_cases hg:1<(bz g).size
    .obtain⟨z,q,d,v,D⟩:=g;have X:d.size > 1:=hg;dsimp only;rw[if_pos X,getElem?_pos d (d.size-2) ∅];obtain⟨u1,u2,u3⟩:=d[d.size-2];dsimp only;refine cM (λ_=>aQ (vO rfl)) λ_=>?_;refine aK (AH hO B (hA.of C) u ∅ (show d.size-2+1<d.size by lia) λp lK T Z _=>?_);exact aQ ⟨rfl,lK,T.perm.trans C,T.size.trans J,Z,H.keep T (.inr ∅)⟩
    .obtain⟨z,q,d,v,D⟩:=g;have X:¬d.size > 1:=hg;dsimp only;rw[if_neg X];exact aQ (vO rfl)
   .exact⟨rfl,M,gc,oO,G,hR⟩
   rintro c g ⟨rfl,B,C,J,u,H⟩;obtain⟨z,q,d,v,D⟩:=g;dsimp only;refine aK (nt (aK (nt (aQ ⟨f+r,rfl,∅,n2,⟨B.kind,B.failed⟩,C,J,?_⟩))));refine⟨?_,?_⟩
   .show kB 0 (PL ((d.modify (d.size-1) λx=>(x.1,x.2.1,_)).push (f,r,0))) _;rw[nN,xo];exact kB.app.mpr ⟨f,u.ch,rfl,n1,rfl⟩
   .show ∀e∈PL ((d.modify (d.size-1) λx=>(x.1,x.2.1,_)).push (f,r,0)),_;rw[nN,xo];intro e m;rcases iP.mp m with m|m
    .exact u.run e m
    .rw[iu.mp m];exact H
end
theorem um{n:Nat}(h:n<=1000000):n<bn:=yQ h (by decide)
theorem Run.sortedTo{κ:KeyKind}{a:Array Keyed}{n:Nat}(h:Run κ a 0 n)(c:n<=a.size):SortedToK κ a n:=by intro i j b d;have:=h i j _ _ (kJ _) b ∅ (getElem?_pos a i ∅) (getElem?_pos a j ∅);rw[rP (show i<a.size by lia),rP (show j<a.size by lia)];exact this
theorem KeysOf.all{κ:KeyKind}{a:Array Keyed}(h:KeysOf κ a):AllK κ a:=λi b=>h _ (by simp)
section
variable{P:aR}{w:aL}{A:aY}{E:aj->ao->Prop}{s:ao}
theorem Dv{κ:KeyKind}{kz:gI}{a:ag}{c:List aj}{n:Nat}{F:Fin->ao->Prop}(q:s.heap.get? a=aa (fM "list" c.toArray n))(J:KeysOf κ (kN c))(C:c.length<=1000000)(D:∀r:aC,(∀b o,b≠a->s.heap.get? b=aa o->r.get? b=aa o)->2<=c.length->io κ kz P w A {s with heap:=r}/\∀{E:aj->ao->Prop}{Q:gI->ao->Prop},Q kz {s with heap:=r}->ar (au P w) A (keyKind' c.toArray) Q E {s with heap:=r})(h:∀d:bJ,(arrOf d).Perm (kN c)->SortedToK κ (arrOf d) (kN c).size->F (.done (.ret .none)) {s with heap:=sortedHeap s.heap a c ((arrOf d).map (·.2))}):ar (au P w) A (Builtin.«list.sort» ⟨[.ref a],[]⟩) F E s:=by
 rw[list_sort_plain];have z:a<s.heap.objs.size:=bG q;have y:c.length<=bn:=lm (um C);refine ap (listItems_at q rfl ?_);refine ap (BS q rfl ?_);obtain⟨u,x⟩:∃u,(s.heap.update a (j_ λ_=>#[])).get? a=aa (fM "list" #[] u):=⟨_,get?_update_seq q (λ_=>#[])⟩
 refine ap (seqEpoch_at x rfl ?_);refine ap (wpAny_newTuple ?_ (hsz:=by rw[Ij];exact y));refine ap (BK ?_);refine kE ?_;have l:(((s.heap.update a (j_ λ_=>#[])).push (fM "tuple" c.toArray 0)).push (fM "list" #[] 0)).get? a=aa (fM "list" #[] u):=by rw[Heap.get?_push_ne _ _ _ (by rw[jl,HW];exact c0 (kL z)),Heap.get?_push_ne _ _ _ (by rw[HW];exact c0 z)];exact x
 have keep:∀b o,b≠a->s.heap.get? b=aa o->(((s.heap.update a (j_ λ_=>#[])).push (fM "tuple" c.toArray 0)).push (fM "list" #[] 0)).get? b=aa o:=λb o m e=>bE _ (bE _ (by rw[HU _ _ _ _ m];exact e));show ar (au P w) A _ F E {s with heap:=((s.heap.update a (j_ λ_=>#[])).push (fM "tuple" c.toArray 0)).push (fM "list" #[] 0)};dsimp only;have f:∀d:bJ,failedOf d=ae->(arrOf d).Perm (kN c)->SortedToK κ (arrOf d) (kN c).size ->
   ar (au P w) A (do
    let touched:=(<-seqEpoch a) != u
    Builtin.List.listUpdate (.ref a) λ_=>(arrOf d).map (·.2)
    if let aa e:=failedOf d then rule "list.sort.comparison-raised";throw e
    if touched then rule "list.sort.modified";raiseError "ValueError" "list modified during sort"
    ret .none) F E {s with heap:=((s.heap.update a (j_ λ_=>#[])).push (fM "tuple" c.toArray 0)).push (fM "list" #[] 0)}:=λd m p v=>by
  refine ap (seqEpoch_at l rfl ?_);refine ap (BS l rfl ?_ (hsz2:=by refine cq (l9 ((Array.size_map ..).trans (p.size_eq.trans (pairsOf_size _)))) (Nat.le_succ_of_le y)));rw[m];simp only[bne_self_eq_false,jK,if_false];exact aF (h d p v)
 by_cases g:c.toArray.size<2
 .rw[if_pos g,if_pos g];refine ap (aF ?_);refine ap (aF ?_);refine f (SortSt.mk' general' (c.toArray.zip c.toArray) #[] 7 ae) rfl (Array.Perm.refl _) λi j N G=>?_;have:i=j:=by rw[pairsOf_size]at G;rw[cO]at g;lia
  subst this;exact ma _
 .rw[if_neg g,if_neg g];obtain⟨H,I⟩:=D _ keep (by rw[cO]at g;lia);refine ap (I ?_);refine ap (f8 (Kd (κ:=κ) (kz:=kz) H (st:=SortSt.mk' kz (c.toArray.zip c.toArray) #[] 7 ae) (Q:=λ_ d=>SB kz d/\(arrOf d).toList.Perm (kN c).toList/\Run κ (arrOf d) 0 (kN c).size) ⟨rfl,rfl⟩ (KeysOf.all J) rfl λd M L K=>⟨M,L,K⟩) ?_ λ_ _ e=>e);rintro⟨⟨⟩,d⟩ s' ⟨rfl,m,p,v⟩;have B:(arrOf d).Perm (kN c):=B6.mpr p;exact f d m.failed B (v.sortedTo (by rw[B.size_eq];exact a6 _))
theorem Qx{g:KeyKind}(o:g.OneLt){a:ag}{d:List aj}{n:Nat}{F:Fin->ao->Prop}(m:s.heap.get? a=aa (fM "list" d.toArray n))(p:KeysOf g (kN d)) (j:∀c b rest,d=c::b::rest->keyKind' (c::b::rest).toArray=pure oneType') (l:d.length<=1000000)(h:∀i:bJ,(arrOf i).Perm (kN d)->SortedToK g (arrOf i) (kN d).size->F (.done (.ret .none)) {s with heap:=sortedHeap s.heap a d ((arrOf i).map (·.2))}):ar (au P w) A (Builtin.«list.sort» ⟨[.ref a],[]⟩) F E s :=
 Dv m p l (λr _ f=>⟨OneLt.ok o,λq=>by
  obtain⟨c,b,rest,rfl⟩:∃c b rest,d=c::b::rest:=by
   match d,f with
   |[],f=>simp at f
   |[_],f=>simp at f
   |c::b::rest,_=>exact⟨c,b,rest,rfl⟩
  rw[j _ _ _ rfl];exact aF q⟩) h
theorem E1{v:aj}{Q:aj->ao->Prop}(u:ar (au P w) A.in1 (collect v) (λd s1=>∃ss:List Str,eE d ss/\d.length<=1000000/\∀(i:aC) (out:Array aj) (f:List Str) (e:Nat),(∀b o,s1.heap.get? b=aa o->i.get? b=aa o) -> i.get? s1.heap.objs.size=aa (fM "list" out e)->eE out.toList f->f.Perm ss->sortedS f=ah->Q (.ref s1.heap.objs.size) {s1 with heap:=i}) E s):ar (au P w) A (call (.builtin "sorted") [v]) Q E s:=by refine HL kind_sorted plain_sorted entry_sorted (args_sorted1 _) ?_;unfold HM;refine ap (m:=checkCount "sorted" 1 1 _) (aF ?_);refine ap (aP u λd s1 ⟨ss,h,x,j⟩=>?_);refine ap (BK ?_);have g:(s1.heap.push (fM "list" d.toArray 0)).get? s1.heap.objs.size=aa (fM "list" d.toArray 0):=cG _ rfl;refine ap (kE (lv slot_list_sort ⟨_,g,rfl⟩ entry_list_sort (Qx strKind_oneLt g h.keysOf (λa b c e=>keyKind_strs (by rw[<-e];exact h)) x λy q p=>⟨_,rfl,?_⟩) (args_list_sort _)));obtain⟨f,C,B,z⟩:=sorted_out_str h q p;obtain⟨e,r⟩:=sortedHeap_at (out:=(arrOf y).map (·.2)) g;refine aF ⟨_,rfl,j _ _ f e (λb o l=>?_) r C B z⟩;have n:b<s1.heap.objs.size:=bG l;rw[sortedHeap_old (c0 n) (by rw[jl];exact kL n)];exact bE _ l
end
section
variable{X:Cx}
theorem Inv.sorted2{h:List (ag×Obj)}{g:St}{H:Hp}{s1:ao}{c:List Tx}{ss d:List Str}{f:aC}{a:Array aj}{e:Nat}(I:Inv X h g H s1)(l:ss=c.map tS)(s:c.length<=1000000)(k:∀b o,s1.heap.get? b=aa o->f.get? b=aa o) (j:f.get? s1.heap.objs.size=aa (fM "list" a e)) (r:eE a.toList d) (q:d.Perm ss) (p:sortedS d=ah):Inv X h g (upd H s1.heap.objs.size (.lst (b0 (aX c)))) {s1 with heap:=f}:=by
 have n:d.map (λz=>z.cps.toList)=aX c:=by
  refine rV ?_ (GY p);have:=q.map λz=>z.cps.toList;rw[l,dQ]at this;have m:(c.map ((λz:Str=>z.cps.toList) ∘ tS))=c:=by simp[sF,kt]
  rw[m]at this;exact this
 have i:bL (b0 (aX c)) a.toList:=by rw[<-n];exact AC r
 refine I.laid (t':=s1.toks) k (a6 _) ⟨?_,a.toList,e,i,?_⟩
 .rw[ya,F8];exact lm (um ∅)
 .rw[HN];exact j
theorem t7:fO X (.builtin "sorted") (λv H Q=>∃(p:ag) (d:List Tx),v=[.ref p]/\(cB X.K H p (b0 d)\/cp X.K H p (b0 d))/\d.length<=1000000/\∀l,H l=ae->Q (.ref l) (upd H l (.lst (b0 (aX d))))):=by
 intro G s x H v M Q I r h;obtain⟨p,d,rfl,f,F,q⟩:=h;obtain⟨u,rfl,y⟩:=vals1 r;cases y;have b:∀(T:String) (o:Obj) (a:List aj) (n:Nat),(T = "list"\/T = "tuple")->s.heap.get? p=aa o->o.cls=.type T->o.data=.seq a.toArray n->bL (b0 d) a ->
   ar (au X.prog X.w) X.A (call (.builtin "sorted") [Value.ref p]) (EP X G x Q) X.xe s:=λT o a n E j i g c=>by
  have D:=c.length;rw[ya]at D;have m:=um (n:=a.length) ∅;refine E1 (wpAny_collect_seq p E j i g (λN B=>?_) (by rw[cO];lia));have w:=I.kept (t':=s.toks) B;refine⟨_,wu c,by rw[Ij];lia,λO A P e k j L K J=>?_⟩;exact⟨.ref _,_,Inv.sorted2 w rfl F k j L K J,rfl,q _ w.fresh⟩
 rcases f with f|f
 .obtain⟨a,c,z,C⟩:=I.list f;obtain⟨o,e,i,n,g⟩:=z.isList;exact b "list" o a n (.inl rfl) e i g c
 .obtain⟨a,c,⟨o,e,i,n,g⟩,C⟩:=I.tuple f;exact b "tuple" o a n (.inr rfl) e i g c
end
end L2
namespace Pu
open L2
section
variable{X:Cx}{K:ax}
def j3:List PV->Option PO
 |[.lst b]=>(fY b).bind λa=>if a.length<=1000000 then aa (.lst (am (aX a)))else ae
 |[.tup b]=>(fY b).bind λa=>if a.length<=1000000 then aa (.lst (am (aX a)))else ae
 |_=>ae
theorem vb:lS K (λm H Q=>∃(p:ag) (b:List Tx),m=[.ref p]/\(cB K H p (b0 b)\/cp K H p (b0 b))/\b.length<=1000000/\∀l,H l=ae->Q (.ref l) (upd H l (.lst (b0 (aX b))))) j3:=λF H m z Q o w n e q=>by
 have f:∀{g:List PV}{c:List V}{a:ag},((fY g).bind λb=>if b.length<=1000000 then aa (PO.lst (am (aX b)))else ae)=aa o->aS K H F g c->(cB K H a c\/cp K H a c) ->
   ∃(p:ag) (b:List Tx),[V.ref a]=[.ref p]/\(cB K H p (b0 b)\/cp K H p (b0 b))/\b.length<=1000000/\∀l,H l=ae->Q (.ref l) (upd H l (.lst (b0 (aX b)))):=λ{g c a} e d s=>by
  cases h:fY g with
  |none=>rw[h]at e;cases e
  |some b=>
   rw[h]at e;simp only[g8]at e;split at e
   .rename_i y;cases e;rw[wy h]at d;obtain⟨rfl,u⟩:=Sm.mp d;refine⟨a,b,rfl,s,y,λl i=>q l F _ _ (Al.new0 i) (uf i (Sm.mpr ⟨rfl,λx r=>u x ((eI b).mem_iff.mp r)⟩)) (ux i w trivial)⟩
   .cases e
 unfold j3 at e;split at e
 .obtain⟨v,rfl,a,c,rfl,j,_,d⟩:=gU n;exact f e d (.inl (.inl j))
 .obtain⟨v,rfl,a,c,rfl,j,d⟩:=gU n;exact f e d (.inr (cp.of j))
 .cases e
end
end Pu
namespace L2
section
variable{X:Cx}
theorem MZ(x:X.calm=ah):fO X (.builtin "sorted") (λc H Q=>∃(p:ag) (a:List Tx),c=[.ref p]/\H p=aa (o6 X p a)/\a.length<4000/\∀l,H l=ae->Q (.ref l) (upd H l (.lst (b0 (aX a))))):=by
 intro C s g H c G Q I r h;obtain⟨p,a,rfl,v,K,q⟩:=h;obtain⟨u,rfl,j⟩:=vals1 r;cases j;obtain⟨S,_,_⟩:=(show cn X.prog X.w H s.heap p (o6 X p a)from I.hok p _ v)
 refine E1 (M3 (tD (I.ok.hd x)) S λi F ss E D M k A z=>?_);obtain⟨d,g',d',t',n⟩:=i;obtain rfl:g'=s.gens:=A;obtain rfl:n=s.os:=z;have f:Inv X C g H {s with heap:=d,drawn:=d',toks:=t'}:=by have:=Inv.call (ch:=[]) I (g':=s.gens) (d':=d') (t':=t') (Un.kept (fs:=gg X.stack) (ex:=[]) k) (I.hok.kept k) I.bare (λb y=>absurd y (by simp));exact this
 refine⟨ss,E,∅,λJ m L e o w b1 b2 B=>?_⟩;exact⟨.ref _,_,Inv.sorted2 (s1:={s with heap:=d,drawn:=d',toks:=t'}) (ss:=a.map tS) f rfl ∅ o w b1 (b2.trans D) B,rfl,q _ f.fresh⟩
end
end L2
namespace Pu
open L2
section
variable{X:Cx}{E:XK}{pin:List Nat}{e f:ay}{j m:ai->R (List PV)}{g p q d r n i:Pos}
def pV:List PV->Option PO
 |[.lst b]=>(fY b).bind λa=>if(fJ a).length<4000 then aa (.lst (am (aX (fJ a))))else ae
 |_=>ae
def Ku(X:Cx):List V->Hp->VK->Prop:=λb H Q=>∃(p:ag) (a:List Tx),b=[.ref p]/\H p=aa (o6 X p a)/\a.length<4000/\∀l,H l=ae->Q (.ref l) (upd H l (.lst (b0 (aX a))))
theorem Km:lS X.K (OL X (Ku X)) pV:=λF H M N Q P K C e q=>by
 unfold pV at e;split at e
 .obtain⟨v,rfl,a,O,rfl,J,_,A⟩:=gU C;obtain⟨u,L,f⟩:=Ik.mp e;rw[wy L]at A;obtain⟨rfl,G⟩:=Sm.mp A;split at f
  .rename_i B;cases f;refine⟨a,u,rfl,.inl J,B,λb I=>⟨b,fJ u,rfl,upd_same,B,λl h=>?_⟩⟩;have y:l≠b:=by rintro rfl;rw[upd_same]at h;cases h
   have s:H l=ae:=by rw[bh y]at h;exact h
   have al:Al F F H (upd (upd H b (o6 X b (fJ u))) l (.lst (b0 (aX (fJ u))))):=(Al.new0 I).trans (Al.new0 h);refine q l F _ (λc=>c=l) al ⟨⟨_,upd_same,Sm.mpr ⟨rfl,λx D=>G x ((xq _ _).mp ((eI _).mem_iff.mp D))⟩⟩,λc=>kM⟩ λc z=>?_;subst z;exact⟨s,λz=>y8 (K _ z) (λo w=>by rw[s]at w;cases w),_,upd_same,trivial⟩
  .cases f
 .cases e
theorem Eg(c:X.calm=ah)(u:DA X E [e] j)(o:X.mg "sorted"=ae)(a:X.mg "set"=ae)(s:Gl X "sorted":=by rfl)(b:Gl X "set":=by rfl)(h:n6 e=ak:=by rfl):DN X E (.Call (.Name "sorted" p) [.Call (.Name "set" q) [e] [] d] [] g) (dL pV j):=λF S x w H Q l v=>b_ (lZ (MZ c) s o n0 (jb (A2 (LO c) b a Mt ii (by decide) (by decide) (jR h) rfl) kn (jR rfl)) (by decide) (by decide) (jR rfl) rfl) (xz Km u l v)
end
end Pu
namespace Mx
def F5:Nat->Nat->Nat
 |0,x=>x
 |n+1,x=>F5 n (5*x+1)
end Mx
namespace L2
section
variable{X:Cx}{f:List (ag×Obj)}{d:St}{H:Hp}{s:ao}{a:ag}
theorem Inv.recast{p q:HO}(I:Inv X f d H s)(e:H a=aa p)(w:∀j,p≠.tup j)(D:∀o u,X.H₀ a≠aa (.frz o u))(C:∀l,p≠.tbl l)(B:∀x,p≠.own x)(new:cn X.prog X.w (upd H a q) s.heap a q):Inv X f d (upd H a q) s:=by
 have g:∀b,H b=ae->(upd H a q) b=ae:=λb i=>by rw[bh (by rintro rfl;rw[e]at i;cases i)];exact i
 refine⟨I.ok,I.os,I.bare,⟨I.base.keep,I.base.slot,λb o h n y=>g b (I.base.free b o h n y),I.base.there,λb j h=>?_,λb o u h=>?_,λb l h=>?_⟩,I.loc,I.cell,g _ I.free,λx c h=>g _ (I.freeC x c h),λp A=>?_,λb u i=>?_,I.len⟩
 .have z:=I.base.tups b j h;rw[bh (by rintro rfl;rw[e]at z;exact w j (cQ z))];exact z
 .have z:=I.base.frzs b o u h;rw[bh (by rintro rfl;exact D o u h)];exact z
 .have z:=I.base.tbls b l h;rw[bh (by rintro rfl;rw[e]at z;exact C _ (cQ z))];exact z
 .obtain⟨G,F,E⟩:=I.pin p A;exact⟨G,g _ F,E⟩
 .by_cases m:b=a
  .subst m;rw[upd_same]at i;cases i;exact new
  .rw[bh m]at i;refine(I.hok b u i).stay (λc v _ r=>r) (λc r=>?_) λc j r=>?_
   .rw[bh (by rintro rfl;rw[e]at r;exact B _ (cQ r))];exact r
   .rw[bh (by rintro rfl;rw[e]at r;exact w _ (cQ r))];exact r
def qV(o:Obj):Nat:=match o.data with
 |.dict _ ep=>ep
 |_=>0
end
end L2
namespace Pu
open L2
section
variable{X:Cx}{E:XK}{pin:List Nat}{e b c:ay}{de db f:ai->R PV}{d:Pos}
def mO(i:Nat):ai->R PV:=λa=>(aO (cY a i) a).bind λg a=>.ok (.int (g.length:Nat)) a
theorem Gv(i:Nat){y:Str}{p g:Pos}(q:X.mg "len"=ae)(x:X.N[i]?=aa y:=by rfl)(A:eJ X.env.scope y:=by eq_refl)(v:(y==("__debug__":Str))=ak:=by decide) (C:(y==("__classdict__":Str))=ak:=by decide) (u:Gl X "len":=by rfl)(l:aZ [.Name y g] X.env=(ak,bi (.Name y g) X.env)::aZ [] X.env:=by rfl) (B:(eO d (aZ [] X.env)).any (·.1)=ak:=by rfl):DE X E (.Call (.Name "len" p) [.Name y g] [] d) (mO i):=λF S m D H Q r h=>by
 unfold mO at h;cases j:cY m i with
 |none=>rw[j]at h;exact h.elim
 |some o=>rw[j]at h;obtain⟨a,n,z,w,s,_⟩:=r.dkAt (lc j);refine b_ (lZ K_ u q rfl (jb (fq x A v C) kn l) (by decide) (by decide) l B) ⟨_,z,a,n,rfl,w,?_⟩;rw[s.len];exact h F S H r (Grow.refl ..) _ rfl
def i8(neg:Bool)(i:Nat)(db:ai->R PV):ai->R PV:=λε=>(db ε).bind λk ε1=>(aO (cY ε1 i) ε1).bind λa ε1=>aO ((gT k).map λk=>.bl (neg^^(iZ a k).isSome)) ε1
theorem I_{i:Nat}(j:Bool){F:ag->Prop}{S:Nat->ag->Prop}{n:ai}{g:St}{H:Hp}{Q:VK}(K:DE X E b db)(G:aI X.K F S n g H)(h:Ok X.K E g F S H (i8 j i db n) (λpv _ N _ A=>∀v,aN X.K A N pv v->Q v A)):gf X b g H λy l=>∃x,g[i]?=aa (aa x)/\∃a o,x=.ref a/\mD l a y o/\Q (.bl (j^^o.isSome)) l:=by
 unfold i8 at h;refine K F S n g H _ G ((Ok.bind h).imp λk m B z l p O q u D=>?_);cases s:cY m i with
 |none=>rw[s]at q;exact q.elim
 |some I=>
  rw[s]at q;simp only[bV,R.bind_ok]at q;obtain⟨a,C,M,L,J,_⟩:=p.dkAt (lc s);cases r:gT k with
  |none=>rw[r]at q;exact q.elim
  |some w=>
   rw[r,oE]at q;rw[r9 D r];refine⟨.ref a,M,a,jx C w,rfl,mD.k L,?_⟩;rcases J.val w with⟨x,v,h1,h2,h3⟩|⟨h1,h2⟩
   .rw[h1]at q;rw[h2];exact q B z l p (Grow.refl ..) _ rfl
   .rw[h1]at q;rw[h2];exact q B z l p (Grow.refl ..) _ rfl
theorem Ar(i:Nat){y:Str}{a:Pos}(u:X.A.units+64<cLine)(m:DE X E b db)(n:X.N[i]?=aa y:=by rfl)(o:eJ X.env.scope y:=by eq_refl)(l:(y==("__debug__":Str))=ak:=by decide) (p:(y==("__classdict__":Str))=ak:=by decide) (j:p8 .In (.Name y a)=ak:=by rfl):DT X E (.Compare b [.In] [.Name y a] d) (dB (i8 ak i db)):=λF S s r H Q g h=>by refine va (Qd (M_ ∅ bM (fq n o l p)) j) ?_;have:=I_ (Q:=λv q=>∃k,v=.bl k/\Q k q) ak m g (tP h);simp only[vJ]at this;exact this
theorem pG(x:Str):tS x.cps.toList=x:=by simp[tS]
def tR(db f:ai->R PV):ai->R PO:=λh=>(db h).bind λk g=>(f g).bind λy a=>(aO (gT k) a).bind λi a=>.ok (.dK [(i,y)]) a
theorem LA(hb:DE X E b db)(Z:DE X E c f):DN X E (.Dict [aa b] [c] d) (tR db f):=λF S N I H Q v h=>by
 refine b_ (J0 (Fk bM bM GK) rfl rfl (by simp) (by simp)) λp l=>?_;have al:Al F F H (upd H p (.dK [])):=Al.new0 l;have Y:¬F p:=λz=>by obtain⟨o,q⟩:=v.ex p z;rw[l]at q;cases q
 have W:¬U S p:=λ⟨i,z⟩=>by obtain⟨_,_,o,q,_⟩:=v.foot i p z;rw[l]at q;cases q
 have B:Grow (U S) (U S) F F H (upd H p (.dK [])):=al.grow;refine hb F S N I _ _ (v.al al) ((Ok.bindB h B).imp λk n F1 S1 H1 J D h1 u O=>?_);obtain⟨e1,A,x⟩:=D.stay (upd_same:upd H p (.dK []) p=aa (.dK [])) W Y;refine Z F1 S1 n I H1 _ J ((Ok.bindB h1 (B.trans D)).imp λy M L S2 H2 T C m w r=>?_);obtain⟨K,g,a⟩:=C.stay e1 x A;cases G:gT k with
 |none=>rw[G]at m;exact m.elim
 |some j=>
  rw[G]at m;simp only[bV,R.bind_ok]at m;have s:aN X.K H2 L k u:=O.grow C J.fit;refine⟨K,[(j,w)],?_,by simp,?_⟩
  .rw[b8,yP,<-r9 s G]
  .rw[show si [] [(j,w)]=[(j,w)] from rfl];obtain⟨gl,fit,P⟩:=T.lay (o':=.dK [(j,w)]) K trivial g a;have g3:=((B.trans D).trans C).lay (o':=.dK [(j,w)]) l;refine m L S2 _ P g3 p (λb=>b=p) ⟨⟨_,upd_same,.cons ⟨rfl,r.grow gl fit⟩ .nil⟩,λb=>kM⟩ λb z=>?_;subst z;exact⟨l,g,a,_,upd_same,trivial⟩
end
end Pu
namespace L2
open Mx
theorem Rs{g q:Type}{f:g->q}{l:List q}{m:List g}(h:l.Perm (m.map f)):∃d:List g,l=d.map f/\d.Perm m:=by
 generalize c:m.map f=mm at h
 induction h generalizing m with
 |nil=>
  cases m with
  |nil=>exact⟨[],rfl,.nil⟩
  |cons=>cases c
 |cons x _ w=>
  cases m with
  |nil=>cases c
  |cons y r=>rw[b8]at c;injection c with o n;obtain⟨d,e,p⟩:=w n;exact⟨y::d,by rw[b8,<-e,o],p.cons y⟩
 |swap x y l=>
  match m,c with
  |a::b::r,c=>simp only[b8,lB]at c;obtain⟨o,n,z⟩:=c;exact⟨b::a::r,by simp[o,n,z],.swap ..⟩
 |trans _ _ j i=>obtain⟨C,A,s⟩:=i c;obtain⟨v,B,u⟩:=j A.symm;exact⟨v,B,u.trans s⟩
theorem least{p:Nat->Prop}:∀(n:Nat),p n->∃m,m<=n/\p m/\∀k,k<m->¬p k
 |0,h=>⟨0,a6 _,h,λk d=>absurd d (Nat.not_lt_zero _)⟩
 |n+1,h=>by
  by_cases z:∃m,m<=n/\p m/\∀k,k<m->¬p k
  .obtain⟨m,a,b,c⟩:=z;exact⟨m,∅,b,c⟩
  .refine⟨n+1,a6 _,h,λk d f=>z ?_⟩;obtain⟨m,a,b,c⟩:=least k f;exact⟨m,∅,b,c⟩
section
variable{P:aR}{w:aL}{A:aY}{E:aj->ao->Prop}{s:ao}
structure Keyd(P:aR)(w:aL)(K:Type)[DecidableEq K] where
 is:aC->K->aj->Prop
 hash:K->Int
 room:aY->Prop
 keep:∀{h h':aC}{k:K}{v:aj},is h k v->(∀b o,h.get? b=aa o->o.cls=.type "tuple"->h'.get? b=aa o)->is h' k v
 ref:∀{h:aC}{k:K}{v:aj},is h k v->∃a o,v=.ref a/\h.get? a=aa o
 eqBool:∀{A:aY}{E:aj->ao->Prop}{s:ao}{x y:K}{u v:aj}{Q:Bool->ao->Prop},room A->is s.heap x u->is s.heap y v->Q (decide (x=y)) s->ar (au P w) A (PySem.eqBool u v) Q E s
 quiet:∀{A:aY}{E:aj->ao->Prop}{s:ao}{k:K}{v:aj}{Q:Bool->ao->Prop},is s.heap k v->Q ah s->ar (au P w) A (eqIsQuiet 8 v) Q E s
 cls:∀{A:aY}{E:aj->ao->Prop}{s:ao}{k:K}{v:aj}{Q:Bool->ao->Prop},is s.heap k v->Q ak s->ar (au P w) A (ofAClassStatement 8 v) Q E s
 hbv:∀{A:aY}{E:aj->ao->Prop}{s:ao}{k:K}{v:aj}{Q:Bool->ao->Prop},is s.heap k v->Q ak s->ar (au P w) A (hashByValue 8 v) Q E s
variable{K:Type}[DecidableEq K]{c:Keyd P w K}
end
section
variable{P:aR}{w:aL}{A:aY}{E:aj->ao->Prop}{s:ao}
theorem tup_uniq{h:aC}{a:ag}{x y:Array aj}(g:IsTup h a x)(f:IsTup h a y):x=y:=by
 obtain⟨o,e,_,n,d⟩:=g;obtain⟨i,b,_,j,c⟩:=f;rw[e]at b;cases b;rw[d]at c;cases c;rfl
theorem strs_uniq:∀{a:List aj}{x y:List Str},eE a x->eE a y->x=y
 |_,_,_,.nil,.nil=>rfl
 |_,_,_,.cons z t h,.cons _ _ b=>by rw[strs_uniq h b]
theorem strs_len{a:List aj}{b:List Str}(h:eE a b):a.length=b.length:=h.length
theorem tup_kept{h d:aC}{a:ag}{x:Array aj}(f:IsTup h a x)(k:∀b o,h.get? b=aa o->o.cls=.type "tuple"->d.get? b=aa o):IsTup d a x:=by obtain⟨o,e,c,r⟩:=f;exact⟨o,k a o e c,c,r⟩
end
def ltL(a b:List Tx):Bool:=decide (a<b)
theorem ltL_cons(x y:Tx)(a ys:List Tx):ltL (x::a) (y::ys)=if x=y then ltL a ys else decide (x<y):=by
 unfold ltL;by_cases h:x=y
 .subst h;rw[if_pos rfl,jG,decide_eq_true_iff,decide_eq_true_iff,B7];exact⟨λz=>z.elim (λq=>absurd q (List.lt_irrefl _)) λq=>q.2,λq=>.inr ⟨rfl,q⟩⟩
 .rw[if_neg h,jG,decide_eq_true_iff,decide_eq_true_iff,B7];exact⟨λz=>z.elim id λq=>absurd q.1 h,.inl⟩
def ordL:KeyOrd where
 α:=List Tx
 blt:=ltL
 irrefl:=λa=>decide_eq_false (List.lt_irrefl a)
 trans:=λa b c f d=>decide_eq_true (List.lt_trans (of_decide_eq_true f) (of_decide_eq_true d))
 negTrans:=λa b c h=>by
  unfold ltL;by_cases g:a<b
  .exact .inl (decide_eq_true g)
  .have i:b<=a:=List.not_lt.mp g;exact .inr (decide_eq_true (List.lt_of_le_of_lt i (of_decide_eq_true h)))
 total:=λa b f d=>List.le_antisymm (List.not_lt.mp (of_decide_eq_false d)) (List.not_lt.mp (of_decide_eq_false f))
section
open PySem.SeqAt
open PySem.AutoSeq1 (wpAny_loadPart')
open PySem.MeetsSeq PySem.MeetsSeq2 PySem.MeetsSeq3
def cpsL(a:List Str):List Tx:=a.map λz=>z.cps.toList
theorem cps_inj{x y:Str}(h:x.cps.toList=y.cps.toList):x=y:=by rw[<-pG x,<-pG y,h]
end
section
variable{P:aR}{w:aL}{A:aY}{E:aj->ao->Prop}{s:ao}
theorem sorted_genK{v:aj}{Q:aj->ao->Prop}(hu:A.units+32<cLine)(N:ar (au P w) A.in1 (collect v) (λa c=>∃(κ:KeyKind) (kz:gI),(∀v∈a,∃k,κ.keyOf v=aa k)/\a.length<=1000000 /\ (∀(D:aY) (f:aC),D.units+8<cLine->(∀b o,c.heap.get? b=aa o->f.get? b=aa o)->2<=a.length->io κ kz P w D {c with heap:=f}/\∀{E:aj->ao->Prop}{Q:gI->ao->Prop},Q kz {c with heap:=f}->ar (au P w) D (keyKind' a.toArray) Q E {c with heap:=f}) /\ ∀(f:aC) (out:Array aj) (e:Nat),(∀b o,c.heap.get? b=aa o->f.get? b=aa o) -> f.get? c.heap.objs.size=aa (fM "list" out e)->out.toList.Perm a->out.toList.Pairwise (λx y=>∀p q,κ.keyOf x=aa p->κ.keyOf y=aa q->κ.blt q p=ak)->Q (.ref c.heap.objs.size) {c with heap:=f}) E s):ar (au P w) A (call (.builtin "sorted") [v]) Q E s:=by
 refine HL kind_sorted plain_sorted entry_sorted (args_sorted1 _) ?_;unfold HM;refine ap (m:=checkCount "sorted" 1 1 _) (aF ?_);refine ap (aP N λa c ⟨κ,kz,O,T,n,C⟩=>?_);refine ap (BK ?_);have r:(c.heap.push (fM "list" a.toArray 0)).get? c.heap.objs.size=aa (fM "list" a.toArray 0):=cG _ rfl;refine ap (kE (lv slot_list_sort ⟨_,r,rfl⟩ entry_list_sort (Dv (κ:=κ) (kz:=kz) r (λp g=>?_) T (λf k S=>n _ f (by simp;lia) (λb o e=>k b o (c0 (bG e)) (bE _ e)) S) λd g L=>⟨_,rfl,?_⟩) (args_list_sort _)))
 .have:p.1∈a:=by
   have H:p∈(a.toArray.zip a.toArray).toList:=g;rw[Array.toList_zip]at H;exact yJ H |>.1
  exact O _ this
 .obtain⟨e,M⟩:=sortedHeap_at (out:=(arrOf d).map (·.2)) r;have l:(arrOf d).toList.Perm (a.zip a):=by
   have:=B6.mp g;have e0:(kN a).toList=a.zip a:=by show(a.toArray.zip a.toArray).toList=_;rw[Array.toList_zip]
   rwa[e0]at this
  have same:∀p∈(arrOf d).toList,p.1=p.2:=λp g=>by have:=l.mem_iff.mp g;rw[<-List.map_id a,List.zip_map']at this;obtain⟨x,_,rfl⟩:=cb.mp this;rfl
  have Z:((arrOf d).map (·.2)).toList.Perm a:=by rw[Array.toList_map];have:=l.map (·.2);rwa[Il (a6 _)]at this
  refine aF ⟨_,rfl,C _ _ e (λb o G=>?_) M Z ?_⟩
  .have n:b<c.heap.objs.size:=bG G;rw[sortedHeap_old (c0 n) (by rw[jl];exact kL n)];exact bE _ G
  .rw[Array.toList_map];refine yV.mpr (Ib.mpr λi j F z bK p q K J=>?_);have I:j<(kN a).size:=by rw[<-g.size_eq];simpa using z
   have B:i<(arrOf d).size:=by simpa using F
   have u:j<(arrOf d).size:=by simpa using z
   have h:=L i j (lm bK) I;rw[rP B,rP u]at h;have Y:=same _ (BN F);have f2:=same _ (BN z);have X:kO κ (arrOf d)[i]=p:=by
    unfold kO;have:(arrOf d)[i].1=(arrOf d).toList[i].2:=by rw[<-Y];simp
    rw[this,K];rfl
   have W:kO κ (arrOf d)[j]=q:=by
    unfold kO;have:(arrOf d)[j].1=(arrOf d).toList[j].2:=by rw[<-f2];simp
    rw[this,J];rfl
   rw[X,W]at h;exact h
end
section
variable{X:Cx}
abbrev PrK:=Int×List Tx
end
end L2
namespace Pu
open L2
section
variable{X:Cx}{E:XK}{e:ay}{c:ai->R (List PV)}{b p q a:Pos}
def prV(k:PrK):PV:=.tup [.int k.1,.tup (am k.2)]
end
end Pu
namespace L2
section
variable{X:Cx}{l:List ay}{k:Nat}{j:Pos}
def AW:V->Hp->St->Prop:=λv H a=>∃p x y,v=.ref p/\H p=aa (.tup [x,y])/\a=[aa x,aa y]
variable{f:eC}{x y:Str}{g:List Str}{i:List Nat}
theorem Ji{M L:Pos}(B:iG X f x g i)(O:X.calm=ah)(D:g[1]?=aa y)(J:f.names.lookup y=aa .local):∀C m o A z,PG (bx X f g C m o A z) (.Tuple [.Name x M,.Name y L] k j) λv w H Q=>∃E,E.length=1+1/\w.length=g.length/\AW v H E/\Q (E++w.drop (1+1)) H:=by
 intro C m o A z S s w H v u Q I r h;obtain⟨E,_,P,⟨p,a,b,rfl,N,rfl⟩,q⟩:=h;have W:Loc (bx X f g C m o A z).env.scope x:=B.loc.elim (λh=>.inl (vz h)) (λh=>.inr (xr h));have T:(bx X f g C m o A z).fn x=ah\/(bx X f g C m o A z).env.scope.names.lookup x=aa .local:=B.loc.elim (λh=>.inr (vz h)) (λh=>.inl (by show(f.names.lookup x == aa .cell)=ah;rw[h];rfl));have F:(bx X f g C m o A z).N[0]?=aa x:=by show g[0]?=aa x;rw[<-List.head?_eq_getElem?];exact B.hd
 have K:Q (((w.set 0 (aa a)).set 1 (aa b))) H:=by
  match w,P,q with
  |c::d::t,_,q=>exact q
  |[c],G,_=>rw[oG (by rw[<-G];simp)]at D;cases D
  |[],G,_=>rw[oG (by rw[<-G];simp)]at D;cases D
 refine Pj (X:=bx X f g C m o A z) (n:=2) O (G7 (vj (X:=bx X f g C m o A z) B.nd F W T) (G7 (vj (X:=bx X f g C m o A z) B.nd (show(bx X f g C m o A z).N[1]?=aa y from D) (.inl (vz J)) (.inr (vz J))) O9)) rfl rfl S s w H _ u Q I r ⟨p,[a,b],rfl,cp.of N,rfl,a,[b],rfl,b,[],rfl,rfl,K⟩
end
end L2
namespace Pu
open L2
def lY{f:Type}(b:List Nat)(d:ai->R f)(x y:PV):ai->R f:=λa=>(aO (cf a b) a).bind λc _=>(aO (if(cx c).Nodup then eM a (.inl x::.inl y::c)else ae) a).bind λg _=>fj a (.inl x::.inl y::c) (d g)
def nY(a:List Nat)(dt:ai->R Bool)(de:ai->R PV):List (PV×PV)->List PV->ai->R (List PV)
 |[],c,f=>.ok c f
 |x::g,c,f=>(bC (lY a dt x.1 x.2 f)).bind λk b=>match k with
  |true=>(bC (lY a de x.1 x.2 b)).bind λy d=>nY a dt de g (c++[y]) d
  |false=>nY a dt de g c b
def pK(cap:List Nat)(d:ai->R (List (PV×PV)))(dt:ai->R Bool)(de:ai->R PV):ai->R PO:=λε=>(d ε).bind λc ε1=>(nY cap dt de c [] ε1).bind λb a=>.ok (.lst b) a
theorem DQ{K:ax}{E:XK}{F:ag->Prop}{S:Nat->ag->Prop}{s:ai}{f:St}{H:Hp}{L:Type}{b:List Nat}{d:ai->R L}{x y:PV}{v w:V}{C:L->ai->(ag->Prop)->(Nat->ag->Prop)->Hp->Prop}(r:aI K F S s f H) (T:aN K H F x v) (Q:aN K H F y w) (h:Ok K E f F S H (bC (lY b d x y s)) C):∃O l,aI K F O l (aa v::aa w::eY f b) H/\Ok K E0 (aa v::aa w::eY f b) F O H (d l) (λa _ q _ p=>∃j B,aI K q B j f p/\Grow (U S) (U B) F q H p/\C a j q B p):=by
 unfold lY at h;cases I:cf s b with
 |none=>rw[I]at h;exact h.elim
 |some g=>
  rw[I]at h;simp only[bV,R.bind_ok]at h;by_cases D:(cx g).Nodup
  .rw[if_pos D]at h;cases A:eM s (.inl x::.inl y::g)with
   |none=>rw[A]at h;exact h.elim
   |some l=>
    rw[A]at h;simp only[bV,R.bind_ok]at h;obtain⟨u,Z,Y⟩:=tJ r I;have o:iD K f F H (.inl x::.inl y::g) (v::w::u):=⟨v,w::u,rfl,T,w,u,rfl,Q,Z⟩
    have n:aa v::aa w::eY f b=(v::w::u).map aa:=by rw[Y];rfl
    have m:(cx (.inl x::.inl y::g)).Nodup:=D;refine⟨k7 (.inl x::.inl y::g) S,l,by rw[n];exact r.cal o A m,?_⟩;rw[n];cases G:d l with
    |no=>rw[G]at h;exact h.elim
    |er c J=>
     rw[G]at h;unfold fj at h;dsimp only at h;by_cases i:eZ (.inl x::.inl y::g) J=ah
     .rw[if_pos i]at h;exact h.elim
     .rw[if_neg i]at h;exact h.elim
    |ok a J=>
     rw[G]at h;intro q B p W X;unfold fj at h;dsimp only at h;by_cases i:eZ (.inl x::.inl y::g) J=ah
     .rw[if_pos i]at h;obtain⟨P,M,N,_⟩:=r.called o A m W X (λ_ z=>z) (mI i);exact⟨_,P,M,N,h q P p M N⟩
     .rw[if_neg i]at h;exact h.elim
  .rw[if_neg D]at h;exact h.elim
def GJ(J:It)(b:List (V×V))(R:Hp->Prop):Prop :=
 ∀H,R H->∀i,(∀x,b[i]?=aa x->J.go i H/\∀v a,J.yld i H v a->∃p,v=.ref p/\a p=aa (.tup [x.1,x.2])/\(a=H\/(H p=ae/\a=upd H p (.tup [x.1,x.2]))))/\(i=b.length->J.stop i H)
def rT(K:ax)(H:Hp)(F:ag->Prop)(b:List (PV×PV))(a:List (V×V)):Prop:=aS K H F (b.map (·.1)) (a.map (·.1))/\aS K H F (b.map (·.2)) (a.map (·.2))
def As(X:Cx)(E:XK)(o a:ay)(d:ai->R (List (PV×PV))):Prop:=∀F S j c H l,aI X.K F S j c H ->
 Ok X.K E c F S H (d j) (λp _ n q h=>∀J f m,rT X.K h n p f->f.length<=bn->GJ J f m->(∀g i b,Grow (U q) (U g) n i h b->m b)->l J h)->lh X o a c H l
section
variable{X:Cx}{E:XK}{c:eC}{x y:Str}{d:List Str}{cap:List Nat}
theorem J3{elt M:ay}{tg:ay}{ifs:List ay}{j:Nat}{di:ai->R (List (PV×PV))}{dt:ai->R Bool}{de:ai->R PV}(hi:As X E tg M di)(ht:∀C f g n r,DF (bx X c d C f g n r) E0 ifs dt) (he:∀C f g n r,DE (bx X c d C f g n r) E0 elt de){F:ag->Prop}{S:Nat->ag->Prop}{ε:ai}{s:St}{H:Hp}{Q:VK} (rl:aI X.K F S ε s H) (h:Ok X.K E s F S H (pK cap di dt de ε) (λpo _ D S' w=>∀a Sa,ef X.K w D po a Sa->(∀b,Sa b->H b=ae/\¬D b/\¬U S' b/\∃o,w b=aa o/\dY o)->Q (.ref a) w)):yC (lh X tg M) AW 1 (λs H Q=>∀C f g n r,mL (bx X c d C f g n r) ifs s H Q) (λs H Q=>∀C f g n r,gf (bx X c d C f g n r) elt s H Q) (j::cap) s H Q:=by
 refine hi F S ε s H _ rl ((Ok.bind h).imp λA ε1 T S1 H1 r1 g1 h1 J vs RR rs hz hw keep l hl=>?_);have h1:=h1.bind;have hvl:vs.length=A.length:=by have:=rs.1.len;simpa using this
 have a0:Al T T H1 (upd H1 l (.lst [])):=Al.new0 hl;have nF1:¬T l:=λz=>by obtain⟨o,q⟩:=r1.ex l z;rw[hl]at q;cases q
 have nS1:¬U S1 l:=λ⟨i,z⟩=>by obtain⟨_,_,o,q,_⟩:=r1.foot i l z;rw[hl]at q;cases q
 have hH:H l=ae:=kX g1 hl;refine⟨λi m K w=>m=A.length-i/\i<=A.length/\∃D S' ε' aA,aI X.K D S' ε' s w/\Grow (U S1) (U S') T D H1 w/\w l=aa (.lst K)/\¬D l/\¬U S' l/\aS X.K w D aA K/\K.length<=i /\ Ok X.K E s T S1 H1 (nY cap dt de (A.drop i) aA ε') (λys' G I S2 P=>Ok X.K E s I S2 P (R.ok (PO.lst ys') G) (λpo _ D S' w=>∀a Sa,ef X.K w D po a Sa->(∀b,Sa b->H b=ae/\¬D b/\¬U S' b/\∃o,w b=aa o/\dY o)->Q (.ref a) w)),⟨_,rfl,kJ _,T,S1,ε1,[],r1.al a0,a0.grow,upd_same,nF1,nS1,rfl,a6 _,h1⟩,?_⟩;rintro i m K H0 ⟨rfl,hi,I,S2,G,aA,r0,g0,el0,nF2,nS2,B,hyl,q2⟩;have RH:=keep S2 I H0 g0;by_cases bu:i<A.length
 .obtain⟨v,hv⟩:∃v,vs[i]?=aa v:=⟨_,fh ∅⟩
  obtain⟨go,yl⟩:=(hw H0 RH i).1 v hv;refine .inr ⟨go,λv' P yy=>?_⟩;obtain⟨p,e1,e2,e3⟩:=yl v' P yy;subst e1;refine⟨[aa v.1,aa v.2],rfl,⟨p,_,_,rfl,e2,rfl⟩,?_⟩;have al:Al I I H0 P:=by
   rcases e3 with rfl|⟨e3,rfl⟩
   .exact Al.refl ..
   .exact Al.new0 e3
  have r2:=r0.al al;have g2:Grow (U S1) (U S2) T I H1 P:=g0.trans al.grow;have el:P l=aa (.lst K):=al.same _ _ el0;have L:=al.reps B;show ∀C f g n r,mL (bx X c d C f g n r) ifs (aa v.1::aa v.2::eY s cap) P _;obtain⟨Z,hx,rx⟩:=rs.1.back (show(vs.map (·.1))[i]?=aa v.1 by rw[eD,hv];rfl);obtain⟨Y,hy,ry⟩:=rs.2.back (show(vs.map (·.2))[i]?=aa v.2 by rw[eD,hv];rfl);have n:A[i].1=Z:=by rw[eD,fh bu]at hx;exact cQ hx
  have ey:A[i].2=Y:=by rw[eD,fh bu]at hy;exact cQ hy
  have ed:A.drop i=(Z,Y)::A.drop (i+1):=by rw[qj bu];congr 1;exact Prod.ext n ey
  rw[ed]at q2;have rx2:=rx.grow g2 r1.fit;have ry2:=ry.grow g2 r1.fit;have q3:=Ok.bindB q2 g2;obtain⟨Sb,ss,rb,okb⟩:=DQ r2 rx2 ry2 q3;intro C f g n r;refine ht C f g n r I Sb ss _ P _ rb (okb.imp λb _ F3 _ H3 _ _ ⟨ε3,S3,r3,N,q4⟩=>?_);obtain⟨el3,nF3,nS3⟩:=N.stay el nS2 nF2;cases b with
  |false=>exact mE ⟨_,∅,rfl,bu,F3,S3,ε3,aA,r3,g2.trans N,el3,nF3,nS3,L.grow N r2.fit,∅,q4⟩
  |true=>refine mM ?_;have q5:Ok X.K E s T S1 H1 ((bC (lY cap de Z Y ε3)).bind λy G=>nY cap dt de (A.drop (i+1)) (aA++[y]) G) _:=q4;obtain⟨Sc,sc,rc,okc⟩:=DQ r3 (rx2.grow N r2.fit) (ry2.grow N r2.fit) (Ok.bindB q5 (g2.trans N));show ∀C f g n r,gf (bx X c d C f g n r) elt (aa v.1::aa v.2::eY s cap) H3 _;intro C f g n r;refine he C f g n r F3 Sc sc _ H3 _ rc (okc.imp λy _ F4 _ H4 _ _ ⟨ε4,S4,r4,g4,q6⟩ u ru=>?_);obtain⟨el4,nF4,nS4⟩:=g4.stay el3 nS3 nF3;have W:=(L.grow N r2.fit).grow g4 r3.fit;obtain⟨gl,O,r5⟩:=r4.lay (o':=.lst (K++[u])) el4 trivial nF4 nS4;have g5:=((g2.trans N).trans g4).lay (o':=.lst (K++[u])) hl;refine⟨el4,?_,_,∅,rfl,bu,F4,S4,ε4,aA++[y],r5,g5,upd_same,nF4,nS4,(W.grow gl O).app (.one (ru.grow gl O)),by simp;lia,q6⟩;lia
 .have e:i=A.length:=∅
  subst e;refine .inl ⟨(hw H0 RH _).2 hvl.symm,?_⟩;rw[y3]at q2;exact q2 I S2 H0 r0 g0 I S2 H0 r0 (Grow.refl ..) l (λb=>b=l) ⟨⟨K,el0,B⟩,λb=>kM⟩ λb z=>by subst z;exact⟨hH,nF2,nS2,_,el0,trivial⟩
def jw{b a:Type}(f:Nat->a):Nat->List b->List (a×b)
 |_,[]=>[]
 |n,x::g=>(f n,x)::jw f (n+1) g
theorem z9{g b:Type}(f:Nat->b):∀(n:Nat) (a:List g),(jw f n a).map (·.2)=a
 |_,[]=>rfl
 |n,x::a=>by show x::_=_;rw[z9 f (n+1) a]
theorem GW{g b:Type}(f:Nat->b):∀(n:Nat) (a:List g) (i:Nat),(jw f n a)[i]?=(a[i]?).map λx=>(f (n+i),x)
 |_,[],i=>rfl
 |n,x::a,0=>rfl
 |n,x::a,i+1=>by show(jw f (n+1) a)[i]?=(a[i]?).map _;rw[GW f (n+1) a i,show n+1+i=n+(i+1) by lia]
theorem Ae{g b:Type}(f:Nat->b):∀(n:Nat) (a:List g),(jw f n a).length=a.length
 |_,[]=>rfl
 |n,x::a=>by show(jw f (n+1) a).length+1=_;rw[Ae f (n+1) a];rfl
def uQ(a:List PV):List (PV×PV):=jw (λi=>PV.int (i:Nat)) 0 a
theorem FA{K:ax}{H:Hp}{F:ag->Prop}:∀(n:Nat) {b:List PV}{a:List V},aS K H F b a->aS K H F ((jw (λi=>PV.int (i:Nat)) n b).map (·.1)) ((jw (λi=>V.int i) n a).map (·.1))
 |_,[],a,h=>by cases h;rfl
 |n,x::b,a,⟨v,r,e,g,f⟩=>by subst e;exact⟨_,_,rfl,rfl,FA (n+1) f⟩
end
section
variable{X:Cx}{E:XK}{pin:List Nat}{a:eC}{x z:Str}{N':List Str}{cap:List Nat}{d b:ay}{y:Str}{n m l o g f:Pos}{k j:Nat}{p:ai->R (List (PV×PV))}{dt:ai->R Bool}{de:ai->R PV}{c:List ay}
theorem QI(i:Nat)(hN:X.N.Nodup)(B:iG X a x N' (j::cap))(J:X.calm=ah)(Y:As X E (.Tuple [.Name x n,.Name z m] k l) b p)(O:∀C q r v u,DF (bx X a N' C q r v u) E0 c dt) (he:∀C q r v u,DE (bx X a N' C q r v u) E0 d de) (M:N'[1]?=aa z:=by rfl) (W:a.names.lookup z=aa .local:=by rfl)(T:i∉pin:=by decide) (L:X.N[i]?=aa y:=by rfl) (N:Loc X.env.scope y:=by first|exact Or.inl rfl|exact Or.inr rfl) (K:jj (.ListComp d [⟨.Tuple [.Name x n,.Name z m] k l,b,c,0⟩] a g) (aa (.Name y o)) f.line X.env=pure ah:=by rfl)(Z:X.fn y=ah\/X.env.scope.names.lookup y=aa .local:=by first|exact .inl rfl|exact .inr rfl) (P:∀x,lp b X.env x=pure x:=by intro _;rfl):DS X E pin (.Assign [.Name y o] (.ListComp d [⟨.Tuple [.Name x n,.Name z m] k l,b,c,0⟩] a g) f) (bQ i (dF (pK cap p dt de))):=λF S ε w H D G h=>
 fX (E2 (k:=1) (tgf:=AW) (wi:=lh X (.Tuple [.Name x n,.Name z m] k l) b) (ts:=λw H Q=>∀C q r v u,mL (bx X a N' C q r v u) c w H Q) (te:=λw H Q=>∀C q r v u,gf (bx X a N' C q r v u) d w H Q) B (by simp) J vh (Ji B J M W)
  (λC q r v u A s w H Q I h=>(h C q r v u).run A s I) (λC q r v u A s w H Q I h=>(h C q r v u).run A s I) hN L N K Z P) (J3 Y O he G (Ds T G h))
end
end Pu
namespace PySem
open PySem.AutoSeq1 (wpAny_loadPart')
section
variable{b:aR}{w:aL}{A:aY}{E:aj->ao->Prop}{s:ao}
theorem Kt{a t:ag}{i:Nat}{items}{x:aj}{Q:aj->ao->Prop}(f:s.heap.IsTupleIter a t i)(m:s.heap.IsTuple t items)(l:items[i]?=aa x)(p:∀g,g.IsTupleIter a t (i+1)->kD a s.heap g->Q x {s with heap:=g}):ar (au b w) A (B8 (.ref a)) Q E s:=by obtain⟨o,d,n,c⟩:=id f;obtain⟨q,j,_,r,h⟩:=m;unfold B8;refine ap (vt (name:=sy "__next__") f.typeIs B9 (lv B9 f.typeIs F.entry_tuple_iterator_next ?_ (F.args_tuple_iterator_next_1 _)));show ar _ _ (field (.ref a) 0 >>= _) _ _ s;refine ap (l8 d c (x:=.ref t) rfl ?_);show ar _ _ (if(Value.ref t == Value.none)=ah then _ else _) _ _ s;rw[if_neg (show ¬((Value.ref t == Value.none)=ah)from eT)];show ar _ _ (field (.ref a) 1 >>= _) _ _ s;refine ap (l8 d c (x:=.int i 0) rfl ?_);show ar _ _ (seqItems? (.ref t) >>= _) _ _ s;refine ap (wpAny_seqItems j h ?_);simp only[kH,l];refine ap (nj d c (by simp) (aF ⟨x,rfl,aF (p _ ?_ (oD ..))⟩));exact⟨_,nc _ d (y4 (ql c _)),(HV ..).trans n,by rw[ql c];simp[dr]⟩
theorem LC{c t:ag}{i:Nat}{items}{Q:aj->ao->Prop}(j:A.handled=ae)(d:s.heap.IsTupleIter c t i)(q:s.heap.IsTuple t items)(p:items[i]?=ae)(r:∀h e,Heap.ExtBut c s.heap h->(∃o,h.get? e=aa o/\o.cls=.type "StopIteration")->E (.ref e) {s with heap:=h}):ar (au b w) A (B8 (.ref c)) Q E s:=by
 obtain⟨o,f,y,g⟩:=id d;obtain⟨u,n,_,v,l⟩:=q;unfold B8;refine ap (vt (name:=sy "__next__") d.typeIs B9 (lv B9 d.typeIs F.entry_tuple_iterator_next ?_ (F.args_tuple_iterator_next_1 _)));show ar _ _ (field (.ref c) 0 >>= _) _ _ s;refine ap (l8 f g (x:=.ref t) rfl ?_);show ar _ _ (if(Value.ref t == Value.none)=ah then _ else _) _ _ s;rw[if_neg (show ¬((Value.ref t == Value.none)=ah)from eT)];show ar _ _ (field (.ref c) 1 >>= _) _ _ s;refine ap (l8 f g (x:=.int i 0) rfl ?_);show ar _ _ (seqItems? (.ref t) >>= _) _ _ s;refine ap (wpAny_seqItems n l ?_);simp only[kH,p];refine ap (nh (ap (nj f g (by simp) ?_)));show ar _ _ (qh (.type "StopIteration") [] >>= _) _ _ _;refine ap ?_;simp only[qh,newTuple];refine ap (jI ?_ (by size_fits));refine ap (m:=vG _ _) (BP (a:=Value.none) (by first|rfl | (simp only[vG];rfl)) ?_);refine jI ?_ (by size_fits);simp only[vE];refine ap (wpAny_handled ?_)
 first|rw[show A.in1.handled=ae from j]|rw[j]
 refine ap (aF (wpAny_throw ?_));exact r _ _ (((oD ..).extBut.push _).push _) ⟨_,cG _ rfl,rfl⟩
end
theorem Mp(l:ag)(a:Array aj)(n:Nat)(i:Option ag)(o:Array (Option aj)):Meets (Builtin.«enumerate.__new__» ⟨[.type "enumerate",.ref l],[]⟩) (λ_ R s=>s.heap.get? l=aa {cls:=.type "tuple",dict:=i,data:=.seq a n,slots:=o} /\ R (.ok (.ret (.ref (s.heap.push {cls:=.type "tuple_iterator",data:=.fields #[.ref l,.int 0 0]}).objs.size))) {s with heap:=(s.heap.push {cls:=.type "tuple_iterator",data:=.fields #[.ref l,.int 0 0]}).push {cls:=.type "enumerate",data:=.fields #[.none,.bool ak,.ref s.heap.objs.size,dr 0,.none,.none]}}) :=
 .of_wp λj w A R s h=>by
  obtain⟨q,g,d,m,p⟩:=s;obtain⟨b,h⟩:=h;have u:=sub_enumerate;have f:Heap.IsTuple (Shared.heap ⟨q,g,d,m,p⟩) l a:=⟨_,b,rfl,n,rfl⟩
  wp_walk using sx b
  refine wpAny_stack_any λr=>aF ?_;split
  .rename_i c _ _ _ _ _;cases (c == Value.type "enumerate")
   .wp_walk using sx b,BW f
    exact⟨_,rfl,h⟩
   .wp_walk using sx b,BW f
    exact⟨_,rfl,h⟩
  .wp_walk using sx b,BW f
   exact⟨_,rfl,h⟩
theorem Draws.tuple{b:aR}{w:aL}{A:aY}(j:A.handled=ae)(c l:ag)(q:l≠c)(a:Array aj):Draws b w A c [c,l] a.size (λi v=>a[i]?=aa v) (λi h=>h.IsTupleIter c l i/\h.IsTuple l a) where
 live:=λ_ _ st=>let ⟨o,ho,_⟩:=st.1;⟨o,ho⟩
 frame:=λ_ _ _ st f=>⟨let ⟨o,ho,r⟩:=st.1;⟨o,f c (by simp) o ho,r⟩,let ⟨o,ho,r⟩:=st.2;⟨o,f l (by simp) o ho,r⟩⟩
 item:=λi s Q E g st m=>by refine Kt st.1 st.2 (x:=a[i]) (by simp[g]) λp u d=>?_;exact m _ p s.toks (by simp[g]) ⟨u,st.2.extBut d.extBut q⟩ d
 done:=λs Q E st n=>LC j st.1 st.2 (by simp) n
section
variable{a:aR}{w:aL}{A:aY}{E:aj->ao->Prop}{s:ao}
theorem LN{l:ag}{d:Array aj}{Q:aj->ao->Prop}(v:s.heap.IsTuple l d)(h:∀f,IsEnum f (s.heap.objs.size+1) s.heap.objs.size 0 .none->f.IsTupleIter s.heap.objs.size l 0->f.objs.size=s.heap.objs.size+2 -> (∀b o,s.heap.get? b=aa o->f.get? b=aa o)->Q (.ref (s.heap.objs.size+1)) {s with heap:=f}):ar (au a w) A (call (.type "enumerate") [.ref l]) Q E s:=by
 obtain⟨⟨c,p,dt,r⟩,u,m,n,j⟩:=v;replace m:c=.type "tuple":=m;replace j:dt=.seq d n:=j;subst m j;refine callType_new F.called_enumerate (by decide) (F.typeCall_enumerate_1 _) (F.newCall_enumerate_1 _) (λg=>F.args_object_init_2 g _) F.entry_enumerate_new
  (Mp l d n p r) ⟨u,?_⟩
 have i:(s.heap.push {cls:=.type "tuple_iterator",data:=.fields #[.ref l,.int 0 0]}).objs.size=s.heap.objs.size+1:=vx ..;show _/\_;rw[i];have q:IsEnum ((s.heap.push {cls:=.type "tuple_iterator",data:=.fields #[.ref l,.int 0 0]}).push {cls:=.type "enumerate",data:=.fields #[.none,.bool ak,.ref s.heap.objs.size,dr 0,.none,.none]}) (s.heap.objs.size+1) s.heap.objs.size 0 .none:=by
  have:=cG (s.heap.push {cls:=.type "tuple_iterator",data:=.fields #[.ref l,.int 0 0]})
   (o:={cls:=.type "enumerate",data:=.fields #[.none,.bool ak,.ref s.heap.objs.size,dr 0,.none,.none]}) rfl
  rw[i]at this;exact this
 refine⟨⟨_,q,rfl⟩,h _ q ⟨_,bE _ (cG _ rfl),rfl,rfl⟩ (by rw[vx,i]) λb o x=>bE _ (bE _ x)⟩
end
end PySem
namespace L2
def xH(K:ax)(a:ag):It :=⟨λi H=>∃b x,cp K H a b/\b[i]?=aa x,λi H v d=>∃p x,H p=ae/\v=.ref p/\d=upd H p (.tup [.int i,x])/\∀c,cp K H a c->c[i]?=aa x,λi H=>∃b,cp K H a b/\b.length=i⟩
theorem Ma{P:aR}{w:aL}{K:ax}{es:List ay}{k:Nat}{pos:Pos}(a e g:ag)(cc:e≠g):pq P w K (.Tuple es k pos) (xH K a) [e,g] e (λi h=>(∃j,IsEnum h e g (i:Nat) j)/\h.IsTupleIter g a i) where
 mem:=by simp
 obj:=λi h ⟨⟨j,B⟩,f⟩ b m=>by
  simp only[bI,jL,or_false]at m;rcases m with rfl|rfl
  .exact⟨_,B,λv z=>by cases z⟩
  .obtain⟨o,e,c,d⟩:=f;exact⟨o,e,λv z=>by rw[d]at z;cases z⟩
 keep:=λi h h' ⟨⟨j,B⟩,f⟩ k=>⟨⟨j,k e (by simp) _ B⟩,let ⟨o,ho,r⟩:=f;⟨o,k g (by simp) o ho,r⟩⟩
 item:=by
  intro X S hw hK D i af s σ H E I Z f hg;subst S hw hK;obtain⟨⟨j,B⟩,f⟩:=f;obtain⟨xs,x,Y,hx⟩:=hg;obtain⟨l,rv,p,hz⟩:=I.tuple Y;obtain⟨u,hu,ru⟩:=rv.get hx;obtain⟨f0,f1,f2,f3,f4,f5⟩:=Z e (by simp);obtain⟨g0,g1,g2,g3,g4,g5⟩:=Z g (by simp);have G:a≠g:=λz=>by
   obtain⟨o1,y,J,_⟩:=p;obtain⟨o2,e2,c2,_⟩:=f;rw[z,e2]at y;cases y;rw[c2]at J;exact absurd J (by decide)
  have hea:e≠a:=λz=>by
   obtain⟨o1,y,J,_⟩:=p;rw[<-z,B]at y;cases y;exact absurd (show Value.type "enumerate"=Value.type "tuple" from J) (by decide)
  have bu:i<l.toArray.size:=by have:=(cE.mp hu).1;simpa using this
  refine wpAny_pyNext_enum_itemD (Draws.tuple (by show X.A.in1.handled=ae;exact I.ok.hd D) g a G l.toArray) B ⟨f,p⟩ bu cc (by simp[cc,hea]) λL h' W S he' aw ht hsz kp=>⟨_,rfl,?_⟩
  have eu:L=u:=by
   have C:l[i]?=aa L:=by simpa using S
   rw[hu]at C;exact(cQ C).symm
  subst eu;replace aw:=aw.1;refine wpAny_letOwnedTupleGo_enum (s:={s with heap:=h',toks:=W+1}) he' λh2 Q sb=>?_;have N:s.heap.objs.size≠e:=p9 (bG B);have M:h2.get? s.heap.objs.size=aa {cls:=.type "tuple",data:=.seq #[.int i W,L]}:=(sb.2 _ N).trans ht;have A:∀b o,b≠e->b≠g->s.heap.get? b=aa o->h2.get? b=aa o:=λb o C h3 q=>(sb.2 b C).trans (kp b o C h3 q);have fr:=I.fresh;have O:∀b u,H b=aa u->b≠s.heap.objs.size:=λb u q z=>by rw[z,fr]at q;cases q
  have F:∀b o,s.heap.get? b=aa o->∃o',h2.get? b=aa o':=λb o q=>by
   by_cases C:b=e
   .subst C;exact⟨_,Q⟩
   .by_cases h3:b=g
    .subst h3;obtain⟨oi,y,_⟩:=aw;exact⟨oi,(sb.2 b C).trans y⟩
    .exact⟨o,A b o C h3 q⟩
  have I2:Inv X af σ (upd H s.heap.objs.size (.tup [.int i,x])) {s with heap:=h2,toks:=W+1}:=by
   refine I.call' (ch:=[e,g]) rfl ⟨λb o q n _ T=>A b o (λz=>T (by simp[z])) (λz=>T (by simp[z])) q,λb o q n _ T=>⟨o.slots,A b o (λz=>T (by simp[z])) (λz=>T (by simp[z])) q⟩,λb o q n _=>by rw[bh (c0 (bG q))];exact n,λb o q _=>F b o q,λb ys q=>by rw[bh (O b _ q)];exact q,λb o u q=>by rw[bh (O b _ q)];exact q,λb ps q=>by rw[bh (O b _ q)];exact q⟩ (λb v q=>?_) I.bare λb m=>?_
   .by_cases m:b=s.heap.objs.size
    .subst m;rw[upd_same]at q;cases q;exact⟨by show 2<=bn;decide,[.int i W,L],.cons ⟨_,rfl⟩ (.cons ru .nil),⟨_,M,rfl,_,rfl⟩,_,M,rfl⟩
    .rw[bh m]at q;have ne1:∀c,H c≠ae->c≠e/\c≠g:=λc D=>⟨λz=>D (by rw[z];exact f0),λz=>D (by rw[z];exact g0)⟩
     refine(I.hok b v q).stay (λc o D r=>?_) (λc r=>by rw[bh (O c _ r)];exact r) λc ys r=>by rw[bh (O c _ r)];exact r
     have:=ne1 c (by rcases D with z|z <;> (first | (rw[<-z,q];simp) | (rw[z,q];simp) | (rw[z];simp)));exact A c o this.1 this.2 r
   .simp only[bI,jL,or_false]at m;rcases m with rfl|rfl
    .exact⟨f3,f1,f4,f5⟩
    .exact⟨g3,g1,g4,g5⟩
  refine⟨.ref s.heap.objs.size,_,I2,rfl,⟨s.heap.objs.size,x,fr,rfl,rfl,λys hy=>by rw[I.tuple_inj hy Y];exact hx⟩,⟨⟨L,(show((i+1:Nat):Int)=(i:Int)+1 by lia) ▸ Q⟩,let ⟨o,ho,r⟩:=aw;⟨o,(sb.2 g cc.symm).trans ho,r⟩⟩,λb m=>?_⟩;simp only[bI,jL,or_false]at m;rcases m with rfl|rfl
  .rw[bh (c_ N)];exact f0
  .obtain⟨oi,y,_⟩:=f;rw[bh (c0 (bG y))];exact g0
 done:=by
  intro X S hw hK D i af s σ H E I Z f hg;subst S hw hK;obtain⟨⟨j,B⟩,f⟩:=f;obtain⟨xs,Y,hx⟩:=hg;obtain⟨l,rv,p,hz⟩:=I.tuple Y;obtain⟨g0,g1,g2,g3,g4,g5⟩:=Z g (by simp);have hl:=rv.length;have G:a≠g:=λz=>by
   obtain⟨o1,y,J,_⟩:=p;obtain⟨o2,e2,c2,_⟩:=f;rw[z,e2]at y;cases y;rw[c2]at J;exact absurd J (by decide)
  have hi:i=l.toArray.size:=by simp;lia
  rw[hi]at f;exact wpAny_pyNext_enum_endD (Draws.tuple (by show X.A.in1.handled=ae;exact I.ok.hd D) g a G l.toArray) B ⟨f,p⟩ λh' eb=>⟨rfl,I.turned (t':=s.toks) (λb o m e=>eb b o m e) g0 g1 g3 g4 g5⟩
 self:=λ_ _ _ _ _ f h=>wpAny_pyIter_enum f.1.choose_spec h
section
variable{X:Cx}{d:List ay}{k:Nat}{c:Pos}
def Q_(K:ax)(i:TA):TI:=λg H R=>i g H λh f=>∃a b,h=[.ref a]/\cp K f a b/\(b.length<=bn->R (xH K a) f)
theorem KC{e:ay}{m:TA}{p i:Pos}(K:Gl X "enumerate")(J:X.mg "enumerate"=ae)(L:PA X [e] m)(F:aZ [e] X.env=[(ak,bi e X.env)]:=by rfl):PI X (.Tuple d k c) (.Call (.Name "enumerate" p) [e] [] i) (Q_ X.K m):=by
 intro v s l H R I h;refine Call_ (uZ I K J (show fg "enumerate"=aa (.type "enumerate") by decide +kernel) (Hr (aP (L i v s l H _ I h) λP f ⟨O,w,g,z,A⟩=>?_) F rfl));obtain⟨a,N,e,G,q⟩:=A;subst e;obtain⟨u,rfl,y⟩:=vals1 z;cases y;obtain⟨j,Q,B,D⟩:=g.tuple G;refine LN (show f.heap.IsTuple a j.toArray from B) λr n x E C=>?_;refine wpAny_pyIter_enum (s:={f with heap:=r}) n ?_;have M:Inv X v l w {f with heap:=r}:=g.kept (t':=f.toks) C;refine⟨f.heap.objs.size+1,[f.heap.objs.size+1,f.heap.objs.size],_,_,w,rfl,M,Ma a _ _ (Nat.succ_ne_self _),⟨⟨_,n⟩,x⟩,λb o=>?_,q D⟩;simp only[bI,jL,or_false]at o;rcases o with rfl|rfl
 .exact g.fpOk (vy _) (g.hok.fresh (vy _))
 .exact g.fpOk (a6 _) (g.hok.fresh (a6 _))
end
end L2
namespace Pu
open L2
section
variable{X:Cx}{E:XK}
theorem Nw{K:ax}{a:ag}{b:List V}:GJ (xH K a) (jw (λi=>V.int i) 0 b) (λH=>cp K H a b):=λH h i=>
 ⟨λx d=>by
  rw[GW,lx]at d;obtain⟨z,c,rfl⟩:=d;refine⟨⟨b,z,h,c⟩,λv n ⟨p,w,m,l,j,g⟩=>?_⟩;have:=g b h;rw[c]at this;cases this;subst l j;rw[sL];exact⟨p,rfl,upd_same,.inr ⟨m,rfl⟩⟩,λf=>⟨b,h,by rw[f,Ae]⟩⟩
def uq(b:ai->R (List PV)):ai->R (List (PV×PV)):=λε=>(b ε).bind λx ε1=>match x with
 |[.tup a]=>.ok (uQ a) ε1
 |_=>.no
theorem OW{D:List ay}{k:Nat}{r p d:Pos}{a:ay}{m:ai->R (List PV)}(A:X.mg "enumerate"=ae)(b:DA X E [a] m)(B:Gl X "enumerate":=by rfl)(z:aZ [a] X.env=[(ak,bi a X.env)]:=by rfl):As X E (.Tuple D k r) (.Call (.Name "enumerate" p) [a] [] d) (uq m):=λF S o g H K w h=>Bx.mk λG s I=>by
 refine KC B A ii z G s g H K I (b F S o g H _ w ((Ok.bind h).imp λq n M J L l O f N x=>?_));split at f
 .rename_i q;obtain⟨v,rfl,u⟩:=gU x;obtain⟨a,c,rfl,b,j⟩:=u;refine⟨a,c,rfl,cp.of b,λy=>f M J L l (Grow.refl ..) (xH X.K a) (jw (λi=>V.int i) 0 c) (λH=>cp X.K H a c) ⟨FA 0 j,by rw[z9];unfold uQ;rw[z9];exact j⟩ (by rw[Ae];exact y) Nw λP T Q C=>cp.of (C.imm l.fit b id)⟩
 .exact f.elim
end
abbrev eX:=List aE
def qT(a:List (eX×PV))(k:eX)(v:PV):List (eX×PV):=if(a.any λb=>decide (b.1=k))=ah then a.map (λb=>if b.1=k then(b.1,v)else b)else a++[(k,v)]
def o8:List PV->Option eX
 |[]=>aa []
 |x::a=>(gT x).bind λk=>(o8 a).map (k::·)
def og:PV->Option eX
 |.tup a=>o8 a
 |_=>ae
section
variable{K:ax}{F:ag->Prop}{S:Nat->ag->Prop}{ε:ai}{f:St}{H:Hp}{i:Nat}{c:List (eX×PV)}{d:List (eX×V)}{a:ag}
theorem EW:∀{g:List PV}{b:List V}{k:eX},aS K H F g b->o8 g=aa k->b=k.map kV
 |[],b,k,r,e=>by cases r;cases e;rfl
 |x::g,b,k,⟨v,r,l,j,h⟩,e=>by simp only[o8,Ik,lx]at e;obtain⟨o,n,ks,m,rfl⟩:=e;rw[l,r9 j n,EW h m];rfl
theorem CQ{x:PV}{v:V}{k:eX}(r:aN K H F x v)(e:og x=aa k):∃b,v=.ref b/\H b=aa (.tup (k.map kV)):=by
 cases x <;> simp[og]at e;obtain⟨b,j,rfl,h,g⟩:=r;exact⟨b,rfl,by rw[h,EW g e]⟩
theorem jg.len(h:jg K H F c d):d.length=c.length:=by
 unfold jg at h
 induction h with
 |nil=>rfl
 |cons _ _ b=>simp[b]
theorem jg.any(h:jg K H F c d)(k:eX):(c.any λb=>decide (b.1=k))=d.any λb=>decide (b.1=k):=by
 unfold jg at h
 induction h with
 |nil=>rfl
 |cons r _ g=>rw[lw,lw,g,r.1]
theorem jg.put(h:jg K H F c d)(k:eX){x:PV}{v:V}(r:aN K H F x v):jg K H F (qT c k x) (fL d k v):=by
 unfold qT fL;rw[h.any k];split
 .rename_i b;clear b;unfold jg at h ⊢
  induction h with
  |nil=>exact .nil
  |@cons p q ps qs r1 _ ih=>
   refine .cons ?_ ih;dsimp only;by_cases e:p.1=k
   .rw[if_pos e,if_pos (by rw[<-r1.1];exact e)];exact⟨r1.1,r⟩
   .rw[if_neg e,if_neg (by rw[<-r1.1];exact e)];exact r1
 .exact yO h ⟨rfl,r⟩
theorem aI.dtAt(r:aI K F S ε f H)(e:ε[i]?=aa (.own (.dT c))):∃a d,f[i]?=aa (aa (.ref a))/\H a=aa (.dT d)/\jg K H F c d/\S i a/\∀b,S i b->b=a:=by obtain⟨a,n,⟨j,m,l⟩,g⟩:=r.own i _ e;exact⟨a,j,n,m,l,(g a).mpr rfl,λb h=>(g b).mp h⟩
end
def jS(ε:ai)(i:Nat):Option (List (eX×PV)):=match ε[i]? with
 |some (.own (.dT a))=>aa a
 |_=>ae
theorem ul{b:ai}{i:Nat}{a:List (eX×PV)}(h:jS b i=aa a):b[i]?=aa (.own (.dT a)):=by
 unfold jS at h;split at h
 .cases h;assumption
 .cases h
section
variable{X:Cx}{E:XK}{pin:List Nat}{e b c:ay}{de db f:ai->R PV}{d:Pos}
def xf(i:Nat)(db de:ai->R PV):ai->R aM:=λj=>(de j).bind λy g=>(aO (jS g i) g).bind λ_ g=>(db g).bind λk a=>(aO (jS a i) a).bind λh a=>(aO (og k) a).bind λk a=>if h.length<bd then .ok .next (a.set i (.own (.dT (qT h k y))))else .no
theorem RB(i:Nat){y:Str}{C j:Pos}(hu:X.A.units+64<cLine)(hb:DE X E b db)(he:DE X E e de)(hN:X.N[i]?=aa y:=by rfl)(eP:eJ X.env.scope y:=by eq_refl)(hd:(y==("__debug__":Str))=ak:=by decide) (bB:(y==("__classdict__":Str))=ak:=by decide) (Z:jj e (aa (.Subscript (.Name y C) b j)) d.line X.env=pure ak:=by rfl):DS X E pin (.Assign [.Subscript (.Name y C) b j] e d) (xf i db de):=λF S K o H D P h=>by
 refine fX (Du ∅ (fq hN eP hd bB) bM bM Z) (he F S K o H _ P (h.bindE.imp λy l F1 S1 H1 r g1 q v N=>?_));cases B:jS l i with
 |none=>rw[B]at q;exact q.elim
 |some I=>
  rw[B]at q;simp only[bV,R.bind_ok]at q;obtain⟨a,L,z,ha0,_⟩:=r.dtAt (ul B);refine⟨.ref a,z,hb F1 S1 l o H1 _ r (q.bindE.imp λk p F2 S2 H2 G g2 g u O=>?_)⟩;cases n:jS p i with
  |none=>rw[n]at g;exact g.elim
  |some w=>
   rw[n]at g;simp only[bV,R.bind_ok]at g;obtain⟨a',M,m,ha,J,_⟩:=G.dtAt (ul n);rw[z]at m;cases m;cases A:og k with
   |none=>rw[A]at g;exact g.elim
   |some s=>
    rw[A]at g;simp only[bV,R.bind_ok]at g;split at g
    .rename_i hl;obtain⟨bb,rfl,T⟩:=CQ O A;have eQ:=J.put s (N.grow g2 r.fit);obtain⟨Q,g3⟩:=G.updO (po':=.dT (qT w s y)) (o':=.dT (fL M s v)) (ul n) rfl z trivial λH' Y m2 x Sa W=>⟨⟨_,x,eQ.mono Y⟩,W⟩
     exact⟨a,_,rfl,yF.t ha T (by rw[J.len];exact iq hl kl),g F2 S2 o _ Q g3 (iY.refl _ _)⟩
    .exact g.elim
def yb:ai->R PO:=λε=>.ok (.dT []) ε
theorem Le:DN X E (.Dict [] [] d) yb:=λF S l i H Q g h=>b_ QF λp a=>by
 have al:Al F F H (upd H p (.dT [])):=Al.new0 a;refine h F S _ (g.al al) al.grow p (λb=>b=p) ⟨⟨[],upd_same,.nil⟩,λb=>kM⟩ λb z=>?_;subst z;refine⟨a,λz=>?_,λ⟨j,z⟩=>?_,_,upd_same,trivial⟩
 .obtain⟨o,q⟩:=g.ex b z;rw[a]at q;cases q
 .obtain⟨_,_,o,q,_⟩:=g.foot j b z;rw[a]at q;cases q
end
end Pu
namespace L2
def kU(h:aC)(d:ag)(a:Array sD)(b:Nat):Prop:=∃o,h.get? d=aa o/\o.ExactDict/\o.data=.dict a b
section
variable{P:aR}{w:aL}{A:aY}{E:aj->ao->Prop}{s:ao}{d it:ag}{es:Array sD}{ep i:Nat}
theorem kU.ty(r:kU s.heap d es ep):s.TypeIs (.ref d) "dict":=let ⟨o,ho,hc,_⟩:=r;⟨o,ho,hc.1⟩
theorem kU.at{h h':aC}(r:kU h d es ep)(k:∀o,h.get? d=aa o->h'.get? d=aa o):kU h' d es ep:=let ⟨o,ho,z⟩:=r;⟨o,k o ho,z⟩
theorem kU.lt{h:aC}(r:kU h d es ep):d<h.objs.size:=let ⟨o,ho,_⟩:=r;bG ho
theorem EE{Q:aj->ao->Prop}(f:(d == jF)=ak)(r:kU s.heap d es ep)(q:Q (.ref s.heap.objs.size) {s with heap:=s.heap.push {cls:=.type "dict_keyiterator",data:=.fields #[.ref d,.int 0 0,.int es.size 0,.int ep 0]}}):ar (au P w) A (mZ (.ref d)) Q E s:=by have a:=r.ty;obtain⟨o,c,g,b⟩:=id r;refine HQ a F.slot_dict_iter (lv F.slot_dict_iter a F.entry_dict_iter ?_ (F.args_dict_iter_1 _));unfold Builtin.«dict.__iter__» Builtin.Dict.dictSlotNone;refine ap (ap (wpAny_notOrdered_dict a ?_));refine aF (show ar _ _ (Builtin.Dict.showsAll d >>= _) _ _ s from ?_);unfold Builtin.Dict.showsAll;rw[if_neg (by rw[f];exact eT)];refine ap (aF (ap (Im c b (ap (wpAny_dictEpoch c b ?_)))));refine ap (jI (aF ⟨_,rfl,"dict_keyiterator",_,⟨_,cG _ rfl,rfl⟩,F.slot_dict_keyiterator_next.lookup,?_⟩));simpa[dr]using q
theorem CH{Q:Option aj->ao->Prop}(a:s.heap.IsKeyIter it d i es.size ep)(r:kU s.heap d es ep)(m:i<es.size)(q:∀g,g.IsKeyIter it d (i+1) es.size ep->kD it s.heap g->Q (aa es[i].key) {s with heap:=g}):ar (au P w) A (l5 (.ref it)) Q E s:=by
 obtain⟨n,c,f,b⟩:=id a;obtain⟨o,j,p,h⟩:=id r;unfold l5;refine ap (BQ (vt (name:=sy "__next__") a.typeIs B_ (lv B_ a.typeIs RZ ?_ (R3 _))));refine ap (aF (ap (ap ?_)))
 first|refine ap (Ca a.typeIs (aF ?_))|refine ap (Cb a.typeIs (aF ?_))
 refine ap (wpAny_fieldsOf c b ?_);simp only[show Builtin.Dict_items.ownsTuple "dict_keyiterator"=ak by decide,jK,if_false];show ar _ _ (if(Value.ref d == Value.none)=ah then _ else _) _ _ s;rw[if_neg (show ¬((Value.ref d == Value.none)=ah)from eT)];refine ap (aF (ap (Im j h ?_)));rw[if_neg (by simp)];refine ap (aF (ap (wpAny_dictEpoch j h ?_)));rw[if_neg (by simp)];refine aF ?_;simp only[show ¬((i:Int)<0)from by lia,if_false,kH,sK m];refine ap ?_
 first|refine ap (Ca a.typeIs (aF ?_))|refine ap (Cb a.typeIs (aF ?_))
 refine ap (wpAny_isOneOf_keyiter a.typeIs ?_);refine show ar _ _ (ly (.ref it) 1 (dr ((i:Int)+1)) >>= _) _ _ s from ap (nj c b (by simp) ?_)
 have l:(s.heap.update it (nq (·.setIfInBounds 1 (dr ((i:Int)+1))))).IsKeyIter it d (i+1) es.size ep :=⟨_,nc _ c (y4 (ql b _)),(HV ..).trans f,by rw[ql b];simp[dr]⟩
 refine ap (kE (ap (wpAny_isOneOf_keyiter (s:={s with heap:=s.heap.update it (nq (·.setIfInBounds 1 (dr ((i:Int)+1))))}) l.typeIs ?_)));exact show ar _ _ (pure es[i].key) _ _ _ from aF (aF ⟨_,rfl,aF (q _ l (oD ..))⟩)
theorem GT{Q:Option aj->ao->Prop}(o:A.handled=ae)(c:s.heap.IsKeyIter it d i es.size ep)(r:kU s.heap d es ep)(n:es.size<=i)(q:∀l,Heap.ExtBut it s.heap l->Q ae {s with heap:=l}):ar (au P w) A (l5 (.ref it)) Q E s:=by
 obtain⟨u,j,p,h⟩:=id c;obtain⟨v,g,x,f⟩:=id r;unfold l5;refine ap (BQ (vt (name:=sy "__next__") c.typeIs B_ (lv B_ c.typeIs RZ ?_ (R3 _))));refine ap (aF (ap (ap ?_)))
 first|refine ap (Ca c.typeIs (aF ?_))|refine ap (Cb c.typeIs (aF ?_))
 refine ap (wpAny_fieldsOf j h ?_);simp only[show Builtin.Dict_items.ownsTuple "dict_keyiterator"=ak by decide,jK,if_false];show ar _ _ (if(Value.ref d == Value.none)=ah then _ else _) _ _ s;rw[if_neg (show ¬((Value.ref d == Value.none)=ah)from eT)];refine ap (aF (ap (Im g f ?_)));rw[if_neg (by simp)];refine ap (aF (ap (wpAny_dictEpoch g f ?_)));rw[if_neg (by simp)];refine aF ?_;simp only[show ¬((i:Int)<0)from by lia,if_false,kH,Array.getElem?_eq_none n];refine ap ?_
 first|refine ap (Ca c.typeIs (aF ?_))|refine ap (Cb c.typeIs (aF ?_))
 refine show ar _ _ (ly (.ref it) 0 .none >>= _) _ _ s from ap (nj j h (by simp) ?_)
 refine show ar _ _ (qh (.type "StopIteration") [] >>= _) _ _ _ from ap ?_
 simp only[qh,newTuple];refine ap (jI ?_ (by size_fits));refine ap (m:=vG _ _) (BP (a:=Value.none) (by first|rfl | (simp only[vG];rfl)) ?_);refine jI ?_ (by size_fits);simp only[vE];refine ap (wpAny_handled ?_);rw[show A.in1.handled=ae from o];refine ap (aF (wpAny_throw ?_));refine ap (HR (T:="StopIteration") (b:=ah) ⟨_,cG _ rfl,rfl⟩ isSubtype_stop ?_);exact aF (q _ (((oD ..).extBut.push _).push _))
theorem Lu(p:A.handled=ae)(I d:ag)(q:d≠I)(es:Array sD)(ep:Nat):Walks P w A I [I,d] [I] es.size (λi v=>∃e,es[i]?=aa e/\v=e.key) (λi h=>h.IsKeyIter I d i es.size ep/\kU h d es ep) where
 sub:=λb c=>by simp at c;simp[c]
 frame:=λ_ _ _ a m=>⟨a.1.at λo e=>m I (by simp) o e,a.2.at λo e=>m d (by simp) o e⟩
 item:=λi s Q E n a f=>CH a.1 a.2 n λj r l=>f _ j s.toks ⟨es[i],by simp[n],rfl⟩ ⟨r,a.2.at λo e=>by rw[l.2 d q];exact e⟩ λb o c e=>l.extBut b o (λh=>c (by simp[h])) e
 done:=λs Q E a f=>GT p a.1 a.2 (a6 _) λj g=>f j s.toks λb o c e=>g b o (λh=>c (by simp[h])) e
 self:=λ_ _ _ _ a f=>wpAny_pyIter_keyiter a.1 f
theorem Ou(c:(d == jF)=ak):PySem.W.KdlSrc P w "dict" d d es.size (λi v=>∃e,es[i]?=aa e/\v=e.key) (λh=>kU h d es ep) where
 type:=λ_ a=>a.ty
 there:=λ_ a=>⟨a.lt,a.lt⟩
 keep:=λ_ _ a f=>a.at λo e=>f d (.inl rfl) o e
 notList:=by decide
 notTuple:=by decide
 hint:=λ_ _ _ _ a b=>PySem.W.kdl_hint_dict a.ty b
 iter:=λ_ _ g a=>⟨_,_,(λ_ _ b=>EE c a b),Lu g _ d (c0 a.lt) es ep,⟨⟨_,cG _ rfl,rfl,rfl⟩,a.at λo e=>bE _ e⟩⟩
end
section
variable{X:Cx}{f:List (ag×Obj)}{d:St}{H:Hp}{s:ao}{a:ag}{c:List (List aE×V)}
theorem FK{P:aR}{w:aL}{h:aC}{o:Obj}(z:h.get? a=aa o)(k:cn P w H h a (.dT c)):(a == jF)=ak/\∃j,kU h a j (qV o)/\j.size=c.length/\(c.map (·.1)).Nodup /\
  ∀(i:Nat) (e:sD),j[i]?=aa e->∃p b,c[i]?=aa p/\e.key=.ref b/\H b=aa (.tup (p.1.map kV)):=by
 obtain⟨u,G,F,g,M,j,K,E,v,D,y,A⟩:=k;rw[z]at E;cases E;have L:qV o=K:=by unfold qV;rw[D]
 have B:=mV g;refine⟨G,j,⟨o,z,v,by rw[L];exact D⟩,by rw[<-iQ,y,b7];exact B.symm,?_,λi e C=>?_⟩
 .have:c.map (·.1)=F.map (·.1):=by
   clear y A B u
   induction g with
   |nil=>rfl
   |cons r _ n=>simp[n,r.1]
  rw[this];exact A
 .rw[<-oF,y,eD]at C;obtain⟨x,v,rfl⟩:=lx.mp C;have:∀{l:List (List aE×V)}{m:List (List aE×ag×aj)} (i:Nat) (x:List aE×ag×aj),d7 (λ(p:List aE×V) (q:List aE×ag×aj)=>p.1=q.1/\H q.2.1=aa (.tup (p.1.map kV))/\RelV p.2 q.2.2) l m->m[i]?=aa x->∃p,l[i]?=aa p/\H x.2.1=aa (.tup (p.1.map kV)):=by
   intro l m i x r
   induction r generalizing i with
   |nil=>intro e;simp at e
   |cons r _ n=>
    intro e;cases i with
    |zero=>simp at e;subst e;exact⟨_,rfl,r.2.1⟩
    |succ i=>exact n i (by simpa using e)
  obtain⟨p,I,J⟩:=this i x g v;exact⟨p,x.2.1,I,rfl,J⟩
theorem Inv.freezeT(I:Inv X f d H s)(e:H a=aa (.dT c)):∃o,s.heap.get? a=aa o/\Inv X f d (upd H a (.frz o (.dT c))) s:=by
 have k:cn X.prog X.w H s.heap a (.dT c):=I.hok a _ e;obtain⟨z,i,h,b,o,es,ep,g,r⟩:=id k;refine⟨o,g,I.recast e (λ_ q=>by cases q) (λo u q=>?_) (λ_ q=>by cases q) (λ_ q=>by cases q) ⟨g,z,i,h,Paired.mapP b λp q z=>⟨z.1,?_,z.2.2⟩,o,es,ep,g,r⟩⟩
 .have:=I.base.frzs a o u q;rw[e]at this;cases this
 .rw[bh (wC z.2.1 e (λz=>nomatch z))];exact z.2.1
theorem Inv.thawT{o:Obj}(I:Inv X f d H s)(e:H a=aa (.frz o (.dT c)))(i:∀o u,X.H₀ a≠aa (.frz o u)):Inv X f d (upd H a (.dT c)) s:=by
 obtain⟨j,z,h,g,b,r⟩:=(show cn X.prog X.w H s.heap a (.frz o (.dT c))from I.hok a _ e)
 refine I.recast e (λ_ q=>by cases q) i (λ_ q=>by cases q) (λ_ q=>by cases q) ⟨z,h,g,Paired.mapP b λp q z=>⟨z.1,?_,z.2.2⟩,r⟩;rw[bh (wC z.2.1 e (λz=>nomatch z))];exact z.2.1
end
def gq(o:Obj):List ag:=match o.data with
 |.dict es _=>es.toList.map λe=>match e.key with
  |.ref b=>b
  |_=>0
 |_=>[]
def rO(a:ag)(o:Obj)(c:List (List aE×V)):It :=⟨λi H=>H a=aa (.frz o (.dT c))/\i<c.length,λi H x d=>d=H/\∃b,(gq o)[i]?=aa b/\x=.ref b,λi H=>H a=aa (.frz o (.dT c))/\c.length<=i⟩
def zr(H:Hp)(a:List (List aE×V))(bs:List ag):Prop:=bs.length=a.length/\∀(i:Nat) (b:ag),bs[i]?=aa b->∃p,a[i]?=aa p/\H b=aa (.tup (p.1.map kV))
theorem zV{P:aR}{w:aL}{H:Hp}{h:aC}{a:ag}{o:Obj}{d:List (List aE×V)}(q:h.get? a=aa o)(k:cn P w H h a (.dT d)):(a == jF)=ak/\∃es,kU h a es (qV o)/\es.size=d.length/\(d.map (·.1)).Nodup/\zr H d (gq o)/\∀(i:Nat) (e:sD),es[i]?=aa e->∃b,(gq o)[i]?=aa b/\e.key=.ref b:=by
 obtain⟨A,es,rd,n,z,m⟩:=FK q k;have j:gq o=es.toList.map λe=>match e.key with
  |.ref b=>b
  |_=>0:=by
  obtain⟨C,y,_,B⟩:=rd;rw[q]at y;cases y;unfold gq;rw[B]
 have l:∀(i:Nat) (e:sD),es[i]?=aa e->∃b,(gq o)[i]?=aa b/\e.key=.ref b:=λi e f=>by obtain⟨p,b,x,g,v⟩:=m i e f;refine⟨b,?_,g⟩;rw[j,eD,oF,f,oE,g]
 refine⟨A,es,rd,n,z,⟨by rw[j,b7,iQ];exact n,λi b r=>?_⟩,l⟩;have f:i<es.size:=by have:=(cE.mp r).1;rw[j,b7,iQ]at this;exact this
 obtain⟨p,c,x,g,v⟩:=m i es[i] (by simp[f]);obtain⟨D,u,s⟩:=l i es[i] (by simp[f]);rw[r]at u;cases u;rw[g]at s;cases s;exact⟨p,x,v⟩
theorem QR{P:aR}{w:aL}{K:ax}{Q:ay}(a l:ag)(o:Obj)(g:List (List aE×V)):pq P w K Q (rO a o g) [l] l (λi h=>h.IsKeyIter l a i g.length (qV o)) where
 mem:=by simp
 obj:=λi h f b j=>by
  have e:b=l:=by simpa using j
  subst e;obtain⟨o,e,c,d⟩:=f;exact⟨o,e,λv z=>by rw[d]at z;cases z⟩
 keep:=λi h p f k=>f.at λo e=>k l (by simp) o e
 item:=by
  intro X A q B N i O s L H E I n f y;subst A q B;obtain⟨r,M⟩:=y;obtain⟨u,x⟩:=(show cn X.prog X.w H s.heap a (.frz o (.dT g))from I.hok a _ r)
  obtain⟨T,G,rd,m,_,_,S⟩:=zV u x;obtain⟨b,j,Y⟩:=S i G[i] (by simp[m,M]);obtain⟨F,D,f2,f3,f4,C⟩:=n l (by simp);rw[<-m]at f;refine CH f rd ∅ λp J sb=>?_;have Z:Inv X O L H {s with heap:=p}:=I.turned (t':=s.toks) (λb o j e=>(sb.2 b j).trans e) F D f3 f4 C;rw[m]at J;obtain⟨oi,e,c,d⟩:=id J;exact⟨G[i].key,rfl,tO (s:={s with heap:=p}) e c d (by decide) ⟨.ref b,H,Z,by rw[Y];rfl,⟨rfl,b,j,rfl⟩,J,λb j=>(n b j).1⟩⟩
 done:=by
  intro X A q B N i O s L H E I n f y;subst A q B;obtain⟨r,M⟩:=y;obtain⟨u,x⟩:=(show cn X.prog X.w H s.heap a (.frz o (.dT g))from I.hok a _ r)
  obtain⟨T,G,rd,m,_⟩:=FK u x;obtain⟨F,D,f2,f3,f4,C⟩:=n l (by simp);rw[<-m]at f;exact GT (I.ok.hd N) f rd ∅ λp W=>⟨rfl,I.turned (t':=s.toks) (λb o j e=>W b o j e) F D f3 f4 C⟩
 self:=λ_ _ _ _ _ f h=>wpAny_pyIter_keyiter f h
section
variable{X:Cx}{c:ay}
def Jq(g:TE):TI:=λf H R=>g f H λx d=>∃a b,x=.ref a/\d a=aa (.dT b)/\∀o,(b.map (·.1)).Nodup->b.length<=bn->zr d b (gq o)->R (rO a o b) (upd d a (.frz o (.dT b)))
theorem LG{d:ay}{m:TE}(C:PE X d m):PI X c d (Jq m):=by
 intro E s p H R I h;refine aP (C E s p H _ I h) λv g ⟨x,n,l,r,u⟩=>?_;obtain⟨a,f,e,i,q⟩:=u;subst e;cases r;obtain⟨o,B,j⟩:=l.freezeT i;obtain⟨A,F,rd,z,w,y,_⟩:=zV (o:=o) B (show cn X.prog X.w n g.heap a (.dT f)from l.hok a _ i);refine EE A rd ?_;rw[z];refine⟨g.heap.objs.size,[g.heap.objs.size],_,_,_,rfl,j.kept (t':=g.toks) λb o e=>bE _ e,QR a _ o f,⟨_,cG _ rfl,rfl,rfl⟩,λb D=>?_,q o w (show cn X.prog X.w n g.heap a (.dT f)from l.hok a _ i).1 y⟩;have e:b=g.heap.objs.size:=by simpa using D
 subst e;exact j.fpOk (a6 _) (j.hok.fresh (a6 _))
theorem IZ{a:ag}{o:Obj}{d:List (List aE×V)}(l:(gq o).length=d.length):Walk (rO a o d) ((gq o).map .ref) (λH=>H a=aa (.frz o (.dT d))):=λH h i=>
 ⟨λx f=>by
  rw[eD]at f;obtain⟨b,j,rfl⟩:=lx.mp f;have g:=(cE.mp j).1;exact⟨⟨h,∅⟩,λy n z=>⟨z.1,by obtain⟨m,e,rfl⟩:=z.2;rw[j]at e;cases e;rfl⟩⟩,λg=>⟨h,by rw[g,b7];lia⟩⟩
def t_(a:ag)(b:List (List aE×V))(D:jX):St->Hp->Prop:=λd f=>∃o,f a=aa (.frz o (.dT b))/\D.nx d (upd f a (.dT b))
def J1(j:Nat)(g:TG)(q:TS):TS:=λD l H=>∃a b,l[j]?=aa (aa (.ref a))/\H a=aa (.dT b)/\∀o,(b.map (·.1)).Nodup->b.length<=bn->zr H b (gq o) ->
 ∃W:Nat->Nat->St->Hp->Prop,(∃m,W 0 m l (upd H a (.frz o (.dT b))))/\∀i m d f,W i m d f ->
 ((rO a o b).stop i f/\t_ a b D d f)\/((rO a o b).go i f/\∃N:St->Hp->Prop,(∀d f,N d f->∃n,n<m/\W (i+1) n d f)/\∀x p,(rO a o b).yld i f x p->g x d p λh r=>q ⟨N,λ_ _=>False,t_ a b D,N⟩ h r)
theorem Pz{b:List bo}{g:TG}{v:TS}{p r:Pos}{y:Str}(j:Nat)(L:vp (au X.prog X.w) X.A X.env X.xe)(Q:X.calm=ah)(T:X.N[j]?=aa y)(J:eJ X.env.scope y)(P:(y==("__debug__":Str))=ak)(bB:(y==("__classdict__":Str))=ak)(O:PG X c g)(S:kA X b v)(K:∀x,lp (.Name y r) X.env x=pure x:=by intro _;rfl):PS X (.For c (.Name y r) b [] p) (J1 j g v):=by
 intro af s C H D I h;obtain⟨a,n,Y,A,h⟩:=h;have M:∀o u,X.H₀ a≠aa (.frz o u):=λo u z=>by
  have:=I.base.frzs a o u z;rw[A]at this;cases this
 refine aP (E_ L Q (LG (fq T J P bB)) O S K af s C H ⟨t_ a n D,λ_ _=>False,λ_ _=>False,λ_ _=>False⟩ I ⟨.ref a,Y,a,n,rfl,A,λo F G N=>?_⟩) λf s' q=>?_
 .obtain⟨W,E,l⟩:=h o F G N;refine⟨W,E,λi m d B w=>?_⟩;exact l i m d B w
 .cases f with
  |next=>obtain⟨d,B,I',o,Z,q⟩:=q;exact⟨d,_,I'.thawT Z M,q⟩
  |brk=>obtain⟨_,_,_,q⟩:=q;exact q.elim
  |cont=>obtain⟨_,_,_,q⟩:=q;exact q.elim
  |ret u=>obtain⟨_,_,_,_,_,q⟩:=q;exact q.elim
end
section
variable{X:Cx}
def No(f d:TE):TE:=λc H Q=>∀p,H p=ae->xw [(f,d)] c (upd H p (.dT [])) λg a=>∃x y,g=[(x,y)]/\a p=aa (.dT [])/\∃b k,x=.ref b/\a b=aa (.tup (k.map kV))/\Q (.ref p) (upd a p (.dT [(k,y)]))
theorem JX{k v:ay}{l j:TE}{f:Pos}(hu:X.A.units+1<cLine)(K:PE X k l)(F:PE X v j):PE X (.Dict [aa k] [v] f) (No l j):=by
 intro Y s p H Q I q;have J:=I.hok.fresh (a6 s.heap.objs.size);have Z:=I.laid (a:=s.heap.objs.size) (o:=.dT []) (h':=s.heap.push {cls:=.type "dict",data:=.dict #[]}) (t':=s.toks) (λ_ _ q=>bE _ q) (a6 _) (Fh s.heap I.big);refine wpAny_Dict_any rfl rfl (by simp) (by simp) (aP ((Fk K F GK) Y _ p _ (λm c=>∃x y,m=[(x,y)]/\c s.heap.objs.size=aa (.dT [])/\∃b k,x=.ref b/\c b=aa (.tup (k.map kV))/\Q (.ref s.heap.objs.size) (upd c s.heap.objs.size (.dT [(k,y)]))) Z ?_) ?_)
 .exact q _ J
 .rintro ws s2 ⟨m,c,i,d,x,y,rfl,e,b,k,rfl,g,C⟩;cases d with
  |cons B r=>
   cases r;rename_i E;obtain⟨D,p2⟩:=E;obtain⟨A,w⟩:=B;cases (show D=Value.ref b from A);unfold storeAll;rw[List.forIn_cons];obtain⟨z,L,xs,u,W⟩:=C7 i.hok e;cases u;refine ap (ap (wpAny_dictSet_heap (hsz:=by size_fits) (show(sr (gi X.prog X.w)).room X.A from ?_) (rR i.hok g) W λh' h G=>aF ?_))
   .show X.A.units<cLine;lia
   .dsimp only;rw[List.forIn_nil];refine aF ⟨.ref s.heap.objs.size,_,?_,rfl,C⟩;obtain⟨q,S,T,n,P,O,N,_,M⟩:=h;refine wG i (by rw[e];exact True.intro) G ⟨q,n⟩ ⟨by size_fits,L,_,.cons ⟨rfl,?_,w⟩ .nil,q,S,T,n,P,O,N,M⟩;rw[bh (wC g e (λz=>nomatch z))];exact g
end
open Mx
section
variable{P:aR}{w:aL}{A:aY}{E:aj->ao->Prop}{s:ao}
def FtIs(h:aC)(c:List Str)(v:aj):Prop:=c≠[]/\∃(a:ag) (b:Array aj),v=.ref a/\IsTup h a b/\eE b.toList c
theorem FtIs.inj{h:aC}{k b:List Str}{v:aj}(x:FtIs h k v)(y:FtIs h b v):k=b:=by
 obtain⟨_,a,f,rfl,i,g⟩:=x;obtain⟨_,l,c,e,j,d⟩:=y;cases e;obtain rfl:=tup_uniq i j;exact strs_uniq g d
theorem FtIs.keep{h c:aC}{k:List Str}{v:aj}(x:FtIs h k v)(g:∀b o,h.get? b=aa o->c.get? b=aa o):FtIs c k v:=by obtain⟨n,a,its,rfl,f,d⟩:=x;exact⟨n,a,its,rfl,tup_kept f λb o e _=>g b o e,d⟩
def ftKey(h:aC):KeyKind where
 toKeyOrd:=ordL
 keyOf:=λv=>open Classical in if z:∃a,FtIs h a v then aa (cpsL z.choose)else ae
 dflt:=([]:List Tx)
theorem ftKey_of{h:aC}{a:List Str}{v:aj}(x:FtIs h a v):(ftKey h).keyOf v=aa (cpsL a):=by
 have z:∃a,FtIs h a v:=⟨a,x⟩
 show(open Classical in if z:∃a,FtIs h a v then aa (cpsL z.choose)else ae)=_;rw[dif_pos z,z.choose_spec.inj x]
theorem ftKey_some{h:aC}{k:List Tx}{v:aj}(x:(ftKey h).keyOf v=aa k):∃a,FtIs h a v/\cpsL a=k:=by
 by_cases z:∃a,FtIs h a v
 .obtain⟨a,z⟩:=z;rw[ftKey_of z]at x;exact⟨a,z,cQ x⟩
 .have:(ftKey h).keyOf v=ae:=dif_neg z;rw[this]at x;cases x
theorem lex_strs{b:Bool}{Q:Bool->ao->Prop}:∀{n m:List aj}{g j:List Str} (i:Nat) {d:Bool},eE n g->eE m j->d=decide (g.length<j.length)->Q (ltL (cpsL g) (cpsL j)) s->PySem.W.KatLex P w A b d Q (n.zip m) i s
 |_,_,_,_,i,d,.nil,.nil,f,h=>by rw[List.zip_nil_left];refine PySem.W.kat_nil ?_;rw[f];have e:ltL (cpsL []) (cpsL [])=decide (([]:List Str).length<([]:List Str).length):=(decide_eq_false (by simp[cpsL])).trans (decide_eq_false (by simp)).symm;rw[<-e];exact h
 |_,_,_,_,i,d,.nil,.cons c u o,f,h=>by rw[List.zip_nil_left];refine PySem.W.kat_nil ?_;rw[f];refine cast (congrArg (λz=>Q z s) ?_) h;exact(decide_eq_true (by simp[cpsL])).trans (decide_eq_true (by simp)).symm
 |_,_,_,_,i,d,.cons a t p,.nil,f,h=>by rw[List.zip_nil_right];refine PySem.W.kat_nil ?_;rw[f];refine cast (congrArg (λz=>Q z s) ?_) h;exact(decide_eq_false (by simp[cpsL])).trans (decide_eq_false (by simp)).symm
 |_,_,_,_,i,d,.cons (ys:=g) a t p,.cons (ys:=j) c u o,f,h=>by
  rw[List.zip_cons_cons];have l:Q (if a.cps.toList=c.cps.toList then ltL (cpsL g) (cpsL j)else decide (a.cps.toList<c.cps.toList)) s:=by rw[<-ltL_cons];exact h
  refine PySem.W.kat_cons (SeqAt.EqAt.str_str a t c u _ _ _ _ ?_);by_cases e:a=c
  .subst e;rw[if_pos rfl]at l;rw[beq_self_eq_true];exact PySem.W.kat_yes (lex_strs (i+1) p o (by rw[f];simp) l)
  .rw[if_neg (λz=>e (cps_inj z))]at l;rw[beq_false_of_ne e];refine PySem.W.kat_no ?_;cases (b&&i == 0)with
   |true=>exact oneLt_str l
   |false=>exact PySem.W.kat_one _ _ (PyProof.Rows.lt_str l)
theorem ftLt{h j:aC}(J:A.units+8<cLine)(k:∀b o,h.get? b=aa o->j.get? b=aa o):io (ftKey h) (tuples' ah) P w A {s with heap:=j}:=λE x y a b Q B z r=>by obtain⟨G,q,rfl⟩:=ftKey_some B;obtain⟨K,p,rfl⟩:=ftKey_some z;obtain⟨_,M,n,rfl,C,i⟩:=q.keep k;obtain⟨_,L,g,rfl,F,c⟩:=p.keep k;obtain⟨o,u,_,m,v⟩:=C;obtain⟨H,D,_,I,l⟩:=F;refine PySem.W.kat_lt u v D l (lex_strs 0 i c ?_ r);have f:=strs_len i;have d:=strs_len c;rw[iQ]at f d;rw[f,d]
theorem ft_kind{b:List aj}{Q:gI->ao->Prop}(c:∀v∈b,∃d,FtIs s.heap d v)(I:2<=b.length)(h:Q (tuples' ah) s):ar (au P w) A (keyKind' b.toArray) Q E s:=by
 have i:∀(b:List aj),(∀v∈b,∃d,FtIs s.heap d v)->∃fs,PySem.W.KatTups s.heap b fs/\fs.length=b.length/\∀f∈fs,∃z t,f=Value.str z t:=by
  intro b
  induction b with
  |nil=>intro _;exact⟨[],PySem.W.KatTups.nil,rfl,λf g=>by simp at g⟩
  |cons v b x=>
   intro c;obtain⟨fs,p,r,n⟩:=x λu y=>c u (j8 _ y);obtain⟨d,G,a,j,rfl,⟨o,B,F,m,D⟩,q⟩:=c v ln;cases d with
   |nil=>exact absurd rfl G
   |cons z H=>
    generalize C:j.toList=l at q;cases q with
    |cons _ t q=>
     refine⟨.str z t::fs,PySem.W.KatTups.cons B F D (by rw[<-oF,C];rfl) p,by simp[r],λf g=>?_⟩;rcases bI.mp g with rfl|g
     .exact⟨z,t,rfl⟩
     .exact n f g
 obtain⟨fs,p,r,n⟩:=i b c;refine PySem.W.kat_kind (T:=.type "str") p ∅ (λv c=>?_) (by decide) ?_
 .obtain⟨z,t,rfl⟩:=n v c;exact .now
 .have:(Value.type "str" != Value.type "tuple")=ah:=by decide
  rw[this];exact h
end
end L2
namespace Pu
open L2
section
variable{K:ax}{F g:ag->Prop}{S:Nat->ag->Prop}{f:ai}{d:St}{H b:Hp}
mutual
theorem aN.mono2(n:∀a i,Rd H a (.lst i)->Rd b a (.lst i))(m:∀a i,H a=aa (.tup i)->b a=aa (.tup i))(l:∀a c,H a=aa (pi a c)->b a=aa (pi a c)):∀(x:PV) (v:V),aN K H F x v->aN K b F x v
 |.non,_,h=>h
 |.bl _,_,h=>h
 |.int _,_,h=>h
 |.str _,_,h=>h
 |.raw _,_,h=>h
 |.exc _,_,⟨a,e,h⟩=>⟨a,e,l a _ h⟩
 |.tup i,_,⟨a,j,e,p,o⟩=>⟨a,j,e,m a _ p,aS.mono2 n m l i j o⟩
 |.lst i,_,⟨a,j,e,p,q,o⟩=>⟨a,j,e,n a j p,q,aS.mono2 n m l i j o⟩
theorem aS.mono2(n:∀a i,Rd H a (.lst i)->Rd b a (.lst i))(m:∀a i,H a=aa (.tup i)->b a=aa (.tup i))(l:∀a c,H a=aa (pi a c)->b a=aa (pi a c)):∀(i:List PV) (j:List V),aS K H F i j->aS K b F i j
 |[],_,h=>h
 |x::i,_,⟨v,r,e,p,o⟩=>⟨v,r,e,aN.mono2 n m l x v p,aS.mono2 n m l i r o⟩
end
def pJ(p:HO):Prop:=(∃a,p=.dT a)\/∃o a,p=.frz o (.dT a)
theorem pJ.lst{p:HO}(h:pJ p)(a:List V):p≠.lst a/\(∀o,p≠.frz o (.lst a))/\p≠.tup a:=by
 rcases h with⟨ws,rfl⟩|⟨o,ws,rfl⟩
 .exact⟨λz=>(nomatch z),λ_ z=>(nomatch z),λz=>(nomatch z)⟩
 .exact⟨λz=>(nomatch z),λ_ z=>(by cases z),λz=>(nomatch z)⟩
section
variable{a:ag}{p q:HO}
theorem xZ(g:H a=aa p)(d:pJ p):∀b c,Rd H b (.lst c)->Rd (upd H a q) b (.lst c):=λb c h=>by
 have f:b≠a:=by
  rintro rfl;rcases h with h|⟨o,h⟩ <;> rw[g]at h
  .exact(d.lst c).1 (cQ h)
  .exact(d.lst c).2.1 o (cQ h)
 rcases h with h|⟨o,h⟩
 .exact .inl (by rw[bh f];exact h)
 .exact .inr ⟨o,by rw[bh f];exact h⟩
theorem uU(f:H a=aa p)(d:pJ p):∀b c,H b=aa (.tup c)->upd H a q b=aa (.tup c):=λb c h=>by rw[bh (by rintro rfl;rw[f]at h;exact(d.lst c).2.2 (cQ h))];exact h
theorem wJ(f:H a=aa p)(d:pJ p):∀b c,H b=aa (pi b c)->upd H a q b=aa (pi b c):=λb c h=>by
 rw[bh (by
  rintro rfl;rw[f]at h;cases h;rcases d with⟨ws,z⟩|⟨o,ws,z⟩ <;> cases z)];exact h
theorem aI.recast(r:aI K F S ε σ H)(f:H a=aa p)(d:pJ p)(u:¬U S a):aI K F S ε σ (L2.upd H a q):=by
 have n:∀x v,aN K H F x v->aN K (L2.upd H a q) F x v:=aN.mono2 (xZ f d) (uU f d) (wJ f d);have l:∀x v,aS K H F x v->aS K (L2.upd H a q) F x v:=aS.mono2 (xZ f d) (uU f d) (wJ f d);have s:∀i b,S i b->b≠a:=λi b z e=>u ⟨i,e ▸ z⟩;refine⟨r.len,λb z=>?_,λi pv e=>let ⟨v,j,g⟩:=r.val i pv e;⟨v,j,n _ _ g⟩,λi po e=>let ⟨b,j,g⟩:=r.own i po e;⟨b,j,g.mono n l λc o z w=>by rw[bh (s i c z)];exact w⟩,λi b z=>?_,r.dist⟩
 .obtain⟨o,h⟩:=r.ex b z;by_cases m:b=a
  .subst m;exact⟨_,upd_same⟩
  .exact⟨o,by rw[bh m];exact h⟩
 .obtain⟨j,g,o,A,y⟩:=r.foot i b z;exact⟨j,g,o,by rw[bh (s i b z)];exact A,y⟩
end
theorem aI.putOwn{j:Nat}{po:PO}{a:ag}{Sa:ag->Prop}(r:aI K F S ε σ H)(d:j<ε.length)(e:σ[j]?=aa (aa (.ref a)))(h:ef K H F po a Sa)(f:u8 F S H Sa):aI K F (λk b=>(S k b/\k≠j)\/(k=j/\Sa b)) (ε.set j (.own po)) σ H:=by
 have:=r.setOwn d h f;have g:σ.set j (aa (.ref a))=σ:=by
  apply qi;intro k;by_cases c:j=k
  .subst c;rw[d8 (by rw[<-r.len];exact d),e]
  .rw[cN c]
 rw[g]at this;exact this
end
def CW:aE->PV
 |.inl i=>.int i
 |.inr z=>.str z.cps.toList
def li(k:eX):PV:=.tup (k.map CW)
def qR:aE->Bool
 |.inl _=>ah
 |.inr z=>decide (z.cps.toList.length<=bd)
def zn(a:List (eX×PV)):Bool:=a.all λp=>p.1.all qR
section
variable{K:ax}{F:ag->Prop}{H:Hp}
theorem zB:∀{k:eX},k.all qR=ah->aS K H F (k.map CW) (k.map kV)
 |[],_=>rfl
 |.inl i::k,h=>⟨_,_,rfl,rfl,zB (by simpa[qR]using h)⟩
 |.inr z::k,h=>by rw[oz,iT]at h;exact⟨_,_,rfl,⟨by show V.str z=V.str (tS z.cps.toList);rw[pG],of_decide_eq_true h.1⟩,zB h.2⟩
theorem Px{k:eX}{b:ag}(h:k.all qR=ah)(a:H b=aa (.tup (k.map kV))):aN K H F (li k) (.ref b):=⟨b,_,rfl,a,zB h⟩
theorem jg.keys{a:List (eX×PV)}{b:List (eX×V)}(h:jg K H F a b):b.map (·.1)=a.map (·.1):=by
 unfold jg at h
 induction h with
 |nil=>rfl
 |cons r _ c=>rw[b8,b8,c,r.1]
end
section
variable{X:Cx}{E:XK}{pin:List Nat}{e b c:ay}{de db l:ai->R PV}{d:Pos}
def uW(db l:ai->R PV):ai->R PO:=λε=>(db ε).bind λk ε1=>(l ε1).bind λy a=>(aO (og k) a).bind λf a=>.ok (.dT [(f,y)]) a
theorem KU(hu:X.A.units+64<cLine)(hb:DE X E b db)(hc:DE X E c l):DN X E (.Dict [aa b] [c] d) (uW db l):=λF S N I H Q s h=>by
 refine b_ (JX ∅ bM bM) λp g=>?_;have al:Al F F H (upd H p (.dT [])):=Al.new0 g;have Z:¬F p:=λz=>by obtain⟨o,q⟩:=s.ex p z;rw[g]at q;cases q
 have Y:¬U S p:=λ⟨i,z⟩=>by obtain⟨_,_,o,q,_⟩:=s.foot i p z;rw[g]at q;cases q
 have B:Grow (U S) (U S) F F H (upd H p (.dT [])):=al.grow;refine hb F S N I _ _ (s.al al) ((Ok.bindB h B).imp λk m F1 S1 H1 J D h1 u O=>?_);obtain⟨e1,x,v⟩:=D.stay (upd_same:upd H p (.dT []) p=aa (.dT [])) Y Z;refine hc F1 S1 m I H1 _ J ((Ok.bindB h1 (B.trans D)).imp λy M L S2 H2 T C j w n=>?_);obtain⟨K,f,a⟩:=C.stay e1 v x;cases G:og k with
 |none=>rw[G]at j;exact j.elim
 |some A=>rw[G]at j;simp only[bV,R.bind_ok]at j;have r:aN X.K H2 L k u:=O.grow C J.fit;obtain⟨bb,rfl,W⟩:=CQ r G;refine⟨_,_,rfl,K,bb,A,rfl,W,?_⟩;obtain⟨gl,fit,P⟩:=T.lay (o':=.dT [(A,w)]) K trivial f a;have g3:=((B.trans D).trans C).lay (o':=.dT [(A,w)]) g;refine j L S2 _ P g3 p (λb=>b=p) ⟨⟨_,upd_same,.cons ⟨rfl,n.grow gl fit⟩ .nil⟩,λb=>kM⟩ λb z=>?_;subst z;exact⟨g,f,a,_,upd_same,trivial⟩
def uV(i j:Nat):ai->R aM:=λε=>match ε[j]? with
 |some (.own a)=>if i<ε.length then .ok .next ((ε.set j .none).set i (.own a))else .no
 |_=>.no
theorem KQ(i j:Nat){x y:Str}{p m:Pos}(I:X.N.Nodup)(w:i∉pin:=by decide)(B:X.N[i]?=aa x:=by rfl)(s:Loc X.env.scope x:=by first|exact Or.inl rfl|exact Or.inr rfl)(v:jj (.Name y m) (aa (.Name x p)) d.line X.env=pure ak:=by rfl)(C:X.fn x=ah\/X.env.scope.names.lookup x=aa .local:=by first|exact .inl rfl|exact .inr rfl) (g:X.N[j]?=aa y:=by rfl) (u:eJ X.env.scope y:=by eq_refl)(G:(y==("__debug__":Str))=ak:=by decide) (L:(y==("__classdict__":Str))=ak:=by decide):DS X E pin (.Assign [.Name x p] (.Name y m) d) (uV i j):=λF S N M H D f h=>by
 unfold uV at h;split at h
 .rename_i O K;split at h
  .rename_i A;obtain⟨a,J,r⟩:=f.own j _ K;refine fX (Bg I B s (fq g u G L) v C) ⟨_,J,?_⟩;refine h F _ _ H ((f.drop j).setOwn (Sa:=S j) (by rw[gs];exact A) r λb z=>⟨(f.foot j b z).2.1,λ⟨k,q,n⟩=>n (f.dist k j b q z),(f.foot j b z).2.2⟩) ⟨λ_ z=>z,λ_ _ z _=>z,λ_ o z=>⟨o,z⟩,λ_ z=>.inl z,λb ⟨k,z⟩=>?_⟩ (iY.set w);rcases z with z|⟨_,z⟩
   .exact .inl ⟨k,z.1.1⟩
   .exact .inl ⟨j,z⟩
  .exact h.elim
 .exact h.elim
def rE(i j:Nat)(db:ai->R aM):ai->R aM:=λg=>(aO (jS g j) g).bind λa g=>if zn a=ah then match dZ i db (a.map λp=>li p.1) (g.set j .none)with
 |.ok .next f=>if j<f.length then .ok .next (f.set j (.own (.dT a)))else .no
 |_=>.no else .no
theorem KY(i j:Nat){x y:Str}{p yp:Pos}{M:List bo}{db:ai->R aM}(v3:vp (au X.prog X.w) X.A X.env X.xe)(hc:X.calm=ah)(hN:X.N.Nodup)(hb:iC X E (j::pin) M db)(hp:i∉j::pin:=by decide) (hx:X.N[i]?=aa x:=by rfl) (hl:Loc X.env.scope x:=by first|exact Or.inl rfl|exact Or.inr rfl) (hs:∀x,lp (.Name y yp) X.env x=pure x:=by intro _;rfl)(hf:X.fn x=ah\/X.env.scope.names.lookup x=aa .local:=by first|exact .inl rfl|exact .inr rfl) (hNj:X.N[j]?=aa y:=by rfl) (hv:eJ X.env.scope y:=by eq_refl)(hd:(y==("__debug__":Str))=ak:=by decide) (bB:(y==("__classdict__":Str))=ak:=by decide):DS X E pin (.For (.Name x p) (.Name y yp) M [] d) (rE i j db):=λF S ε σ H D rl h=>by
 unfold rE at h;cases e0:jS ε j with
 |none=>rw[e0]at h;exact h.elim
 |some L=>
  rw[e0]at h;simp only[bV,R.bind_ok]at h;split at h;rotate_left
  .exact h.elim
  rename_i hok;split at h;rotate_left
  .exact h.elim
  rename_i P ID;split at h;rotate_left
  .exact h.elim
  rename_i hje;obtain⟨a,A,ea,Y,hk,mr,hSo⟩:=rl.dtAt (ul e0);have lJ:=hk.keys;refine fX (Pz j v3 hc hNj hv hd bB (vj hN hx hl hf) pT hs) ⟨a,A,ea,Y,λo nd hz lN=>?_⟩;have tj:¬U (λk b=>S k b/\k≠j) a:=λ⟨k,z1,z2⟩=>z2 (rl.dist k j a z1 mr);have hFa:¬F a:=(rl.foot j a mr).2.1;have r0:aI X.K F (λk b=>S k b/\k≠j) (ε.set j .none) σ (upd H a (.frz o (.dT A))):=(rl.drop j).recast Y (.inl ⟨_,rfl⟩) tj;have r:∀(n:Nat) (b:ag),(gq o)[n]?=aa b->∃k,(L.map λp=>li p.1)[n]?=aa (li k)/\k.all qR=ah/\H b=aa (.tup (k.map kV)):=λn b hb=>by
   obtain⟨p,h1,h2⟩:=lN.2 n b hb;have h3:(A.map (·.1))[n]?=aa p.1:=by rw[eD,h1];rfl
   rw[lJ,eD]at h3;obtain⟨q,h4,h5⟩:=lx.mp h3;refine⟨p.1,by rw[eD,h4,oE,h5],?_,h2⟩;have:=l_.mp hok q (oy h4);rw[<-h5];exact this
  have bp:(gq o).length=(L.map λp=>li p.1).length:=by rw[b7,lN.1,hk.len]
  generalize hxs:(L.map λp=>li p.1)=xs at ID r bp;have fin:∀B I m u,aI X.K B I P m u->Grow (U λk b=>S k b/\k≠j) (U I) F B (upd H a (.frz o (.dT A))) u->iY (j::pin) σ m->t_ a A D m u:=by
   intro B I m u r' C N;have Z:u a=aa (.frz o (.dT A)):=C.keep a _ upd_same tj;obtain⟨_,nF',nS'⟩:=C.stay (upd_same:upd H a (.frz o (.dT A)) a=_) tj hFa;have dt:pJ (.frz o (.dT A)):=.inr ⟨_,_,rfl⟩;have W:pJ (.dT A):=.inl ⟨_,rfl⟩;have T:aI X.K B I P m (upd u a (.dT A)):=r'.recast Z dt nS';have nB:jg X.K (upd u a (.dT A)) B L A:=hk.mono λx v z=>aN.mono2 (xZ Z dt) (uU Z dt) (wJ Z dt) _ _ ((aN.mono2 (xZ Y W) (uU Y W) (wJ Y W) _ _ z:aN X.K (upd H a (.frz o (.dT A))) F x v).grow C r0.fit);have r4:=T.putOwn (po:=.dT L) (Sa:=λb=>b=a) hje (by rw[N j (by simp)];exact ea) ⟨⟨A,upd_same,nB⟩,λ_=>kM⟩ λb z=>by subst z;exact⟨nF',nS',_,upd_same,trivial⟩
   refine⟨o,Z,h B _ m _ r4 ⟨C.fro,λb o' e n=>?_,λb o' e=>?_,λb z=>?_,λb ⟨k,z⟩=>?_⟩ λk hk=>N k (by simp[hk])⟩
   .have J:b≠a:=by rintro rfl;exact n ⟨j,mr⟩
    rw[bh J];exact C.keep b o' (by rw[bh J];exact e) λ⟨k,z⟩=>n ⟨k,z.1⟩
   .by_cases J:b=a
    .subst J;exact⟨_,upd_same⟩
    .obtain⟨o2,q⟩:=C.there b o' (by rw[bh J];exact e);exact⟨o2,by rw[bh J];exact q⟩
   .rcases C.fnew b z with w|w|⟨k,w⟩
    .exact .inl w
    .refine .inr (.inl ?_);by_cases J:b=a
     .subst J;rw[upd_same]at w;cases w
     .rw[bh J]at w;exact w
    .exact .inr (.inr ⟨k,w.1⟩)
   .rcases z with z|⟨_,z⟩
    .rcases C.onew b ⟨k,z.1⟩with⟨k',w⟩|w
     .exact .inl ⟨k',w.1⟩
     .by_cases J:b=a
      .subst J;rw[upd_same]at w;cases w
      .rw[bh J]at w;exact .inr w
    .subst z;exact .inl ⟨j,mr⟩
  refine FY (D:=⟨t_ a A D,λ_ _=>False,λ_ _=>False,λ_ _=>False⟩) (IZ lN.1) (λn m u=>∃B I G,aI X.K B I G m u/\Grow (U λk b=>S k b/\k≠j) (U I) F B (upd H a (.frz o (.dT A))) u/\iY (j::pin) σ m/\dZ i db (xs.drop n) G=.ok .next P) ⟨F,_,_,r0,Grow.refl ..,iY.refl _ _,ID⟩ (λn m u _ ⟨B,I,G,_,g,_⟩=>g.keep a _ upd_same tj) ?_ ?_
  .rintro n v m u hv' ⟨B,I,G,r',C,N,q⟩;rw[eD]at hv';obtain⟨bb,qy,rfl⟩:=lx.mp hv';obtain⟨k,kT,eQ,fE⟩:=r n bb qy;have hn:n<xs.length:=(cE.mp kT).1;have ed:xs.drop n=li k::xs.drop (n+1):=by rw[qj hn];congr 1;exact(cE.mp kT).2
   rw[ed]at q;have js:upd H a (.frz o (.dT A)) bb=aa (.tup (k.map kV)):=uU Y (.inl ⟨_,rfl⟩) _ _ fE;have lK:u bb=aa (.tup (k.map kV)):=C.imm r0.fit js (λz=>z);have r2:=r'.set (i:=i) (Px (K:=X.K) (F:=B) eQ lK);have gl:Grow (U I) (U λj b=>I j b/\j≠i) B B u u:=Grow.less i;show pC X M _ (m.set i (aa (.ref bb))) u;refine hb B _ _ _ u _ r2 ?_;unfold dZ at q;cases e:db (G.set i (.val (li k)))with
   |no=>rw[e]at q;cases q
   |er c Q=>rw[e]at q;cases q
   |ok f Q=>
    rw[e]at q;cases f with
    |next=>exact λF3 S3 O H3 T g3 p3=>⟨F3,S3,Q,T,(C.trans gl).trans g3,(N.trans (iY.set hp)).trans p3,q⟩
    |cont=>exact λF3 S3 O H3 T g3 p3=>⟨F3,S3,Q,T,(C.trans gl).trans g3,(N.trans (iY.set hp)).trans p3,q⟩
    |brk=>
     cases q;exact λF3 S3 O H3 T g3 p3=>fin F3 S3 O H3 T ((C.trans gl).trans g3) ((N.trans (iY.set hp)).trans p3)
    |ret s=>cases q
  .rintro m u ⟨B,I,G,r',C,N,q⟩;rw[b7,bp,y3]at q;cases q;exact fin B I m u r' C N
end
end Pu
namespace L2
open Mx
def iO(a b:List Tx):Bool:=!ltL b a
def ff(ks:List (List Tx)):List (List Tx):=ks.mergeSort iO
theorem Ra(a b:List Tx):(iO a b||iO b a)=ah:=by
 unfold iO;cases h:ltL b a with
 |false=>rfl
 |true=>
  have:ltL a b=ak:=by
   cases c:ltL a b with
   |false=>rfl
   |true=>exact absurd (ordL.trans _ _ _ h c) (by have:ltL b b=ak:=ordL.irrefl _;show ¬ltL b b=ah;rw[this];decide)
  rw[this];rfl
theorem J7(a b c:List Tx)(f:iO a b=ah)(d:iO b c=ah):iO a c=ah:=by unfold iO at *;have:ltL c a=ak:=sO (O:=ordL) (a:=a) (b:=b) (c:=c) (show ltL b a=ak by simpa using f) (show ltL c b=ak by simpa using d);rw[this];rfl
theorem Qn(a b:List Tx)(d:iO a b=ah)(c:iO b a=ah):a=b:=by unfold iO at *;exact ordL.total a b (show ltL a b=ak by simpa using c) (show ltL b a=ak by simpa using d)
theorem pL(ks:List (List Tx)):(ff ks).Perm ks:=List.mergeSort_perm ks iO
theorem Q9(ks:List (List Tx)):(ff ks).Pairwise (λa b=>iO a b=ah):=List.pairwise_mergeSort J7 Ra ks
theorem OY{ks c:List (List Tx)}(f:c.Perm ks)(d:c.Pairwise (λx y=>iO x y=ah)):c=ff ks :=List.Perm.eq_of_pairwise (le:=λa b=>iO a b=ah) (λa b _ _=>Qn a b) d (Q9 ks) (f.trans (pL ks).symm)
def eW(k:List Tx):List aE:=k.map λx=>Sum.inr (tS x)
theorem JS(k:List Tx):(eW k).map kV=b0 k:=by simp[eW,b0,kV,tV]
section
variable{X:Cx}
theorem OX{P:aR}{w:aL}{H:Hp}{h:aC}{k:List Tx}{a:ag}(ok:dH P w H h)(e:H a=aa (.tup (b0 k)))(c:k≠[]):FtIs h (k.map tS) (.ref a):=by
 obtain⟨_,b,r,p,_⟩:=(show cn P w H h a (.tup (b0 k))from ok a _ e)
 exact⟨λz=>c (by simpa using z),a,b.toArray,rfl,p,by have:=wu r;rw[Ij];exact this⟩
theorem J5(hu:X.A.units+64<cLine)(hc:X.calm=ah):fO X (.builtin "sorted") (λxs H Q=>∃(d:ag) (a:List (List aE×V)) (ks:List (List Tx)),xs=[.ref d]/\H d=aa (.dT a)/\a.map (·.1)=ks.map eW/\(∀k∈ks,k≠[])/\ks.length<=1000000 /\ ∀l (O:List (List Tx×ag)),H l=ae->(∀q∈O,H q.2=aa (.tup (b0 q.1)))->O.map (·.1)=ff ks->Q (.ref l) (upd H l (.lst (O.map λq=>.ref q.2)))):=by
 intro af s σ H xs us Q I r h;obtain⟨d,a,ks,rfl,hd,hk,cc,W,q⟩:=h;obtain⟨u,rfl,ru⟩:=vals1 r;cases ru;obtain⟨o,ho,_⟩:=I.freezeT hd;obtain⟨hs,es,rd,T,nd,C,oU⟩:=zV ho (show cn X.prog X.w H s.heap d (.dT a)from I.hok d _ hd);have B:a.length=ks.length:=by have:=congrArg m8 hk;simpa using this
 have oW:∀x∈ks.zip (gq o),H x.2=aa (.tup (b0 x.1)):=λx c=>by
  obtain⟨n,D⟩:=HX c;rw[List.getElem?_zip_eq_some]at D;obtain⟨p,Z,f⟩:=C.2 n _ D.2;have L:(a.map (·.1))[n]?=aa p.1:=by rw[eD,Z];rfl
  rw[hk,eD,D.1,oE]at L;rw[f,<-cQ L,JS]
 refine sorted_genK ∅ (PySem.W.kdu_collect (Ou (P:=X.prog) (w:=X.w) (es:=es) (ep:=qV o) hs) (tD (I.ok.hd hc)) rd (by rw[T,B];exact lm (um W)) λm G N k K=>?_);have I1:Inv X af σ H {s with heap:=m,toks:=G}:=I.kept (t':=G) k;have jn:N.toList=(ks.zip (gq o)).map λx=>Value.ref x.2:=by
  have F:(ks.zip (gq o)).map (λx=>Value.ref x.2)=(gq o).map Value.ref:=by rw[<-Il (l₁:=ks) (l₂:=gq o) (by rw[C.1,B];exact a6 _),dQ];simp[Il,C.1,B]
  rw[F];apply qi;intro n;by_cases D:n<es.size
  .have sY:n<N.size:=by rw[K.1];exact D
   obtain⟨e,Z,f⟩:=K.2 n N[n] (by rw[sK]);obtain⟨b,L,h4⟩:=oU n e Z;rw[eD,L,oF,sK sY,f,h4];rfl
  .rw[oG (by rw[iQ,K.1];lia),oG (by rw[b7,C.1,<-T];lia)]
 have g:∀(f:aC),(∀b o,m.get? b=aa o->f.get? b=aa o)->∀x∈ks.zip (gq o),FtIs f (x.1.map tS) (.ref x.2):=λf i x c=>(OX I1.hok (oW x c) (cc _ (yJ c).1)).keep i;have mem:∀v∈N.toList,∃x∈ks.zip (gq o),v=.ref x.2:=λv j=>by rw[jn]at j;obtain⟨x,c,rfl⟩:=cb.mp j;exact⟨x,c,rfl⟩
 refine⟨ftKey m,tuples' ah,λv j=>?_,by rw[iQ,K.1,T,B];exact W,λA' f hA i kf=>⟨ftLt hA i,λ{E Q} qq=>ft_kind (s:={s with heap:=f,toks:=G}) (λv j=>?_) kf qq⟩,λf S e i ke b1 b2=>?_⟩
 .obtain⟨x,c,rfl⟩:=mem v j;exact⟨_,ftKey_of (g m (λ_ _ z=>z) x c)⟩
 .obtain⟨x,c,rfl⟩:=mem v j;exact⟨_,g f i x c⟩
 .rw[jn]at b1;obtain⟨A,F,M⟩:=Rs b1;have J:∀q∈A,q∈ks.zip (gq o):=λq Y=>M.mem_iff.mp Y;refine⟨.ref _,_,I1.laid (t':=G) (o:=.lst (A.map λq=>.ref q.2)) i (a6 _) ⟨?_,S.toList,e,?_,by rw[HN];exact ke⟩,rfl,q _ A I1.fresh (λq Y=>oW q (J q Y)) ?_⟩
  .rw[b7,M.length_eq,List.length_zip];have:=um W;lia
  .rw[F];clear F M J
   induction A with
   |nil=>exact .nil
   |cons q A ih=>exact .cons rfl ih
  .refine OY ?_ ?_
   .have:=M.map (·.1);rwa[List.map_fst_zip (by rw[C.1,B];exact a6 _)]at this
   .rw[F]at b2;refine yV.mpr ((yV.mp b2).imp_of_mem λ{x y} c hy hh=>?_);have:=hh _ _ (ftKey_of (g m (λ_ _ z=>z) x (J x c))) (ftKey_of (g m (λ_ _ z=>z) y (J y hy)));have:ltL (cpsL (y.1.map tS)) (cpsL (x.1.map tS))=ak:=this;simp only[cpsL,dQ,sF,kt,sP]at this;unfold iO;rw[this];rfl
end
end L2
namespace Pu
open L2
def oZ:eX->Option (List Tx)
 |[]=>aa []
 |.inr z::r=>(oZ r).map (z.cps.toList::·)
 |_=>ae
def pR:List (eX×PV)->Option (List (List Tx))
 |[]=>aa []
 | (k,_)::r=>(oZ k).bind λt=>(pR r).map (t::·)
theorem Dq:∀{k:eX}{t:List Tx},oZ k=aa t->k=eW t
 |[],t,h=>by cases h;rfl
 |.inr z::r,t,h=>by simp only[oZ,lx]at h;obtain⟨l,a,rfl⟩:=h;rw[Dq a];simp[eW,pG]
 |.inl _::_,_,h=>by cases h
theorem Fx:∀{a:List (eX×PV)}{ks:List (List Tx)},pR a=aa ks->a.map (·.1)=ks.map eW
 |[],ks,h=>by cases h;rfl
 | (k,_)::r,ks,h=>by simp only[pR,Ik,lx]at h;obtain⟨t,c,d,b,rfl⟩:=h;rw[b8,b8,Fx b,Dq c]
theorem Aa(t:List Tx):oZ (eW t)=aa t:=by
 induction t with
 |nil=>rfl
 |cons x t a=>show oZ (Sum.inr (tS x)::eW t)=_;simp[oZ,a,kt]
theorem OB(ks:List (List Tx))(v:PV):pR (ks.map λk=>(eW k,v))=aa ks:=by
 induction ks with
 |nil=>rfl
 |cons k ks a=>simp[pR,a,Aa]
def nV(k:List Tx):PV:=.tup (am k)
def wY(a:List (eX×PV)):Option PO:=(pR a).bind λks=>if ks.length<=1000000/\(∀k∈ks,k≠[]/\∀x∈k,x.length<=bd)then aa (.lst ((ff ks).map nV))else ae
def uI(i:Nat):ai->R PO:=λε=>(aO (jS ε i) ε).bind λa ε=>aO (wY a) ε
theorem Q4{X:Cx}{E:XK}(i:Nat){y:Str}{G p s:Pos}(L:X.A.units+64<cLine)(P:X.calm=ah)(M:X.mg "sorted"=ae)(W:X.N[i]?=aa y:=by rfl)(eP:eJ X.env.scope y:=by eq_refl)(O:(y==("__debug__":Str))=ak:=by decide) (bB:(y==("__classdict__":Str))=ak:=by decide) (N:Gl X "sorted":=by rfl):DN X E (.Call (.Name "sorted" p) [.Name y G] [] s) (uI i):=λF S D σ H Q m h=>by
 unfold uI at h;cases C:jS D i with
 |none=>rw[C]at h;exact h.elim
 |some u=>
  rw[C]at h;simp only[bV,R.bind_ok]at h;obtain⟨a,I,ea,T,v,ia,_⟩:=m.dtAt (ul C);unfold wY at h;cases B:pR u with
  |none=>rw[B]at h;exact h.elim
  |some ks=>
   rw[B,g8]at h;split at h
   .rename_i A;refine b_ (lZ (J5 L P) N M n0 (jb (fq W eP O bB) kn (jR rfl)) (by decide) (by decide) (jR rfl) rfl) ⟨.ref a,ea,a,I,ks,rfl,T,by rw[v.keys];exact Fx B,λk v=>(A.2 k v).1,A.1,λl d r n f=>?_⟩;have al:Al F F H (L2.upd H l (.lst (d.map λq=>.ref q.2))):=Al.new0 r;have reps:∀(d:List (List Tx×ag)),(∀q∈d,H q.2=aa (.tup (b0 q.1))/\∀x∈q.1,x.length<=bd)->aS X.K H F ((d.map (·.1)).map nV) (d.map λq=>.ref q.2):=by
     intro d
     induction d with
     |nil=>intro _;rfl
     |cons q d J=>intro n;obtain⟨Z,Y⟩:=n q ln;exact⟨_,_,rfl,⟨q.2,b0 q.1,rfl,Z,Sm.mpr ⟨rfl,Y⟩⟩,J λz K=>n z (j8 _ K)⟩
    refine h F S _ (m.al al) al.grow l (λc=>c=l) ⟨⟨_,upd_same,?_⟩,λc=>kM⟩ λb z=>?_
    .rw[<-f];refine al.reps (reps d λq g=>⟨n q g,?_⟩);have:q.1∈ff ks:=by rw[<-f];exact cb.mpr ⟨q,g,rfl⟩
     exact(A.2 _ ((pL ks).mem_iff.mp this)).2
    .subst z;exact⟨r,λz=>y8 (m.ex _ z) (λo w=>by rw[r]at w;cases w),λ⟨j,z⟩=>y8 (m.foot j b z).2.2 (λo w=>by rw[r]at w;cases w.1),_,upd_same,trivial⟩
   .exact h.elim
end Pu
namespace L2
theorem NL{P:aR}{w:aL}{A:aY}{E:aj->ao->Prop}{s:ao}{t b:ag}{f:List aj}{Q:aj->ao->Prop}(v:IsTup s.heap t #[])(x:IsTup s.heap b f.toArray)(h:Q (.ref b) s):ar (au P w) A (iR .Add (.ref t) (.ref b)) Q E s:=by
 obtain⟨⟨z,y,p,r⟩,l,o,n,m⟩:=id v;obtain⟨⟨q,c,d,a⟩,i,g,u,j⟩:=id x;simp only at o m g j;subst o m g j;exact concat_meets ⟨_,l,rfl⟩ ⟨_,i,rfl⟩ Hv seq_tuple_add Hw Hx (Hy _ _)
  (tuple_addW0 t b #[] f.toArray n u y c r a rfl) ⟨l,i,h⟩
def A6(K:ax):R2:=λx y H Q=>∃a b c,x=.ref a/\y=.ref b/\cp K H a []/\cp K H b c/\Q (.ref b) H
theorem SJ{X:Cx}:bS X (iR .Add) (A6 X.K):=by
 intro w s o H x y v u Q I f d h;obtain⟨a,b,p,rfl,rfl,n,m,q⟩:=h;cases f;cases d;obtain⟨l,g,j,_⟩:=I.tuple n;obtain⟨c,r,i,_⟩:=I.tuple m;cases g;exact NL j i ⟨.ref b,H,I,rfl,q⟩
end L2
namespace Pu
open L2
def u6:PV->PV->Option PV
 |.tup [],.tup a=>aa (.tup a)
 |x,y=>bj x y
theorem J2{X:Cx}:bS X (iR .Add) (λx y H Q=>A6 X.K x y H Q\/xi X.K x y H Q):=SJ.or fz
theorem Nk{K:ax}:P2 K (λx y H Q=>A6 K x y H Q\/xi K x y H Q) u6:=λF H x y v u Q pv d c e q=>by
 unfold u6 at e;split at e
 .cases e;obtain⟨a,h,rfl,f,i⟩:=d;obtain⟨b,g,rfl,j,l⟩:=id c;rw[show h=[] from i]at f;exact .inl ⟨a,b,g,rfl,rfl,cp.of f,cp.of j,q _ F H (Al.refl ..) c⟩
 .exact .inr (fk F H _ _ v u Q pv d c e q)
end Pu
local macro_rules | `(tactic| simp! [$xs,*]) => `(tactic| simp [Pu.aG, Pu.cu, Pu.dB, Pu.d2, Pu.d1, Pu.dV, Pu.dC, Pu.dL, Pu.dF, Pu.aB, Pu.aD, Pu.bY, Pu.o4, Pu.bQ, Pu.cV, Pu.aU, Pu.gV, Pu.gO, Pu.bW, Pu.fj, Pu.eZ, Pu.cx, Pu.eM, Pu.fH, Pu.R.bind, Pu.aO, Pu.bR, Pu.fU, Pu.bO, Pu.back, Pu.gA, Pu.nK, Pu.iK, Pu.zP, Pu.yo, Pu.xO, Pu.br, Pu.i_, Pu.dE, Pu.cW, Pu.ez, Pu.yv, Pu.l0, Pu.GL, Pu.iX, Pu.ym, Pu.o5, Pu.kh, Pu.my, Pu.FH, Pu.pB, Pu.c7, Pu.i6, Pu.rH, Pu.lW, Pu.ub, Pu.imm, Pu.uT, Pu.mF, dP, m8, $xs,*])
local macro_rules | `(⇑$x) => `(.val (.int $x))
local macro_rules | `(↥$x) => `(.val (.str $x))
namespace Sh
open L2 Pu
set_option genInjectivity false in
structure Ad where
 SlitError:ag
 NoText:ag
 NoWidth:ag
 NoView:ag
 NoWindow:ag
 Never:ag
 Full:ag
 Nothing:ag
 Unlike:ag
 NoPlace:ag
 NoLetters:ag
 BadText:ag
 Seeker:ag
 Slit:ag
def yam(a:Ad):ai->R aM:=bY (dL uG (aB (dF (bP [1] (aT (dV 0)) (cL) (d2 (gz ak) (dV 0) (dV 1)))) (aD)))
def yt(a:Ad):ai->R Slot:=bR 2 [] (bO 0 (yam a))
def yaq(a:Ad):ai->R aM:=bY (my (dL jC (aB (dV 0) (aB (dC (.raw (.ty "int"))) (aD)))) (ym (dL jC (aB (dV 0) (aB (dC (.raw (.ty "bool"))) (aD))))))
def wF(a:Ad):ai->R Slot:=bR 1 [] (bO 0 (yaq a))
def yar(a:Ad):ai->R aM:=bY (my (br (aU (wF a) (gV (dV 0) (bW)))) (pB (c7 λi j=>decide (i<=j)) (c7 λi j=>decide (i<=j)) (dC (.int 1)) (dV 0) (dC (.int 4))))
def se(a:Ad):ai->R Slot:=bR 1 [] (bO 0 (yar a))
def yas(a:Ad):ai->R aM:=bY (my (dL jC (aB (dV 0) (aB (dC (.raw (.ty "str"))) (aD)))) (my (d2 (eqT ak) (dL bv (aB (dV 0) (aD))) (dV 1)) (br (aU (yt a) (gV (dV 0) (gV (dV 2) (bW)))))))
def rW(a:Ad):ai->R Slot:=bR 3 [] (bO 0 (yas a))
def yad(a:Ad):ai->R aM:=aG (cu (kh (iX (dB (dL jC (aB (dV 0) (aB (dC (.raw (.ty "tuple"))) (aD)))))) (iX (dB (pB (c7 λi j=>decide (i<=j)) (c7 λi j=>decide (i<=j)) (dC (.int 1)) (dL bv (aB (dV 0) (aD))) (dC (.int 9)))))) (bY (dC (.bl ak))) (ez))
 (aG (cu (iX (dB (dL uG (aB (dF (bP [1,2] (aT (dV 0)) (cL) (br (aU (rW a) (gV (dV 0) (gV (dV 1) (gV (dV 2) (bW)))))))) (aD))))) (bY (dC (.bl ak))) (ez))
 (bY (d2 (eqT ak) (dF (dL xJ (aB (dV 0) (aD)))) (dF (dL j3 (aB (dV 0) (aD)))))))
def n4(a:Ad):ai->R Slot:=bR 3 [] (bO 0 (yad a))
def yap(a:Ad):ai->R aM:=aG (cu (kh (iX (dB (dL jC (aB (dV 0) (aB (dC (.raw (.ty "tuple"))) (aD)))))) (dB (d2 (eqT ah) (dL bv (aB (dV 0) (aD))) (dC (.int 2))))) (bY (dC (.bl ak))) (ez))
 (bY (my (br (aU (se a) (gV (d2 aW (dV 0) (dC (.int 0))) (bW)))) (br (aU (n4 a) (gV (d2 aW (dV 0) (dC (.int 1))) (gV (d2 aW (dV 0) (dC (.int 0))) (gV (dV 1) (bW))))))))
def n5(a:Ad):ai->R Slot:=bR 2 [] (bO 0 (yap a))
def yao(a:Ad):ai->R aM:=o4 (aU (n5 a) (gV (dV 0) (gV (dC (.str [97,98,99])) (bW))))
def xL(a:Ad):ai->R Slot:=bR 1 [] (bO 0 (yao a))
def yag(a:Ad):ai->R aM:=cu (iX (dB (br (aU (xL a) (gV (dV 0) (bW)))))) (zR (.ref a.NoView) (λb=>bC ((dC (.str [97,32,118,105,101,119,32,105,115,32,97,32,116,117,112,108,101,32,111,102,32,97,32,119,105,100,116,104,32,97,110,100,32,97,32,114,105,115,105,110,103,32,116,117,112,108,101,32,111,102,32,49,32,116,111,32,57,32,119,105,110,100,111,119,115])) b))) (ez)
def rm(a:Ad):ai->R Slot:=bR 1 [] (bO 0 (yag a))
def yaj(a:Ad):ai->R aM:=aG (cV 1 (rD))
 (aG (λb=>cK (bU 2 (aT (dV 0)) (fG 1 (dV 2) (d2 bj (ij 1 (dV 2) (dC (.int 0))) (dC (.int 1)))) b))
 (jz 1))
def vf(a:Ad):ai->R Slot:=bR 1 [] (bO 2 (yaj a))
def yac(a:Ad)(c:ai->R Slot):ai->R aM:=aG (cu (iX (dB (ut 2))) (aG (rH 3 (dV 0)) (yv (.ret (.val .non)))) (ez))
 (aG (bQ 4 (dm dG (dV 0) (cU (d2 bj (d2 ku (dL bv (aB (dV 0) (aD))) (dV 1)) (dC (.int 1)))) (dU)))
 (λb=>cK (bU 5 (aT (dC (.str [97,98,99]))) (aG (bQ 6 (d2 bj (dV 4) (dV 5)))
 (cu (dB (d2 (c7 λi j=>decide (j<i)) (ij 2 (dV 6) (dC (.int 0))) (dC (.int 0)))) (aG (fG 2 (dV 6) (d2 ku (ik 2 (dV 6)) (dC (.int 1))))
 (aG (l0 (aU (c) (gV (d2 bj (dV 0) (dV 5)) (gV (dV 1) (gO 2 (gO 3 (bW)))))))
 (fG 2 (dV 6) (d2 bj (ik 2 (dV 6)) (dC (.int 1)))))) (ez))) b)))
def oh(a:Ad):Nat->ai->R Slot
 |0=>bR 4 [2,3] (bO 3 EK)
 |k+1=>bR 4 [2,3] (bO 3 (yac a (oh a k)))
def yaF(a:Ad):ai->R aM:=aG (l0 (aU (rm a) (gV (dV 0) (bW))))
 (aG (bQ 1 (d2 aW (dV 0) (dC (.int 0))))
 (aG (cV 2 (dL dE (aD)))
 (aG (λb=>cK (bU 3 (aT (dF (dL pV (aB (dF (bP [] (aT (d2 aW (dV 0) (dC (.int 1)))) (cL) (dm dG (dV 0) (dU) (cU (d1 fS (dC (.int 1))))))) (aD))))) (l0 (tF (oh a 12) (rG (dV 3) (rG (dV 1) (gN (i_ (aU (vf a) (gV (d2 aW (dV 0) (dC (.int 1))) (bW)))) (gO 2 (bW))))))) b))
 (jz 2))))
def rZ(a:Ad):ai->R Slot:=bR 1 [] (bO 3 (yaF a))
def yak(a:Ad):ai->R aM:=aG (cV 1 (rD))
 (aG (λb=>cK (bU 2 (aT (dV 0)) (aG (fG 1 (dm dG (dV 2) (dU) (cU (d1 fS (dC (.int 1))))) (d2 bj (ij 1 (dm dG (dV 2) (dU) (cU (d1 fS (dC (.int 1))))) (dC (.int 0))) (dC (.int 1))))
 (fG 1 (dm dG (dV 2) (cU (dC (.int 1))) (dU)) (d2 ku (ij 1 (dm dG (dV 2) (cU (dC (.int 1))) (dU)) (dC (.int 0))) (dC (.int 1))))) b))
 (jz 1))
def qX(a:Ad):ai->R Slot:=bR 1 [] (bO 2 (yak a))
def yaE(a:Ad):ai->R aM:=aG (cV 1 (tR (dm dG (d2 aW (dV 0) (dC (.int 0))) (dU) (cU (d1 fS (dC (.int 1))))) (dC (.bl ah))))
 (aG (bQ 2 (dC (.int 0)))
 (aG (λb=>cK (iN (dB (d2 (c7 λi j=>decide (i<j)) (dV 2) (mO 1))) (aG (bQ 2 (mO 1))
 (bU 3 (aT (dV 0)) (cu (kh (dB (i8 ak 1 (dm dG (dV 3) (dU) (cU (d1 fS (dC (.int 1))))))) (dB (i8 ak 1 (dm dG (dV 3) (cU (dC (.int 1))) (dU))))) (aG (fG 1 (dm dG (dV 3) (dU) (cU (d1 fS (dC (.int 1))))) (dC (.bl ah)))
 (fG 1 (dm dG (dV 3) (cU (dC (.int 1))) (dU)) (dC (.bl ah)))) (ez)))) 1000 b))
 (jz 1)))
def n8(a:Ad):ai->R Slot:=bR 1 [] (bO 3 (yaE a))
def yav(a:Ad):ai->R aM:=aG (cu (dB (d2 (c7 λi j=>decide (i<j)) (dV 1) (dL bv (aB (dV 0) (aD))))) (bY (d2 aW (dV 0) (dV 1))) (ez))
 (aG (cu (dB (d2 (eqT ak) (dV 0) (dF (dL dE (aD))))) (bY (dC (.int 0))) (ez))
 (bY (d2 bj (d2 k_ (d2 aW (dV 0) (d2 hZ (dV 1) (dL bv (aB (dV 0) (aD))))) (dC (.int 31))) (dV 1))))
def rF(a:Ad):ai->R Slot:=bR 2 [] (bO 0 (yav a))
def yaz(a:Ad):ai->R aM:=aG (bQ 3 (d2 hZ (d2 bj (d2 bj (d2 k_ (br (aU (rF a) (gV (dV 0) (gV (dV 1) (bW))))) (dC (.int 1103515245))) (d2 k_ (dC (.int 7919)) (dV 1))) (dC (.int 12345))) (dC (.int 2147483647))))
 (bY (d2 hZ (d2 hZ (d2 hZ (d2 uj (dV 3) (dC (.int 5))) (dC (.int 2147483647))) (dC (.int 999983))) (dV 2)))
def yq(a:Ad):ai->R Slot:=bR 3 [] (bO 1 (yaz a))
def yax(a:Ad):ai->R aM:=aG (rH 1 (dC (.int 0)))
 (o4 (aU (yq a) (gV (dV 0) (gV (lW (λb=>ub (bv b)) 1) (gV (dV 2) (bW))))))
def jE(a:Ad):ai->R Slot:=bR 3 [1] (bO 0 (yax a))
def yaA(a:Ad):ai->R aM:=bY (d2 aW (dV 2) (br (aU (jE a) (gV (dV 0) (gO 1 (gV (dL bv (aB (dV 2) (aD))) (bW)))))))
def xt(a:Ad):ai->R Slot:=bR 3 [1] (bO 0 (yaA a))
def yaC(a:Ad):ai->R aM:=aG (bQ 4 (br (aU (xt a) (gV (dV 0) (gO 1 (gV (dF (dL dE (aB (dC (.int 1)) (aB (dC (.int 2)) (aB (dC (.int 2)) (aB (dC (.int 3)) (aB (dC (.int 3)) (aB (dC (.int 3)) (aD))))))))) (bW)))))))
 (aG (bQ 5 (dC (.str [])))
 (aG (λb=>cK (bU 6 (dL jY (aB (d2 bj (dV 2) (br (aU (jE a) (gV (dV 0) (gO 1 (gV (d2 bj (d2 ku (dV 3) (dV 2)) (dC (.int 1))) (bW))))))) (aD))) (bQ 5 (d2 bj (dV 5) (d2 aW (dC (.str [97,98,99])) (br (aU (jE a) (gV (dV 0) (gO 1 (gV (dV 4) (bW))))))))) b))
 (bY (dV 5))))
def wP(a:Ad):ai->R Slot:=bR 4 [1] (bO 3 (yaC a))
def yaB(a:Ad):ai->R aM:=bY (dL k8 (aB (dF (dL j3 (aB (dF (bP [0,1] (dL jY (aB (dL bv (aB (dV 0) (aD))) (aD))) (dB (d2 (c7 λi j=>decide (i<=j)) (d2 bj (dV 0) (dV 2)) (dL bv (aB (dV 1) (aD))))) (dm dG (dV 1) (cU (dV 0)) (cU (d2 bj (dV 0) (dV 2)))))) (aD)))) (aD)))
def jV(a:Ad):ai->R Slot:=bR 2 [] (bO 0 (yaB a))
def yan(a:Ad):ai->R aM:=bY (my (br (aU (n5 a) (gV (dV 0) (gV (d2 bj (dC (.str [46])) (dC (.str [97,98,99]))) (bW))))) (d2 (c7 λi j=>decide (i<=j)) (lV wS (lV mC (dC (.str [])) (aB (d2 aW (dV 0) (dC (.int 1))) (aD))) (aB (dC (.str [46])) (aD))) (dC (.int 6))))
def nX(a:Ad):ai->R Slot:=bR 1 [] (bO 0 (yan a))
def yaf(a:Ad):ai->R aM:=cu (iX (dB (br (aU (nX a) (gV (dV 0) (bW)))))) (zR (.ref a.NoView) (λb=>bC ((dC (.str [97,32,98,108,117,114,114,101,100,32,118,105,101,119,32,105,115,32,97,32,118,105,101,119,32,111,102,32,119,104,111,115,101,32,108,101,116,116,101,114,115,32,117,112,32,116,111,32,54,32,109,97,121,32,98,101,32,112,111,105,110,116,115])) b))) (ez)
def uL(a:Ad):ai->R Slot:=bR 1 [] (bO 0 (yaf a))
def yaH(a:Ad):ai->R aM:=aG (bQ 1 (dF (dL dE (aB (dC (.str [])) (aD)))))
 (aG (λb=>cK (bU 2 (aT (dV 0)) (aG (bQ 3 (cu (dB (d2 (eqT ak) (dV 2) (dC (.str [46])))) (dC (.str [97,98,99])) (dV 2)))
 (aG (cV 4 (dL dE (aD)))
 (aG (bU 5 (aT (dV 1)) (jy 4 (dF (bP [5] (aT (dV 3)) (cL) (d2 bj (dV 1) (dV 0))))))
 (bQ 1 (dM 4))))) b))
 (bY (dV 1)))
def rg(a:Ad):ai->R Slot:=bR 1 [] (bO 5 (yaH a))
def yai(a:Ad):ai->R aM:=aG (cV 1 (uW (dL cW (aD)) (dC (.bl ah))))
 (aG (λε=>cK (bU 2 (aT (d2 aW (dV 0) (dC (.int 1)))) (aG (cV 3 yb)
 (aG (rE 4 1 (bU 5 (aT (br (aU (rg a) (gV (dV 2) (bW))))) (xf 3 (dL k8 (aB (dF (dL j3 (aB (d2 u6 (dV 4) (dL cW (aB (dV 5) (aD)))) (aD)))) (aD))) (dC (.bl ah)))))
 (uV 1 3))) ε))
 (oY (bP [0] (aT (dF (uI 1))) (cL) (dL cW (aB (d2 aW (dV 1) (dC (.int 0))) (aB (dV 0) (aD)))))))
def yk(a:Ad):ai->R Slot:=bR 1 [] (bO 5 (yai a))
def yau(a:Ad):ai->R aM:=aG (cV 4 (xX [] (aT (d2 aW (dV 2) (dC (.int 1)))) (dL qW (aB (dV 0) (aD)))))
 (aG (λb=>cK (bU 5 (dL jY (aB (br (aU (jE a) (gV (dV 0) (gO 1 (gV (d2 bj (dV 3) (dC (.int 1))) (bW)))))) (aD))) (xW 4 (br (aU (jE a) (gV (dV 0) (gO 1 (gV (tQ 4) (bW)))))) (br (aU (jE a) (gV (dV 0) (gO 1 (gV (d2 aW (dV 2) (dC (.int 0))) (bW)))))) (dC (.str [46]))) b))
 (bY (dL cW (aB (d2 aW (dV 2) (dC (.int 0))) (aB (dL k8 (aB (dF (dL j3 (aB (dF (bP [] (aT (yi 4)) (cL) (lV mC (dC (.str [])) (aB (dV 0) (aD))))) (aD)))) (aD))) (aD))))))
def uC(a:Ad):ai->R Slot:=bR 4 [1] (bO 2 (yau a))
def yay(a:Ad):ai->R aM:=bY (d2 (eqT ak) (dF (bP [1,0] (dL jY (aB (dL bv (aB (dV 1) (aD))) (aD))) (dB (d2 (gz ah) (d2 aW (dV 1) (dV 0)) (dL cW (aB (dC (.str [46])) (aB (d2 aW (dV 2) (dV 0)) (aD)))))) (dV 0))) (dF (dL dE (aD))))
def mT(a:Ad):ai->R Slot:=bR 2 [] (bO 0 (yay a))
def yaw(a:Ad):ai->R aM:=aG (cu (kh (dB (d2 (eqT ah) (d2 aW (dV 0) (dC (.int 0))) (d2 aW (dV 1) (dC (.int 0))))) (dB (d2 (eqT ah) (dL bv (aB (d2 aW (dV 0) (dC (.int 1))) (aD))) (dL bv (aB (d2 aW (dV 1) (dC (.int 1))) (aD)))))) (bY (dC (.bl ak))) (ez))
 (aG (bQ 2 (dF (dL dE (aB (dF (dL dE (aD))) (aD)))))
 (aG (λb=>cK (bU 3 (aT (d2 aW (dV 0) (dC (.int 1)))) (bQ 2 (d2 bj (dV 2) (dF (bP [3] (aT (dV 2)) (cL) (d2 bj (dV 0) (dF (dL dE (aB (dV 1) (aD))))))))) b))
 (aG (λb=>cK (bU 4 (aT (dV 2)) (aG (bQ 5 (dF (bP [4] (aT (d2 aW (dV 1) (dC (.int 1)))) (dB (d2 (eqT ah) (dF (bP [0] (aT (dV 1)) (dB (br (aU (mT a) (gV (dV 1) (gV (dV 0) (bW)))))) (dV 0))) (dF (dL dE (aD))))) (dV 0))))
 (cu (dB (d2 (c7 λi j=>decide (i<j)) (dL bv (aB (dV 5) (aD))) (dL bv (aB (dV 4) (aD))))) (bY (dC (.bl ak))) (ez))) b))
 (bY (dC (.bl ah))))))
def jD(a:Ad):ai->R Slot:=bR 2 [] (bO 4 (yaw a))
def yal(a:Ad):ai->R aM:=aG (cV 1 (i_ (aU (qX a) (gV (dV 0) (bW)))))
 (aG (bQ 2 (dF (bP [1] (aT (dF (om 1))) (dB (d2 (c7 λi j=>decide (j<i)) (ik 1 (dV 0)) (dC (.int 0)))) (dV 0))))
 (aG (cu (dB (d2 (c7 λi j=>decide (j<i)) (dL bv (aB (dV 2) (aD))) (dC (.int 1)))) (bY (dL cW (aB (dC (.str [116,119,111])) (aB (d2 aW (dV 2) (dC (.int 0))) (aB (d2 aW (dV 2) (dC (.int 1))) (aD)))))) (ez))
 (aG (cu (o5 (dB (d2 (eqT ak) (dL bv (aB (dV 2) (aD))) (dC (.int 1)))) (dB (d2 (c7 λi j=>decide (j<i)) (ik 1 (d2 aW (dV 2) (dC (.int 0)))) (dC (.int 1))))) (bY (dL cW (aB (dC (.str [109,111,114,101])) (aB (d2 aW (dV 2) (dC (.int 0))) (aD))))) (ez))
 (aG (cV 3 (i_ (aU (n8 a) (gV (dV 0) (bW)))))
 (aG (bQ 4 (dF (pK [3] (uq (aB (dV 0) (aD))) (dB (i8 ak 2 (dm dG (dV 1) (dU) (cU (d1 fS (dC (.int 1))))))) (dV 0))))
 (aG (cu (dB (d2 (c7 λi j=>decide (i<j)) (dL bv (aB (dV 4) (aD))) (dL bv (aB (dV 0) (aD))))) (bY (dL cW (aB (dC (.str [97,112,97,114,116])) (aB (dL k8 (aB (dV 4) (aD))) (aD))))) (ez))
 (bY (dC .non))))))))
def ua(a:Ad):ai->R Slot:=bR 1 [] (bO 4 (yal a))
def yae(a:Ad):ai->R aM:=aG (l0 (aU (rm a) (gV (dV 0) (bW))))
 (o4 (aU (ua a) (gV (d2 aW (dV 0) (dC (.int 1))) (bW))))
def tU(a:Ad):ai->R Slot:=bR 1 [] (bO 0 (yae a))
def yah(a:Ad):ai->R aM:=aG (l0 (aU (uL a) (gV (dV 0) (bW))))
 (oY (bP [] (aT (br (aU (yk a) (gV (dV 0) (bW))))) (dB (d2 (re ak) (br (aU (tU a) (gV (dV 0) (bW)))) (dC .non))) (dV 0)))
def wU(a:Ad):ai->R Slot:=bR 1 [] (bO 0 (yah a))
def yaD(a:Ad):ai->R aM:=aG (cV 1 (dL dE (aD)))
 (aG (λb=>cK (bU 2 (aT (dV 0)) (jy 1 (dF (bP [2] (aT (dC (.str [97,98,99]))) (cL) (d2 bj (dV 1) (dV 0))))) b))
 (jz 1))
def r8(a:Ad):ai->R Slot:=bR 1 [] (bO 2 (yaD a))
def yaG(a:Ad):ai->R aM:=aG (cV 1 (dL dE (aD)))
 (aG (bU 2 (aT (br (aU (wU a) (gV (dV 0) (bW))))) (jy 1 (br (aU (rZ a) (gV (dV 2) (bW))))))
 (bY (dF (lW (λb=>uT (j3 b)) 1))))
def yh(a:Ad):ai->R Slot:=bR 1 [] (bO 2 (yaG a))
end Sh
local macro_rules | `(tactic| and_intros) => `(tactic| (refine' Pu.Si ?a ?l ?c ?k; (case a => k_is); (case l => k_is); (case c => k_is); (case k => k_is)))
namespace K09
open L2 Pu Sh
def dA(i:Nat):bo:=PySem.Challenge.pw_slitview_k09_whole_through.main.body.getD i (.Pass ⟨0,0,0,0⟩)
abbrev zG:bo:=dA 34
abbrev zu:bo:=dA 35
abbrev Aq:bo:=dA 36
abbrev Bh:bo:=dA 37
abbrev Ag:bo:=dA 38
abbrev tz:bo:=dA 41
abbrev zW:bo:=dA 10
abbrev Bs:bo:=dA 11
abbrev wX:bo:=dA 9
abbrev A5:bo:=dA 12
abbrev w_:bo:=dA 13
abbrev AY:bo:=dA 14
abbrev AL:bo:=dA 16
abbrev Bl:bo:=dA 18
abbrev w6:bo:=dA 19
abbrev wB:bo:=dA 30
abbrev AE:bo:=dA 15
abbrev Bt:bo:=dA 17
abbrev zx:bo:=dA 21
abbrev zK:bo:=dA 22
abbrev uo:bo:=dA 23
abbrev Br:bo:=dA 24
abbrev xu:bo:=dA 31
abbrev Ab:bo:=dA 27
abbrev zO:bo:=dA 26
abbrev yx:bo:=dA 28
abbrev Ax:bo:=dA 32
abbrev xS:bo:=dA 44
abbrev ww:bo:=dA 39
abbrev w8:bo:=dA 42
abbrev vk:bo:=dA 43
abbrev qQ:bo:=dA 45
def uP(a:Ad):List ag:=[a.NoView]
structure dq(K:ax)(mg:Str->Option aj)(base:aC)(a:Ad):Prop where
 yav:cS K mg "_law_cell_at" zG
 yaz:cS K mg "_law_mixed" zu
 yax:cS K mg "_law_draw" Aq
 yaA:cS K mg "_law_pick" Bh
 yaC:cS K mg "_law_text" Ag
 yau:cS K mg "_law_blurred" tz
 yaq:cS K mg "is_whole_number" zW
 yar:cS K mg "is_width" Bs
 yam:cS K mg "has_only" wX
 yas:cS K mg "is_window" A5
 yad:cS K mg "are_windows" w_
 yap:cS K mg "is_view_with" AY
 yan:cS K mg "is_blurred_view" AL
 yaf:cS K mg "check_blurred_view" Bl
 yaH:cS K mg "windows_that_fit" w6
 yai:cS K mg "clearing_views" wB
 yao:cS K mg "is_view" AE
 yag:cS K mg "check_view" Bt
 yak:cS K mg "excesses" zx
 yaE:cS K mg "reached_pieces" zK
 yal:cS K mg "find_bar" uo
 yae:cS K mg "bar" Br
 yah:cS K mg "cleared" xu
 yac:cS K mg "add_endings" Ab
 yaj:cS K mg "counted" zO
 yaF:cS K mg "texts" yx
 yaG:cS K mg "through" Ax
 yaD:cS K mg "_law_three" xS
 yaB:cS K mg "_law_seen" ww
 yay:cS K mg "_law_fits" w8
 yaw:cS K mg "_law_clears" vk
 yat:cS K mg "law" qQ
 yaI:mg "all"=ae
 yaJ:mg "any"=ae
 yaK:mg "bool"=ae
 yaL:mg "enumerate"=ae
 yaM:mg "int"=ae
 yaN:mg "isinstance"=ae
 yaO:mg "len"=ae
 yaP:mg "list"=ae
 yaQ:mg "range"=ae
 yaR:mg "set"=ae
 yaS:mg "sorted"=ae
 yaT:mg "str"=ae
 yaU:mg "tuple"=ae
 yaW:∃t,mg "LETTERS"=aa (.str (tS [97,98,99]) t)
 yaX:∃t,mg "MOST_POINTS"=aa (.int 6 t)
 yaY:∃t,mg "MOST_WINDOWS"=aa (.int 9 t)
 yaZ:∃t,mg "POINT"=aa (.str (tS [46]) t)
 ya0:∃t,mg "WIDEST"=aa (.int 4 t)
 yab:mg "SlitError"=aa (.ref a.SlitError)
 yaa:mg "NoView"=aa (.ref a.NoView)
 yaV:OwnCls "NoView" a.NoView [.type "ValueError",.type "Exception",.type "BaseException",.type "object"] "ValueError.__new__" mg base
section
variable{P:aR}{w:aL}{K:ax}{c:Str->Option aj}{b:aC}{a:Ad}
theorem OU:cF ["_law_script","_law_k"] ["_law_script","_law_k"] (a_ zG):=by ac_nf
theorem Pd(G:dq K c b a):cX (cA P w) P w K c b "_law_cell_at" 1 ["_law_script","_law_k"] (b9 K (rF a)) :=
 dw (k:=0) (pin:=[]) G.yav OU rfl (λ_ _ _ _ _ _ g i=>Pu.Sj (λ_ _=>rfl) g i) (λf j A d s H E h=>by exact
  (bq (ig (fP yf jc (aq 1) (eL fK fZ G.yaO fV (aV (aq 0) bf)) rfl) (bt (dJ (dS dO dW (aq 0) (aq 1)))) hU)
  (bq (ig (fP (n_ h.units) nW (aq 0) (lX bf) rfl) (bt (dJ a8)) hU)
  (bt (dJ (cP fz fk (cP Ao z7 (dS dO dW (aq 0) (cP t0 vi (aq 1) (eL fK fZ G.yaO fV (aV (aq 0) bf)))) a8) (aq 1)))))))
theorem N0:cF ["_law_script","_law_k","_law_many","_law_drawn"] ["_law_script","_law_k","_law_many"] (a_ zu):=by ac_nf
theorem IP(G:dq K c b a):cX (cA P w) P w K c b "_law_mixed" 2 ["_law_script","_law_k","_law_many"] (b9 K (yq a)) :=
 dw (k:=1) (pin:=[]) G.yaz N0 rfl (λ_ _ _ _ _ _ g i=>Pu.Sv (λ_ _ _=>rfl) g i) (λf j A d s H E h=>by exact
  (bq (fQ 3 N0.nd (cP t0 vi (cP fz fk (cP fz fk (cP Ao z7 ((cg (Pd G) (h.mono (by decide)) eG (bg (aq 0) (bg (aq 1) ca)))).de a8) (cP Ao z7 a8 (aq 1))) a8) a8))
  (bt (dJ (cP t0 vi (cP t0 vi (cP t0 vi (cP P3 RK (aq 3) a8) a8) a8) (aq 2))))))
theorem QP:cF ["_law_script","_law_town","_law_many"] ["_law_script","_law_town","_law_many"] (a_ Aq):=by ac_nf
theorem nM(G:dq K c b a):cX (cA P w) P w K c b "_law_draw" 3 ["_law_script","_law_town","_law_many"] (b9 K (jE a)) :=
 dw (k:=2) (pin:=[1]) G.yax QP rfl (λ_ _ _ _ _ _ g i=>Pu.Sv (λ_ _ _=>rfl) g i) (λf j A d s H E h=>by exact
  (bq (Fp 1 a8)
  (bt (zw (cg (IP G) (h.mono (by decide)) eG (bg (aq 0) (bg (OS 1 fK fZ G.yaO fV) (bg (aq 2) ca))))))))
theorem N4:cF ["_law_script","_law_town","_law_some"] ["_law_script","_law_town","_law_some"] (a_ Bh):=by ac_nf
theorem Rk(G:dq K c b a):cX (cA P w) P w K c b "_law_pick" 4 ["_law_script","_law_town","_law_some"] (b9 K (xt a)) :=
 dw (k:=3) (pin:=[1]) G.yaA N4 rfl (λ_ _ _ _ _ _ g i=>Pu.Sv (λ_ _ _=>rfl) g i) (λf j A d s H E h=>by exact
  (bt (dJ (dS dO dW (aq 2) ((cg (nM G) (h.mono (by decide)) eG (bg (aq 0) (jv 1 (bg (eL fK fZ G.yaO fV (aV (aq 2) bf)) ca))))).de))))
theorem Rv:cF ["_law_script","_law_town","_law_low","_law_most","_law_few","_law_made","_law_k"] ["_law_script","_law_town","_law_low","_law_most"] (a_ Ag):=by ac_nf
theorem J9(G:dq K c b a):cX (cA P w) P w K c b "_law_text" 5 ["_law_script","_law_town","_law_low","_law_most"] (b9 K (wP a)) :=
 dw (k:=4) (pin:=[1]) G.yaC Rv rfl (λ_ _ _ _ _ _ h i=>Pu.SL (λ_ _ _ _=>rfl) h i) (λf j A d s H E g=>by exact
  (bq (fQ 4 Rv.nd ((cg (Rk G) (g.mono (by decide)) eG (bg (aq 0) (jv 1 (bg (lX (aV a8 (aV a8 (aV a8 (aV a8 (aV a8 (aV a8 bf))))))) ca))))).de)
  (bq (fQ 5 Rv.nd (jB []))
  (bq (jU (iH 6 iU rfl Rv.nd (t4 G.yaQ (aV (cP fz fk (aq 2) ((cg (nM G) (g.mono (by decide)) im (bg (aq 0) (jv 1 (bg (cP fz fk (cP wA wE (aq 3) (aq 2)) a8) ca))))).de) bf)) (bt (fQ 5 Rv.nd (cP fz fk (aq 5) (dS dO dW (jB [97,98,99]) ((cg (nM G) (g.mono (by decide)) im (bg (aq 0) (jv 1 (bg (aq 4) ca))))).de))))))
  (bt (dJ (aq 5)))))))
theorem LH:cF ["_law_script","_law_town","_law_asked","_law_most","_law_windows","_law_k"] ["_law_script","_law_town","_law_asked","_law_most"] (a_ tz):=by ac_nf
theorem Pp(G:dq K c b a):cX (cA P w) P w K c b "_law_blurred" 4 ["_law_script","_law_town","_law_asked","_law_most"] (b9 K (uC a)) :=
 dw (k:=3) (pin:=[1]) G.yau LH rfl (λ_ _ _ _ _ _ m n=>Pu.SL (λ_ _ _ _=>rfl) m n) (λf o A h s H E i=>by exact
  (bq (NH 4 LH.nd (cap:=[]) (N':=["_law_window"]) (iG.of ["_law_script","_law_town","_law_asked","_law_most","_law_windows","_law_k"] (a_ tz) rfl rfl (by decide +kernel)) rfl (et (dS dO dW (aq 2) a8)) (λC d g l j=>by exact EV (Pw rfl) N_ G.yaP DZ (aV (aq 0) bf)))
  (bq (jU (iH 5 iU rfl LH.nd (t4 G.yaQ (aV ((cg (nM G) (i.mono (by decide)) im (bg (aq 0) (jv 1 (bg (cP fz fk (aq 3) a8) ca))))).de bf)) (bt (RC 4 ((cg (nM G) (i.mono (by decide)) im (bg (aq 0) (jv 1 (bg (O3 4 G.yaO) ca))))).de ((cg (nM G) (i.mono (by decide)) im (bg (aq 0) (jv 1 (bg (dS dO dW (aq 2) a8) ca))))).de (jB [46])))))
  (bt (dJ (kY (aV (dS dO dW (aq 2) a8) (aV (yA yd yj G.yaU rj (aV (wN t7 vb G.yaS n0 (aV (jt (cap:=[]) (N':=["_law_window"]) (iG.of ["_law_script","_law_town","_law_asked","_law_most","_law_windows","_law_k"] (a_ tz) rfl rfl (by decide +kernel)) rfl (et (IU 4)) (λC d g l j=>by exact mB) (λC d g l j=>by exact(Aj PySem.F.slot_str_join PySem.F.type_str_join DM Fl (jB []) (aV (aq 0) bf)))).de bf)).de bf)) bf))))))))
theorem L0:cF ["thing"] ["thing"] (a_ zW):=by ac_nf
theorem J4(G:dq K c b a):cX (cA P w) P w K c b "is_whole_number" 1 ["thing"] (b9 K (wF a)) :=
 dw (k:=0) (pin:=[]) G.yaq L0 rfl (λ_ _ _ _ _ _ g h=>Pu.Sy (λ_=>rfl) g h) (λf j A d s H E i=>by exact
  (bt (dJ (rQ (eL tT uv G.yaN uB (aV (aq 0) (aV (t6 G.yaM Oq) bf))) (tE (Py (eL tT uv G.yaN uB (aV (aq 0) (aV (t6 G.yaK Oc) bf)))))))))
theorem Qz:cF ["thing"] ["thing"] (a_ Bs):=by ac_nf
theorem LW(G:dq K c b a):cX (cA P w) P w K c b "is_width" 2 ["thing"] (b9 K (se a)) :=
 dw (k:=1) (pin:=[]) G.yar Qz rfl (λ_ _ _ _ _ _ g i=>Pu.Sy (λ_=>rfl) g i) (λf j A d s H E h=>by exact
  (bt (dJ (rQ ((cg (J4 G) (h.mono (by decide)) eG (bg (aq 0) ca))).de (tE (Q5 qS qS jc jc a8 (aq 0) (Ba G.ya0)))))))
theorem Kj:cF ["text","signs"] ["text","signs"] (a_ wX):=by ac_nf
theorem N8(G:dq K c b a):cX (cA P w) P w K c b "has_only" 1 ["text","signs"] (b9 K (yt a)) :=
 dw (k:=0) (pin:=[]) G.yam Kj rfl (λ_ _ _ _ _ _ i l=>Pu.Sj (λ_ _=>rfl) i l) (λf o A h s H E n=>by exact
  (bt (dJ (eL (GF rfl) Hm G.yaI Ha (aV (jt (cap:=[1]) (N':=["sign","signs"]) (iG.of ["text","signs"] (a_ wX) rfl rfl (by decide +kernel)) rfl (et (aq 0)) (λC d g m j=>by exact mB) (λC d g m j=>by exact(pW P9 Jk (aq 0) (aq 1) rfl))).de bf)))))
theorem Kr:cF ["thing","width","signs"] ["thing","width","signs"] (a_ A5):=by ac_nf
theorem LI(G:dq K c b a):cX (cA P w) P w K c b "is_window" 2 ["thing","width","signs"] (b9 K (rW a)) :=
 dw (k:=1) (pin:=[]) G.yas Kr rfl (λ_ _ _ _ _ _ h i=>Pu.Sv (λ_ _ _=>rfl) h i) (λf j A d s H E g=>by exact
  (bt (dJ (rQ (eL tT uv G.yaN uB (aV (aq 0) (aV (t6 G.yaT ME) bf))) (rQ (pW (n_ g.units) nW (eL fK fZ G.yaO fV (aV (aq 0) bf)) (aq 1) rfl) (tE ((cg (N8 G) (g.mono (by decide)) eG (bg (aq 0) (bg (aq 2) ca)))).de))))))
theorem PH:cF ["thing","width","signs"] ["thing","width","signs"] (a_ w_):=by ac_nf
theorem Mv(G:dq K c b a):cX (cA P w) P w K c b "are_windows" 3 ["thing","width","signs"] (b9 K (n4 a)) :=
 dw (k:=2) (pin:=[]) G.yad PH rfl (λ_ _ _ _ _ _ j m=>Pu.Sv (λ_ _ _=>rfl) j m) (λf o A h s H E i=>by exact
  (bq (ig ((t8 (nR (mU (eL tT uv G.yaN uB (aV (aq 0) (aV (t6 G.yaU rj) bf))))) (tY (nR (Kn qS qS jc jc a8 (eL fK fZ G.yaO fV (aV (aq 0) bf)) (Ba G.yaY)))))).dt (bt (dJ ko)) hU)
  (bq (ig (nR (mU (eL (GF rfl) Hm G.yaI Ha (aV (jt (cap:=[1,2]) (N':=["window","width","signs"]) (iG.of ["thing","width","signs"] (a_ w_) rfl rfl (by decide +kernel)) rfl (et (aq 0)) (λC d g n l=>by exact mB) (λC d g n l=>by exact((cg (LI G) (i.mono (by decide)) im (bg (aq 0) (bg (aq 1) (bg (aq 2) ca))))).de)).de bf)))) (bt (dJ ko)) hU)
  (bt (dJ (pW (n_ i.units) nW (EV Rt NO G.yaP DZ (aV (aq 0) bf)).de (wN t7 vb G.yaS n0 (aV (aq 0) bf)).de rfl))))))
theorem IY:cF ["thing","signs"] ["thing","signs"] (a_ AY):=by ac_nf
theorem Dx(G:dq K c b a):cX (cA P w) P w K c b "is_view_with" 4 ["thing","signs"] (b9 K (n5 a)) :=
 dw (k:=3) (pin:=[]) G.yap IY rfl (λ_ _ _ _ _ _ h i=>Pu.Sj (λ_ _=>rfl) h i) (λf j A d s H E g=>by exact
  (bq (ig ((t8 (nR (mU (eL tT uv G.yaN uB (aV (aq 0) (aV (t6 G.yaU rj) bf))))) (tY (fP (t5 g.units) uK (eL fK fZ G.yaO fV (aV (aq 0) bf)) a8 rfl)))).dt (bt (dJ ko)) hU)
  (bt (dJ (rQ ((cg (LW G) (g.mono (by decide)) eG (bg (dS dO dW (aq 0) a8) ca))).de (tE ((cg (Mv G) (g.mono (by decide)) eG (bg (dS dO dW (aq 0) a8) (bg (dS dO dW (aq 0) a8) (bg (aq 1) ca))))).de))))))
theorem Lr:cF ["thing"] ["thing"] (a_ AL):=by ac_nf
theorem Jz(G:dq K c b a):cX (cA P w) P w K c b "is_blurred_view" 5 ["thing"] (b9 K (nX a)) :=
 dw (k:=4) (pin:=[]) G.yan Lr rfl (λ_ _ _ _ _ _ g i=>Pu.Sy (λ_=>rfl) g i) (λf j A d s H E h=>by exact
  (bt (dJ (rQ ((cg (Dx G) (h.mono (by decide)) eG (bg (aq 0) (bg (cP fz fk (pX G.yaZ) (pX G.yaW)) ca)))).de (tE (pW qS jc (Aj PySem.F.slot_str_count PySem.F.type_str_count Od O6 (Aj PySem.F.slot_str_join PySem.F.type_str_join DM Fl (jB []) (aV (dS dO dW (aq 0) a8) bf)) (aV (pX G.yaZ) bf)) (Ba G.yaX) rfl))))))
theorem Qr:cF ["thing"] ["thing"] (a_ Bl):=by ac_nf
theorem QQ(G:dq K c b a):cX (cA P w) P w K c b "check_blurred_view" 6 ["thing"] (b9 K (uL a)) :=
 dw (k:=5) (pin:=[]) G.yaf Qr rfl (λ_ _ _ _ _ _ g i=>Pu.Sy (λ_=>rfl) g i) (λf j A d s H E h=>by exact
  (bt (ig (nR (mU ((cg (Jz G) (h.mono (by decide)) eG (bg (aq 0) ca))).de)) (bt (Fz Dj rfl G.yaV PySem.F.excBase_ValueError (jB [97,32,98,108,117,114,114,101,100,32,118,105,101,119,32,105,115,32,97,32,118,105,101,119,32,111,102,32,119,104,111,115,101,32,108,101,116,116,101,114,115,32,117,112,32,116,111,32,54,32,109,97,121,32,98,101,32,112,111,105,110,116,115]))) hU)))
theorem MF:cF ["blurred_window","found","sign","letters","longer","start"] ["blurred_window"] (a_ w6):=by ac_nf
theorem Ox(G:dq K c b a):cX (cA P w) P w K c b "windows_that_fit" 1 ["blurred_window"] (b9 K (rg a)) :=
 dw (k:=0) (pin:=[]) G.yaH MF rfl (λ_ _ _ _ _ _ i m=>Pu.Sy (λ_=>rfl) i m) (λf o A h s H E l=>by exact
  (bq (fQ 1 MF.nd (lX (aV (jB []) bf)))
  (bq (jU (iH 2 iU rfl MF.nd (et (aq 0)) (bq (fQ 3 MF.nd (NZ (fP (n_ l.units) nW (aq 2) (pX G.yaZ) rfl) (pX G.yaW) (aq 2)))
  (bq (kr 4 MF.nd (q_ bf))
  (bq (iH 5 iU rfl MF.nd (et (aq 1)) (bt (Ai 4 (jt (cap:=[5]) (N':=["letter","start"]) (iG.of ["blurred_window","found","sign","letters","longer","start"] (a_ w6) rfl rfl (by decide +kernel)) rfl (et (aq 3)) (λC d g n j=>by exact mB) (λC d g n j=>by exact(cP fz fk (aq 1) (aq 0)))).de)))
  (bt (fQ 1 MF.nd (Rf 4))))))))
  (bt (dJ (aq 1))))))
theorem Jg:cF ["blurred","ways","blurred_window","longer","windows","window"] ["blurred"] (a_ wB):=by ac_nf
theorem Ph(G:dq K c b a):cX (cA P w) P w K c b "clearing_views" 2 ["blurred"] (b9 K (yk a)) :=
 dw (k:=1) (pin:=[]) G.yai Jg rfl (λ_ _ _ _ _ _ j m=>Pu.Sy (λ_=>rfl) j m) (λf o A i s H E h=>by exact
  (bq (kr 1 Jg.nd (KU h.units (kY bf) ko))
  (bq (jU (iH 2 iU rfl Jg.nd (et (dS dO dW (aq 0) a8)) (bq (kr 3 Jg.nd Le)
  (bq (KY 4 1 iU rfl Jg.nd (bt (iH 5 iU rfl Jg.nd (et ((cg (Ox G) (h.mono (by decide)) im (bg (aq 2) ca))).de) (bt (RB 3 h.units (yA yd yj G.yaU rj (aV (wN t7 vb G.yaS n0 (aV (cP J2 Nk (aq 4) (kY (aV (aq 5) bf))) bf)).de bf)) ko)))))
  (bt (KQ 1 3 Jg.nd))))))
  (bt (ES (jt (cap:=[0]) (N':=["windows","blurred"]) (iG.of ["blurred","ways","blurred_window","longer","windows","window"] (a_ wB) rfl rfl (by decide +kernel)) rfl (et (Q4 1 h.units rfl G.yaS).de) (λC d g n l=>by exact mB) (λC d g n l=>by exact(kY (aV (dS dO dW (aq 1) a8) (aV (aq 0) bf))))))))))
theorem JR:cF ["thing"] ["thing"] (a_ AE):=by ac_nf
theorem PB(G:dq K c b a):cX (cA P w) P w K c b "is_view" 5 ["thing"] (b9 K (xL a)) :=
 dw (k:=4) (pin:=[]) G.yao JR rfl (λ_ _ _ _ _ _ g i=>Pu.Sy (λ_=>rfl) g i) (λf j A d s H E h=>by exact
  (bt (zw (cg (Dx G) (h.mono (by decide)) eG (bg (aq 0) (bg (pX G.yaW) ca))))))
theorem Ry:cF ["thing"] ["thing"] (a_ Bt):=by ac_nf
theorem Gp(G:dq K c b a):cX (cA P w) P w K c b "check_view" 6 ["thing"] (b9 K (rm a)) :=
 dw (k:=5) (pin:=[]) G.yag Ry rfl (λ_ _ _ _ _ _ g i=>Pu.Sy (λ_=>rfl) g i) (λf j A d s H E h=>by exact
  (bt (ig (nR (mU ((cg (PB G) (h.mono (by decide)) eG (bg (aq 0) ca))).de)) (bt (Fz Dj rfl G.yaV PySem.F.excBase_ValueError (jB [97,32,118,105,101,119,32,105,115,32,97,32,116,117,112,108,101,32,111,102,32,97,32,119,105,100,116,104,32,97,110,100,32,97,32,114,105,115,105,110,103,32,116,117,112,108,101,32,111,102,32,49,32,116,111,32,57,32,119,105,110,100,111,119,115]))) hU)))
theorem Me:cF ["windows","excess","window"] ["windows"] (a_ zx):=by ac_nf
theorem OT(G:dq K c b a):cX (cA P w) P w K c b "excesses" 1 ["windows"] (b9 K (qX a)) :=
 dw (k:=0) (pin:=[]) G.yak Me rfl (λ_ _ _ _ _ _ h i=>Pu.Sy (λ_=>rfl) h i) (λf j A g s H E d=>by exact
  (bq (kr 1 Me.nd (Dy))
  (bq (jU (iH 2 iU rfl Me.nd (et (aq 0)) (bq (pZ 1 d.units (j5 j7 j6 (aq 2) km (ju (pI ph pY a8))) (cP fz fk (xV 1 d.units (j5 j7 j6 (aq 2) km (ju (pI ph pY a8))) a8) a8))
  (bt (pZ 1 d.units (j5 j7 j6 (aq 2) (ju a8) km) (cP wA wE (xV 1 d.units (j5 j7 j6 (aq 2) (ju a8) km) a8) a8))))))
  (bt (uH 1)))))
theorem QO:cF ["windows","reached","known","window"] ["windows"] (a_ zK):=by ac_nf
theorem PR(G:dq K c b a):cX (cA P w) P w K c b "reached_pieces" 1 ["windows"] (b9 K (n8 a)) :=
 dw (k:=0) (pin:=[]) G.yaE QO rfl (λ_ _ _ _ _ _ h i=>Pu.Sy (λ_=>rfl) h i) (λf j A g s H E d=>by exact
  (bq (kr 1 QO.nd (LA (j5 j7 j6 (dS dO dW (aq 0) a8) km (ju (pI ph pY a8))) ko))
  (bq (fQ 2 QO.nd a8)
  (bq (jU (MT (λ_=>1000) iU (fP yf jc (aq 2) (Gv 1 G.yaO) rfl) (bq (fQ 2 QO.nd (Gv 1 G.yaO))
  (bt (iH 3 iU rfl QO.nd (et (aq 0)) (bt (ig ((t8 (Ar 1 d.units (j5 j7 j6 (aq 3) km (ju (pI ph pY a8)))) (tY (Ar 1 d.units (j5 j7 j6 (aq 3) (ju a8) km))))).dt (bq (pZ 1 d.units (j5 j7 j6 (aq 3) km (ju (pI ph pY a8))) ko)
  (bt (pZ 1 d.units (j5 j7 j6 (aq 3) (ju a8) km) ko))) hU)))))))
  (bt (uH 1))))))
theorem O5:cF ["windows","excess","starts","reached","places"] ["windows"] (a_ uo):=by ac_nf
theorem OH(G:dq K c b a):cX (cA P w) P w K c b "find_bar" 2 ["windows"] (b9 K (ua a)) :=
 dw (k:=1) (pin:=[]) G.yal O5 rfl (λ_ _ _ _ _ _ n o=>Pu.Sy (λ_=>rfl) n o) (λf p A l s H E h=>by exact
  (bq (kr 1 O5.nd (((cg (OT G) (h.mono (by decide)) eG (bg (aq 0) ca))).dn))
  (bq (CS 2 O5.nd (cap:=[1]) (N':=["piece","excess"]) (iG.of ["windows","excess","starts","reached","places"] (a_ uo) rfl rfl (by decide +kernel)) rfl (et (MW 1 rfl G.yaS).de) (λC d g m i=>by exact mK (fP ui jc (xl 1 h.units (aq 0)) a8 rfl)) (λC d g m i=>by exact(aq 0)))
  (bq (ig (fP ui jc (eL fK fZ G.yaO fV (aV (aq 2) bf)) a8 rfl) (bt (dJ (kY (aV (jB [116,119,111]) (aV (dS dO dW (aq 2) a8) (aV (dS dO dW (aq 2) a8) bf)))))) hU)
  (bq (ig ((L9 (fP (n_ h.units) nW (eL fK fZ G.yaO fV (aV (aq 2) bf)) a8 rfl) (Js (fP ui jc (xl 1 h.units (dS dO dW (aq 2) a8)) a8 rfl)))).dt (bt (dJ (kY (aV (jB [109,111,114,101]) (aV (dS dO dW (aq 2) a8) bf))))) hU)
  (bq (kr 3 O5.nd (((cg (PR G) (h.mono (by decide)) eG (bg (aq 0) ca))).dn))
  (bq (QI 4 O5.nd (cap:=[3]) (j:=5) (N':=["place","window","reached"]) (iG.of ["windows","excess","starts","reached","places"] (a_ uo) rfl rfl (by decide +kernel)) rfl (OW G.yaL (aV (aq 0) bf)) (λC d g m i=>by exact mK (Ar 2 h.units (j5 j7 j6 (aq 1) km (ju (pI ph pY a8))))) (λC d g m i=>by exact(aq 0)))
  (bq (ig (fP yf jc (eL fK fZ G.yaO fV (aV (aq 4) bf)) (eL fK fZ G.yaO fV (aV (aq 0) bf)) rfl) (bt (dJ (kY (aV (jB [97,112,97,114,116]) (aV (yA yd yj G.yaU rj (aV (aq 4) bf)) bf))))) hU)
  (bt (dJ CO))))))))))
theorem N7:cF ["view"] ["view"] (a_ Br):=by ac_nf
theorem OK(G:dq K c b a):cX (cA P w) P w K c b "bar" 7 ["view"] (b9 K (tU a)) :=
 dw (k:=6) (pin:=[]) G.yae N7 rfl (λ_ _ _ _ _ _ h i=>Pu.Sy (λ_=>rfl) h i) (λf j A d s H E g=>by exact
  (bq (tI (cg (Gp G) (g.mono (by decide)) eG (bg (aq 0) ca)))
  (bt (zw (cg (OH G) (g.mono (by decide)) eG (bg (dS dO dW (aq 0) a8) ca))))))
theorem Mj:cF ["blurred"] ["blurred"] (a_ xu):=by ac_nf
theorem Jw(G:dq K c b a):cX (cA P w) P w K c b "cleared" 8 ["blurred"] (b9 K (wU a)) :=
 dw (k:=7) (pin:=[]) G.yah Mj rfl (λ_ _ _ _ _ _ j m=>Pu.Sy (λ_=>rfl) j m) (λf o A h s H E i=>by exact
  (bq (tI (cg (QQ G) (i.mono (by decide)) eG (bg (aq 0) ca)))
  (bt (ES (jt (cap:=[]) (N':=["view"]) (iG.of ["blurred"] (a_ xu) rfl rfl (by decide +kernel)) rfl (et ((cg (Ph G) (i.mono (by decide)) eG (bg (aq 0) ca))).de) (λC d g n l=>by exact mK (fP IS Qe ((cg (OK G) (i.mono (by decide)) im (bg (aq 0) ca))).de CO rfl)) (λC d g n l=>by exact(aq 0)))))))
theorem Dm:cF ["text","width","left","found","head","letter","window"] ["text","width","left","found"] (a_ Ab):=by ac_nf
theorem MR(G:dq K c b a)(m:Nat):cX (cA P w) P w K c b "add_endings" (1+m) ["text","width","left","found"] (b9 K (oh a m)):=by
 induction m with
 |zero=>exact dw (k:=0) (pin:=[2,3]) G.yac Dm rfl (λ_ _ _ _ _ _ h i=>Pu.SL (λ_ _ _ _=>rfl) h i) (λf l A d s H E g=>QS)
 |succ m j=>exact dw (k:=1+m) (pin:=[2,3]) G.yac Dm rfl (λ_ _ _ _ _ _ h i=>Pu.SL (λ_ _ _ _=>rfl) h i) (λf l A d s H E g=>by exact
  (bq (ig (nR (mU (NF 2 rfl G.yaJ))) (bq (Fp 3 (aq 0))
  (bt QM)) hU)
  (bq (fQ 4 Dm.nd (j5 j7 j6 (aq 0) (ju (cP fz fk (cP wA wE (eL fK fZ G.yaO fV (aV (aq 0) bf)) (aq 1)) a8)) km))
  (bt (jU (iH 5 iU rfl Dm.nd (et (pX G.yaW)) (bq (fQ 6 Dm.nd (cP fz fk (aq 4) (aq 5)))
  (bt (ig (fP ui jc (xV 2 g.units (aq 6) a8) a8 rfl) (bq (pZ 2 g.units (aq 6) (cP wA wE (xl 2 g.units (aq 6)) a8))
  (bq (tI (cg j (g.mono ∅) im (bg (cP fz fk (aq 0) (aq 5)) (bg (aq 1) (jv 2 (jv 3 ca))))))
  (bt (pZ 2 g.units (aq 6) (cP fz fk (xl 2 g.units (aq 6)) a8))))) hU)))))))))
theorem JG:cF ["windows","counts","window"] ["windows"] (a_ zO):=by ac_nf
theorem K0(G:dq K c b a):cX (cA P w) P w K c b "counted" 1 ["windows"] (b9 K (vf a)) :=
 dw (k:=0) (pin:=[]) G.yaj JG rfl (λ_ _ _ _ _ _ h i=>Pu.Sy (λ_=>rfl) h i) (λf j A d s H E g=>by exact
  (bq (kr 1 JG.nd (Dy))
  (bq (jU (iH 2 iU rfl JG.nd (et (aq 0)) (bt (pZ 1 g.units (aq 2) (cP fz fk (xV 1 g.units (aq 2) a8) a8)))))
  (bt (uH 1)))))
theorem Rz:cF ["view","width","found","head"] ["view"] (a_ yx):=by ac_nf
theorem JI(G:dq K c b a):cX (cA P w) P w K c b "texts" 14 ["view"] (b9 K (rZ a)) :=
 dw (k:=13) (pin:=[]) G.yaF Rz rfl (λ_ _ _ _ _ _ j m=>Pu.Sy (λ_=>rfl) j m) (λf o A h s H E i=>by exact
  (bq (tI (cg (Gp G) (i.mono (by decide)) eG (bg (aq 0) ca)))
  (bq (fQ 1 Rz.nd (dS dO dW (aq 0) a8))
  (bq (kr 2 Rz.nd (q_ bf))
  (bq (jU (iH 3 iU rfl Rz.nd (et (Eg rfl (aV (jt (cap:=[]) (N':=["window"]) (iG.of ["view","width","found","head"] (a_ yx) rfl rfl (by decide +kernel)) rfl (et (dS dO dW (aq 0) a8)) (λC d g n l=>by exact mB) (λC d g n l=>by exact(j5 j7 j6 (aq 0) km (ju (pI ph pY a8))))).de bf) G.yaS G.yaR).de) (bt (tI (PQ (MR G 12) (i.mono (by decide)) im (C9 (aq 3) (C9 (aq 1) (Lj (((cg (K0 G) (i.mono (by decide)) im (bg (dS dO dW (aq 0) a8) ca))).dn) (jv 2 ca)))))))))
  (bt (uH 2)))))))
theorem Kx:cF ["blurred","found","view"] ["blurred"] (a_ Ax):=by ac_nf
theorem KM(G:dq K c b a):cX (cA P w) P w K c b "through" 15 ["blurred"] (b9 K (yh a)) :=
 dw (k:=14) (pin:=[]) G.yaG Kx rfl (λ_ _ _ _ _ _ h i=>Pu.Sy (λ_=>rfl) h i) (λf j A d s H E g=>by exact
  (bq (kr 1 Kx.nd (q_ bf))
  (bq (iH 2 PassesOwn.leaving rfl Kx.nd (et ((cg (Jw G) (g.mono (by decide)) eG (bg (aq 0) ca))).de) (bt (Ai 1 ((cg (JI G) (g.mono (by decide)) eG (bg (aq 2) ca))).de)))
  (bt (dJ (Oz 1 t7 vb G.yaS n0).de)))))
theorem Ny:cF ["_law_made","_law_longer","_law_line"] ["_law_made"] (a_ xS):=by ac_nf
theorem Qh(G:dq K c b a):cX (cA P w) P w K c b "_law_three" 1 ["_law_made"] (b9 K (r8 a)) :=
 dw (k:=0) (pin:=[]) G.yaD Ny rfl (λ_ _ _ _ _ _ i l=>Pu.Sy (λ_=>rfl) i l) (λf o A h s H E n=>by exact
  (bq (kr 1 Ny.nd (q_ bf))
  (bq (jU (iH 2 iU rfl Ny.nd (et (aq 0)) (bt (Ai 1 (jt (cap:=[2]) (N':=["_law_letter","_law_line"]) (iG.of ["_law_made","_law_longer","_law_line"] (a_ xS) rfl rfl (by decide +kernel)) rfl (et (jB [97,98,99])) (λC d g m j=>by exact mB) (λC d g m j=>by exact(cP fz fk (aq 1) (aq 0)))).de))))
  (bt (uH 1)))))
theorem Qj:cF ["_law_text_here","_law_width"] ["_law_text_here","_law_width"] (a_ ww):=by ac_nf
theorem zA(G:dq K c b a):cX (cA P w) P w K c b "_law_seen" 1 ["_law_text_here","_law_width"] (b9 K (jV a)) :=
 dw (k:=0) (pin:=[]) G.yaB Qj rfl (λ_ _ _ _ _ _ i l=>Pu.Sj (λ_ _=>rfl) i l) (λf o A h s H E n=>by exact
  (bt (dJ (yA yd yj G.yaU rj (aV (wN t7 vb G.yaS n0 (aV (jt (cap:=[0,1]) (N':=["_law_at","_law_text_here","_law_width"]) (iG.of ["_law_text_here","_law_width"] (a_ ww) rfl rfl (by decide +kernel)) rfl (t4 G.yaQ (aV (eL fK fZ G.yaO fV (aV (aq 0) bf)) bf)) (λC d g m j=>by exact mK (fP qS jc (cP fz fk (aq 0) (aq 2)) (eL fK fZ G.yaO fV (aV (aq 1) bf)) rfl)) (λC d g m j=>by exact(j5 j7 j6 (aq 1) (ju (aq 0)) (ju (cP fz fk (aq 0) (aq 2)))))).de bf)).de bf)))))
theorem LK:cF ["_law_window","_law_other"] ["_law_window","_law_other"] (a_ w8):=by ac_nf
theorem Jh(G:dq K c b a):cX (cA P w) P w K c b "_law_fits" 1 ["_law_window","_law_other"] (b9 K (mT a)) :=
 dw (k:=0) (pin:=[]) G.yay LK rfl (λ_ _ _ _ _ _ i m=>Pu.Sj (λ_ _=>rfl) i m) (λf o A h s H E l=>by exact
  (bt (dJ (pW (n_ l.units) nW (jt (cap:=[1,0]) (N':=["_law_at","_law_other","_law_window"]) (iG.of ["_law_window","_law_other"] (a_ w8) rfl rfl (by decide +kernel)) rfl (t4 G.yaQ (aV (eL fK fZ G.yaO fV (aV (aq 1) bf)) bf)) (λC d g n j=>by exact mK (fP ED GR (dS dO dW (aq 1) (aq 0)) (kY (aV (jB [46]) (aV (dS dO dW (aq 2) (aq 0)) bf))) rfl)) (λC d g n j=>by exact(aq 0))).de (lX bf) rfl))))
theorem PJ:cF ["_law_blurred_here","_law_asked","_law_sets","_law_other","_law_some","_law_fit"] ["_law_blurred_here","_law_asked"] (a_ vk):=by ac_nf
theorem CL(G:dq K c b a):cX (cA P w) P w K c b "_law_clears" 2 ["_law_blurred_here","_law_asked"] (b9 K (jD a)) :=
 dw (k:=1) (pin:=[]) G.yaw PJ rfl (λ_ _ _ _ _ _ m n=>Pu.Sj (λ_ _=>rfl) m n) (λf o A l s H E j=>by exact
  (bq (ig ((t8 (fP (t5 j.units) uK (dS dO dW (aq 0) a8) (dS dO dW (aq 1) a8) rfl) (tY (fP (t5 j.units) uK (eL fK fZ G.yaO fV (aV (dS dO dW (aq 0) a8) bf)) (eL fK fZ G.yaO fV (aV (dS dO dW (aq 1) a8) bf)) rfl)))).dt (bt (dJ ko)) hU)
  (bq (fQ 2 PJ.nd (lX (aV (lX bf) bf)))
  (bq (jU (iH 3 iU rfl PJ.nd (et (dS dO dW (aq 0) a8)) (bt (fQ 2 PJ.nd (cP fz fk (aq 2) (jt (cap:=[3]) (N':=["_law_some","_law_other"]) (iG.of ["_law_blurred_here","_law_asked","_law_sets","_law_other","_law_some","_law_fit"] (a_ vk) rfl rfl (by decide +kernel)) rfl (et (aq 2)) (λC d g i h=>by exact mB) (λC d g i h=>by exact(cP fz fk (aq 0) (lX (aV (aq 1) bf))))).de)))))
  (bq (jU (iH 4 iU rfl PJ.nd (et (aq 2)) (bq (CS 5 PJ.nd (cap:=[4]) (N':=["_law_window","_law_some"]) (iG.of ["_law_blurred_here","_law_asked","_law_sets","_law_other","_law_some","_law_fit"] (a_ vk) rfl rfl (by decide +kernel)) rfl (et (dS dO dW (aq 1) a8)) (λC d g i h=>by exact mK (fP (t5 j.units) uK (jt (cap:=[0]) (N':=["_law_other","_law_window"]) (iG.of ["_law_window","_law_some"] ({kind:=.function,names:=[(".0",.local),("_law_window",.cell),("_law_some",.cell)],isGenerator:=ak,isCoroutine:=ak}:eC) rfl rfl (by decide +kernel)) rfl (et (aq 1)) (λC d g i h=>by exact mK (mU ((cg (Jh G) (j.mono (by decide)) im (bg (aq 1) (bg (aq 0) ca)))).de)) (λC d g i h=>by exact(aq 0))).de (lX bf) rfl)) (λC d g i h=>by exact(aq 0)))
  (bt (ig (fP yf jc (eL fK fZ G.yaO fV (aV (aq 5) bf)) (eL fK fZ G.yaO fV (aV (aq 4) bf)) rfl) (bt (dJ ko)) hU)))))
  (bt (dJ ko)))))))
def yat(a:Ad):ai->R aM:=aG (cV 1 (dL dE (aD)))
 (aG (bQ 2 (d2 bj (dC (.int 1)) (br (aU (jE a) (gV (dV 0) (gO 1 (gV (dC (.int 4)) (bW))))))))
 (aG (bQ 3 (br (aU (jE a) (gV (dV 0) (gO 1 (gV (dC (.int 6)) (bW)))))))
 (aG (bQ 4 (br (aU (wP a) (gV (dV 0) (gO 1 (gV (dV 2) (gV (d2 bj (dC (.int 3)) (dV 2)) (bW))))))))
 (aG (bQ 5 (br (aU (uC a) (gV (dV 0) (gO 1 (gV (dL cW (aB (dV 2) (aB (br (aU (jV a) (gV (dV 4) (gV (dV 2) (bW))))) (aD)))) (gV (dV 3) (bW))))))))
 (aG (bQ 6 (dF (dL dE (aB (dC (.str [])) (aD)))))
 (aG (λε=>cK (bU 7 (dL jY (aB (dL bv (aB (dV 4) (aD))) (aD))) (bQ 6 (br (aU (r8 a) (gV (dV 6) (bW))))) ε))
 (aG (bQ 8 (br (aU (yh a) (gV (dV 5) (bW)))))
 (aG (cu (kh (dB (d2 (gz ah) (dV 4) (dV 8))) (dB (d2 (eqT ah) (dV 8) (dF (dL pV (aB (dV 8) (aD))))))) (bY (dC (.bl ak))) (ez))
 (aG (cu (dB (d2 (c7 λi j=>decide (j<i)) (dL bv (aB (dV 4) (aD))) (dC (.int 6)))) (bY (d2 (eqT ak) (dF (bP [5,2] (aT (dV 8)) (iX (dB (br (aU (jD a) (gV (dV 1) (gV (dL cW (aB (dV 2) (aB (br (aU (jV a) (gV (dV 0) (gV (dV 2) (bW))))) (aD)))) (bW))))))) (dV 0))) (dF (dL dE (aD))))) (ez))
 (bY (d2 (eqT ak) (dV 8) (dF (bP [5,2] (aT (dV 6)) (dB (br (aU (jD a) (gV (dV 1) (gV (dL cW (aB (dV 2) (aB (br (aU (jV a) (gV (dV 0) (gV (dV 2) (bW))))) (aD)))) (bW)))))) (dV 0))))))))))))))
def q8(a:Ad):ai->R Slot:=bR 1 [] (bO 8 (yat a))
theorem NE:cF ["_law_script","_law_town","_law_width","_law_few","_law_text_here","_law_blurred_here","_law_rows","_law_k","_law_made"] ["_law_script"] (a_ qQ):=by ac_nf
theorem Np(G:dq K c b a){f:ag}{m:iS}(p:pf K "law" "law" qQ f m):kZ P w K c b (cA P w) 16 f m ["_law_script"] (b9 K (q8 a)) :=
 L8 (k:=15) (pin:=[]) p NE rfl (λ_ _ _ _ _ _ n o=>Pu.Sy (λ_=>rfl) n o) (λf q A j s H E d=>by exact
  (bq (kr 1 NE.nd (q_ bf))
  (bq (fQ 2 NE.nd (cP fz fk a8 ((cg (nM G) (d.mono (by decide)) eG (bg (aq 0) (jv 1 (bg a8 ca))))).de))
  (bq (fQ 3 NE.nd ((cg (nM G) (d.mono (by decide)) eG (bg (aq 0) (jv 1 (bg a8 ca))))).de)
  (bq (fQ 4 NE.nd ((cg (J9 G) (d.mono (by decide)) eG (bg (aq 0) (jv 1 (bg (aq 2) (bg (cP fz fk a8 (aq 2)) ca)))))).de)
  (bq (fQ 5 NE.nd ((cg (Pp G) (d.mono (by decide)) eG (bg (aq 0) (jv 1 (bg (kY (aV (aq 2) (aV ((cg (zA G) (d.mono (by decide)) eG (bg (aq 4) (bg (aq 2) ca)))).de bf))) (bg (aq 3) ca)))))).de)
  (bq (fQ 6 NE.nd (lX (aV (jB []) bf)))
  (bq (jU (iH 7 iU rfl NE.nd (t4 G.yaQ (aV (eL fK fZ G.yaO fV (aV (aq 4) bf)) bf)) (bt (fQ 6 NE.nd ((cg (Qh G) (d.mono (by decide)) im (bg (aq 6) ca))).de))))
  (bq (fQ 8 NE.nd ((cg (KM G) (d.mono (by decide)) eG (bg (aq 5) ca))).de)
  (bq (ig ((t8 (fP ED GR (aq 4) (aq 8) rfl) (tY (fP (t5 d.units) uK (aq 8) (Eg rfl (aV (aq 8) bf) G.yaS G.yaR).de rfl)))).dt (bt (dJ ko)) hU)
  (bq (ig (fP ui jc (eL fK fZ G.yaO fV (aV (aq 4) bf)) a8 rfl) (bt (dJ (pW (n_ d.units) nW (jt (cap:=[5,2]) (N':=["_law_line","_law_blurred_here","_law_width"]) (iG.of ["_law_script","_law_town","_law_width","_law_few","_law_text_here","_law_blurred_here","_law_rows","_law_k","_law_made"] (a_ qQ) rfl rfl (by decide +kernel)) rfl (et (aq 8)) (λC g h l i=>by exact mK (nR (mU ((cg (CL G) (d.mono (by decide)) im (bg (aq 1) (bg (kY (aV (aq 2) (aV ((cg (zA G) (d.mono (by decide)) im (bg (aq 0) (bg (aq 2) ca)))).de bf))) ca)))).de))) (λC g h l i=>by exact(aq 0))).de (lX bf) rfl))) hU)
  (bt (dJ (pW (n_ d.units) nW (aq 8) (jt (cap:=[5,2]) (N':=["_law_line","_law_blurred_here","_law_width"]) (iG.of ["_law_script","_law_town","_law_width","_law_few","_law_text_here","_law_blurred_here","_law_rows","_law_k","_law_made"] (a_ qQ) rfl rfl (by decide +kernel)) rfl (et (aq 6)) (λC g h l i=>by exact mK (mU ((cg (CL G) (d.mono (by decide)) im (bg (aq 1) (bg (kY (aV (aq 2) (aV ((cg (zA G) (d.mono (by decide)) im (bg (aq 0) (bg (aq 2) ca)))).de bf))) ca)))).de)) (λC g h l i=>by exact(aq 0))).de rfl))))))))))))))
end
end K09
namespace Mx
open L2 Pu
def bF:Tx:=[97,98,99]
def bD:Nat->List Tx
 |0=>[[]]
 |k+1=>bF.flatMap λc=>(bD k).map (c::·)
theorem kq:∀(k:Nat) (x:Tx),x∈bD k↔x.length=k/\∀c∈x,c∈bF
 |0,x=>by
  simp only[bD,iu];constructor
  .rintro rfl;simp
  .rintro⟨h,_⟩;exact me.mp h
 |k+1,x=>by
  simp only[bD,vK,cb];constructor
  .rintro⟨c,i,y,g,rfl⟩;obtain⟨f,b⟩:=(kq k y).mp g;refine⟨by simp[f],λd a=>?_⟩;rcases bI.mp a with rfl|a
   .exact i
   .exact b d a
  .rintro⟨f,b⟩;cases x with
   |nil=>cases f
   |cons c y=>exact⟨c,b c (by simp),y,(kq k y).mpr ⟨y6 f,λd a=>b d (by simp[a])⟩,rfl⟩
theorem u_:∀k:Nat,(bD k).length=3^k
 |0=>rfl
 |k+1=>by simp only[bD,bF,oH,Io,dD,b7,u_ k,qf,Nat.pow_succ];lia
theorem Fa(i j:Nat):bD (i+j)=(bD i).flatMap λh=>(bD j).map (h++·):=by
 induction i with
 |zero=>simp[bD]
 |succ i a=>rw[show i+1+j=(i+j)+1 by lia];simp only[bD,a,List.flatMap_assoc,List.map_flatMap,List.flatMap_map,dQ,sF,qo]
theorem JL(k:Nat):bD (k+1)=(bD k).flatMap λh=>bF.map λc=>h++[c]:=by rw[Fa k 1];congr 1
theorem A7:∀k:Nat,(bD k).Pairwise (λa b=>a<b)
 |0=>by simp[bD]
 |k+1=>by
  simp only[bD];rw[List.pairwise_flatMap];refine⟨λc _=>?_,?_⟩
  .rw[yV];exact(A7 k).imp λh=>B7.mpr (.inr ⟨rfl,h⟩)
  .have:bF.Pairwise (λa b=>a<b):=by decide
   refine this.imp λh=>?_;intro x f y d;obtain⟨i,_,rfl⟩:=cb.mp f;obtain⟨g,_,rfl⟩:=cb.mp d;exact B7.mpr (.inl h)
theorem IX{a b:Tx}(h:a<b):cZ a b=ah:=by simp only[cZ,decide_eq_true_eq];exact List.le_of_lt h
theorem zE(k:Nat):(bD k).Pairwise (λa b=>cZ a b=ah):=(A7 k).imp IX
theorem xx(k:Nat):(bD k).Nodup:=(A7 k).imp λh z=>by subst z;exact List.lt_irrefl _ h
def ba(z:Tx)(w:Nat):List Tx:=((cJ z.length).filter λi=>decide (i+w<=z.length)).map λi=>(z.drop i).take w
theorem Ft(w L:Nat):∀m:Nat,(cJ m).filter (λi=>decide (i+w<=L))=cJ (min m (L+1-w))
 |0=>by simp
 |m+1=>by
  rw[yS,List.filter_append,Ft w L m];by_cases h:m+w<=L
  .rw[show min m (L+1-w)=m by lia,show min (m+1) (L+1-w)=m+1 by lia,yS];simp[h]
  .rw[show min (m+1) (L+1-w)=min m (L+1-w) by lia];simp[h]
theorem mP(z:Tx)(w:Nat)(a:1<=w):ba z w=(cJ (z.length+1-w)).map λi=>(z.drop i).take w:=by unfold ba;rw[Ft,show min z.length (z.length+1-w)=z.length+1-w by lia]
def nw(w:Nat)(t:Tx):Tx->List Tx
 |[]=>[]
 |c::s=>(t.drop (t.length+1-w)++[c])::nw w (t++[c]) s
theorem GD(w:Nat)(b:1<=w):∀(s t:Tx),w<=t.length+1->nw w t s=(cJ s.length).map λi=>((t++s).drop (t.length+1-w+i)).take w
 |[],t,_=>by simp[nw]
 |c::s,t,h=>by
  rw[nw,GD w b s (t++[c]) (by simp;lia),eU,yR,b8,dQ];congr 1
  .show _=((t++c::s).drop (t.length+1-w)).take w;rw[BJ ∅,List.take_append];have a:(t.drop (t.length+1-w)).length=w-1:=by rw[m_];lia
   rw[a,oC (by rw[a];lia),show w-(w-1)=1 by lia];rfl
  .refine jJ λi _=>?_;simp only[qp];rw[dD,yN,show t.length+1+1-w+i=t.length+1-w+Nat.succ i by lia];simp
theorem zM{w:Nat}(a:1<=w){h s:Tx}(b:h.length=w-1):ba (h++s) w=nw w h s:=by rw[mP _ _ a,GD w a s h ∅,dD,show h.length+s.length+1-w=s.length by lia];refine jJ λi _=>?_;rw[show h.length+1-w+i=i by lia]
theorem P4{w:Nat}(a:1<=w)(t:Tx)(c:Nat):ba (t++[c]) w=ba t w++(if w<=t.length+1 then [((t++[c]).drop (t.length+1-w)).take w] else []):=by
 rw[mP _ _ a,mP _ _ a,dD,yN];by_cases h:w<=t.length+1
 .rw[if_pos h,show t.length+1+1-w=(t.length+1-w)+1 by lia,yS,yT];congr 1;refine jJ λi b=>?_;have b:i<t.length+1-w:=by simpa using b
  rw[BJ ∅,Ip (by rw[m_];lia)]
 .rw[if_neg h,show t.length+1+1-w=0 by lia,show t.length+1-w=0 by lia];simp
def ie(w:Nat):Nat->Tx->List Tx->List Tx
 |0,t,_=>[t]
 |r+1,t,q=>bF.flatMap λc=>if t.drop (t.length+1-w)++[c]∈q then ie w r (t++[c]) (q.erase (t.drop (t.length+1-w)++[c]))else []
theorem CZ(w:Nat):∀(r:Nat) (t:Tx) (q:List Tx),q.length=r->ie w r t q=((bD r).filter λs=>(nw w t s).isPerm q).map (t++·)
 |0,t,q,hq=>by have:q=[]:=me.mp hq;subst this;simp[ie,bD,nw,List.isPerm]
 |r+1,t,q,hq=>by
  simp only[ie,bD,List.filter_flatMap,List.map_flatMap];congr 1;funext c;rw[nv,dQ];by_cases h:t.drop (t.length+1-w)++[c]∈q
  .rw[if_pos h,CZ w r (t++[c]) _ (by rw[Cc h,hq];rfl)];have e:((λs=>(nw w t s).isPerm q) ∘ λx=>c::x)=λs=>(nw w (t++[c]) s).isPerm (q.erase (t.drop (t.length+1-w)++[c])):=by funext s;show(q.contains (t.drop (t.length+1-w)++[c])&&(nw w (t++[c]) s).isPerm (q.erase (t.drop (t.length+1-w)++[c])))=_;rw[List.contains_iff_mem.mpr h,oB]
   rw[e];refine jJ λs _=>?_;simp
  .rw[if_neg h];have e:((λs=>(nw w t s).isPerm q) ∘ λx=>c::x)=λ_=>ak:=by
    funext s;show(q.contains (t.drop (t.length+1-w)++[c])&&(nw w (t++[c]) s).isPerm (q.erase (t.drop (t.length+1-w)++[c])))=_;have:q.contains (t.drop (t.length+1-w)++[c])=ak:=by rw[Bool.eq_false_iff];intro z;exact h (List.contains_iff_mem.mp z)
    rw[this,By]
   rw[e];simp
def eh(w:Nat)(ls:List Tx):List Tx:=(aX (fJ (ls.map oI))).flatMap λh=>ie w ls.length h ls
theorem NG{a b:Type}{l:List a}{f:a->List b}(p:a->Bool)(h:∀x∈l,p x=ak->f x=[]):l.flatMap f=(l.filter p).flatMap f:=by
 induction l with
 |nil=>rfl
 |cons x l c=>
  rw[oH,c λy d=>h y (by simp[d]),mf];cases e:p x with
  |true=>simp
  |false=>rw[h x (by simp) e];simp
theorem yc{w:Nat}{a:List Tx}(g:1<=w)(D:1<=a.length)(j:∀x∈a,x.length=w/\∀c∈x,c∈bF):eh w a=(bD (w-1+a.length)).filter λz=>(ba z w).isPerm a:=by
 rw[Fa,List.filter_flatMap];have B:(λh=>((bD a.length).map (h++·)).filter λz=>(ba z w).isPerm a)=λh=>((bD a.length).filter λs=>(ba (h++s) w).isPerm a).map (h++·):=by funext h;rw[nv];rfl
 rw[B,NG (λh=>decide (h∈a.map oI))]
 .have A:(bD (w-1)).filter (λh=>decide (h∈a.map oI))=aX (fJ (a.map oI)):=by
   refine rV ?_ ((zE (w-1)).filter _);refine(List.perm_ext_iff_of_nodup ((xx (w-1)).filter _) (Q7 _)).mpr λx=>?_;rw[ji,decide_eq_true_eq,xq,kq];refine⟨λh=>h.2,λh=>⟨?_,h⟩⟩;obtain⟨y,d,rfl⟩:=cb.mp h;obtain⟨u,r⟩:=j y d;exact⟨by rw[BZ,u],λc q=>r c ((List.dropLast_sublist _).mem q)⟩
  rw[A];unfold eh;have:∀l:List Tx,(∀h∈l,h.length=w-1)->l.flatMap (λh=>ie w a.length h a)=l.flatMap λh=>((bD a.length).filter λs=>(ba (h++s) w).isPerm a).map (h++·):=by
   intro l
   induction l with
   |nil=>intro _;rfl
   |cons h l n=>
    intro b;rw[oH,oH,n λy d=>b y (by simp[d]),CZ w _ h a rfl];have v:(λs=>(nw w h s).isPerm a)=λs=>(ba (h++s) w).isPerm a:=by funext s;rw[zM g (b h (by simp))]
    rw[v]
  refine this _ λh b=>?_;have p:=(xq _ _).mp ((eI _).mem_iff.mp b);obtain⟨y,d,rfl⟩:=cb.mp p;rw[BZ,(j y d).1]
 .intro h b i;have C:=((kq _ h).mp b).1;rw[List.map_eq_nil_iff,List.filter_eq_nil_iff];intro s o f;have m:=((kq _ s).mp o).1;rw[zM g C,List.isPerm_iff]at f;cases s with
  |nil=>rw[qf]at m;lia
  |cons c s=>rw[nw,show h.length+1-w=0 by lia,List.drop_zero]at f;have:h++[c]∈a:=f.mem_iff.mp (by simp);rw[decide_eq_false_iff_not]at i;exact i (cb.mpr ⟨_,this,by simp⟩)
end Mx
namespace Sh
open L2 Pu Mx
theorem Pr{c:Type}{f:List PV->Option c}{d:ai->R (List PV)}{ε a:ai}{b:List PV}{v:c}(h:d ε=.ok b a)(g:f b=aa v):dL f d ε=.ok v a:=by unfold dL;rw[h];show aO (f b) a=_;rw[g];rfl
theorem Mi{d:ai->R PV}{c:ai->R (List PV)}{ε a b:ai}{x:PV}{f:List PV}(h:d ε=.ok x a)(g:c a=.ok f b):aB d c ε=.ok (x::f) b:=by unfold aB;rw[h];show(c a).bind _=_;rw[g];rfl
theorem KL{ε:ai}:aD ε=.ok [] ε:=rfl
theorem xF{f:PV->PV->Option PV}{c db:ai->R PV}{ε b a:ai}{x y z:PV}(h:c ε=.ok x b)(g:db b=.ok y a)(d:f x y=aa z):d2 f c db ε=.ok z a:=by unfold d2;rw[h];show(db b).bind _=_;rw[g];show aO (f x y) a=_;rw[d];rfl
section
theorem EQ{ls:List Tx}(h:ls.length<=1000000):j3 [.lst (am ls)]=aa (.lst (am (aX ls))):=by show(fY (am ls)).bind _=_;rw[nP,g8,if_pos h]
end
section
variable{a:Ad}
abbrev cI(b:List Int):Slot:=.val (.lst (b.map .int))
theorem GU(b:List Int)(k:Int)(d:0<=k)(h:k<b.length):∃v,fI (b.map PV.int) k=aa (.int v):=by
 have c:k.toNat<b.length:=∅
 refine⟨b[k.toNat],?_⟩;rw[uO d (by rw[b7];exact c)];simp
theorem Ei(b:List Int):Pu.eqT ak (.lst (b.map .int)) (.lst [])=aa (.bl b.isEmpty):=by
 cases b with
 |nil=>rfl
 |cons x c=>
  have f:∀l:List Int,ip (l.map .int)=0:=λl=>by induction l with|nil=>rfl|cons y l d=>simp[ip,jf,d]
  have:ip ((x::c).map .int)=0:=f _;simp only[b8]at this;simp[Pu.eqT,dX,dz,gC,jf,this]
theorem xK(b:Bool)(i j:Int):Pu.eqT b (.int i) (.int j)=aa (.bl (b^^decide (i=j))):=by show(if pM (V.int i) (V.int j)then aa (PV.bl (b^^decide (V.int i=V.int j)))else ae)=_;have:pM (V.int i) (V.int j)=ah:=rfl;rw[if_pos this];simp
theorem Ah(b:Bool)(x y:Tx):Pu.eqT b (.str x) (.str y)=aa (.bl (b^^decide (x=y))):=by show(if pM (tV x) (tV y)then aa (PV.bl (b^^decide (tV x=tV y)))else ae)=_;have:pM (tV x) (tV y)=ah:=rfl;rw[if_pos this];have e:(tV x=tV y)=(x=y):=propext ⟨LU,λh=>by rw[h]⟩;simp only[e]
theorem JM(b:List Int)(k:Int)(i:0<=k):∃v,rF a [cI b,⇑k]=.ok (⇑v) [cI b,⇑k]:=by
 by_cases h:k<b.length
 .obtain⟨v,d⟩:=GU b k i h;refine⟨v,?_⟩;simp![rF,yav,bv,aW,d,h]
 .have e:=Ei b;by_cases f:b=[]
  .subst f;refine⟨0,?_⟩;simp only[yP,Iq]at e;have j:¬k<0:=∅
   simp![rF,yav,bv,aW,e,j]
  .have m:0<b.length:=by cases b with|nil=>exact absurd rfl f|cons=>simp
   obtain⟨v,d⟩:=GU b (k % b.length) (Int.emod_nonneg _ ∅) (Ir _ ∅);refine⟨v*31+k,?_⟩;have l:b.isEmpty=ak:=by cases b with|nil=>exact absurd rfl f|cons=>rfl
   rw[l]at e;have g:hZ (.int k) (.int (b.length:Int))=aa (.int (k % b.length)):=by simp[hZ];lia
   have c:k_ (.int v) (.int 31)=aa (.int (v*31)):=by simp[k_,u7]
   simp![rF,yav,bv,aW,h,e,g,d,c,bj]
theorem Nr(b:List Int)(k m:Int)(q:0<=k)(i:0<m):∃v,0<=v/\v<m/\yq a [cI b,⇑k,⇑m]=.ok (⇑v) [cI b,⇑k,⇑m]:=by
 obtain⟨c,p⟩:=JM (a:=a) b k q;have r:0<=(c*1103515245+7919*k+12345) % 2147483647:=Int.emod_nonneg _ (by decide);have d1:(c*1103515245+7919*k+12345) % 2147483647<2147483647:=Ir _ (by decide);have o:k_ (.int c) (.int 1103515245)=aa (.int (c*1103515245)):=by simp[k_,u7]
 have n:k_ (.int 7919) (.int k)=aa (.int (7919*k)):=by simp[k_,u7]
 have h:hZ (.int (c*1103515245+7919*k+12345)) (.int 2147483647)=aa (.int ((c*1103515245+7919*k+12345) % 2147483647)):=by simp[hZ]
 generalize (c*1103515245+7919*k+12345) % 2147483647=d at r d1 h;have l:uj (.int d) (.int 5)=aa (.int (d^5)):=by
  have:d.natAbs<2^64:=∅
  simp[uj,this]
 have g:hZ (.int (d^5)) (.int 2147483647)=aa (.int (d^5 % 2147483647)):=by simp[hZ]
 generalize d^5 % 2147483647=d5 at g;have f:hZ (.int d5) (.int 999983)=aa (.int (d5 % 999983)):=by simp[hZ]
 generalize d5 % 999983=d6 at f;have j:hZ (.int d6) (.int m)=aa (.int (d6 % m)):=by simp[hZ,i]
 refine⟨d6 % m,Int.emod_nonneg _ ∅,Ir _ i,?_⟩;simp![yq,yaz,p,o,n,h,l,g,f,j,bj]
theorem oj(c:List Int)(b:List PV)(m:Int)(h:0<m)(j:b.length<=1000):∃v,0<=v/\v<m/\jE a [cI c,.own (.lst b),⇑m]=.ok (⇑v) [cI c,.own (.lst (b++[.int 0])),⇑m]:=by
 obtain⟨v,f,d,g⟩:=Nr (a:=a) c ((b.length:Int)+1) m ∅ h;refine⟨v,f,d,?_⟩;have i:b.length<bd:=by unfold bd;lia
 simp![jE,yax,bv,i,g]
theorem Ep{c:Type}(b:List c)(v:Int)(f:0<=v)(g:v<b.length):∃x∈b,fI b v=aa x:=by
 have d:v.toNat<b.length:=∅
 exact⟨b[v.toNat],BN _,uO f d⟩
theorem PP(d:List Int)(c b:List PV)(i:c.length<=1000)(m:0<b.length):∃x∈b,xt a [cI d,.own (.lst c),.val (.lst b)]=.ok (.val x) [cI d,.own (.lst (c++[.int 0])),.val (.lst b)]:=by obtain⟨v,g,f,j⟩:=oj (a:=a) d c (b.length:Nat) ∅ i;obtain⟨x,l,h⟩:=Ep b v g f;refine⟨x,l,?_⟩;simp![xt,yaA,bv,aW,j,h]
theorem uR{n:Nat}(h:n<=1000000):jY [.int n]=aa (eV 0 n):=by show(if(n:Int)<=1000000/\-1000000<=(n:Int)then aa (eV 0 (n:Int).toNat)else ae)=_;rw[if_pos ⟨∅,∅⟩];simp
theorem pD{x y:Tx}(h:x.length+y.length<=bd):bj (.str x) (.str y)=aa (.str (x++y)):=by show(if(x++y).length<=bd then aa (PV.str (x++y))else ae)=_;rw[if_pos (by rw[dD];exact h)]
theorem cC{d1 d2:ai->R aM}{ε ε1:ai}(h:d1 ε=.ok .next ε1):aG d1 d2 ε=d2 ε1:=by unfold aG;rw[h]
theorem uY{i:Nat}{d:ai->R PV}{ε ε1:ai}{x:PV}(h:d ε=.ok x ε1):bQ i d ε=.ok .next (ε1.set i (.val x)):=by unfold bQ;rw[h];rfl
theorem wV{i:Nat}{db:ai->R aM}{I:Nat->ai->Prop}{N:Nat}(step:∀k c x,k<N->I k c->∃b,db (c.set i (.val x))=.ok .next b/\I (k+1) b):∀(d:List PV) (k:Nat) (c:ai),k+d.length<=N->I k c->∃b,dZ i db d c=.ok .next b/\I (k+d.length) b
 |[],k,c,_,h=>⟨c,rfl,h⟩
 |x::d,k,c,j,h=>by simp only[eU]at j;obtain⟨g,o,m⟩:=step k c x ∅ h;obtain⟨f,n,l⟩:=wV step d (k+1) g ∅ m;refine⟨f,by unfold dZ;rw[o];exact n,?_⟩;rw[eU,show k+(d.length+1)=k+1+d.length by lia];exact l
theorem lg{i:Nat}{db:ai->R aM}{I:List PV->ai->Prop}(step:∀(x:PV) (r:List PV) ε,I (x::r) ε->∃b,db (ε.set i (.val x))=.ok .next b/\I r b):∀(c:List PV) (ε:ai),I c ε->∃b,dZ i db c ε=.ok .next b/\I [] b
 |[],ε,h=>⟨ε,rfl,h⟩
 |x::c,ε,h=>by obtain⟨ε1,l,g⟩:=step x c ε h;obtain⟨d,j,f⟩:=lg step c ε1 g;exact⟨d,by unfold dZ;rw[l];exact j,f⟩
theorem Oj(l:List Int)(j:List PV)(g b:Nat)(M:g<=b)(X:b<=100)(W:j.length<=500):∃(z:Tx) (h:List PV),g<=z.length/\z.length<=b/\(∀c∈z,c∈bF)/\h.length<=j.length+2+b /\ wP a [cI l,.own (.lst j),⇑g,⇑b]=.ok (↥z) [cI l,.own (.lst h),⇑g,⇑b]:=by
 obtain⟨f,y,K⟩:=PP (a:=a) l j [.int 1,.int 2,.int 2,.int 3,.int 3,.int 3] ∅ (by decide);obtain⟨few,rfl,P,Z⟩:∃few:Int,f=.int few/\0<few/\few<=3:=by simp only[bI,jL,or_false]at y;rcases y with rfl|rfl|rfl|rfl|rfl|rfl <;> exact⟨_,rfl,by decide,by decide⟩
 obtain⟨m,T,S,o⟩:=oj (a:=a) l (j++[.int 0]) ((b:Int)-g+1) ∅ (by simp;lia);obtain⟨n,L⟩:∃n:Nat,(g:Int)+m=n:=⟨(g+m).toNat,∅⟩
 have J:jY [.int ((g:Int)+m)]=aa (eV 0 n):=by rw[L];exact uR ∅
 have bp:(eV 0 n).length=n:=by simp[eV]
 obtain⟨B,A,h,z,p,rfl,w,G,u⟩:=wV (i:=6) (db:=bQ 5 (d2 bj (dV 5) (d2 aW (dC (.str [97,98,99])) (br (aU (jE a) (gV (dV 0) (gO 1 (gV (dV 4) (Pu.bW)))))))))
  (I:=λk ε=>∃h z p,ε=[cI l,.own (.lst h),⇑g,⇑b,⇑few,↥z,p]/\z.length=k/\h.length<=j.length+2+k/\∀c∈z,c∈bF) (N:=n)
  (by
   rintro k ε x Y ⟨h,z,p,rfl,w,G,u⟩;obtain⟨v,C,Q,H⟩:=oj (a:=a) l h few P ∅;obtain⟨c,O,D⟩:=Ep bF v C (by simp[bF];lia);refine⟨[cI l,.own (.lst (h++[.int 0])),⇑g,⇑b,⇑few,↥(z++[c]),.val x],?_,h++[.int 0],z++[c],.val x,rfl,by simp[w],by simp;lia,λd o=>?_⟩
   .have q:aW (.str [97,98,99]) (.int v)=aa (.str [c]):=by
     show(fI bF v).map _=_;rw[D];rfl
    have F:bj (.str z) (.str [c])=aa (.str (z++[c])):=pD (by simp[bd];lia);simp![H,q,F]
   .simp only[iP,iu]at o;rcases o with o|rfl
    .exact u d o
    .exact O)
  (eV 0 n) 0 [cI l,.own (.lst (j++[.int 0]++[.int 0])),⇑g,⇑b,⇑few,.val (.str []),.none] ∅ ⟨j++[.int 0]++[.int 0],[],.none,rfl,rfl,by simp,by simp⟩
 refine⟨z,h,∅,∅,u,∅,?_⟩;have E:ku (.int b) (.int g)=aa (.int ((b:Int)-g)):=rfl;have s:bj (.int ((b:Int)-g)) (.int 1)=aa (.int ((b:Int)-g+1)):=rfl;have r:bj (.int g) (.int m)=aa (.int ((g:Int)+m)):=rfl;simp only[gu,qo,f_]at A;simp![wP,yaC,K,E,s,r,o,bU,J,cK,A]
theorem iE{cap:List Nat}{dt:ai->R Bool}{de:ai->R PV}{ε:ai}(p:PV->Bool)(f:PV->PV):∀(c:List PV),(∀x∈c,bC (bZ cap dt x ε)=.ok (p x) ε/\(p x=ah->bC (bZ cap de x ε)=.ok (f x) ε))->∀b,gW cap dt de c b ε=.ok (b++(c.filter p).map f) ε
 |[],_,b=>by simp[gW]
 |x::c,h,b=>by
  have i:=h x (by simp);have g:=iE p f c (λy j=>h y (by simp[j]));unfold gW;rw[i.1];simp only[R.bind_ok];cases d:p x with
  |false=>simp only[g b,mf,d];simp
  |true=>simp only[i.2 d,R.bind_ok,g (b++[f x]),mf,d];simp
theorem M5{z:Tx}{i w:Nat}(h:i+w<=z.length):gn z (aa (i:Int)) (aa ((i:Int)+w))=(z.drop i).take w:=by
 unfold gn;have c:HT.sIx z.length 0 (aa (i:Int))=i:=by rw[HT.sIx_nat];lia
 have b:HT.sIx z.length z.length (aa ((i:Int)+w))=i+w:=by rw[show(i:Int)+w=((i+w:Nat):Int) by lia,HT.sIx_nat];lia
 rw[c,b,Nat.add_sub_cancel_left]
theorem Gf(z:Tx)(w:Nat)(o:z.length<=60):jV a [↥z,⇑w]=.ok (.val (.tup (am (aX (ba z w))))) [↥z,⇑w]:=by
 have g:jY [.int (z.length:Nat)]=aa (eV 0 z.length):=uR ∅;have b:=iE (cap:=[0,1]) (dt:=(dB (d2 (c7 λi j=>decide (i<=j)) (d2 bj (dV 0) (dV 2)) (dL bv (aB (dV 1) (aD)))))) (de:=(dm dG (dV 1) (cU (dV 0)) (cU (d2 bj (dV 0) (dV 2)))))
  (ε:=[↥z,⇑w]) (λx=>match x with|.int i=>decide (i+w<=z.length)|_=>ak) (λx=>match x with|.int i=>.str (gn z (aa i) (aa (i+w)))|_=>.non) (eV 0 z.length)
  (by
   intro x d;simp only[eV,cb]at d;obtain⟨i,f,rfl⟩:=d;refine⟨?_,λh=>?_⟩
   .simp![bZ,cf,bC,bv,bj]
   .simp![bZ,cf,bC,bv,bj,dm,cU,dG]) []
 have l:(ba z w).length<=1000000:=by unfold ba;rw[b7];have:=y_ (λi=>decide (i+w<=z.length)) (cJ z.length);rw[HK]at this;lia
 have m:(((eV 0 z.length).filter (λx=>match x with|.int i=>decide (i+w<=z.length)|_=>ak)).map (λx=>match x with|.int i=>PV.str (gn z (aa i) (aa (i+w)))|_=>.non))=am (ba z w):=by
  unfold eV ba am;rw[nv,dQ,dQ];have n:((λx=>match x with|PV.int i=>decide (i+(w:Int)<=(z.length:Nat))|_=>ak) ∘ λ(i:Nat)=>PV.int (0+(i:Nat)))=λi=>decide (i+w<=z.length):=by funext i;simp only[qp];congr 1;simp;lia
  rw[n];refine jJ λi f=>?_;have:=(ji.mp f).2;simp only[decide_eq_true_eq]at this;simp only[qp,Int.zero_add];rw[M5 this]
 simp only[f_]at b;rw[m]at b;have c:=EQ l;generalize am (aX (ba z w))=T at c;generalize am (ba z w)=B at b c;simp![jV,yaB,bv,g,bP,b,c,k8]
structure Good(l:Tx)(w:Nat)(ls:List Tx):Prop where
 len:∀x∈ls,x.length=w
 abc:∀x∈ls,∀c∈x,c∈l
 some:1<=ls.length
 few:ls.length<=9
theorem Good.perm{l:Tx}{w:Nat}{c b:List Tx}(g:Good l w c)(p:b.Perm c):Good l w b:=⟨λx h=>g.len x (p.mem_iff.mp h),λx h=>g.abc x (p.mem_iff.mp h),by rw[p.length_eq];exact g.some,by rw[p.length_eq];exact g.few⟩
theorem Good.put{l:Tx}{w:Nat}{b:List Tx}{z:Tx}{j:Nat}(g:Good l w b)(d:z.length=w)(f:∀c∈z,c∈l):Good l w (b.set j z):=by
 refine⟨λx h=>?_,λx h=>?_,by rw[gs];exact g.some,by rw[gs];exact g.few⟩
 .rcases Iu h with h|rfl
  .exact g.len x h
  .exact d
 .rcases Iu h with h|rfl
  .exact g.abc x h
  .exact f
theorem ja(ls:List Tx):(am ls).length=ls.length:=by simp[am]
theorem GO{n:Nat}{v:Int}(c:0<=v)(b:v<n):iI n v=aa v.toNat:=by unfold iI;rw[if_pos c,if_pos b]
theorem Mc(ls:List Tx):mF (am ls)=ah:=by
 induction ls with
 |nil=>rfl
 |cons x ls b=>show(imm (.str x)&&mF (am ls))=ah;rw[b];rfl
def eN(x:Tx):List PV:=x.map λc=>.str [c]
theorem OV(x:Tx):(eN x).length=x.length:=by simp[eN]
theorem Ro(x:Tx)(j c:Nat):(eN x).set j (.str [c])=eN (x.set j c):=by simp[eN,List.map_set]
theorem Kf(x:Tx):fY (eN x)=aa (x.map λc=>[c]):=by
 have e:eN x=am (x.map λc=>[c]):=by unfold eN am;rw[dQ];rfl
 rw[e,nP]
theorem RL(x:Tx):gy [] (x.map λc=>[c])=x:=by
 induction x with
 |nil=>rfl
 |cons c x b=>
  cases x with
  |nil=>rfl
  |cons d x=>show [c]++[]++gy [] ((d::x).map λc=>[c])=_;rw[b];rfl
theorem MM(x:Tx):gY [] (x.map λc=>[c])=x.length:=by
 unfold gY
 induction x with
 |nil=>rfl
 |cons c x b=>simp at b ⊢;lia
theorem Mg(b:List Tx)(c:ai):∀d,o7 [] (dL qW (aB (dV 0) aD)) (am b) d c=.ok (d++b.map eN) c:=by
 induction b with
 |nil=>intro d;simp[am,o7]
 |cons x b f=>
  intro d;have:am (x::b)=.str x::am b:=rfl;rw[this];unfold o7;have h:bC (bZ [] (dL qW (aB (dV 0) aD)) (.str x) c)=.ok (.lst (eN x)) c:=by simp![bZ,cf,bC,qW,eN]
  rw[h];simp only[R.bind_ok];rw[f];simp
theorem map_set{b c:Type}(f:b->c)(l:List b)(j:Nat)(x:b):(l.map f).set j (f x)=(l.set j x).map f:=by simp[List.map_set]
def c9(b:List Tx):Nat:=(b.map λx=>x.count 46).sum
theorem Jv(x:Tx)(j c:Nat):(x.set j c).count 46<=x.count 46+1:=by
 induction x generalizing j with
 |nil=>simp
 |cons d x b=>
  cases j with
  |zero=>simp only[List.set_cons_zero,BX];split <;> split <;> lia
  |succ j=>have:=b j;simp only[List.set_cons_succ,BX];lia
theorem Lg(b:List Tx)(j:Nat)(x y:Tx)(h:b[j]?=aa x)(d:y.count 46<=x.count 46+1):c9 (b.set j y)<=c9 b+1:=by
 unfold c9
 induction b generalizing j with
 |nil=>simp
 |cons z b c=>
  cases j with
  |zero=>simp at h;subst h;simp only[List.set_cons_zero,b8,g9];lia
  |succ j=>have:=c j (by simpa using h);simp only[List.set_cons_succ,b8,g9];lia
theorem QA{c b:List Tx}(p:c.Perm b):c9 c=c9 b:=(p.map _).sum_nat
def ge:Tx:=[46,97,98,99]
theorem JH(b:List Tx)(d:∀x∈b,x.length<=10)(c:ai):gW [] cL (lV mC (dC (.str [])) (aB (dV 0) aD)) (b.map λx=>.lst (eN x)) [] c=.ok (am b) c:=by
 have h:∀(b:List Tx),(∀x∈b,x.length<=10)->∀f,gW [] cL (lV mC (dC (.str [])) (aB (dV 0) aD)) (b.map λx=>.lst (eN x)) f c=.ok (f++am b) c:=by
  intro b
  induction b with
  |nil=>intro _ f;simp[gW,am]
  |cons x b g=>
   intro d f;have n:=d x (by simp);have m:bC (bZ [] cL (.lst (eN x)) c)=.ok ah c:=by simp![bZ,cf,bC,cL]
   have j:mC [] [.lst (eN x)]=aa (.str x):=by show(fY (eN x)).bind _=_;rw[Kf,g8,MM,if_pos (by unfold bd;lia),RL]
   have l:bC (bZ [] (lV mC (dC (.str [])) (aB (dV 0) aD)) (.lst (eN x)) c)=.ok (.str x) c:=by simp![bZ,cf,bC,lV,xN,j]
   rw[b8];unfold gW;rw[m];simp only[R.bind_ok,l];rw[g (λy i=>d y (by simp[i]))];simp[am]
 have:=h b d [];simpa using this
theorem GX(c b:List Tx):am c++am b=am (c++b):=by simp[am]
theorem Fg{c:Type}(b:List c)(n:Nat):gn b (aa (n:Int)) ae=b.drop n:=by
 unfold gn;have d:HT.sIx b.length b.length ae=b.length:=rfl;rw[d,HT.sIx_nat];by_cases h:n<=b.length
 .rw[Nat.min_eq_left h,oC (by rw[m_];lia)]
 .rw[Nat.min_eq_right ∅,Iv ∅,Iv ∅];simp
end
def opts(d:Nat):Tx:=if d=46 then bF else [d]
def fillS(a:List Tx)(d:Nat):List Tx:=a.flatMap λs=>(opts d).map λc=>s++[c]
def fillF(a:List Tx)(b:Tx):List Tx:=b.foldl fillS a
def fills(b:Tx):List Tx:=fillF [[]] b
theorem opts_mem{c d:Nat}:c∈opts d↔(d=46/\c∈bF)\/(d≠46/\c=d):=by
 unfold opts;by_cases h:d=46
 .simp[h]
 .simp[h]
theorem opts_len(d:Nat):(opts d).length=3 ^ [d].count 46:=by
 unfold opts;by_cases h:d=46
 .subst h;rfl
 .simp[h]
theorem fillS_len(a:List Tx)(d:Nat):(fillS a d).length=a.length*3 ^ [d].count 46:=by
 unfold fillS;rw[List.length_flatMap];simp only[b7,opts_len]
 induction a with
 |nil=>simp
 |cons r a b=>rw[b8,g9,b,eU,Nat.add_mul,Nat.one_mul,BD]
theorem fillF_len(b:Tx):∀a:List Tx,(fillF a b).length=a.length*3^b.count 46:=by
 unfold fillF
 induction b with
 |nil=>intro a;simp
 |cons d b c=>intro a;rw[g7,c,fillS_len,Nat.mul_assoc,<-Nat.pow_add];congr 2;rw[<-Cd];rfl
theorem fills_len(b:Tx):(fills b).length=3^b.count 46:=by rw[fills,fillF_len];simp
theorem fillF_fits(b:Tx):∀(a:List Tx) (z:Tx),z∈fillF a b↔∃r∈a,∃x:Tx,z=r++x/\d7 (λc d=>c∈opts d) x b:=by
 unfold fillF
 induction b with
 |nil=>
  intro a z;constructor
  .intro h;exact⟨z,h,[],by simp,.nil⟩
  .rintro⟨r,f,x,rfl,g⟩;cases g;simpa using f
 |cons d b j=>
  intro a z;rw[g7,j];constructor
  .rintro⟨r,f,x,rfl,g⟩;unfold fillS at f;obtain⟨s,l,f⟩:=vK.mp f;obtain⟨c,i,rfl⟩:=cb.mp f;exact⟨s,l,c::x,by simp,.cons i g⟩
  .rintro⟨r,f,x,rfl,g⟩;cases g with
   |cons i g=>rename_i c x;refine⟨r++[c],?_,x,by simp,g⟩;unfold fillS;exact vK.mpr ⟨r,f,cb.mpr ⟨c,i,rfl⟩⟩
def Fit(x b:Tx):Prop:=d7 (λc d=>c∈opts d) x b
theorem fills_mem{b z:Tx}:z∈fills b↔Fit z b:=by
 unfold fills;rw[fillF_fits];constructor
 .rintro⟨r,a,x,rfl,c⟩;simp at a;subst a;exact c
 .intro h;exact⟨[],by simp,z,rfl,h⟩
theorem Fit.len{x b:Tx}(h:Fit x b):x.length=b.length:=mV h
theorem Fit.abc{x b:Tx}(h:Fit x b)(g:∀c∈b,c∈ge):∀c∈x,c∈bF:=by
 unfold Fit at h
 induction h with
 |nil=>intro c a;cases a
 |@cons c d x b a _ ih=>
  intro e f;rcases bI.mp f with rfl|f
  .rcases opts_mem.mp a with⟨_,h⟩|⟨h1,rfl⟩
   .exact h
   .have:=g e (by simp);simp[ge]at this;simp[bF];lia
  .exact ih (λc a=>g c (by simp[a])) e f
def addL(a:List (List Tx))(k:List Tx):List (List Tx):=if k∈a then a else a++[k]
theorem addL_mem{a:List (List Tx)}{k z:List Tx}:z∈addL a k↔z∈a\/z=k:=by
 unfold addL;by_cases h:k∈a
 .rw[if_pos h];exact⟨.inl,λq=>q.elim id λe=>e ▸ h⟩
 .rw[if_neg h];simp
theorem addL_nodup{d:List (List Tx)}{k:List Tx}(h:d.Nodup):(addL d k).Nodup:=by
 unfold addL;by_cases c:k∈d
 .rw[if_pos c];exact h
 .rw[if_neg c,vH];refine⟨h,by simp,λa g b f=>?_⟩;simp at f;subst f;rintro rfl;exact c g
theorem addF_mem(ks:List (List Tx)):∀(a:List (List Tx)) (z:List Tx),z∈ks.foldl addL a↔z∈a\/z∈ks:=by
 induction ks with
 |nil=>intro a z;simp
 |cons k ks b=>
  intro a z;rw[g7,b,addL_mem,bI];constructor
  .rintro((h|h)|h)
   .exact .inl h
   .exact .inr (.inl h)
   .exact .inr (.inr h)
  .rintro(h|h|h)
   .exact .inl (.inl h)
   .exact .inl (.inr h)
   .exact .inr h
theorem addF_nodup(ks:List (List Tx)):∀a:List (List Tx),a.Nodup->(ks.foldl addL a).Nodup:=by
 induction ks with
 |nil=>intro a h;exact h
 |cons k ks b=>intro a h;exact b _ (addL_nodup h)
def nextW(b:Tx)(k:List Tx):List (List Tx):=(fills b).map λx=>aX (k++[x])
def stepW(ks:List (List Tx))(b:Tx):List (List Tx):=(ks.flatMap (nextW b)).foldl addL []
def waysF(a:List Tx):List (List Tx):=a.foldl stepW [[]]
theorem waysF_mem'(g:List Tx):∀(ks:List (List Tx)) (z:List Tx),z∈g.foldl stepW ks↔if g=[] then z∈ks else ∃k∈ks,∃d:List Tx,z=aX (k++d)/\d7 Fit d g:=by
 induction g with
 |nil=>intro ks z;simp
 |cons b g m=>
  intro ks z;rw[g7,m,if_neg (show ¬b::g=[] by simp)];have i:∀y,y∈stepW ks b↔∃k∈ks,∃x,Fit x b/\y=aX (k++[x]):=λy=>by
   unfold stepW;rw[addF_mem];constructor
   .rintro(h|h)
    .simp at h
    .obtain⟨k,c,h⟩:=vK.mp h;obtain⟨x,a,rfl⟩:=cb.mp h;exact⟨k,c,x,fills_mem.mp a,rfl⟩
   .rintro⟨k,c,x,a,rfl⟩;exact .inr (vK.mpr ⟨k,c,cb.mpr ⟨x,fills_mem.mpr a,rfl⟩⟩)
  by_cases l:g=[]
  .subst l;rw[if_pos rfl,i];constructor
   .rintro⟨k,c,x,a,rfl⟩;exact⟨k,c,[x],rfl,.cons a .nil⟩
   .rintro⟨k,c,d,rfl,f⟩;cases f with
    |cons a f=>cases f;exact⟨k,c,_,a,rfl⟩
  .rw[if_neg l];constructor
   .rintro⟨y,n,d,rfl,f⟩;obtain⟨k,c,x,a,rfl⟩:=(i y).mp n;refine⟨k,c,x::d,qZ ?_,.cons a f⟩;have j:=(eI (k++[x])).append_right d;simpa using j
   .rintro⟨k,c,d,rfl,f⟩;cases f with
    |cons a f=>rename_i x d;refine⟨aX (k++[x]),(i _).mpr ⟨k,c,x,a,rfl⟩,d,qZ ?_,f⟩;have j:=(eI (k++[x])).symm.append_right d;simpa using j
theorem waysF_mem{c z:List Tx}:z∈waysF c↔∃a:List Tx,z=aX a/\d7 Fit a c:=by
 unfold waysF;rw[waysF_mem'];by_cases d:c=[]
 .subst d;rw[if_pos rfl];constructor
  .intro h;simp at h;subst h;exact⟨[],(by simp[aX]),.nil⟩
  .rintro⟨a,rfl,b⟩;cases b;simp[aX]
 .rw[if_neg d];constructor
  .rintro⟨k,f,a,rfl,b⟩;simp at f;subst f;exact⟨a,rfl,b⟩
  .rintro⟨a,rfl,b⟩;exact⟨[],by simp,a,rfl,b⟩
theorem waysF_nodup'(a:List Tx):∀ks:List (List Tx),ks.Nodup->(a.foldl stepW ks).Nodup:=by
 induction a with
 |nil=>intro ks h;exact h
 |cons b a c=>intro ks _;exact c _ (addF_nodup _ _ BG)
theorem waysF_nodup(a:List Tx):(waysF a).Nodup:=waysF_nodup' a _ (by simp)
theorem addF_len(ks:List (List Tx)):∀a:List (List Tx),(ks.foldl addL a).length<=a.length+ks.length:=by
 induction ks with
 |nil=>intro a;simp
 |cons k ks b=>
  intro a;have:=b (addL a k);rw[g7,eU];have c:(addL a k).length<=a.length+1:=by unfold addL;split <;> simp
  lia
theorem next_len(ks:List (List Tx))(b:Tx):(ks.flatMap (nextW b)).length=ks.length*3^b.count 46:=by
 rw[List.length_flatMap];simp only[nextW,b7,fills_len]
 induction ks with
 |nil=>simp
 |cons r a c=>rw[b8,g9,c,eU,Nat.add_mul,Nat.one_mul,BD]
theorem stepW_len(ks:List (List Tx))(b:Tx):(stepW ks b).length<=ks.length*3^b.count 46:=by unfold stepW;have:=addF_len (ks.flatMap (nextW b)) [];rw[next_len]at this;simpa using this
theorem waysF_len'(a:List Tx):∀ks:List (List Tx),(a.foldl stepW ks).length<=ks.length*3^c9 a:=by
 induction a with
 |nil=>intro ks;simp[c9]
 |cons b a c=>
  intro ks;rw[g7];refine cq (c _) ?_;have e:3^c9 (b::a)=3^b.count 46*3^c9 a:=by rw[<-Nat.pow_add];rfl
  rw[e,<-Nat.mul_assoc];exact Nat.mul_le_mul_right _ (stepW_len ks b)
theorem waysF_len(a:List Tx):(waysF a).length<=3^c9 a:=by have:=waysF_len' a [[]];simpa[waysF]using this
section
variable{a:Ad}
theorem wf_comp(t:Tx)(o:Tx)(g f d b:Slot)(l:t.length<=50):gW [5] cL (d2 bj (dV 1) (dV 0)) (o.map λc=>.str [c]) [] [g,f,d,↥o,b,↥t]=.ok (am (o.map λc=>t++[c])) [g,f,d,↥o,b,↥t]:=by
 have h:=iE (cap:=[5]) (dt:=cL) (de:=(d2 bj (dV 1) (dV 0))) (ε:=[g,f,d,↥o,b,↥t]) (λ_=>ah) (λx=>match x with|.str [c]=>.str (t++[c])|_=>.non) (o.map λc=>PV.str [c])
  (by intro x i;obtain⟨c,_,rfl⟩:=cb.mp i;have j:bj (.str t) (.str [c])=aa (.str (t++[c])):=pD (by simp[bd];lia);refine⟨by simp![bZ,cf,bC,cL],λ_=>?_⟩;simp![bZ,cf,bC,j]) []
 rw[f_,oJ.mpr (by simp)]at h;rw[h];congr 1;simp[am,dQ,sF]
theorem wf_row(d:Nat)(h g f n:Slot)(b:List Tx)(A:∀t∈b,t.length<=50)(D:(fillS b d).length<=999999):∃l,dZ 5 (jy 4 (dF (bP [5] (aT (dV 3)) (cL) (d2 bj (dV 1) (dV 0))))) (am b) [h,g,f,↥(opts d),.own (.lst []),n]=.ok .next [h,g,f,↥(opts d),.own (.lst (am (fillS b d))),l]:=by
 obtain⟨y,w,l,p,rest,j,z,rfl⟩:=lg (i:=5) (db:=(jy 4 (dF (bP [5] (aT (dV 3)) (cL) (d2 bj (dV 1) (dV 0))))))
  (I:=λr s=>∃(l:Slot) (p rest:List Tx),b=p++rest/\r=am rest/\s=[h,g,f,↥(opts d),.own (.lst (am (fillS p d))),l])
  (by
   rintro x r s ⟨l,p,rest,j,u,rfl⟩;cases rest with
   |nil=>cases u
   |cons t rest=>
    have v:x::r=.str t::am rest:=u;simp only[lB]at v;obtain⟨rfl,rfl⟩:=v;have m:=wf_comp t (opts d) h g f (.own (.lst (am (fillS p d)))) (A t (by rw[j];simp));have q:dN (.str (opts d))=aa ((opts d).map λc=>.str [c]):=rfl;have B:fillS (p++[t]) d=fillS p d++(opts d).map λc=>t++[c]:=by simp[fillS]
    have o:(am (fillS p d)).length+(am ((opts d).map λc=>t++[c])).length<=bd:=by
     rw[ja,ja];have E:(fillS p d).length+((opts d).map λc=>t++[c]).length<=(fillS b d).length:=by rw[j];simp only[fillS,vL,oH,dD];lia
     unfold bd;lia
    refine⟨[h,g,f,↥(opts d),.own (.lst (am (fillS (p++[t]) d))),↥t],?_,↥t,p++[t],rest,by rw[j];simp,rfl,rfl⟩;rw[B,<-GX];generalize am ((opts d).map λc=>t++[c])=Y at m o;generalize am (fillS p d)=L at m o;generalize ((opts d).map λc=>PV.str [c])=A3 at m q;generalize opts d=O at m q;simp![jy,bP,aT,q,m,o])
  (am b) [h,g,f,↥(opts d),.own (.lst (am (fillS [] d))),n] ⟨n,[],b,by simp,rfl,rfl⟩
 have C:rest=[]:=by cases rest with|nil=>rfl|cons=>cases z
 subst C;rw[gG]at j;rw[<-j]at w;exact⟨l,w⟩
theorem fillF_app(d:List Tx)(b c:Tx):fillF d (b++c)=fillF (fillF d b) c:=by unfold fillF;rw[yW]
theorem fill_long{b:Tx}{t:Tx}(h:t∈fills b):t.length=b.length:=(fills_mem.mp h).len
theorem pow6{k:Nat}(h:k<=6):3^k<=729:=cq (za (by decide) h) (by decide)
theorem wtf_eq(b:Tx)(H:b.length<=40)(G:b.count 46<=6):rg a [↥b]=.ok (.val (.lst (am (fills b)))) [↥b]:=by
 obtain⟨z,m,o,j,h,f,p,rest,g,A,rfl⟩:=lg (i:=2) (db:=(aG (bQ 3 (cu (dB (d2 (Pu.eqT ak) (dV 2) (dC (.str [46])))) (dC (.str [97,98,99])) (dV 2)))
 (aG (cV 4 (dL dE (aD)))
 (aG (bU 5 (aT (dV 1)) (jy 4 (dF (bP [5] (aT (dV 3)) (cL) (d2 bj (dV 1) (dV 0))))))
 (bQ 1 (dM 4))))))
  (I:=λr v=>∃(o j h f:Slot) (p rest:Tx),b=p++rest/\r=rest.map (λc=>PV.str [c])/\v=[↥b,.val (.lst (am (fills p))),o,j,h,f])
  (by
   rintro x r v ⟨o,j,h,f,p,rest,g,q,rfl⟩;cases rest with
   |nil=>cases q
   |cons d rest=>
    simp only[b8,lB]at q;obtain⟨rfl,rfl⟩:=q;have J:p.length+1<=b.length:=by rw[g];simp
    have s:(p++[d]).count 46<=6:=by
     have:(p++[d]).count 46<=b.count 46:=by rw[g];simp only[Cd,BX,List.count_nil];lia
     lia
    have e:fillS (fills p) d=fills (p++[d]):=by unfold fills;rw[fillF_app];rfl
    obtain⟨w,l⟩:=wf_row d (↥b) (.val (.lst (am (fills p)))) (.val (.str [d])) f (fills p) (λt C=>by rw[fill_long C];lia) (by rw[e,fills_len];have:=pow6 s;lia);rw[e]at l;refine⟨_,?_,.val (.str [d]),↥(opts d),.val (.lst (am (fills (p++[d])))),w,p++[d],rest,by rw[g];simp,rfl,rfl⟩;have u:(cu (dB (d2 (Pu.eqT ak) (dV 2) (dC (.str [46])))) (dC (.str [97,98,99])) (dV 2)) [↥b,.val (.lst (am (fills p))),.val (.str [d]),j,h,f]=.ok (.str (opts d)) [↥b,.val (.lst (am (fills p))),.val (.str [d]),j,h,f]:=by
     have F:=Ah ak [d] [46];by_cases y:d=46
     .subst y;simp![Ah,opts,bF]
     .simp![Ah,opts,y]
    have n:dN (.lst (am (fills p)))=aa (am (fills p)):=rfl;generalize am (fills (p++[d]))=R1 at l;generalize am (fills p)=R0 at l u n;generalize opts d=O at l u;refine(cC (uY u)).trans ?_;refine(cC (ε1:=[↥b,.val (.lst R0),.val (.str [d]),↥O,.own (.lst []),f]) (by simp![])).trans ?_;refine(cC (ε1:=[↥b,.val (.lst R0),.val (.str [d]),↥O,.own (.lst R1),w]) ?_).trans ?_
    .unfold bU aT dV;simp only[BR,HY,R.bind_ok,n,bV];exact l
    .simp[bQ,dM,R.bind])
  (b.map λc=>.str [c]) [↥b,.val (.lst (am (fills []))),.none,.none,.none,.none] ⟨.none,.none,.none,.none,[],b,rfl,rfl,rfl⟩
 have E:rest=[]:=by cases rest with|nil=>rfl|cons=>cases A
 subst E;rw[gG]at g;rw[<-g]at m;have D:am (fills [])=[.str []]:=rfl;rw[D]at m;have n:dN (.str b)=aa (b.map λc=>.str [c]):=rfl;generalize am (fills b)=R1 at m;generalize (b.map λc=>PV.str [c])=B at m n;simp![rg,yaH,cK,bU,aT,n,m]
theorem rK{t T:String}{b:Bool}{x:PV}(h:vd x=aa t)(e:jH [] (.type t) (.type T)=aa b):jC [x,.raw (.ty T)]=aa (.bl b):=by show((vd x).bind λt=>(jH [] (.type t) (.type T)).map λb=>PV.bl b)=_;rw[h,g8,e];rfl
theorem Oa:jH [] (.type "int") (.type "int")=aa ah:=by decide +kernel
theorem Qb:jH [] (.type "int") (.type "bool")=aa ak:=by decide +kernel
theorem Nq:jH [] (.type "str") (.type "str")=aa ah:=by decide +kernel
theorem zL:jH [] (.type "tuple") (.type "tuple")=aa ah:=by decide +kernel
theorem Kc(bs:List Bool):mw (bs.map .bl)=aa bs:=by
 induction bs with
 |nil=>rfl
 |cons b bs c=>show(mw (bs.map .bl)).map (b::·)=_;rw[c];rfl
theorem Ev(bs:List Bool):uG [.lst (bs.map .bl)]=aa (.bl (bs.all id)):=by show(mw (bs.map .bl)).map _=_;rw[Kc];rfl
theorem MJ(z s:Tx):yt a [↥z,↥s]=.ok (.val (.bl (z.all s.contains))) [↥z,↥s]:=by
 have b:=iE (cap:=[1]) (dt:=cL) (de:=(d2 (gz ak) (dV 0) (dV 1))) (ε:=[↥z,↥s]) (λ_=>ah) (λx=>match x with|.str [c]=>.bl (s.contains c)|_=>.non) (z.map λc=>.str [c])
  (by
   intro x h;obtain⟨c,_,rfl⟩:=cb.mp h;refine⟨by simp![bZ,cf,bC,cL],λ_=>?_⟩;have g:gz ak (.str [c]) (.str s)=aa (.bl (s.contains c)):=by rw[<-JY];simp[gz]
   simp![bZ,cf,bC,g]) []
 have i:((z.map λc=>PV.str [c]).filter (λ_=>ah)).map (λx=>match x with|.str [c]=>PV.bl (s.contains c)|_=>.non)=(z.map s.contains).map .bl:=by rw[oJ.mpr (by simp),dQ,dQ];rfl
 rw[f_,i]at b;have d:(z.map s.contains).all id=z.all s.contains:=by rw[vA];rfl
 generalize z.map s.contains=bs at b d;have f:=Ev bs;rw[d]at f;simp![yt,yam,bP,aT,dN,b,f]
def iW(w:Int)(s z:Tx):Bool:=decide ((z.length:Int)=w)&&z.all s.contains
theorem Kq(z s:Tx)(w:Int):rW a [↥z,⇑w,↥s]=.ok (.val (.bl (iW w s z))) [↥z,⇑w,↥s]:=by
 have d:jC [.str z,.raw (.ty "str")]=aa (.bl ah):=rK rfl Nq;have f:=MJ (a:=a) z s;have c:bv [.str z]=aa (.int (z.length:Nat)):=rfl;have b:=xK ak (z.length:Nat) w;unfold iW;by_cases h:((z.length:Nat):Int)=w
 .simp only[h,decide_true,Bool.xor_true,Ce]at b;simp![rW,yas,d,c,b,f,h]
 .simp only[h,decide_false,Bool.xor_false]at b;simp![rW,yas,d,c,b,h]
theorem zF(d c:List Tx):gC (am d) (am c)=aa (decide (d=c)):=by
 induction d generalizing c with
 |nil=>cases c <;> simp[am,gC]
 |cons x d f=>
  cases c with
  |nil=>simp[am,gC]
  |cons y c=>
   show(dz (.str x) (.str y)).bind (λa=>(gC (am d) (am c)).map λb=>a&&b)=_;rw[f];have:dz (.str x) (.str y)=aa (decide (x=y)):=by
    show aa (tS x == tS y)=_;by_cases h:x=y
    .subst h;simp
    .have:tS x≠tS y:=λz=>h (rn z);simp[h,this]
   rw[this];simp[lB]
theorem zH(b:List Tx):ip (am b)=0:=by
 induction b with
 |nil=>rfl
 |cons x b c=>show max (jf (.str x)) (ip (am b))=0;rw[c];rfl
theorem QN(b:Bool)(c d:List Tx):Pu.eqT b (.lst (am c)) (.lst (am d))=aa (.bl (b^^decide (c=d))):=by show(if jf (.lst (am c))<=8 then(gC (am c) (am d)).map (λk=>PV.bl (b^^k))else ae)=_;rw[if_pos (by show ip (am c)+1<=8;rw[zH];decide),zF];rfl
theorem KG(b:List Tx)(w:Int)(s:Tx)(u:1<=b.length)(r:b.length<=9):n4 a [.val (.tup (am b)),⇑w,↥s]=.ok (.val (.bl (b.all (iW w s)&&decide (b=aX b)))) [.val (.tup (am b)),⇑w,↥s]:=by
 have h:jC [.tup (am b),.raw (.ty "tuple")]=aa (.bl ah):=rK rfl zL;have i:bv [.tup (am b)]=aa (.int (b.length:Nat)):=by simp[bv,ja]
 have m:(1:Int)<=(b.length:Nat):=∅
 have l:((b.length:Nat):Int)<=9:=∅
 have c:=iE (cap:=[1,2]) (dt:=cL) (de:=(br (aU (rW a) (gV (dV 0) (gV (dV 1) (gV (dV 2) (Pu.bW))))))) (ε:=[.val (.tup (am b)),⇑w,↥s]) (λ_=>ah) (λx=>match x with|.str z=>.bl (iW w s z)|_=>.non) (am b)
  (by intro x n;obtain⟨z,_,rfl⟩:=cb.mp n;refine⟨by simp![bZ,cf,bC,cL],λ_=>?_⟩;have o:=Kq (a:=a) z s w;simp![bZ,cf,bC,o]) []
 have p:((am b).filter (λ_=>ah)).map (λx=>match x with|.str z=>PV.bl (iW w s z)|_=>.non)=(b.map (iW w s)).map .bl:=by rw[oJ.mpr (by simp)];unfold am;rw[dQ,dQ];rfl
 rw[f_,p]at c;have f:(b.map (iW w s)).all id=b.all (iW w s):=by rw[vA];rfl
 generalize b.map (iW w s)=bs at c f;have d:=Ev bs;have q:b.length<=1000000:=∅
 have g:=QN ak b (aX b);cases j:b.all (iW w s)with
 |false=>rw[f,j]at d;simp![n4,yad,h,i,m,l,bP,aT,dN,c,d]
 |true=>rw[f,j]at d;simp only[vJ]at g;simp![n4,yad,h,i,m,l,bP,aT,dN,c,d,xJ,j3,nP,q,g]
theorem Rx(b:List Tx)(w:Int)(s:Tx)(h:b.length=0\/9<b.length):n4 a [.val (.tup (am b)),⇑w,↥s]=.ok (.val (.bl ak)) [.val (.tup (am b)),⇑w,↥s]:=by
 have c:jC [.tup (am b),.raw (.ty "tuple")]=aa (.bl ah):=rK rfl zL;have d:bv [.tup (am b)]=aa (.int (b.length:Nat)):=by simp[bv,ja]
 by_cases f:(1:Int)<=(b.length:Nat)
 .have g:¬((b.length:Nat):Int)<=9:=∅
  simp![n4,yad,c,d,f,g]
 .simp![n4,yad,c,d,f]
theorem P6(i:Int):wF a [⇑i]=.ok (.val (.bl ah)) [⇑i]:=by have c:jC [.int i,.raw (.ty "int")]=aa (.bl ah):=rK rfl Oa;have b:jC [.int i,.raw (.ty "bool")]=aa (.bl ak):=rK rfl Qb;simp![wF,yaq,c,b]
theorem Lf(i:Int):se a [⇑i]=.ok (.val (.bl (decide (1<=i/\i<=4)))) [⇑i]:=by
 have h:=P6 (a:=a) i;by_cases b:1<=i
 .by_cases c:i<=4
  .simp![se,yar,h,b,c]
  .simp![se,yar,h,b,c]
 .simp![se,yar,h,b]
def mz(s:Tx)(w:Int)(b:List Tx):Bool:=decide (1<=w/\w<=4)&&(decide (1<=b.length/\b.length<=9)&&(b.all (iW w s)&&decide (b=aX b)))
theorem Hf(s:Tx)(w:Int)(b:List Tx):n5 a [.val (.tup [.int w,.tup (am b)]),↥s]=.ok (.val (.bl (mz s w b))) [.val (.tup [.int w,.tup (am b)]),↥s]:=by
 have h:jC [.tup [.int w,.tup (am b)],.raw (.ty "tuple")]=aa (.bl ah):=rK rfl zL;have l:bv [.tup [.int w,.tup (am b)]]=aa (.int 2):=rfl;have f:=xK ah 2 2;simp only[decide_true,zb,zc]at f;have j:aW (.tup [.int w,.tup (am b)]) (.int 0)=aa (.int w):=rfl;have i:aW (.tup [.int w,.tup (am b)]) (.int 1)=aa (.tup (am b)):=rfl;have d:=Lf (a:=a) w;unfold mz;by_cases c:1<=w/\w<=4
 .rw[decide_eq_true c]at d ⊢;by_cases g:1<=b.length/\b.length<=9
  .have m:=KG (a:=a) b w s g.1 g.2;rw[decide_eq_true g];simp![n5,yap,h,l,f,j,i,d,m]
  .have m:=Rx (a:=a) b w s ∅;rw[decide_eq_false g];simp![n5,yap,h,l,f,j,i,d,m]
 .rw[decide_eq_false c]at d ⊢;simp![n5,yap,h,l,f,j,i,d]
abbrev vw(w:Int)(b:List Tx):Bool:=mz bF w b
theorem LF(w:Int)(b:List Tx):xL a [.val (.tup [.int w,.tup (am b)])]=.ok (.val (.bl (vw w b))) [.val (.tup [.int w,.tup (am b)])]:=by have c:=Hf (a:=a) bF w b;simp only[bF]at c;simp![xL,yao,c];rfl
theorem Gm{w:Int}{b:List Tx}(h:vw w b=ah):rm a [.val (.tup [.int w,.tup (am b)])]=.ok (.val .non) [.val (.tup [.int w,.tup (am b)])]:=by have c:=LF (a:=a) w b;rw[h]at c;simp![rm,yag,c]
theorem Good.vw{w:Nat}{d:List Tx}(g:Good bF w d)(n:1<=w)(m:w<=4)(h:d.Pairwise (λa b=>cZ a b=ah)):vw w d=ah:=by
 have l:d.all (iW w bF)=ah:=by rw[l_];intro x f;unfold iW;rw[g.len x f,decide_eq_true rfl,oB,l_];intro c i;simpa using g.abc x f c i
 have j:decide (d=aX d)=ah:=decide_eq_true (pU h).symm;show mz bF w d=ah;unfold mz;rw[l,j,decide_eq_true (show 1<=(w:Int)/\(w:Int)<=4 by lia),decide_eq_true (show 1<=d.length/\d.length<=9 from⟨g.some,g.few⟩)];rfl
theorem M8(b:List Tx):gy [] b=b.flatten:=by
 induction b with
 |nil=>rfl
 |cons x b c=>
  cases b with
  |nil=>simp[gy]
  |cons y b=>show x++[]++gy [] (y::b)=_;rw[c];simp
theorem OO(b:List Tx):b.flatten.count 46=c9 b:=by unfold c9;rw[List.count_flatten]
theorem MO(x:PV)(h:n5 a [.val x,↥ge]=.ok (.val (.bl ak)) [.val x,↥ge]):nX a [.val x]=.ok (.val (.bl ak)) [.val x]:=by have b:bj (.str [46]) (.str [97,98,99])=aa (.str ge):=pD (by decide);simp![nX,yan,b,h]
theorem Qf(w:Int)(b:List Tx)(m:gY [] b<=bd):nX a [.val (.tup [.int w,.tup (am b)])]=.ok (.val (.bl (mz ge w b&&decide (c9 b<=6)))) [.val (.tup [.int w,.tup (am b)])]:=by
 have d:=Hf (a:=a) ge w b;cases l:mz ge w b with
 |false=>rw[l]at d;exact MO _ d
 |true=>
  rw[l]at d;have g:bj (.str [46]) (.str [97,98,99])=aa (.str ge):=pD (by decide);have h:aW (.tup [.int w,.tup (am b)]) (.int 1)=aa (.tup (am b)):=rfl;have i:mC [] [.tup (am b)]=aa (.str b.flatten):=by show(fY (am b)).bind _=_;rw[nP,g8,if_pos m,M8]
  have j:wS b.flatten [.str [46]]=aa (.int ((c9 b:Nat):Int)):=by show aa (PV.int ((b.flatten.count 46:Nat):Int))=_;rw[OO]
  by_cases c:c9 b<=6
  .have f:((c9 b:Nat):Int)<=6:=∅
   simp![nX,yan,g,d,h,lV,xN,i,j,c,f]
  .have f:¬((c9 b:Nat):Int)<=6:=∅
   simp![nX,yan,g,d,h,lV,xN,i,j,c,f]
theorem OA{x:PV}(h:nX a [.val x]=.ok (.val (.bl ah)) [.val x]):uL a [.val x]=.ok (.val .non) [.val x]:=by simp![uL,yaf,h]
end
def bA(m:List (Tx×Int))(x:Tx):Option Int:=(m.find? λp=>decide (p.1=x)).map (·.2)
def cT(m:List (Tx×Int))(x:Tx)(n:Int):List (Tx×Int):=if(m.any λp=>decide (p.1=x))=ah then m.map (λp=>if p.1=x then(p.1,n)else p)else m++[(x,n)]
def dk(m:List (Tx×Int)):List (aE×PV):=m.map λp=>(Sum.inr (tS p.1),PV.int p.2)
theorem Bo(x y:Tx):((Sum.inr (tS x):aE)=Sum.inr (tS y))=(x=y):=propext ⟨λh=>rn (Sum.inr.inj h),λh=>by rw[h]⟩
theorem qY(m:List (Tx×Int))(x:Tx):iZ (dk m) (Sum.inr (tS x))=(bA m x).map .int:=by
 induction m with
 |nil=>rfl
 |cons p m a=>
  show((List.find? _ ((Sum.inr (tS p.1),PV.int p.2)::dk m)).map (·.2))=_;unfold bA;rw[kI,kI];simp only[Bo];by_cases h:p.1=x
  .simp[h]
  .simp only[h,decide_false];exact a
theorem QU(m:List (Tx×Int))(x:Tx):((dk m).any λa=>decide (a.1=(Sum.inr (tS x):aE)))=m.any λp=>decide (p.1=x):=by unfold dk;rw[vI];congr 1;funext p;simp only[qp,Bo]
theorem wR(m:List (Tx×Int))(x:Tx)(n:Int):nQ (dk m) (Sum.inr (tS x)) (.int n)=dk (cT m x n):=by
 unfold nQ cT;rw[QU];split
 .unfold dk;rw[dQ,dQ];refine jJ λp _=>?_;simp only[qp,Bo];split <;> rfl
 .unfold dk;simp
theorem FP(m:List (Tx×Int)):pQ (dk m)=aa (m.any λp=>decide (p.2≠0)):=by
 induction m with
 |nil=>rfl
 |cons p m a=>show(pQ (dk m)).map _=_;rw[a];simp
theorem wH{m:List (Tx×Int)}{x:Tx}(h:(m.any λp=>decide (p.1=x))=ak):bA m x=ae:=by unfold bA;rw[Option.map_eq_none_iff,List.find?_eq_none];intro p a;have:=Hs.mp h p a;simpa using this
theorem L3{m:List (Tx×Int)}{x y:Tx}{n:Int}(h:(m.any λp=>decide (p.1=x))=ak):bA (m++[(x,n)]) y=if y=x then aa n else bA m y:=by
 have a:=wH h;unfold bA at a ⊢;rw[List.find?_append];by_cases e:y=x
 .subst e;rw[Option.map_eq_none_iff]at a;simp[a]
 .rw[if_neg e];have:¬x=y:=λz=>e z.symm;cases b:m.find? (λp=>decide (p.1=y))with
  |none=>simp[this]
  |some p=>simp
theorem JJ{m:List (Tx×Int)}{x y:Tx}{n:Int}:bA (m.map λp=>if p.1=x then(p.1,n)else p) y=(bA m y).map λz=>if y=x then n else z:=by
 induction m with
 |nil=>rfl
 |cons p m a=>
  unfold bA at a ⊢;rw[b8,kI,kI];by_cases h:p.1=x
  .rw[if_pos h];by_cases e:p.1=y
   .simp[e,show y=x from e.symm.trans h]
   .simp only[e,decide_false];exact a
  .rw[if_neg h];by_cases e:p.1=y
   .simp[e,show ¬y=x from λz=>h (e.trans z)]
   .simp only[e,decide_false];exact a
theorem G8{m:List (Tx×Int)}{x:Tx}(h:(m.any λp=>decide (p.1=x))=ah):∃n,bA m x=aa n:=by
 unfold bA;cases a:m.find? (λp=>decide (p.1=x))with
 |none=>rw[List.find?_eq_none]at a;obtain⟨p,c,b⟩:=jM.mp h;exact absurd b (a p c)
 |some p=>exact⟨_,rfl⟩
theorem mx(m:List (Tx×Int))(x y:Tx)(n:Int):bA (cT m x n) y=if y=x then aa n else bA m y:=by
 unfold cT;by_cases h:(m.any λp=>decide (p.1=x))=ah
 .rw[if_pos h,JJ];by_cases e:y=x
  .subst e;obtain⟨k,a⟩:=G8 h;rw[a];simp
  .simp[e]
 .rw[if_neg h,L3 (Bool.eq_false_iff.mpr h)]
structure nZ(m:List (Tx×Int))(q:List Tx):Prop where
 nd:(m.map (·.1)).Nodup
 get:∀x,(bA m x).getD 0=(q.count x:Nat)
theorem nZ.mem{m:List (Tx×Int)}{q:List Tx}(h:nZ m q){p:Tx×Int}(a:p∈m):bA m p.1=aa p.2:=by
 have b:=h.nd;clear h
 induction m with
 |nil=>cases a
 |cons r m c=>
  unfold bA;rw[kI];rcases bI.mp a with rfl|a
  .simp
  .rw[b8,j9]at b;have:¬r.1=p.1:=λz=>b.1 (cb.mpr ⟨p,a,z.symm⟩);simp only[this,decide_false];exact c a b.2
theorem D8{m:List (Tx×Int)}{x:Tx}{n:Int}:(cT m x n).map (·.1)=if(m.any λp=>decide (p.1=x))=ah then m.map (·.1)else m.map (·.1)++[x]:=by
 unfold cT;split
 .rw[dQ];refine jJ λp _=>?_;simp only[qp];split <;> rfl
 .simp
theorem pr{m:List (Tx×Int)}{x:Tx}{n:Int}(h:(m.map (·.1)).Nodup):((cT m x n).map (·.1)).Nodup:=by
 rw[D8];split
 .exact h
 .rename_i f;rw[vH];refine⟨h,by simp,λa g b c=>?_⟩;rw[iu]at c;subst c;rintro rfl;obtain⟨p,d,rfl⟩:=cb.mp g;exact f (jM.mpr ⟨p,d,by simp⟩)
theorem nZ.any{m:List (Tx×Int)}{q:List Tx}(h:nZ m q):(m.any λp=>decide (p.2≠0))=!q.isEmpty:=by
 cases q with
 |nil=>rw[Iq,zc,Hs];intro p b;have a:=h.get p.1;rw[h.mem b]at a;simpa using a
 |cons x q=>
  rw[List.isEmpty_cons,Ce,jM];have a:=h.get x;rw[List.count_cons_self]at a;cases e:m.find? (λp=>decide (p.1=x))with
  |none=>unfold bA at a;rw[e]at a;simp at a;lia
  |some p=>unfold bA at a;rw[e]at a;refine⟨p,List.mem_of_find?_eq_some e,?_⟩;simp at a;simp;lia
theorem nZ.dec{m:List (Tx×Int)}{q:List Tx}(h:nZ m q){x:Tx}(i:x∈q):∃n,bA m x=aa n/\0<n/\nZ (cT m x (n-1)) (q.erase x)/\bA (cT m x (n-1)) x=aa (n-1)/\cT (cT m x (n-1)) x (n-1+1)=m:=by
 have a:=h.get x;have o:0<q.count x:=List.count_pos_iff.mpr i;cases e:bA m x with
 |none=>rw[e]at a;simp at a;lia
 |some n=>
  rw[e]at a;simp only[Iw]at a;refine⟨n,rfl,∅,⟨pr h.nd,λy=>?_⟩,by rw[mx,if_pos rfl],?_⟩
  .rw[mx];by_cases c:y=x
   .subst c;rw[if_pos rfl,List.count_erase_self];simp only[Iw];lia
   .rw[if_neg c,List.count_erase_of_ne (c_ (c_ c))];exact h.get y
  .have f:(m.any λp=>decide (p.1=x))=ah:=by
    cases z:(m.any λp=>decide (p.1=x))with
    |true=>rfl
    |false=>rw[wH z]at e;cases e
   have j:((cT m x (n-1)).any λp=>decide (p.1=x))=ah:=by unfold cT;rw[if_pos f];obtain⟨p,d,b⟩:=jM.mp f;refine jM.mpr ⟨_,cb.mpr ⟨p,d,rfl⟩,?_⟩;rw[decide_eq_true_eq]at b;rw[if_pos b];simpa using b
   have l:cT (cT m x (n-1)) x (n-1+1)=(m.map λp=>if p.1=x then(p.1,n-1)else p).map λp=>if p.1=x then(p.1,n-1+1)else p:=by show(if((cT m x (n-1)).any λp=>decide (p.1=x))=ah then _ else _)=_;rw[if_pos j];unfold cT;rw[if_pos f]
   rw[l,dQ];have:∀p∈m,((λp:Tx×Int=>if p.1=x then(p.1,n-1+1)else p) ∘ λp:Tx×Int=>if p.1=x then(p.1,n-1)else p) p=p:=by
    intro p d;simp only[qp];by_cases c:p.1=x
    .rw[if_pos c,if_pos c];have g:=h.mem d;rw[c,e]at g;cases g;rw[show p.2-1+1=p.2 by lia]
    .rw[if_neg c,if_neg c]
   rw[jJ this,List.map_id''];intro p;rfl
theorem nZ.zero{m:List (Tx×Int)}{q:List Tx}(h:nZ m q){x:Tx}(a:x∉q):(bA m x).getD 0=0:=by rw[h.get,R4 a];rfl
section
variable{a:Ad}
theorem Qm(b:List Tx)(G:b.length<=100):∃m,nZ m b/\m.length<=b.length/\vf a [.val (.tup (am b))]=.ok (.own (.dK (dk m))) [.val (.tup (am b))]:=by
 obtain⟨w,v,m,g,l,rfl,f,j,B⟩:=lg (i:=2) (db:=(fG 1 (dV 2) (d2 bj (ij 1 (dV 2) (dC (.int 0))) (dC (.int 1)))))
  (I:=λr h=>∃(m:List (Tx×Int)) (g:Slot) (l:List Tx),h=[.val (.tup (am b)),.own (.dK (dk m)),g]/\nZ m l/\m.length<=l.length/\∃q,b=l++q/\r=am q)
  (by
   rintro x r h ⟨m,g,l,rfl,f,j,q,d,o⟩;cases q with
   |nil=>cases o
   |cons y q=>
    have u:x::r=.str y::am q:=o;simp only[lB]at u;obtain⟨rfl,rfl⟩:=u;have F:m.length<bd:=by have:=congrArg m8 d;simp at this;unfold bd;lia
    refine⟨[.val (.tup (am b)),.own (.dK (dk (cT m y ((bA m y).getD 0+1)))),↥y],?_,cT m y ((bA m y).getD 0+1),_,l++[y],rfl,⟨pr f.nd,λz=>?_⟩,?_,q,by rw[d];simp,rfl⟩
    .have n:=qY m y;have p:=wR m y ((bA m y).getD 0+1);have s:(dk m).length<bd:=by unfold dk;rw[b7];exact F
     have C:((bA m y).map PV.int).getD (.int 0)=.int ((bA m y).getD 0):=by cases bA m y <;> rfl
     generalize dk m=D at n p s;simp![fG,ij,cY,gT,n,C,bj,s,p]
    .rw[mx];by_cases c:z=y
     .subst c;rw[if_pos rfl,Cd,List.count_singleton_self];have:=f.get z;simp only[Iw];lia
     .rw[if_neg c,Cd,f.get z];have:[y].count z=0:=R4 (by simpa using c);rw[this];rfl
    .have:(cT m y ((bA m y).getD 0+1)).length<=m.length+1:=by
      unfold cT;split <;> simp
     rw[dD,yN];lia)
  (am b) [.val (.tup (am b)),.own (.dK (dk [])),.none] ⟨[],.none,[],rfl,⟨by simp,λx=>by simp[bA]⟩,by simp,b,by simp,rfl⟩
 obtain⟨q,d,A⟩:=B;have:q=[]:=by cases q with|nil=>rfl|cons=>cases A
 subst this;rw[gG]at d;subst d;refine⟨m,f,j,?_⟩;have E:dk []=[]:=rfl;rw[E]at v;simp![vf,yaj,rD,bU,aT,dN,cK,v,jz]
theorem Op{t:Tx}{w:Nat}(b:w<=t.length+1)(c:1<=w):dG (.str t) (aa ((t.length:Int)-w+1)) ae=aa (.str (t.drop (t.length+1-w))):=by show aa (PV.str (gn t _ ae))=_;rw[show((t.length:Int)-w+1)=((t.length+1-w:Nat):Int) by lia,Fg]
def pE(c:Nat):PV:=.str [c]
theorem Fi(w:Nat)(P:1<=w):∀(r u:Nat) (t:Tx) (m:List (Tx×Int)) (q:List Tx) (b:List Tx),r<u->q.length=r->nZ m q->w<=t.length+1->t.length+r<=1000->m.length<=1000->b.length+(ie w r t q).length<=bd -> oh a u [↥t,⇑w,.own (.dK (dk m)),.own (.lst (am b))]=.ok (.val .non) [↥t,⇑w,.own (.dK (dk m)),.own (.lst (am (b++ie w r t q)))]
 |0,0,_,_,_,_,h,_,_,_,_,_,_=>absurd h ∅
 |r+1,0,_,_,_,_,h,_,_,_,_,_,_=>absurd h ∅
 |0,u+1,t,m,q,b,_,hq,hm,hw,ht,qL,hs=>by
  have oW:q=[]:=me.mp hq;subst oW;have d:=FP m;rw[hm.any]at d;simp only[Iq,zc]at d;have W:(am b).length<bd:=by rw[ja];simp only[ie,yN]at hs;lia
  have e:am (b++ie w 0 t [])=am b++[.str t]:=by simp[am,ie]
  rw[e];generalize dk m=D at d;generalize am b=L at W;simp![oh,yac,ut,cY,d,W]
 |r+1,u+1,t,m,q,b,hf,hq,hm,hw,ht,qL,hs=>by
  have cc:q.isEmpty=ak:=by cases q with|nil=>cases hq|cons=>rfl
  have d:=FP m;rw[hm.any,cc]at d;simp only[Ce]at d;have A:=Op (t:=t) hw P;have bu:bv [.str t]=aa (.int (t.length:Nat)):=rfl;have nz:ku (.int (t.length:Nat)) (.int w)=aa (.int ((t.length:Int)-w)):=rfl;have iV:bj (.int ((t.length:Int)-w)) (.int 1)=aa (.int ((t.length:Int)-w+1)):=rfl
  let H:=t.drop (t.length+1-w)
  let f:=λc=>if H++[c]∈q then ie w r (t++[c]) (q.erase (H++[c]))else []
  have X:ie w (r+1) t q=bF.flatMap f:=rfl;have hH:H.length<=1000:=by simp only[H,m_];lia
  obtain⟨ε',v,F,E,p,rest,s,iB,rfl⟩:=lg (i:=5) (db:=(aG (bQ 6 (d2 bj (dV 4) (dV 5)))
 (cu (dB (d2 (c7 λi j=>decide (j<i)) (ij 2 (dV 6) (dC (.int 0))) (dC (.int 0)))) (aG (fG 2 (dV 6) (d2 ku (ik 2 (dV 6)) (dC (.int 1))))
 (aG (l0 (aU (oh a u) (gV (d2 bj (dV 0) (dV 5)) (gV (dV 1) (gO 2 (gO 3 (Pu.bW)))))))
 (fG 2 (dV 6) (d2 bj (ik 2 (dV 6)) (dC (.int 1)))))) (ez))))
   (I:=λG N=>∃(F E:Slot) (p rest:Tx),bF=p++rest/\G=rest.map pE/\N=[↥t,⇑w,.own (.dK (dk m)),.own (.lst (am (b++p.flatMap f))),↥H,F,E])
   (by
    rintro x G N ⟨F,E,p,rest,s,Y,rfl⟩;cases rest with
    |nil=>cases Y
    |cons c rest=>
     have Z:x::G=pE c::rest.map pE:=Y;simp only[lB]at Z;obtain⟨rfl,rfl⟩:=Z;have Q:bj (.str H) (.str [c])=aa (.str (H++[c])):=pD (by simp[bd];lia);have qC:bj (.str t) (.str [c])=aa (.str (t++[c])):=pD (by simp[bd];lia);have R7:b.length+(p.flatMap f).length+(f c).length<=bd:=by rw[X,s,vL,oH,dD,dD]at hs;lia
     have S:am (b++(p++[c]).flatMap f)=am ((b++p.flatMap f)++f c):=by simp
     by_cases B:H++[c]∈q
     .obtain⟨n,M,g2,g3,g4,g5⟩:=hm.dec B;have l:f c=ie w r (t++[c]) (q.erase (H++[c])):=if_pos B;have y:=Fi w P r u (t++[c]) (cT m (H++[c]) (n-1)) (q.erase (H++[c])) (b++p.flatMap f) ∅ (by rw[Cc B,hq];rfl) g3 (by simp;lia) (by simp;lia)
       (by
        have:(cT m (H++[c]) (n-1)).length=m.length:=by
         have:=congrArg m8 (D8 (m:=m) (x:=H++[c]) (n:=n-1));have d:(m.any λp=>decide (p.1=H++[c]))=ah:=by
          cases z:(m.any λp=>decide (p.1=H++[c]))with
          |true=>rfl
          |false=>rw[wH z]at M;cases M
         rw[if_pos d]at this;simpa using this
        lia)
       (by rw[<-l,dD];exact R7)
      rw[<-l]at y;have o:=qY m (H++[c]);rw[M]at o;have K:=wR m (H++[c]) (n-1);have g:=qY (cT m (H++[c]) (n-1)) (H++[c]);rw[g4]at g;have C:=wR (cT m (H++[c]) (n-1)) (H++[c]) (n-1+1);rw[g5,show n-1+1=n by lia]at C;have O:(dk m).length<bd:=by unfold dk;rw[b7];unfold bd;lia
      have T:(dk (cT m (H++[c]) (n-1))).length<bd:=by
       unfold dk;rw[b7];have:(cT m (H++[c]) (n-1)).length<=m.length+1:=by unfold cT;split <;> simp
       unfold bd;lia
      have gt:(0:Int)<n:=g2;refine⟨[↥t,⇑w,.own (.dK (dk m)),.own (.lst (am (b++(p++[c]).flatMap f))),↥H,.val (.str [c]),↥(H++[c])],?_,_,_,p++[c],rest,by rw[s];simp,rfl,rfl⟩;rw[S];have s1:ku (.int n) (.int 1)=aa (.int (n-1)):=rfl;have s2:bj (.int (n-1)) (.int 1)=aa (.int n):=by show aa (PV.int (n-1+1))=_;congr 2;lia
      simp only[oE]at o g;generalize dk m=D at o K C O;generalize dk (cT m (H++[c]) (n-1))=D2 at g K C y T;generalize am (b++p.flatMap f)=L at y;generalize am ((b++p.flatMap f)++f c)=L2 at y;clear_value H f;simp![pE,Q,ij,ik,fG,cY,gT,o,gt,s1,O,K,qC,y,g,s2,T,C]
     .have l:f c=[]:=if_neg B;have J:=hm.zero B;have o:=qY m (H++[c]);have hg:((bA m (H++[c])).map PV.int).getD (.int 0)=.int 0:=by
       cases e:bA m (H++[c])with
       |none=>rfl
       |some k=>rw[e]at J;simp at J;subst J;rfl
      refine⟨[↥t,⇑w,.own (.dK (dk m)),.own (.lst (am (b++(p++[c]).flatMap f))),↥H,.val (.str [c]),↥(H++[c])],?_,_,_,p++[c],rest,by rw[s];simp,rfl,rfl⟩;rw[S,l,gG];generalize dk m=D at o;generalize am (b++p.flatMap f)=L;clear_value H f;simp![pE,Q,ij,cY,gT,o,hg])
   (bF.map pE) [↥t,⇑w,.own (.dK (dk m)),.own (.lst (am (b++([]:Tx).flatMap f))),↥H,.none,.none] ⟨.none,.none,[],bF,by simp,rfl,rfl⟩
  have d_:rest=[]:=by cases rest with|nil=>rfl|cons=>cases iB
  subst d_;rw[gG]at s;rw[X];rw[<-s]at v;simp only[Io,gG]at v;have bX:dN (.str [97,98,99])=aa (bF.map pE):=rfl;have Se:dG (.str t) (aa ((t.length:Int)-w+1)) ae=aa (.str H):=A;generalize dk m=D at d v;generalize am b=L at v;generalize am (b++bF.flatMap f)=L2 at v;clear_value H f;simp![oh,yac,ut,cY,d,dm,cU,dU,bu,nz,iV,Se,cK,bU,aT,bX,v]
end
section
variable{a:Ad}
abbrev aH(w:Nat)(ls:List Tx):PV:=.tup [.int w,.tup (am ls)]
theorem Fm{c:Type}(b:List c):gn b ae (aa (-1))=b.dropLast:=by unfold gn;rw[show HT.sIx b.length 0 ae=0 from rfl,List.drop_zero,Nat.sub_zero,Ix];congr 1;show(HT.sIx b.length b.length (aa (-1)))=_;show(if(-1:Int)<0 then((-1:Int)+(b.length:Int)).toNat else min (-1:Int).toNat b.length)=_;rw[if_pos (by decide)];lia
theorem NN{w:Nat}{b:List Tx}(g:Good bF w b)(d:1<=w)(f:w<=4):(eh w b).length<=531441:=by rw[yc d g.some λx c=>⟨g.len x c,g.abc x c⟩];refine cq (y_ _ _) ?_;rw[u_];exact cq (za (by decide) (show w-1+b.length<=12 by have:=g.few;lia)) (by decide)
theorem JA(V:PV)(d:List Tx)(w:Nat)(c b:Slot):gW [] cL (dm dG (dV 0) dU (cU (d1 fS (dC (.int 1))))) (am d) [] [.val V,⇑w,c,b]=.ok (am (d.map oI)) [.val V,⇑w,c,b]:=by
 have i:=iE (cap:=[]) (dt:=cL) (de:=(dm dG (dV 0) dU (cU (d1 fS (dC (.int 1)))))) (ε:=[.val V,⇑w,c,b]) (λ_=>ah) (λx=>match x with|.str z=>.str z.dropLast|_=>.non) (am d)
  (by
   intro x f;obtain⟨z,_,rfl⟩:=cb.mp f;refine⟨by simp![bZ,cf,bC,cL],λ_=>?_⟩;have g:dG (.str z) ae (aa (-1))=aa (.str z.dropLast):=by show aa (PV.str (gn z ae (aa (-1))))=_;rw[Fm]
   have h:fS (.int 1)=aa (.int (-1)):=rfl;simp![bZ,cf,bC,dm,dU,cU,h,g]) []
 rw[i,f_,oJ.mpr (by simp)];unfold am;rw[dQ,dQ];rfl
theorem QJ{w:Nat}{c:List Tx}(g:Good bF w c)(u:1<=w)(F:w<=4)(W:c.Pairwise (λa b=>cZ a b=ah)):rZ a [.val (aH w c)]=.ok (.own (.lst (am (eh w c)))) [.val (aH w c)]:=by
 have n:=Gm (a:=a) (g.vw u F W);have A:aW (aH w c) (.int 0)=aa (.int w):=rfl;have o:aW (aH w c) (.int 1)=aa (.tup (am c)):=rfl;obtain⟨m,B,H,z⟩:=Qm (a:=a) c (by have:=g.few;lia);have O:m.length<=1000:=by have:=g.few;lia
 let hd:=aX (fJ (c.map oI))
 have P:∀h∈hd,h.length=w-1:=λh J=>by have B:=(xq _ _).mp ((eI _).mem_iff.mp J);obtain⟨y,S,rfl⟩:=cb.mp B;rw[BZ,g.len y S]
 let f:=λh=>ie w c.length h c
 have K:eh w c=hd.flatMap f:=rfl;have C:=NN g u F;obtain⟨N,j,v,p,rest,q,Q,rfl⟩:=lg (i:=3) (db:=(l0 (tF (oh a 12) (rG (dV 3) (rG (dV 1) (gN (i_ (aU (vf a) (gV (d2 aW (dV 0) (dC (.int 1))) (Pu.bW)))) (gO 2 (Pu.bW))))))))
  (I:=λr E=>∃(v:Slot) (p rest:List Tx),hd=p++rest/\r=am rest/\E=[.val (aH w c),⇑w,.own (.lst (am (p.flatMap f))),v])
  (by
   rintro x r E ⟨v,p,rest,q,G,rfl⟩;cases rest with
   |nil=>cases G
   |cons h rest=>
    have M:x::r=.str h::am rest:=G;simp only[lB]at M;obtain⟨rfl,rfl⟩:=M;have J:h.length=w-1:=P h (by rw[q];simp);have s:=Fi (a:=a) w u c.length 12 h m c (p.flatMap f) (by have:=g.few;lia) rfl B ∅ (by have:=g.few;lia) O (by rw[K,q,vL,oH,dD,dD]at C;show(p.flatMap f).length+(f h).length<=bd;unfold bd;lia);refine⟨[.val (aH w c),⇑w,.own (.lst (am ((p++[h]).flatMap f))),↥h],?_,_,p++[h],rest,by rw[q];simp,rfl,rfl⟩;have Y:(p++[h]).flatMap f=p.flatMap f++ie w c.length h c:=by simp[f]
    rw[Y];generalize am (p.flatMap f)=L at s;generalize am (p.flatMap f++ie w c.length h c)=L2 at s;generalize dk m=D at s z;simp only[aH]at o ⊢;generalize am c=T at z o;clear_value f hd;simp![tF,rG,gN,EH,o,z,s])
  (am hd) [.val (aH w c),⇑w,.own (.lst (am (([]:List Tx).flatMap f))),.none] ⟨.none,[],hd,by simp,rfl,rfl⟩
 have d_:rest=[]:=by cases rest with|nil=>rfl|cons=>cases Q
 subst d_;rw[gG]at q;rw[<-q,<-K]at j;simp only[Io]at j;have d:=JA (aH w c) c w (.own (.lst [])) .none;have l:pV [.lst (am (c.map oI))]=aa (.lst (am hd)):=by show(fY (am _)).bind _=_;have h2:=g.few;rw[nP,g8,if_pos (yQ (O0 _) (by rw[b7];lia))]
 have Z:am ([]:List Tx)=[]:=rfl;rw[Z]at j;generalize am (eh w c)=L at j;generalize am hd=D at j l;generalize am (c.map oI)=D0 at d l;simp only[aH]at n A o d j ⊢;generalize X:am c=T at n A o d j;clear_value f hd;simp![rZ,yaF,n,A,o,cK,bU,aT,dN,bP,d,l,j,jz]
theorem xn(b:List Tx):jA (am b)=aa (b0 b):=by
 induction b with
 |nil=>rfl
 |cons x b c=>show(dX (.str x)).bind (λv=>(jA (am b)).map (v::·))=_;rw[c];rfl
theorem GG{k:Nat}(h:k<=12):3^k<=531441:=cq (za (by decide) h) (by decide)
end
section
variable{a:Ad}
def tkD(ks:List (List Tx)):List (eX×PV):=ks.map λk=>(eW k,.bl ah)
theorem txKey_inj{k l:List Tx}:eW k=eW l↔k=l:=by
 constructor
 .intro h;have b:=Aa k;rw[h,Aa]at b;exact(cQ b).symm
 .rintro rfl;rfl
theorem put_tkD(ks:List (List Tx))(k:List Tx):qT (tkD ks) (eW k) (.bl ah)=tkD (addL ks k):=by
 have b:((tkD ks).any λc=>decide (c.1=eW k))=decide (k∈ks):=by
  unfold tkD;rw[vI,jG,jM,decide_eq_true_iff];constructor
  .rintro⟨l,d,h⟩;have:eW l=eW k:=of_decide_eq_true h;rw[<-txKey_inj.mp this];exact d
  .intro h;exact⟨k,h,decide_eq_true rfl⟩
 unfold qT addL;rw[b];by_cases h:k∈ks
 .rw[if_pos (decide_eq_true h),if_pos h];unfold tkD;rw[dQ];refine jJ λl _=>?_;by_cases e:eW l=eW k
  .simp[e]
  .simp[e]
 .rw[if_neg (by simpa using h),if_neg h];simp[tkD]
theorem tkey_tup(l:List Tx):og (.tup (am l))=aa (eW l):=by
 show o8 (am l)=_
 induction l with
 |nil=>rfl
 |cons x l b=>show(gT (.str x)).bind (λk=>(o8 (am l)).map (k::·))=_;rw[b];rfl
theorem tkV_key(l:List Tx):li (eW l)=.tup (am l):=by unfold li eW am;rw[dQ];congr 1
theorem tkD_len(ks:List (List Tx)):(tkD ks).length=ks.length:=by simp[tkD]
theorem tkD_ok{ks:List (List Tx)}(h:∀k∈ks,∀x∈k,x.length<=bd):zn (tkD ks)=ah:=by unfold zn tkD;rw[vA,l_];intro k c;show(eW k).all qR=ah;unfold eW;rw[vA,l_];intro x b;show decide ((tS x).cps.toList.length<=bd)=ah;rw[kt];exact decide_eq_true (h k c x b)
theorem sort2t{ls:List Tx}(h:ls.length<=1000000):j3 [.tup (am ls)]=aa (.lst (am (aX ls))):=by simp[j3,nP,h]
def cvB:ai->R aM:=xf 3 (dL k8 (aB (dF (dL j3 (aB (d2 u6 (dV 4) (dL cW (aB (dV 5) (aD)))) (aD)))) (aD))) (dC (.bl ah))
theorem cv_row(h g f i:Slot)(k:List Tx)(u:k.length<=20)(d:List Tx)(b:List (List Tx))(v:b.length+d.length<=900000):∃o,dZ 5 cvB (am d) [h,g,f,.own (.dT (tkD b)),.val (.tup (am k)),i]=.ok .next [h,g,f,.own (.dT (tkD ((d.map λx=>aX (k++[x])).foldl addL b))),.val (.tup (am k)),o]:=by
 induction d generalizing b i with
 |nil=>exact⟨i,rfl⟩
 |cons x d s=>
  have A:(addL b (aX (k++[x]))).length<=b.length+1:=by unfold addL;split <;> simp
  simp only[eU]at v;obtain⟨o,w⟩:=s (↥x) (addL b (aX (k++[x]))) ∅;refine⟨o,?_⟩;have l:u6 (.tup (am k)) (.tup [.str x])=aa (.tup (am (k++[x]))):=by
   have e:am (k++[x])=am k++[.str x]:=by simp[am]
   rw[e];cases k with
   |nil=>rfl
   |cons z k=>
    show bj (.tup (.str z::am k)) (.tup [.str x])=_;have:(am k).length+1+1<=1000:=by rw[ja];simp at u;lia
    simp[bj];constructor
    .lia
    .rfl
  have m:=sort2t (ls:=k++[x]) (by simp;lia);have p:k8 [.lst (am (aX (k++[x])))]=aa (.tup (am (aX (k++[x])))):=rfl;have n:=tkey_tup (aX (k++[x]));have j:=put_tkD b (aX (k++[x]));have q:(tkD b).length<bd:=by rw[tkD_len];unfold bd;lia
  have y:cvB [h,g,f,.own (.dT (tkD b)),.val (.tup (am k)),↥x]=.ok .next [h,g,f,.own (.dT (tkD (addL b (aX (k++[x]))))),.val (.tup (am k)),↥x]:=by generalize am (aX (k++[x]))=Y at m p n;generalize am (k++[x])=Z at m l;generalize tkD (addL b (aX (k++[x])))=D2 at j;generalize eW (aX (k++[x]))=Ky at j n;generalize tkD b=D1 at j q;generalize am k=B at l;simp![cvB,xf,l,m,p,jS,n,q,j]
  show(match cvB ([h,g,f,.own (.dT (tkD b)),.val (.tup (am k)),i].set 5 (↥x))with
   |.ok .next c=>dZ 5 cvB (am d) c
   |.ok .cont c=>dZ 5 cvB (am d) c
   |.ok .brk c=>.ok .next c
   |r=>r)=_
  rw[show [h,g,f,.own (.dT (tkD b)),.val (.tup (am k)),i].set 5 (↥x)=[h,g,f,.own (.dT (tkD b)),.val (.tup (am k)),↥x] from rfl,y];exact w
def cvF(a:Ad):ai->R aM:=bU 5 (aT (br (aU (rg a) (gV (dV 2) (Pu.bW))))) cvB
theorem cv_for(b:Tx)(n:b.length<=40)(j:b.count 46<=6)(f d g:Slot)(k:List Tx)(m:k.length<=20)(c:List (List Tx))(q:c.length<=800000):∃h,cvF a [f,d,↥b,.own (.dT (tkD c)),.val (.tup (am k)),g]=.ok .next [f,d,↥b,.own (.dT (tkD ((nextW b k).foldl addL c))),.val (.tup (am k)),h]:=by
 have i:=wtf_eq (a:=a) b n j;obtain⟨h,p⟩:=cv_row f d (↥b) g k m (fills b) c (by rw[fills_len];have:=pow6 j;lia);refine⟨h,?_⟩;have l:dN (.lst (am (fills b)))=aa (am (fills b)):=rfl;have o:(aT (br (aU (rg a) (gV (dV 2) (Pu.bW))))) [f,d,↥b,.own (.dT (tkD c)),.val (.tup (am k)),g]=.ok (am (fills b)) [f,d,↥b,.own (.dT (tkD c)),.val (.tup (am k)),g]:=by generalize am (fills b)=FB at i l;simp![aT,i,l]
 unfold cvF bU;rw[o];exact p
theorem cv_all(b:Tx)(C:b.length<=40)(s:b.count 46<=6)(V d c:Slot)(ks:List (List Tx))(q:∀k∈ks,k.length<=20/\∀x∈k,x.length<=50)(o:ks.length<=1000):∃j g,rE 4 1 (cvF a) [V,.own (.dT (tkD ks)),↥b,.own (.dT []),d,c]=.ok .next [V,.own (.dT (tkD ks)),↥b,.own (.dT (tkD (stepW ks b))),j,g]:=by
 have h:(tkD ks).map (λp=>li p.1)=ks.map λk=>.tup (am k):=by unfold tkD;rw[dQ];exact jJ λk _=>tkV_key k
 obtain⟨v,u,j,g,p,rest,f,z,rfl⟩:=lg (i:=4) (db:=cvF a)
  (I:=λr ε=>∃(d c:Slot) (p rest:List (List Tx)),ks=p++rest/\r=rest.map (λk=>PV.tup (am k))/\ε=[V,.none,↥b,.own (.dT (tkD ((p.flatMap (nextW b)).foldl addL []))),d,c])
  (by
   rintro x r ε ⟨d,c,p,rest,f,m,rfl⟩;cases rest with
   |nil=>cases m
   |cons k rest=>
    simp only[b8,lB]at m;obtain⟨rfl,rfl⟩:=m;have y:((p.flatMap (nextW b)).foldl addL []).length<=800000:=by
     have l:=addF_len (p.flatMap (nextW b)) [];rw[next_len]at l;have E:=pow6 s;have D:p.length<=1000:=by rw[f]at o;simp at o;lia
     have H:p.length*3^b.count 46<=1000*729:=BM D E;simp at l;lia
    obtain⟨g,l⟩:=cv_for (a:=a) b C s V .none c k (q k (by rw[f];simp)).1 ((p.flatMap (nextW b)).foldl addL []) y;refine⟨_,l,.val (.tup (am k)),g,p++[k],rest,by rw[f];simp,rfl,?_⟩;rw[vL,yW];simp)
  (ks.map λk=>.tup (am k)) [V,.none,↥b,.own (.dT (tkD (([].flatMap (nextW b)).foldl addL []))),d,c] ⟨d,c,[],ks,rfl,rfl,rfl⟩
 have G:rest=[]:=by cases rest with|nil=>rfl|cons=>cases z
 subst G;rw[gG]at f;rw[<-f]at u;refine⟨j,g,?_⟩;have n:=tkD_ok (ks:=ks) λk w x A=>by have:=(q k w).2 x A;unfold bd;lia
 unfold rE;have B:jS [V,.own (.dT (tkD ks)),↥b,.own (.dT []),d,c] 1=aa (tkD ks):=rfl;rw[B];simp only[bV,R.bind_ok];rw[if_pos n,h];have F:dZ 4 (cvF a) (ks.map λk=>.tup (am k)) ([V,.own (.dT (tkD ks)),↥b,.own (.dT []),d,c].set 1 .none)=.ok .next [V,.none,↥b,.own (.dT (tkD ((ks.flatMap (nextW b)).foldl addL []))),j,g]:=u;rw[F];rfl
theorem ways_shape{d:List Tx}{k:List Tx}(h:k∈waysF d):k.length=d.length/\k.Pairwise (λa b=>cZ a b=ah)/\∀x∈k,∃b∈d,Fit x b:=by
 obtain⟨f,rfl,i⟩:=waysF_mem.mp h;refine⟨by rw[(eI f).length_eq];exact mV i,rY _,λx g=>?_⟩;have c:=(eI f).mem_iff.mp g;clear g h
 induction i with
 |nil=>cases c
 |cons r _ j=>
  rcases bI.mp c with rfl|c
  .exact⟨_,by simp,r⟩
  .obtain⟨b,m,l⟩:=j c;exact⟨b,by simp[m],l⟩
theorem dots_app(c b:List Tx):c9 (c++b)=c9 c+c9 b:=by simp[c9]
theorem dots_mem{c:List Tx}{b:Tx}(h:b∈c):b.count 46<=c9 c:=by
 induction c with
 |nil=>cases h
 |cons x c d=>
  have e:c9 (x::c)=x.count 46+c9 c:=by simp[c9]
  rcases bI.mp h with rfl|h
  .lia
  .have:=d h;lia
def cvO(a:Ad):ai->R aM:=aG (cV 3 yb) (aG (rE 4 1 (cvF a)) (uV 1 3))
theorem d_clearing_views_def:yai a=aG (cV 1 (uW (dL cW (aD)) (dC (.bl ah)))) (aG (λε=>cK (bU 2 (aT (d2 aW (dV 0) (dC (.int 1)))) (cvO a) ε)) (oY (bP [0] (aT (dF (uI 1))) (cL) (dL cW (aB (d2 aW (dV 1) (dC (.int 0))) (aB (dV 0) (aD))))))):=rfl
theorem clearing_eq{w:Nat}{d:List Tx}(g:Good ge w d)(w4:w<=4)(L:c9 d<=6):yk a [.val (aH w d)]=.ok (.own (.lst ((ff (waysF d)).map λk=>prV (w,k)))) [.val (aH w d)]:=by
 have s:=g.few;have tq:=g.some;obtain⟨P,q,n,m,j,h,p,rest,l,S,rfl⟩:=lg (i:=2) (db:=cvO a)
  (I:=λr ε=>∃(n m j h:Slot) (p rest:List Tx),d=p++rest/\r=am rest/\ε=[.val (aH w d),.own (.dT (tkD (waysF p))),n,m,j,h])
  (by
   rintro x r ε ⟨n,m,j,h,p,rest,l,K,rfl⟩;cases rest with
   |nil=>cases K
   |cons b rest=>
    have M:x::r=.str b::am rest:=K;simp only[lB]at M;obtain⟨rfl,rfl⟩:=M;have H:b∈d:=by rw[l];simp
    have X:=g.len b H;have E:b.count 46<=6:=cq (dots_mem H) L;have C:c9 p<=6:=by have:=dots_app p (b::rest);rw[<-l]at this;lia
    have T:=waysF_len p;have:=pow6 C;have A:p.length<=9:=by rw[l]at s;simp at s;lia
    obtain⟨J,N,o⟩:=cv_all (a:=a) b ∅ E (.val (aH w d)) j h (waysF p) (λk u=>⟨by rw[(ways_shape u).1];lia,λx v=>by obtain⟨c,f,D⟩:=(ways_shape u).2.2 x v;rw[D.len,g.len c (by rw[l];simp[f])];lia⟩) ∅;have e:stepW (waysF p) b=waysF (p++[b]):=by unfold waysF;rw[yW];rfl
    rw[e]at o;refine⟨[.val (aH w d),.own (.dT (tkD (waysF (p++[b])))),↥b,.none,J,N],?_,↥b,.none,J,N,p++[b],rest,by rw[l];simp,rfl,rfl⟩;generalize tkD (waysF (p++[b]))=D2 at o;generalize tkD (waysF p)=D1 at o;refine(cC (ε1:=[.val (aH w d),.own (.dT D1),↥b,.own (.dT []),j,h]) (by simp![yb])).trans ?_;refine(cC o).trans ?_;simp[uV])
  (am d) [.val (aH w d),.own (.dT (tkD (waysF []))),.none,.none,.none,.none] ⟨.none,.none,.none,.none,[],d,rfl,rfl,rfl⟩
 have Y:rest=[]:=by cases rest with|nil=>rfl|cons=>cases S
 subst Y;rw[gG]at l;rw[<-l]at q;have y:aW (aH w d) (.int 1)=aa (.tup (am d)):=rfl;have z:aW (aH w d) (.int 0)=aa (.int w):=rfl;have O:dN (.tup (am d))=aa (am d):=rfl;have F:wY (tkD (waysF d))=aa (.lst ((ff (waysF d)).map nV)):=by
  have Z:(waysF d).length<=1000000/\∀k∈waysF d,k≠[]/\∀x∈k,x.length<=bd:=by
   refine⟨?_,λk u=>⟨?_,λx v=>?_⟩⟩
   .have:=waysF_len d;have:=pow6 L;lia
   .rintro rfl;have:=(ways_shape u).1;simp at this;lia
   .obtain⟨c,f,D⟩:=(ways_shape u).2.2 x v;rw[D.len,g.len c f];unfold bd;lia
  unfold wY tkD;rw[OB,g8,if_pos Z]
 have f:=iE (cap:=[0]) (dt:=cL) (de:=(dL cW (aB (d2 aW (dV 1) (dC (.int 0))) (aB (dV 0) (aD))))) (ε:=[.val (aH w d),.own (.dT (tkD (waysF d))),n,m,j,h]) (λ_=>ah) (λx=>.tup [.int w,x]) ((ff (waysF d)).map nV)
  (by intro x v;generalize aH w d=V at z;generalize ((w:Nat):Int)=WI at z;refine⟨by simp![bZ,cf,bC,cL],λ_=>?_⟩;simp![bZ,cf,bC,z]) []
 rw[f_,oJ.mpr (by simp),dQ]at f;have W:(ff (waysF d)).map ((λx=>PV.tup [.int w,x]) ∘ nV)=(ff (waysF d)).map λk=>prV (w,k):=rfl;rw[W]at f;have G:dN (.lst ((ff (waysF d)).map nV))=aa ((ff (waysF d)).map nV):=rfl;have o:(cV 1 (uW (dL cW (aD)) (dC (.bl ah)))) [.val (aH w d),.none,.none,.none,.none,.none]=.ok .next [.val (aH w d),.own (.dT (tkD (waysF []))),.none,.none,.none,.none]:=by simp![uW,og,o8,waysF,tkD,eW]
 have Q:yai a [.val (aH w d),.none,.none,.none,.none,.none]=.ok (.ret (.own (.lst ((ff (waysF d)).map λk=>prV (w,k))))) [.val (aH w d),.own (.dT (tkD (waysF d))),n,m,j,h]:=by
  rw[d_clearing_views_def];refine(cC o).trans ?_;generalize (ff (waysF d)).map (λk=>prV (w,k))=RV at f;generalize (ff (waysF d)).map nV=RT at f F G;generalize tkD (waysF d)=D2 at q f F;generalize tkD (waysF [])=D0 at q;generalize am d=B at q y O;generalize aH w d=V at q y f;refine(cC (ε1:=[.val V,.own (.dT D2),n,m,j,h]) ?_).trans ?_
  .simp![cK,bU,aT,y,O,q]
  .simp![oY,bP,aT,uI,jS,F,G,f]
 simp[yk,bR,fU,bO,dP,Q,back,gA,aO,R.bind]
end
end Sh
namespace Mx
open L2 Pu
def mS(z:Tx)(i:Nat):Nat:=z.getD (i % z.length) 0
def LQ(z:Tx)(w:Nat):Tx:=((dP w z).flatten).take (z.length+w-1)
theorem len_sub{l m:List Tx}(a:l.Nodup)(h:∀x∈l,x∈m):l.length<=m.length:=by
 induction l generalizing m with
 |nil=>simp
 |cons x l d=>rw[j9]at a;have c:x∈m:=h x (by simp);have:=d (m:=m.erase x) a.2 λy b=>(List.mem_erase_of_ne (λz=>a.1 (by rw[<-z];exact b))).mpr (h y (by simp[b]));rw[Cc c]at this;have f:0<m.length:=List.length_pos_of_mem c;rw[eU];lia
end Mx
namespace Sh
open L2 Pu Mx
section
variable{a:Ad}
def Dp(t:Tx)(v:Nat):List Tx:=(cJ (t.length+1-v)).map λi=>(t.drop i).take v
def rq(b c:Nat):List Nat:=List.range' b (c-b)
def part(t:Tx)(i j:Nat):Tx:=(t.drop i).take (j-i)
def mS(b:List Tx)(i:Nat):Tx:=b.getD i []
def Pg(t:Tx)(s e g l:Nat):Tx:=t.take s++part t g l++part t e g++part t s e++t.drop l
def Ps(t:Tx)(b:List Tx)(s g e:Nat):List Tx:=(rq (g+1) b.length).flatMap λl=>if mS b e=mS b l then [Pg t s e g l] else []
def L5(t:Tx)(b:List Tx)(s g:Nat):List Tx:=(rq (s+1) (g+1)).flatMap λe=>Ps t b s g e
theorem En{i:Nat}{b:ai}{c:PO}(h:b[i]?=aa (.own c)):jz i b=.ok (.ret (.own c)) (b.set i .none):=by unfold jz;rw[h]
theorem NV{i:Nat}{f:ai->R (List PV)}{db:ai->R aM}{ε c b:ai}{d:List PV}(h:f ε=.ok d c)(g:dZ i db d c=.ok .next b):bU i f db ε=.ok .next b:=by unfold bU;rw[h];exact g
end
section
variable{a:Ad}
def JN(t:Tx)(b:List Tx)(s:Nat):List Tx:=(rq (s+1) b.length).flatMap λg=>if mS b s=mS b g then L5 t b s g else []
def Oh(t:Tx)(b:List Tx):List Tx:=(rq 0 b.length).flatMap λs=>JN t b s
theorem zU{i:Nat}{ε:ai}{v:PV}(h:ε[i]?=aa (.val v)):dV i ε=.ok v ε:=by unfold dV;rw[h]
theorem NB{d:Type}{c:ai->R Bool}{d1 d2:ai->R d}{ε b:ai}(h:c ε=.ok ah b):cu c d1 d2 ε=d1 b:=by unfold cu;rw[h];rfl
theorem NJ{d:Type}{c:ai->R Bool}{d1 d2:ai->R d}{ε b:ai}(h:c ε=.ok ak b):cu c d1 d2 ε=d2 b:=by unfold cu;rw[h];rfl
theorem o_{d:ai->R PV}{b:Bool}{ε ε1:ai}(h:d ε=.ok (.bl b) ε1):dB d ε=.ok b ε1:=by unfold dB;rw[h];rfl
def IT(t:Tx)(m w:Nat):List Tx:=(rq 1 m).map λp=>LQ ((t.take m).drop p++(t.take m).take p) w
def MH(t:Tx)(b:List Tx)(w:Nat):List Tx:=if mS b 0=mS b (b.length-1)then IT t (b.length-1) w else []
def KO(t:Tx)(w:Nat):List Tx:=Oh t (Dp t (w-1))++MH t (Dp t (w-1)) w
def Ki(t:Tx)(m:Nat):List Tx:=(rq 1 m).map λp=>part (dP 3 (t.take m)).flatten p (p+t.length)
def kj(t:Tx)(b:List Tx):List Tx:=if mS b 0=mS b (b.length-1)then Ki t (b.length-1)else []
end
section
variable{a:Ad}
theorem At{t:ai->R Bool}{c:ai->R aM}{n:Nat}{d ε1 b:ai}(h:t d=.ok ah ε1)(f:c ε1=.ok .next b):iN t c (n+1) d=iN t c n b:=by rw[iN,h,R.bind_ok];simp only;rw[f]
theorem Gq{t:ai->R Bool}{c:ai->R aM}{n:Nat}{b ε1:ai}(h:t b=.ok ak ε1):iN t c (n+1) b=.ok .next ε1:=by rw[iN,h,R.bind_ok]
end
end Sh
namespace Mx
open L2 Pu
theorem mQ{z:Tx}{w:Nat}(a:1<=w):(ba z w).length=z.length+1-w:=by rw[mP z w a];simp
def Po(t:Tx)(w:Nat):List Tx:=(bD t.length).filter λz=>(ba z w).isPerm (ba t w)
end Mx
namespace Sh
open L2 Pu Mx
abbrev gr(t:Tx)(v i:Nat):Tx:=(t.drop i).take v
theorem ud{t:Tx}{v i:Nat}:(gr t (v+1) i).take v=gr t v i:=by unfold gr;rw[List.take_take,Nat.min_eq_left ∅]
theorem Ak{t:Tx}{v i:Nat}:(gr t (v+1) i).tail=gr t v (i+1):=by
 unfold gr;refine qi λk=>?_;rw[List.getElem?_tail,Ii,Ii,BU,BU];by_cases h:k<v
 .rw[if_pos ∅,if_pos h];congr 1;lia
 .rw[if_neg ∅,if_neg h]
theorem Ss{t:Tx}{v:Nat}{x:Tx}:x∈ba t (v+1)↔∃i,i+v<t.length/\x=gr t (v+1) i:=by
 rw[mP _ _ ∅,cb];constructor
 .rintro⟨i,a,rfl⟩;exact⟨i,by have:=vn.mp a;lia,rfl⟩
 .rintro⟨i,a,rfl⟩;exact⟨i,vn.mpr ∅,rfl⟩
theorem GZ{v:Nat}{y:Tx}:∀(k:Nat) (t:Tx) (i:Nat),((List.range' i k).map λj=>if gr t v j=y then 1 else 0).sum+(if gr t v (i+k)=y then 1 else 0)=((List.range' i k).map λj=>if gr t v (j+1)=y then 1 else 0).sum+(if gr t v i=y then 1 else 0)
 |0,t,i=>by simp
 |k+1,t,i=>by have a:=GZ (v:=v) (y:=y) k t (i+1);rw[List.range'_succ,b8,b8,g9,g9,show i+(k+1)=i+1+k by lia];lia
end Sh
namespace Mx
open L2 Pu
theorem DK(w:Nat):∀(s r t:Tx),nw w t (s++r)=nw w t s++nw w (t++s) r
 |[],r,t=>by simp[nw]
 |c::s,r,t=>by rw[qo,nw,nw,DK w s r (t++[c]),qo,gu];rfl
end Mx
namespace Sh
open L2 Pu Mx
section
variable{v:Nat}
def oc(v:Nat)(M:List Tx)(y:Tx):Nat:=(M.map λx=>if x.take v=y then 1 else 0).sum
def ic(M:List Tx)(y:Tx):Nat:=(M.map λx=>if x.tail=y then 1 else 0).sum
theorem xv(M N:List Tx)(y:Tx):oc v (M++N) y=oc v M y+oc v N y:=by simp[oc]
theorem xY(M N:List Tx)(y:Tx):ic (M++N) y=ic M y+ic N y:=by simp[ic]
theorem tK{M N:List Tx}(h:M.Perm N)(y:Tx):oc v M y=oc v N y:=(h.map _).sum_nat
theorem tL{M N:List Tx}(h:M.Perm N)(y:Tx):ic M y=ic N y:=(h.map _).sum_nat
theorem So{M:List Tx}{y:Tx}:0<oc v M y↔∃x∈M,x.take v=y:=by
 unfold oc
 induction M with
 |nil=>simp
 |cons a M f=>
  rw[b8,g9];by_cases c:a.take v=y
  .rw[if_pos c];exact⟨λ_=>⟨a,by simp,c⟩,λ_=>∅⟩
  .rw[if_neg c,sL,f];exact⟨λ⟨x,d,b⟩=>⟨x,by simp[d],b⟩,λ⟨x,d,b⟩=>⟨x,(bI.mp d).resolve_left λe=>c (e ▸ b),b⟩⟩
theorem SO{M:List Tx}{y:Tx}:0<ic M y↔∃x∈M,x.tail=y:=by
 unfold ic
 induction M with
 |nil=>simp
 |cons a M f=>
  rw[b8,g9];by_cases c:a.tail=y
  .rw[if_pos c];exact⟨λ_=>⟨a,by simp,c⟩,λ_=>∅⟩
  .rw[if_neg c,sL,f];exact⟨λ⟨x,d,b⟩=>⟨x,by simp[d],b⟩,λ⟨x,d,b⟩=>⟨x,(bI.mp d).resolve_left λe=>c (e ▸ b),b⟩⟩
abbrev en(v:Nat)(t:Tx):Tx:=t.drop (t.length-v)
abbrev b2(p:Prop)[Decidable p]:Nat:=if p then 1 else 0
theorem Kl{t:Tx}:gr t v (t.length-v)=en v t:=by unfold gr en;exact oC (by simp;lia)
theorem uz{t:Tx}(h:v<=t.length)(y:Tx):oc v (ba t (v+1)) y+b2 (en v t=y)=ic (ba t (v+1)) y+b2 (t.take v=y):=by
 have:=GZ (v:=v) (y:=y) (t.length-v) t 0;rw[sL,Kl]at this;unfold oc ic b2;rw[mP _ _ ∅,dQ,dQ,show t.length+1-(v+1)=t.length-v by lia,List.range_eq_range'];have b:∀j,((λx:Tx=>if x.take v=y then 1 else 0) ∘ λi=>(t.drop i).take (v+1)) j=if gr t v j=y then 1 else 0:=λj=>by show(if(gr t (v+1) j).take v=_ then 1 else 0)=_;rw[ud]
 have a:∀j,((λx:Tx=>if x.tail=y then 1 else 0) ∘ λi=>(t.drop i).take (v+1)) j=if gr t v (j+1)=y then 1 else 0:=λj=>by show(if(gr t (v+1) j).tail=_ then 1 else 0)=_;rw[Ak]
 rw[jJ λj _=>b j,jJ λj _=>a j];simpa[gr]using this
theorem CM{t:Tx}(h:v<=t.length)(c:Nat):ba (t++[c]) (v+1)=ba t (v+1)++[en v t++[c]]:=by rw[P4 ∅,if_pos ∅];congr 2;rw[show t.length+1-(v+1)=t.length-v by lia,BJ ∅];exact oC (by simp;lia)
theorem zv{M:List Tx}(h:∀x∈M,x.length=v+1):∀(n:Nat) (t:Tx) (R:List Tx),R.length=n->v<=t.length->(ba t (v+1)++R).Perm M -> ∃b d,b.take v=t.take v/\v<=b.length/\(ba b (v+1)++d).Perm M/\∀x∈d,x.take v≠en v b
 |0,t,R,hn,ht,hp=>⟨t,R,rfl,ht,hp,λx a=>by rw[me.mp hn]at a;simp at a⟩
 |n+1,t,R,hn,ht,hp=>by
  by_cases q:∃x∈R,x.take v=en v t
  .obtain⟨x,a,e⟩:=q;have i:x.length=v+1:=h x (hp.mem_iff.mp (ir _ a));have f:x=en v t++[x.getLastD 0]:=by
    have g:x=x.take v++x.drop v:=(oA v x).symm;have m:∃c,x.drop v=[c]:=List.length_eq_one_iff.mp (by rw[m_];lia);obtain⟨c,j⟩:=m;rw[j]at g;have l:x.getLastD 0=c:=by rw[g];simp
    rw[l,<-e];exact g
   have o:(ba (t++[x.getLastD 0]) (v+1)++R.erase x).Perm M:=by rw[CM ht,<-f,gu];exact(yY _ (List.perm_cons_erase a).symm).trans hp
   obtain⟨b,d,u,s,r,p⟩:=zv h n (t++[x.getLastD 0]) (R.erase x) (by rw[Cc a];lia) (by simp;lia) o;exact⟨b,d,by rw[u,Ip ht],s,r,p⟩
  .exact⟨t,R,rfl,ht,hp,λx a e=>q ⟨x,a,e⟩⟩
theorem QX{M:List Tx}(i:∀x∈M,x.length=v+1)(a:∀y,oc v M y=ic M y){p:Tx}(s:p.length=v):∃t R,t.take v=p/\v<=t.length/\(ba t (v+1)++R).Perm M/\en v t=p/\(∀x∈R,x.take v≠p)/\∀y,oc v R y=ic R y:=by
 have m:ba p (v+1)=[]:=me.mp (by rw[mQ ∅];lia);obtain⟨t,R,d,g,b,h⟩:=zv i M.length p M rfl ∅ (by rw[m];exact .refl _);rw[show p.take v=p from oC ∅]at d;have u:oc v R (en v t)=0:=by
  rcases Iy (oc v R (en v t))with q|q
  .exact q
  .obtain⟨x,l,j⟩:=So.mp q;exact absurd j (h x l)
 have c:=uz g (en v t);have r:=tK (v:=v) b (en v t);have o:=tL b (en v t);have w:=a (en v t);rw[xv]at r;rw[xY]at o;rw[d]at c;unfold b2 at c;rw[if_pos rfl]at c;have f:p=en v t:=by
  by_cases q:p=en v t
  .exact q
  .rw[if_neg q]at c;lia
 refine⟨t,R,d,g,b,f.symm,by rw[f];exact h,λy=>?_⟩;have d1:=uz g y;have d2:=tK (v:=v) b y;have n:=tL b y;rw[xv]at d2;rw[xY]at n;rw[d,<-f]at d1;have:=a y;lia
theorem NC{t c:Tx}{i:Nat}(G:i+v<=t.length)(H:v<=c.length)(D:c.take v=gr t v i)(C:en v c=gr t v i):∃j,j.take v=t.take v/\v<=j.length/\en v j=en v t/\(ba j (v+1)).Perm (ba t (v+1)++ba c (v+1)):=by
 let T1:=t.take (i+v)
 let T2:=t.drop (i+v)
 have r:t=T1++T2:=(oA _ _).symm;have A:T1.length=i+v:=by simp[T1];lia
 have l:T1=t.take i++gr t v i:=by show t.take (i+v)=_;rw[List.take_add]
 have d:(gr t v i).length=v:=by unfold gr;simp;lia
 let s:=c.drop v
 have p:c=gr t v i++s:=by rw[<-D];exact(oA _ _).symm
 have m:∀(a b:Tx),(a++gr t v i).length=a.length+v->ba (a++gr t v i++b) (v+1)=ba (a++gr t v i) (v+1)++nw (v+1) (gr t v i) b:=by
  intro a b _;have o:∀(n:Nat) (b:Tx),b.length=n->ba (a++gr t v i++b) (v+1)=ba (a++gr t v i) (v+1)++nw (v+1) (gr t v i) b:=by
   intro n
   induction n with
   |zero=>intro b g;rw[me.mp g];simp[nw]
   |succ n B=>
    intro b g;obtain⟨h,x,rfl⟩:∃h x,b=h++[x]:=⟨b.dropLast,b.getLast (by intro e;rw[e]at g;simp at g),(List.dropLast_concat_getLast _).symm⟩
    rw[<-gu,CM (by simp[d];lia),B h (by simp at g;lia),DK,gu];congr 2;simp only[nw];congr 2;have e:(a++gr t v i++h).length-v=a.length+((gr t v i++h).length+1-(v+1)):=by simp[d];lia
    unfold en;rw[e,gu,List.drop_append];simp
  exact o b.length b rfl
 have z:ba t (v+1)=ba T1 (v+1)++nw (v+1) (gr t v i) T2:=by have:=m (t.take i) T2 (by simp[d]);rw[<-l]at this;rw[<-this,<-r]
 have y:ba (T1++s) (v+1)=ba T1 (v+1)++nw (v+1) (gr t v i) s:=by have:=m (t.take i) s (by simp[d]);rw[<-l]at this;exact this
 have w:ba c (v+1)=nw (v+1) (gr t v i) s:=by
  conv=>lhs;rw[p]
  exact zM ∅ (by rw[d];lia)
 have q:T1++s=t.take i++c.take (c.length-v)++gr t v i:=by rw[l,gu,<-p,gu,<-C];congr 1;exact(oA _ _).symm
 have u:ba (T1++s++T2) (v+1)=ba (T1++s) (v+1)++nw (v+1) (gr t v i) T2:=by have:=m (t.take i++c.take (c.length-v)) T2 (by simp[d];lia);rw[<-q]at this;exact this
 refine⟨T1++s++T2,?_,by simp[A];lia,?_,?_⟩
 .rw[gu,Ip ∅];show(t.take (i+v)).take v=_;rw[List.take_take,Nat.min_eq_left ∅]
 .have f:∀a:Tx,en v (a++(gr t v i++T2))=en v (gr t v i++T2):=λa=>by
   unfold en;rw[List.drop_append,Iv (by simp[d];lia),f_];congr 1;simp[d];lia
  have F:T1++s++T2=(t.take i++c.take (c.length-v))++(gr t v i++T2):=by rw[q];simp only[gu]
  have E:t.take i++(gr t v i++T2)=t:=by rw[<-gu,<-l];exact r.symm
  have:=f (t.take i);rw[E]at this;rw[F,f,this]
 .rw[u,y,z,w,gu,gu];exact yY _ List.perm_append_comm
def pe(v:Nat)(M:List Tx):Prop:=∀V:Tx->Prop,(∃x∈M,V (x.take v))->(∀x∈M,V (x.take v)\/V x.tail->V (x.take v)/\V x.tail)->∀x∈M,V (x.take v)
theorem Om{M:List Tx}(J:∀x∈M,x.length=v+1)(s:pe v M):∀(n:Nat) (t:Tx) (R:List Tx),R.length<=n->v<t.length->(ba t (v+1)++R).Perm M->(∀y,oc v R y=ic R y)->∃g,g.take v=t.take v/\v<g.length/\(ba g (v+1)).Perm M:=by
 intro n
 induction n with
 |zero=>intro t R H o b _;rw[me.mp (show R.length=0 by lia),gG]at b;exact⟨t,rfl,o,b⟩
 |succ n E=>
  intro t R H o b l;by_cases A:R=[]
  .rw[A,gG]at b;exact⟨t,rfl,o,b⟩
  .obtain⟨u,w⟩:=List.exists_mem_of_ne_nil R A;have f:∃i,i+v<=t.length/\∃x∈R,x.take v=gr t v i\/x.tail=gr t v i:=by
    refine Iz λno=>?_;have h:∀i,i+v<=t.length->∀x∈R,¬(x.take v=gr t v i\/x.tail=gr t v i):=λi d x a q=>no ⟨i,d,x,a,q⟩;have:=s (λy=>∃i,i+v<=t.length/\gr t v i=y)
     ⟨gr t (v+1) 0,b.mem_iff.mp (mX _ (Ss.mpr ⟨0,∅,rfl⟩)),0,∅,by rw[ud]⟩
     (λx a q=>by
      rcases iP.mp (b.mem_iff.mpr a)with a|a
      .obtain⟨j,W,rfl⟩:=Ss.mp a;exact⟨⟨j,∅,by rw[ud]⟩,⟨j+1,∅,by rw[Ak]⟩⟩
      .rcases q with⟨i,d,e⟩|⟨i,d,e⟩
       .exact absurd (.inl e.symm) (h i d x a)
       .exact absurd (.inr e.symm) (h i d x a))
     u (b.mem_iff.mp (ir _ w))
    obtain⟨i,d,e⟩:=this;exact h i d u w (.inl e.symm)
   obtain⟨i,d,x,a,G⟩:=f;have D:0<oc v R (gr t v i):=by
    rcases G with q|q
    .exact So.mpr ⟨x,a,q⟩
    .rw[l];exact SO.mpr ⟨x,a,q⟩
   have r:∀x∈R,x.length=v+1:=λx a=>J x (b.mem_iff.mp (ir _ a));obtain⟨c,R2,S,Q,m,P,O,N⟩:=QX r l (p:=gr t v i) (by unfold gr;simp;lia);have Y:R2.length<R.length:=by
    have I:=m.length_eq;rw[dD]at I;rcases Iy (ba c (v+1)).length with z|z
    .rw[me.mp z,f_]at m;obtain⟨y,F,e⟩:=So.mp D;exact absurd e (O y (m.mem_iff.mpr F))
    .lia
   obtain⟨g,d1,d2,X,B⟩:=NC d Q S P;have K:(ba g (v+1)++R2).Perm M:=by refine(B.append_right R2).trans ?_;rw[gu];exact(m.append_left _).trans b
   have T:v<g.length:=by have:=B.length_eq;rw[dD,mQ ∅,mQ ∅]at this;lia
   obtain⟨C,L,f2,f3⟩:=E g R2 ∅ T K N;exact⟨C,by rw[L,d1],f2,f3⟩
theorem C4{M:List Tx}(d:∀x∈M,x.length=v+1)(f:pe v M){s0 e:Tx}(w:∃x∈M,x.take v=s0)(b:∀y,oc v M y+b2 (e=y)=ic M y+b2 (s0=y)):∃t,t.take v=s0/\v<t.length/\(ba t (v+1)).Perm M:=by
 obtain⟨i,j,m⟩:=w;have H:s0.length=v:=by rw[<-m,qa,d i j];lia
 have l:ba s0 (v+1)=[]:=me.mp (by rw[mQ ∅];lia);obtain⟨t,R,c,p,a,o⟩:=zv d M.length s0 M rfl ∅ (by rw[l];exact .refl _);rw[show s0.take v=s0 from oC ∅]at c;have G:oc v R (en v t)=0:=by
  rcases Iy (oc v R (en v t))with q|q
  .exact q
  .obtain⟨x,A,z⟩:=So.mp q;exact absurd z (o x A)
 have g:=uz p (en v t);have E:=tK (v:=v) a (en v t);have D:=tL a (en v t);have n:=b (en v t);rw[xv]at E;rw[xY]at D;rw[c]at g;unfold b2 at g n;rw[if_pos rfl]at g;have r:e=en v t:=by
  by_cases q:e=en v t
  .exact q
  .rw[if_neg q]at n;lia
 have h:∀y,oc v R y=ic R y:=λy=>by have d1:=uz p y;have d2:=tK (v:=v) a y;have C:=tL a y;have I:=b y;rw[xv]at d2;rw[xY]at C;rw[c,<-r]at d1;lia
 have F:v<t.length:=by
  rcases Nat.lt_or_ge v t.length with q|q
  .exact q
  .have u:t=s0:=by rw[<-c];exact(oC ∅).symm
   subst u;rw[l,f_]at a;have:en v t=t:=by unfold en;rw[show t.length-v=0 by lia];rfl
   exact absurd (by rw[this];exact m) (o i (a.mem_iff.mpr j))
 obtain⟨s,B,f2,f3⟩:=Om d f R.length t R (a6 _) F a h;exact⟨s,by rw[B,c],f2,f3⟩
theorem Qg{t:Tx}{M:List Tx}(a:(ba t (v+1)).Perm M):pe v M:=by
 intro V ⟨x,g,b⟩ m z f;obtain⟨i,l,rfl⟩:=Ss.mp (a.mem_iff.mpr g);obtain⟨j,h,rfl⟩:=Ss.mp (a.mem_iff.mpr f);rw[ud]at b ⊢;have step:∀k,k+v<t.length->(V (gr t v k)↔V (gr t v (k+1))):=λk c=>by have:=m (gr t (v+1) k) (a.mem_iff.mp (Ss.mpr ⟨k,c,rfl⟩));rw[ud,Ak]at this;exact⟨λq=>(this (.inl q)).2,λq=>(this (.inr q)).1⟩
 have all:∀k,k+v<t.length->(V (gr t v 0)↔V (gr t v k)):=λk=>by
  induction k with
  |zero=>intro _;exact kM
  |succ k d=>intro c;exact(d ∅).trans (step k ∅)
 exact(all j h).mp ((all i l).mpr b)
end
inductive WN(w:Nat):Nat->Tx->Tx->Prop
 |here (n:Nat) (t:Tx):WN w n t t
 |on {n:Nat}{t u z:Tx}:WN w n t u->z∈KO u w->WN w (n+1) t z
def Full(w:Nat)(t:Tx)(k:Nat):Prop:=∀z∈Po t w,WN w k t z
theorem AS{i:Nat}{db:ai->R aM}{d j:Type}(b:d->j->ai)(f:d->Tx->d)(P:d->Prop):∀(c:List Tx) (a:d) (s:j),P a -> (∀x∈c,∀a s,P a->P (f a x)/\∃g,db ((b a s).set i (↥x))=.ok .next (b (f a x) g))->∃g,dZ i db (am c) (b a s)=.ok .next (b (c.foldl f a) g)/\P (c.foldl f a)
 |[],a,s,h,_=>⟨s,rfl,h⟩
 |x::c,a,s,h,step=>by obtain⟨p,m,r⟩:=step x (by simp) a s h;obtain⟨l,q,o⟩:=AS b f P c (f a x) m p λy n=>step y (by simp[n]);refine⟨l,?_,o⟩;show dZ i db (.str x::am c) _=_;rw[dZ,r];exact q
abbrev ks(m:List (Tx×Int)):List Tx:=m.map (·.1)
theorem Nc(m:List (Tx×Int))(z:Tx):(m.any λp=>decide (p.1=z))=decide (z∈ks m):=by rw[jG,jM,decide_eq_true_eq,cb];exact⟨λ⟨p,b,a⟩=>⟨p,b,of_decide_eq_true a⟩,λ⟨p,b,a⟩=>⟨p,b,decide_eq_true a⟩⟩
theorem rX(m:List (Tx×Int))(z:Tx):(bA m z).isSome=decide (z∈ks m):=by
 rw[<-Nc];cases h:m.any λp=>decide (p.1=z)with
 |false=>rw[wH h];rfl
 |true=>obtain⟨n,e⟩:=G8 h;rw[e];rfl
theorem NU(m:List (Tx×Int)):(dk m).length=m.length:=by simp[dk]
theorem Dn{i:Nat}{db de:ai->R PV}{c b a:ai}{z:Tx}{n:Int}{m:List (Tx×Int)}(j:de c=.ok (.int n) b)(l:db b=.ok (.str z) a)(d:∃x,cY b i=aa x)(g:cY a i=aa (dk m))(h:m.length<bd):fG i db de c=.ok .next (a.set i (.own (.dK (dk (cT m z n))))):=by unfold fG;obtain⟨x,f⟩:=d;rw[j,R.bind_ok,f];simp only[bV,R.bind_ok];rw[l,R.bind_ok,g];simp only[bV,R.bind_ok];show(aO (aa (Sum.inr (tS z))) a).bind _=_;simp only[bV,R.bind_ok];rw[NU,if_pos h,wR]
theorem FL{i:Nat}{db:ai->R PV}{ε ε1:ai}{z:Tx}{n:Int}{m:List (Tx×Int)}(a:∃x,cY ε i=aa x)(f:db ε=.ok (.str z) ε1)(c:cY ε1 i=aa (dk m))(d:bA m z=aa n):ik i db ε=.ok (.int n) ε1:=by unfold ik;obtain⟨x,b⟩:=a;rw[b];simp only[bV,R.bind_ok];rw[f,R.bind_ok,c];simp only[bV,R.bind_ok];show aO (iZ (dk m) (.inr (tS z))) ε1=_;rw[qY,d];rfl
def cH(ks:List Tx):List (aE×PV):=ks.map λx=>(Sum.inr (tS x),PV.bl ah)
def fu(ks:List Tx)(x:Tx):List Tx:=if x∈ks then ks else ks++[x]
theorem SI{ks:List Tx}{x z:Tx}:z∈fu ks x↔z∈ks\/z=x:=by
 unfold fu;by_cases c:x∈ks
 .rw[if_pos c];exact⟨.inl,λh=>h.elim id λe=>e ▸ c⟩
 .rw[if_neg c];simp
theorem D3{ks:List Tx}{x:Tx}(h:ks.Nodup):(fu ks x).Nodup:=by
 unfold fu;by_cases c:x∈ks
 .rw[if_pos c];exact h
 .rw[if_neg c];exact vH.mpr ⟨h,by simp,λa f b d e=>by simp at d;subst d;subst e;exact c f⟩
theorem xQ{ks:List Tx}{x:Tx}:ks.length<=(fu ks x).length/\(x∉ks->ks.length<(fu ks x).length):=by
 unfold fu;by_cases c:x∈ks
 .rw[if_pos c];exact⟨a6 _,λq=>absurd c q⟩
 .rw[if_neg c];simp
theorem D5(ks:List Tx)(x:Tx):((cH ks).any λa=>decide (a.1=(Sum.inr (tS x):aE)))=decide (x∈ks):=by
 unfold cH;rw[vI,jG,jM,decide_eq_true_eq];constructor
 .rintro⟨z,c,b⟩;have:=of_decide_eq_true b;rw[<-rn (Sum.inr.inj this)];exact c
 .intro h;exact⟨x,h,by simp⟩
theorem P7(ks:List Tx)(x:Tx):nQ (cH ks) (Sum.inr (tS x)) (.bl ah)=cH (fu ks x):=by
 unfold nQ fu;rw[D5];by_cases c:x∈ks
 .rw[decide_eq_true c,if_pos rfl,if_pos c];unfold cH;rw[dQ];refine jJ λz _=>?_;simp only[qp];split
  .rfl
  .rfl
 .rw[decide_eq_false c,if_neg (by simp),if_neg c];unfold cH;simp
theorem MN(ks:List Tx)(x:Tx):(iZ (cH ks) (Sum.inr (tS x))).isSome=decide (x∈ks):=by rw[<-D5];unfold iZ;rw[HG,List.isSome_find?]
theorem wW(ks:List Tx):(cH ks).length=ks.length:=by simp[cH]
theorem Am{neg:Bool}{i:Nat}{db:ai->R PV}{ε ε1:ai}{z:Tx}{ks:List Tx}(b:db ε=.ok (.str z) ε1)(a:cY ε1 i=aa (cH ks)):i8 neg i db ε=.ok (.bl (neg^^decide (z∈ks))) ε1:=by unfold i8;rw[b,R.bind_ok,a];simp only[bV,R.bind_ok];show aO (aa (PV.bl (neg^^(iZ (cH ks) (.inr (tS z))).isSome))) ε1=_;rw[MN];rfl
theorem CU{i:Nat}{db de:ai->R PV}{ε b a:ai}{z:Tx}{ks:List Tx}(h:de ε=.ok (.bl ah) b)(j:db b=.ok (.str z) a)(c:∃x,cY b i=aa x)(f:cY a i=aa (cH ks))(g:ks.length<bd):fG i db de ε=.ok .next (a.set i (.own (.dK (cH (fu ks z))))):=by unfold fG;obtain⟨x,d⟩:=c;rw[h,R.bind_ok,d];simp only[bV,R.bind_ok];rw[j,R.bind_ok,f];simp only[bV,R.bind_ok];show(aO (aa (Sum.inr (tS z))) a).bind _=_;simp only[bV,R.bind_ok];rw[wW,if_pos g,P7]
def rS(ks:List Tx)(x:Tx):List Tx:=if x.dropLast∈ks\/x.tail∈ks then fu (fu ks x.dropLast) x.tail else ks
theorem MB{ks:List Tx}{x z:Tx}(h:z∈ks):z∈rS ks x:=by
 unfold rS;split
 .exact SI.mpr (.inl (SI.mpr (.inl h)))
 .exact h
theorem FE:∀(a:List Tx) {ks:List Tx}{z:Tx},z∈ks->z∈a.foldl rS ks
 |[],_,_,h=>h
 |x::a,_,_,h=>FE a (MB h)
theorem CG{ks:List Tx}{x:Tx}(h:ks.Nodup):(rS ks x).Nodup:=by
 unfold rS;split
 .exact D3 (D3 h)
 .exact h
theorem CA:∀(a:List Tx) {ks:List Tx},ks.Nodup->(a.foldl rS ks).Nodup
 |[],_,h=>h
 |x::a,_,h=>CA a (CG h)
theorem Ay(ks:List Tx)(x:Tx):ks.length<=(rS ks x).length:=by
 unfold rS;split
 .exact cq xQ.1 xQ.1
 .exact a6 _
theorem tN:∀(a ks:List Tx),ks.length<=(a.foldl rS ks).length
 |[],ks=>a6 _
 |x::a,ks=>cq (Ay ks x) (tN a (rS ks x))
theorem yg:∀(a ks:List Tx),(a.foldl rS ks).length=ks.length->∀x∈a,x.dropLast∈ks\/x.tail∈ks->x.dropLast∈ks/\x.tail∈ks
 |[],_,_,x,b=>by simp at b
 |y::a,ks,h,x,b=>by
  rw[g7]at h;have n:=Ay ks y;have m:=tN a (rS ks y);have d:(rS ks y).length=ks.length:=∅
  have same:rS ks y=ks/\(y.dropLast∈ks\/y.tail∈ks->y.dropLast∈ks/\y.tail∈ks):=by
   unfold rS at d ⊢;by_cases c:y.dropLast∈ks\/y.tail∈ks
   .rw[if_pos c]at d ⊢;have l:=xQ (ks:=ks) (x:=y.dropLast);have i:=xQ (ks:=fu ks y.dropLast) (x:=y.tail);have g:y.dropLast∈ks:=Iz λq=>by have:=l.2 q;lia
    have j:fu ks y.dropLast=ks:=by unfold fu;rw[if_pos g]
    rw[j]at i d ⊢;have f:y.tail∈ks:=Iz λq=>by have:=i.2 q;lia
    exact⟨by unfold fu;rw[if_pos f],λ_=>⟨g,f⟩⟩
   .rw[if_neg c];exact⟨rfl,λq=>absurd q c⟩
  rcases bI.mp b with rfl|b
  .exact same.2
  .rw[same.1]at h;exact yg a ks h x b
theorem De{V:Tx->Prop}:∀(b ks:List Tx),(∀x∈b,V x.dropLast\/V x.tail->V x.dropLast/\V x.tail)->(∀z∈ks,V z)->∀z∈b.foldl rS ks,V z
 |[],_,_,h,z,d=>h z d
 |x::b,ks,g,h,z,d=>by
  refine De b (rS ks x) (λy a=>g y (by simp[a])) (λy a=>?_) z d;unfold rS at a;split at a
  .rename_i c;have f:=g x (by simp) (c.imp (h _) (h _));rcases SI.mp a with a|rfl
   .rcases SI.mp a with a|rfl
    .exact h y a
    .exact f.1
   .exact f.2
  .exact h y a
theorem zz:∀(a ks:List Tx),(a.foldl rS ks).length=ks.length->a.foldl rS ks=ks
 |[],_,_=>rfl
 |y::a,ks,h=>by
  rw[g7]at h ⊢;have l:=Ay ks y;have j:=tN a (rS ks y);have e:rS ks y=ks:=by
   have i:(rS ks y).length=ks.length:=∅
   have b:=yg [y] ks i y (by simp);unfold rS;by_cases c:y.dropLast∈ks\/y.tail∈ks
   .obtain⟨g,f⟩:=b c;have d:fu ks y.dropLast=ks:=by unfold fu;rw[if_pos g]
    rw[if_pos c,d];unfold fu;rw[if_pos f]
   .rw[if_neg c]
  rw[e]at h ⊢;exact zz a ks h
def fe(a:List Tx):List Tx:=a.map oI++a.map List.tail
theorem Hk{b ks:List Tx}(h:∀z∈ks,z∈fe b){x:Tx}(c:x∈b):∀z∈rS ks x,z∈fe b:=λz a=>by
 unfold rS at a;split at a
 .rcases SI.mp a with a|rfl
  .rcases SI.mp a with a|rfl
   .exact h z a
   .exact mX _ (cb.mpr ⟨x,c,rfl⟩)
  .exact ir _ (cb.mpr ⟨x,c,rfl⟩)
 .exact h z a
structure Rch(ls ks:List Tx):Prop where
 nd:ks.Nodup
 sub:∀z∈ks,z∈fe ls
 start:∀x r,ls=x::r->x.dropLast∈ks
 least:∀V:Tx->Prop,(∀x∈ls,V x.dropLast\/V x.tail->V x.dropLast/\V x.tail)->(∀x r,ls=x::r->V x.dropLast)->∀z∈ks,V z
theorem Rch.few{a ks:List Tx}(h:Rch a ks):ks.length<=2*a.length:=by have:=len_sub h.nd h.sub;unfold fe at this;simp at this;lia
theorem Rch.next{ls ks:List Tx}(h:Rch ls ks):Rch ls (ls.foldl rS ks):=by
 refine⟨CA ls h.nd,?_,λx r e=>FE ls (h.start x r e),λV c g=>De ls ks c (h.least V c g)⟩;have a:∀(l:List Tx) (ks:List Tx),(∀x∈l,x∈ls)->(∀z∈ks,z∈fe ls)->∀z∈l.foldl rS ks,z∈fe ls:=by
  intro l
  induction l with
  |nil=>exact λks _ h=>h
  |cons x l d=>exact λks b h=>d (rS ks x) (λy f=>b y (by simp[f])) (Hk h (b x (by simp)))
 exact a ls ks (λ_ h=>h) h.sub
section
variable{a:Ad}
theorem yu(x:Tx):dG (.str x) ae (aa (-1))=aa (.str x.dropLast):=by show aa (PV.str (gn x ae (aa (-1))))=_;rw[Fm]
theorem C1(x:Tx):dG (.str x) (aa 1) ae=aa (.str x.tail):=by show aa (PV.str (gn x (aa ((1:Nat):Int)) ae))=_;rw[Fg,List.drop_one]
def uw:ai->R PV:=dm dG (dV 3) (dU) (cU (d1 fS (dC (.int 1))))
def tX:ai->R PV:=dm dG (dV 3) (cU (dC (.int 1))) (dU)
def rI:ai->R aM:=cu (kh (dB (i8 ak 1 uw)) (dB (i8 ak 1 tX))) (aG (fG 1 uw (dC (.bl ah))) (fG 1 tX (dC (.bl ah)))) (ez)
def rC:ai->R Bool:=dB (d2 (c7 λi j=>decide (i<j)) (dV 2) (mO 1))
def rB:ai->R aM:=aG (bQ 2 (mO 1)) (bU 3 (aT (dV 0)) rI)
theorem Qq:yaE a=aG (cV 1 (tR (dm dG (d2 aW (dV 0) (dC (.int 0))) (dU) (cU (d1 fS (dC (.int 1))))) (dC (.bl ah)))) (aG (bQ 2 (dC (.int 0))) (aG (λb=>cK (iN rC rB 1000 b)) (jz 1))):=rfl
def dI(W:PV)(ks:List Tx)(n:Nat)(b:Slot):ai:=[.val W,.own (.dK (cH ks)),⇑n,b]
theorem GE(W:PV)(ks:List Tx)(n:Nat)(x:Tx):uw (dI W ks n (↥x))=.ok (.str x.dropLast) (dI W ks n (↥x)):=by have h:=yu x;have b:fS (.int 1)=aa (.int (-1)):=rfl;simp[uw,dI,dm,dU,cU,dV,d1,dC,R.bind,aO,b,iK,h]
theorem E8(W:PV)(ks:List Tx)(n:Nat)(x:Tx):tX (dI W ks n (↥x))=.ok (.str x.tail) (dI W ks n (↥x)):=by have h:=C1 x;simp[tX,dI,dm,dU,cU,dV,dC,R.bind,aO,iK,h]
theorem Hn(W:PV)(b:List Tx)(u:b.length<=100)(q:dN W=aa (am b))(ks:List Tx)(h:Rch b ks)(n:Nat)(d:Slot):∃j,bU 3 (aT (dV 0)) rI (dI W ks n d)=.ok .next (dI W (b.foldl rS ks) n j):=by
 obtain⟨j,e,_⟩:=AS (i:=3) (db:=rI) (λks d=>dI W ks n d) rS (λks=>ks.Nodup/\∀z∈ks,z∈fe b) b ks d ⟨h.nd,h.sub⟩
  (by
   rintro x p ks d ⟨f,l⟩;refine⟨⟨CG f,Hk l p⟩,↥x,?_⟩;have r:ks.length<=200:=by have:=len_sub f l;unfold fe at this;simp at this;lia
   have o:=o_ (Am (neg:=ak) (i:=1) (GE W ks n x) rfl);have m:=o_ (Am (neg:=ak) (i:=1) (E8 W ks n x) rfl);rw[vJ]at o m;have g:kh (dB (i8 ak 1 uw)) (dB (i8 ak 1 tX)) (dI W ks n (↥x))=.ok (decide (x.dropLast∈ks\/x.tail∈ks)) (dI W ks n (↥x)):=by
    unfold kh;rw[o,R.bind_ok];by_cases c:x.dropLast∈ks
    .rw[decide_eq_true c,decide_eq_true (.inl c)]
    .rw[decide_eq_false c];simp only;rw[m];congr 1;simp[c]
   show rI (dI W ks n (↥x))=_;unfold rI rS;by_cases c:x.dropLast∈ks\/x.tail∈ks
   .rw[decide_eq_true c]at g;rw[if_pos c];refine(NB g).trans ?_;have f:=CU (i:=1) (de:=dC (.bl ah)) (ε:=dI W ks n (↥x)) rfl (GE W ks n x) ⟨_,rfl⟩ rfl (by unfold bd;lia);refine(cC f).trans ?_;have s:(fu ks x.dropLast).length<=ks.length+1:=by unfold fu;split <;> simp
    exact CU (i:=1) (de:=dC (.bl ah)) (ε:=dI W (fu ks x.dropLast) n (↥x)) rfl (E8 W (fu ks x.dropLast) n x) ⟨_,rfl⟩ rfl (by unfold bd;lia)
   .rw[decide_eq_false c]at g;rw[if_neg c];exact(NJ g).trans rfl)
 refine⟨j,NV ?_ e⟩;unfold aT;rw[zU (v:=W) rfl,R.bind_ok,q];rfl
theorem wI(W:PV)(ks:List Tx)(n:Nat)(b:Slot):rC (dI W ks n b)=.ok (decide (n<ks.length)) (dI W ks n b):=by
 have d:mO 1 (dI W ks n b)=.ok (.int (ks.length:Nat)) (dI W ks n b):=by show R.ok (PV.int ((cH ks).length:Nat)) _=_;rw[wW]
 have c:decide ((n:Int)<(ks.length:Nat))=decide (n<ks.length):=by
  by_cases q:n<ks.length
  .rw[decide_eq_true q,decide_eq_true ∅]
  .rw[decide_eq_false q,decide_eq_false ∅]
 refine o_ (xF (x:=.int n) (zU rfl) d ?_);show aa (PV.bl (decide ((n:Int)<(ks.length:Nat))))=_;rw[c]
theorem OP(W:PV)(b:List Tx)(v:b.length<=100)(w:dN W=aa (am b)):∀(j:Nat) (ks:List Tx) (n l:Nat) (g:Slot),2*b.length<=ks.length+j->j+2<=l->n<ks.length->Rch b ks -> ∃d r i,Rch b d/\(∀x∈b,x.dropLast∈d\/x.tail∈d->x.dropLast∈d/\x.tail∈d)/\iN rC rB l (dI W ks n g)=.ok .next (dI W d r i):=by
 intro j
 induction j with
 |zero=>
  intro ks n l g G F s h;obtain⟨f,rfl⟩:∃f,l=f+1+1:=⟨l-2,∅⟩
  obtain⟨i,e⟩:=Hn W b v w ks h ks.length g;have I:=h.few;have H:=h.next.few;have D:=tN b ks;have p:=zz b ks ∅;have u:=yg b ks (by rw[p]);rw[p]at e;have c:=wI W ks n g;rw[decide_eq_true s]at c;have m:rB (dI W ks n g)=.ok .next (dI W ks ks.length i):=by
   unfold rB;have k:bQ 2 (mO 1) (dI W ks n g)=.ok .next (dI W ks ks.length g):=by refine uY (x:=.int (ks.length:Nat)) (ε1:=dI W ks n g) ?_;show R.ok (PV.int ((cH ks).length:Nat)) _=_;rw[wW]
   exact(cC k).trans e
  have o:=wI W ks ks.length i;rw[decide_eq_false (fA _)]at o;exact⟨ks,ks.length,i,h,u,(At c m).trans (Gq o)⟩
 |succ j E=>
  intro ks n l g G F s h;obtain⟨f,rfl⟩:∃f,l=f+1:=⟨l-1,∅⟩
  obtain⟨i,e⟩:=Hn W b v w ks h ks.length g;have D:=tN b ks;have c:=wI W ks n g;rw[decide_eq_true s]at c;have m:rB (dI W ks n g)=.ok .next (dI W (b.foldl rS ks) ks.length i):=by
   unfold rB;have k:bQ 2 (mO 1) (dI W ks n g)=.ok .next (dI W ks ks.length g):=by refine uY (x:=.int (ks.length:Nat)) (ε1:=dI W ks n g) ?_;show R.ok (PV.int ((cH ks).length:Nat)) _=_;rw[wW]
   exact(cC k).trans e
  by_cases q:(b.foldl rS ks).length=ks.length
  .have p:=zz b ks q;have u:=yg b ks q;rw[p]at m;obtain⟨y,rfl⟩:∃y,f=y+1:=⟨f-1,∅⟩
   have o:=wI W ks ks.length i;rw[decide_eq_false (fA _)]at o;exact⟨ks,ks.length,i,h,u,(At c m).trans (Gq o)⟩
  .obtain⟨d,r,z,C,B,A⟩:=E (b.foldl rS ks) ks.length f i ∅ ∅ ∅ h.next;exact⟨d,r,z,C,B,(At c m).trans A⟩
theorem QC(W:PV)(x:Tx)(r:List Tx)(v:r.length<=50)(s:dN W=aa (am (x::r)))(d:aW W (.int 0)=aa (.str x)):∃ks,Rch (x::r) ks/\(∀y∈x::r,y.dropLast∈ks\/y.tail∈ks->y.dropLast∈ks/\y.tail∈ks)/\n8 a [.val W]=.ok (.own (.dK (cH ks))) [.val W]:=by
 have u:Rch (x::r) [x.dropLast]:=⟨by simp,λz b=>by simp at b;rw[b];simp[fe],λy q e=>by cases e;simp,λV _ o z b=>by simp at b;rw[b];exact o x r rfl⟩
 obtain⟨ks,n,g,i,h,m⟩:=OP W (x::r) (by simp;lia) s (2*(x::r).length) [x.dropLast] 0 1000 .none ∅ (by simp;lia) (by simp) u;refine⟨ks,i,h,?_⟩;have f:=yu x;have p:fS (.int 1)=aa (.int (-1)):=rfl;have l:cV 1 (tR (dm dG (d2 aW (dV 0) (dC (.int 0))) (dU) (cU (d1 fS (dC (.int 1))))) (dC (.bl ah))) [.val W,.none,.none,.none]=.ok .next [.val W,.own (.dK (cH [x.dropLast])),.none,.none]:=by simp[cV,tR,dm,dU,cU,d2,d1,dV,dC,R.bind,aO,d,p,iK,f,gT,cH]
 have j:bQ 2 (dC (.int 0)) [.val W,.own (.dK (cH [x.dropLast])),.none,.none]=.ok .next (dI W [x.dropLast] 0 .none):=rfl;have c:yaE a [.val W,.none,.none,.none]=.ok (.ret (.own (.dK (cH ks)))) [.val W,.none,⇑n,g]:=by rw[Qq];refine(cC l).trans ?_;refine(cC j).trans ?_;refine(cC (d1:=λε=>cK (iN rC rB 1000 ε)) (by show cK _=_;rw[m];rfl)).trans ?_;exact En rfl
 unfold n8;generalize yaE a=D at c;generalize cH ks=A at c;simp[bR,fU,bO,dP,c,back,aO,R.bind,gA]
theorem OF{v:Nat}{x:Tx}{r ks:List Tx}(m:∀y∈x::r,y.length=v+1)(h:Rch (x::r) ks)(o:∀y∈x::r,y.dropLast∈ks\/y.tail∈ks->y.dropLast∈ks/\y.tail∈ks):(∀y∈x::r,y.dropLast∈ks)↔pe v (x::r):=by
 have d:∀y∈x::r,y.take v=y.dropLast:=λy b=>by rw[Ix,m y b];rfl
 constructor
 .intro j V ⟨y,b,i⟩ p z g;have l:∀y∈x::r,V y.dropLast\/V y.tail->V y.dropLast/\V y.tail:=λy b q=>by have:=p y b;rw[d y b]at this;exact this q
  rw[d y b]at i;rw[d z g];by_cases c:V x.dropLast
  .exact h.least V l (λ_ _ e=>by cases e;exact c) _ (j z g)
  .have:=h.least (λq=>¬V q) (λy b q=>by
     have:=l y b;refine⟨λn=>?_,λn=>?_⟩
     .rcases q with q|q
      .exact q n
      .exact q (this (.inl n)).2
     .rcases q with q|q
      .exact q (this (.inr n)).1
      .exact q n) (λ_ _ e=>by cases e;exact c) _ (j y b)
   exact absurd i this
 .intro f y b;have:=f (λq=>q∈ks) ⟨x,by simp,by rw[d x (by simp)];exact h.start x r rfl⟩ (λy b q=>by rw[d y b]at q ⊢;exact o y b q) y b;rwa[d y b]at this
end
def k9(m:List (Tx×Int))(x:Tx):List (Tx×Int):=cT (cT m x.dropLast ((bA m x.dropLast).getD 0+1)) x.tail ((bA (cT m x.dropLast ((bA m x.dropLast).getD 0+1)) x.tail).getD 0-1)
def b1(p:Prop)[Decidable p]:Int:=if p then 1 else 0
theorem Oi(m:List (Tx×Int))(x y:Tx):(bA (k9 m x) y).getD 0=(bA m y).getD 0+b1 (x.dropLast=y)-b1 (x.tail=y):=by
 unfold k9 b1;rw[mx,mx,mx];by_cases b:y=x.tail
 .subst b;by_cases a:x.tail=x.dropLast
  .rw[if_pos rfl,if_pos a,if_pos a.symm,if_pos rfl,a];simp
  .rw[if_pos rfl,if_neg a,if_neg (c_ a),if_pos rfl];simp
 .rw[if_neg b,if_neg (c_ b)];by_cases a:y=x.dropLast
  .subst a;rw[if_pos rfl,if_pos rfl];simp
  .rw[if_neg a,if_neg (c_ a)];simp
theorem Eo(m:List (Tx×Int))(x y:Tx):y∈ks (k9 m x)↔y∈ks m\/y=x.dropLast\/y=x.tail:=by
 have k:∀(m:List (Tx×Int)) (z:Tx),z∈ks m↔(bA m z).isSome=ah:=λm z=>by rw[rX,decide_eq_true_eq]
 rw[k,k];unfold k9;generalize (bA (cT m x.dropLast ((bA m x.dropLast).getD 0+1)) x.tail).getD 0-1=n1;generalize (bA m x.dropLast).getD 0+1=n2;rw[mx,mx];by_cases b:y=x.tail
 .rw[if_pos b];simp[b]
 .rw[if_neg b];by_cases a:y=x.dropLast
  .rw[if_pos a];simp[a]
  .rw[if_neg a];simp[b,a]
def bw(a:List Tx):List (Tx×Int):=a.foldl k9 []
def exc(ls:List Tx)(y:Tx):Int:=(ls.map λx=>b1 (x.dropLast=y)-b1 (x.tail=y)).sum
theorem EZ:∀(a:List Tx) (m:List (Tx×Int)) (y:Tx),(bA (a.foldl k9 m) y).getD 0=(bA m y).getD 0+exc a y
 |[],m,y=>by simp[exc]
 |x::a,m,y=>by rw[g7,EZ a,Oi];simp only[exc,b8,g9];lia
theorem Bb(a:List Tx)(y:Tx):(bA (bw a) y).getD 0=exc a y:=by unfold bw;rw[EZ];show 0+_=_;lia
theorem Gh:∀(a:List Tx) (m:List (Tx×Int)) (y:Tx),y∈ks (a.foldl k9 m)↔y∈ks m\/y∈fe a
 |[],m,y=>by simp[fe]
 |x::a,m,y=>by
  rw[g7,Gh a,Eo];simp only[fe,b8,iP,bI];constructor
  .rintro((h|h|h)|h|h)
   .exact .inl h
   .exact .inr (.inl (.inl h))
   .exact .inr (.inr (.inl h))
   .exact .inr (.inl (.inr h))
   .exact .inr (.inr (.inr h))
  .rintro(h | (h|h)|h|h)
   .exact .inl (.inl h)
   .exact .inl (.inr (.inl h))
   .exact .inr (.inl h)
   .exact .inl (.inr (.inr h))
   .exact .inr (.inr h)
theorem wz(a:List Tx)(y:Tx):y∈ks (bw a)↔y∈fe a:=by unfold bw;rw[Gh];simp
theorem Ez:∀(a:List Tx) (m:List (Tx×Int)),(ks m).Nodup->(ks (a.foldl k9 m)).Nodup
 |[],_,h=>h
 |x::a,m,h=>Ez a _ (pr (pr h))
theorem Gw(a:List Tx):(ks (bw a)).Nodup:=Ez a [] (by simp)
section
variable{a:Ad}
def u9:ai->R PV:=dm dG (dV 2) (dU) (cU (d1 fS (dC (.int 1))))
def sh:ai->R PV:=dm dG (dV 2) (cU (dC (.int 1))) (dU)
def xB:ai->R aM:=aG (fG 1 u9 (d2 bj (ij 1 u9 (dC (.int 0))) (dC (.int 1)))) (fG 1 sh (d2 ku (ij 1 sh (dC (.int 0))) (dC (.int 1))))
theorem Nm:yak a=aG (cV 1 (rD)) (aG (λb=>cK (bU 2 (aT (dV 0)) xB b)) (jz 1)):=rfl
def h8(W:PV)(m:List (Tx×Int))(s:Slot):ai:=[.val W,.own (.dK (dk m)),s]
theorem Dr(W:PV)(m:List (Tx×Int))(x:Tx):u9 (h8 W m (↥x))=.ok (.str x.dropLast) (h8 W m (↥x)):=by have h:=yu x;have b:fS (.int 1)=aa (.int (-1)):=rfl;simp[u9,h8,dm,dU,cU,dV,d1,dC,R.bind,aO,b,iK,h]
theorem G2(W:PV)(m:List (Tx×Int))(x:Tx):sh (h8 W m (↥x))=.ok (.str x.tail) (h8 W m (↥x)):=by have h:=C1 x;simp[sh,h8,dm,dU,cU,dV,dC,R.bind,aO,iK,h]
theorem CC{i:Nat}{db:ai->R PV}{b:ai}{z:Tx}{m:List (Tx×Int)}{n:Int}(d:db b=.ok (.str z) b)(c:cY b i=aa (dk m)):ij i db (dC (.int n)) b=.ok (.int ((bA m z).getD n)) b:=by
 unfold ij;rw[c];simp only[bV,R.bind_ok];rw[d,R.bind_ok];show((R.ok (PV.int n) b).bind _)=_;rw[R.bind_ok,c];simp only[bV,R.bind_ok];show aO (aa ((iZ (dk m) (.inr (tS z))).getD (.int n))) b=_;rw[qY];cases bA m z <;> rfl
theorem Qv(W:PV)(b:List Tx)(L:b.length<=100)(E:dN W=aa (am b)):qX a [.val W]=.ok (.own (.dK (dk (bw b)))) [.val W]:=by
 obtain⟨d,e,_⟩:=AS (i:=2) (db:=xB) (λm s=>h8 W m s) k9 (λm=>(ks m).Nodup/\∀z∈ks m,z∈fe b) b [] .none ⟨by simp,by simp⟩
  (by
   rintro x r m s ⟨j,g⟩;have y:(ks (k9 m x)).Nodup:=pr (pr j);have u:x.dropLast∈fe b:=by unfold fe;exact mX _ (Cf r)
   have B:x.tail∈fe b:=by unfold fe;exact ir _ (Cf r)
   refine⟨⟨y,λz l=>?_⟩,↥x,?_⟩
   .rcases(Eo m x z).mp l with h|h|h
    .exact g z h
    .rw[h];exact u
    .rw[h];exact B
   .have few:∀{q:List (Tx×Int)},(ks q).Nodup->(∀z∈ks q,z∈fe b)->q.length<=200:=λ{q} n s=>by
     have:=len_sub n s;unfold fe at this;simp at this;lia
    have K:=few j g;have M:(1000:Nat)<=bd:=by decide
    have G:=CC (i:=1) (n:=0) (Dr W m x) rfl;have I:d2 bj (ij 1 u9 (dC (.int 0))) (dC (.int 1)) (h8 W m (↥x))=.ok (.int ((bA m x.dropLast).getD 0+1)) (h8 W m (↥x)):=by unfold d2;rw[G,R.bind_ok];rfl
    have p:=Dn (i:=1) I (Dr W m x) ⟨_,rfl⟩ rfl (m:=m) ∅;generalize f:cT m x.dropLast ((bA m x.dropLast).getD 0+1)=q at p;have w:(ks q).Nodup:=by rw[<-f];exact pr j
    have v:∀z∈ks q,z∈fe b:=λz l=>by
     have:(bA q z).isSome=ah:=by rw[rX];exact decide_eq_true l
     rw[<-f,mx]at this;by_cases c:z=x.dropLast
     .rw[c];exact u
     .rw[if_neg c,rX,decide_eq_true_eq]at this;exact g z this
    have J:=few w v;have F:=CC (i:=1) (n:=0) (G2 W q x) rfl;have H:d2 ku (ij 1 sh (dC (.int 0))) (dC (.int 1)) (h8 W q (↥x))=.ok (.int ((bA q x.tail).getD 0-1)) (h8 W q (↥x)):=by unfold d2;rw[F,R.bind_ok];rfl
    have d:=Dn (i:=1) H (G2 W q x) ⟨_,rfl⟩ rfl (m:=q) ∅;show xB (h8 W m (↥x))=_;unfold xB;refine(cC p).trans ?_;refine Eq.trans (show fG 1 sh _ _=_ from d) ?_;unfold k9;rw[f];rfl)
 have o:yak a [.val W,.none,.none]=.ok (.ret (.own (.dK (dk (bw b))))) [.val W,.none,d]:=by
  rw[Nm];refine(cC (show cV 1 rD [.val W,.none,.none]=.ok .next (h8 W [] .none)from rfl)).trans ?_;have C:bU 2 (aT (dV 0)) xB (h8 W [] .none)=.ok .next (h8 W (bw b) d):=by
   unfold bU;have:aT (dV 0) (h8 W [] .none)=.ok (am b) (h8 W [] .none):=by unfold aT;show(R.ok W _).bind _=_;rw[R.bind_ok,E];rfl
   rw[this,R.bind_ok];exact e
  refine(cC (d1:=λε=>cK (bU 2 (aT (dV 0)) xB ε)) (by show cK _=_;rw[C];rfl)).trans ?_;exact En rfl
 unfold qX;generalize yak a=D at o;generalize dk (bw b)=A at o;simp[bR,fU,bO,dP,o,back,aO,R.bind,gA]
end
theorem E7{a:ai}{i:Nat}{s:Slot}(h:a[i]?=aa s):a.set i s=a:=by
 apply qi;intro j;by_cases b:i=j
 .subst b;rw[d8 (cE.mp h).1,h]
 .rw[cN b]
theorem G5{b:Type}{d:ai->R b}{x:PV}{ε:ai}{i:Nat}{a:PO}{r:b}(c:ε[i]?=aa (.own a))(f:d [.val x,.own a]=.ok r [.val x,.own a]):bC (bZ [i] d x ε)=.ok r ε:=by simp[bZ,cf,c,bC,R.bind,aO,cx,eM,f,fj,fH,eZ,E7 c]
theorem DU{b:Type}{d:ai->R b}{x y:PV}{ε:ai}{i:Nat}{a:PO}{r:b}(c:ε[i]?=aa (.own a))(f:d [.val x,.val y,.own a]=.ok r [.val x,.val y,.own a]):bC (lY [i] d x y ε)=.ok r ε:=by simp[lY,cf,c,bC,R.bind,aO,cx,eM,f,fj,fH,eZ,E7 c]
theorem Ey{cap:List Nat}{dt:ai->R Bool}{de:ai->R PV}{ε:ai}(p:PV×PV->Bool)(f:PV×PV->PV):∀(a:List (PV×PV)),(∀x∈a,bC (lY cap dt x.1 x.2 ε)=.ok (p x) ε/\(p x=ah->bC (lY cap de x.1 x.2 ε)=.ok (f x) ε))->∀b,nY cap dt de a b ε=.ok (b++(a.filter p).map f) ε
 |[],_,b=>by simp[nY]
 |x::a,h,b=>by
  have g:=h x (by simp);have d:=Ey p f a (λy i=>h y (by simp[i]));unfold nY;rw[g.1,R.bind_ok];cases c:p x
  .rw[d b,mf,c];rfl
  .show(bC (lY cap de x.1 x.2 ε)).bind _=_;rw[g.2 c,R.bind_ok,d,mf,c];simp
theorem FZ:∀m:List (Tx×Int),pP (dk m)=aa (ks m)
 |[]=>rfl
 |p::m=>by show(pP (dk m)).map _=_;rw[FZ m];simp[tS]
def gX(a:List Tx):List Tx:=(aX (ks (bw a))).filter λy=>decide (0<exc a y)
def Hd(a:List Tx):PV->Bool
 |.str y=>decide (0<exc a y)
 |_=>ak
theorem MV(b:List Tx)(a:List Tx):((am a).filter (Hd b)).map (λx=>x)=am (a.filter λy=>decide (0<exc b y)):=by rw[sP];unfold am;rw[nv];rfl
def uS(ks:List Tx):PV×PV->Bool
 | (_,.str y)=>decide (y.dropLast∈ks)
 |_=>ak
theorem G1(ks:List Tx):∀(n:Nat) (a:List Tx),((jw (λi=>PV.int (i:Nat)) n (am a)).filter (uS ks)).length=(a.filter λy=>decide (y.dropLast∈ks)).length
 |n,[]=>rfl
 |n,y::a=>by
  have b:=G1 ks (n+1) a;show(((PV.int n,PV.str y)::jw _ (n+1) (am a)).filter (uS ks)).length=_;have e:uS ks (PV.int n,PV.str y)=decide (y.dropLast∈ks):=rfl;rw[mf,mf,e];by_cases c:y.dropLast∈ks
  .rw[decide_eq_true c,if_pos rfl,if_pos rfl,eU,eU,b]
  .rw[decide_eq_false c,if_neg (by decide),if_neg (by decide)];exact b
theorem EC(f:Nat->PV):∀(n:Nat) (a:List Tx),∀q∈jw f n (am a),∃k y,q=(f k,.str y)
 |n,[],q,h=>by cases h
 |n,y::a,q,h=>by
  rcases bI.mp h with h|h
  .exact⟨n,y,h⟩
  .exact EC f (n+1) a q h
section
variable{a:Ad}
def tW:ai->R PV:=dm dG (dV 1) (dU) (cU (d1 fS (dC (.int 1))))
def f2(a:Ad):ai->R aM:=bQ 2 (dF (bP [1] (aT (dF (om 1))) (dB (d2 (c7 λi j=>decide (j<i)) (ik 1 (dV 0)) (dC (.int 0)))) (dV 0)))
def f3:ai->R aM:=cu (dB (d2 (c7 λi j=>decide (j<i)) (dL bv (aB (dV 2) (aD))) (dC (.int 1)))) (bY (dL cW (aB (dC (.str [116,119,111])) (aB (d2 aW (dV 2) (dC (.int 0))) (aB (d2 aW (dV 2) (dC (.int 1))) (aD)))))) (ez)
def f4:ai->R aM:=cu (o5 (dB (d2 (eqT ak) (dL bv (aB (dV 2) (aD))) (dC (.int 1)))) (dB (d2 (c7 λi j=>decide (j<i)) (ik 1 (d2 aW (dV 2) (dC (.int 0)))) (dC (.int 1))))) (bY (dL cW (aB (dC (.str [109,111,114,101])) (aB (d2 aW (dV 2) (dC (.int 0))) (aD))))) (ez)
def f6:ai->R aM:=bQ 4 (dF (pK [3] (uq (aB (dV 0) (aD))) (dB (i8 ak 2 tW)) (dV 0)))
def f7:ai->R aM:=cu (dB (d2 (c7 λi j=>decide (i<j)) (dL bv (aB (dV 4) (aD))) (dL bv (aB (dV 0) (aD))))) (bY (dL cW (aB (dC (.str [97,112,97,114,116])) (aB (dL k8 (aB (dV 4) (aD))) (aD))))) (ez)
theorem Re:yal a=aG (cV 1 (i_ (aU (qX a) (gV (dV 0) (Pu.bW))))) (aG (f2 a) (aG f3 (aG f4 (aG (cV 3 (i_ (aU (n8 a) (gV (dV 0) (Pu.bW))))) (aG f6 (aG f7 (bY (dC .non)))))))):=rfl
theorem Cy{G:ai->R Slot}{W:PV}{ε:ai}{i:Nat}{b:PO}(f:ε[0]?=aa (.val W))(d:G [.val W]=.ok (.own b) [.val W])(c:i<ε.length):cV i (i_ (aU G (gV (dV 0) (Pu.bW)))) ε=.ok .next (ε.set i (.own b)):=by simp[cV,i_,aU,gV,Pu.bW,dV,f,R.bind,aO,cx,eM,d,fj,fH,eZ,xO,c]
theorem MC(W:PV)(b:List Tx)(A:b.length<=20)(l:∀y∈b,y.length<=100)(f d c:Slot):f2 a [.val W,.own (.dK (dk (bw b))),f,d,c]=.ok .next [.val W,.own (.dK (dk (bw b))),.val (.lst (am (gX b))),d,c]:=by
 unfold f2;have few:(ks (bw b)).length<64:=by have:=len_sub (Gw b) (λz m=>(wz b z).mp m);unfold fe at this;simp at this ⊢;lia
 have r:∀z∈ks (bw b),z.length<=bd:=λz m=>by
  have:=(wz b z).mp m;have B:(1000:Nat)<=bd:=by decide
  unfold fe at this;simp only[iP,cb]at this;rcases this with⟨y,g,rfl⟩|⟨y,g,rfl⟩
  .have:=l y g;simp;lia
  .have:=l y g;simp;lia
 have s:om 1 [.val W,.own (.dK (dk (bw b))),f,d,c]=.ok (.lst (am (aX (ks (bw b))))) [.val W,.own (.dK (dk (bw b))),f,d,c]:=by unfold om;show aO (xh (dk (bw b))) _=_;unfold xh;rw[FZ];show aO (if _ then _ else _) _=_;rw[if_pos ⟨few,r⟩];rfl
 have u:aT (dF (om 1)) [.val W,.own (.dK (dk (bw b))),f,d,c]=.ok (am (aX (ks (bw b)))) [.val W,.own (.dK (dk (bw b))),f,d,c]:=by unfold aT dF;rw[s];rfl
 have w:=iE (cap:=[1]) (dt:=dB (d2 (c7 λi j=>decide (j<i)) (ik 1 (dV 0)) (dC (.int 0)))) (de:=dV 0) (ε:=[.val W,.own (.dK (dk (bw b))),f,d,c]) (Hd b) (λx=>x) (am (aX (ks (bw b)))) (λx l=>by
  obtain⟨y,g,rfl⟩:=cb.mp l;have o:y∈ks (bw b):=(eI _).mem_iff.mp g;have v:bA (bw b) y=aa (exc b y):=by
   have q:(bA (bw b) y).isSome=ah:=by rw[rX];exact decide_eq_true o
   have p:=Bb b y;cases h:bA (bw b) y with
   |none=>rw[h]at q;cases q
   |some n=>rw[h]at p;rw[<-p];rfl
  refine⟨G5 rfl ?_,λ_=>G5 rfl rfl⟩;refine o_ ?_;unfold d2;rw[FL (i:=1) (db:=dV 0) (ε:=[↥y,.own (.dK (dk (bw b)))]) ⟨_,rfl⟩ rfl rfl v,R.bind_ok];rfl) []
 refine(uY (x:=.lst (am (gX b))) (ε1:=[.val W,.own (.dK (dk (bw b))),f,d,c]) ?_).trans rfl;have o:bP [1] (aT (dF (om 1))) (dB (d2 (c7 λi j=>decide (j<i)) (ik 1 (dV 0)) (dC (.int 0)))) (dV 0) [.val W,.own (.dK (dk (bw b))),f,d,c]=.ok (.lst (am (gX b))) [.val W,.own (.dK (dk (bw b))),f,d,c]:=by unfold bP;rw[u,R.bind_ok,w,R.bind_ok,f_,MV];rfl
 show(bP _ _ _ _ _).bind _=_;rw[o];rfl
def jd(ks b:List Tx):List PV:=((uQ (am b)).filter (uS ks)).map (·.1)
theorem AG(y:Tx)(r:List Tx):aW (.lst (am (y::r))) (.int 0)=aa (.str y):=by show fI (.str y::am r) 0=_;rw[uO (by decide) (by simp)];rfl
theorem Pi(y z:Tx)(r:List Tx):aW (.lst (am (y::z::r))) (.int 1)=aa (.str z):=by show fI (.str y::.str z::am r) 1=_;rw[uO (by decide) (by simp)];rfl
theorem JB{W:PV}(f ks:List Tx)(p:W=.tup (am f))(c b d:Slot):f6 [.val W,c,b,.own (.dK (cH ks)),d]=.ok .next [.val W,c,b,.own (.dK (cH ks)),.val (.lst (jd ks f))]:=by
 unfold f6;have m:uq (aB (dV 0) (aD)) [.val W,c,b,.own (.dK (cH ks)),d]=.ok (uQ (am f)) [.val W,c,b,.own (.dK (cH ks)),d]:=by subst p;rfl
 have n:=Ey (cap:=[3]) (dt:=dB (i8 ak 2 tW)) (de:=dV 0) (ε:=[.val W,c,b,.own (.dK (cH ks)),d]) (uS ks) (·.1) (uQ (am f)) (λx g=>by
  obtain⟨k,y,rfl⟩:=EC _ 0 f x g;refine⟨DU rfl ?_,λ_=>DU rfl rfl⟩;have o:tW [.val (PV.int k),↥y,.own (.dK (cH ks))]=.ok (.str y.dropLast) [.val (PV.int k),↥y,.own (.dK (cH ks))]:=by have h:=yu y;have j:fS (.int 1)=aa (.int (-1)):=rfl;simp[tW,dm,dU,cU,dV,d1,dC,R.bind,aO,j,iK,h]
  have:=o_ (Am (neg:=ak) (i:=2) o rfl);rw[vJ]at this;exact this) []
 refine(uY (x:=.lst (jd ks f)) (ε1:=[.val W,c,b,.own (.dK (cH ks)),d]) ?_).trans rfl;have l:pK [3] (uq (aB (dV 0) (aD))) (dB (i8 ak 2 tW)) (dV 0) [.val W,c,b,.own (.dK (cH ks)),d]=.ok (.lst (jd ks f)) [.val W,c,b,.own (.dK (cH ks)),d]:=by unfold pK;rw[m,R.bind_ok,n,R.bind_ok,f_];rfl
 show(pK _ _ _ _ _).bind _=_;rw[l];rfl
theorem CB(ks b:List Tx):(jd ks b).length<b.length↔¬∀y∈b,y.dropLast∈ks:=by
 have e:(jd ks b).length=(b.filter λy=>decide (y.dropLast∈ks)).length:=by unfold jd;rw[b7];exact G1 ks 0 b
 rw[e];constructor
 .intro h d;rw[oJ.mpr (λy c=>decide_eq_true (d y c))]at h;lia
 .intro h;refine Decidable.byContradiction λq=>h λy c=>?_;have f:=y_ (λy:Tx=>decide (y.dropLast∈ks)) b;have:=List.length_filter_eq_length_iff.mp (show(b.filter λy=>decide (y.dropLast∈ks)).length=b.length by lia) y c;exact of_decide_eq_true this
theorem yw{W pv:PV}{ε:ai}(h:yal a [.val W,.none,.none,.none,.none]=.ok (.ret (.val pv)) (.val W::ε)):ua a [.val W]=.ok (.val pv) [.val W]:=by unfold ua;generalize yal a=D at h;simp[bR,fU,bO,dP,h,back,aO,R.bind,gA]
theorem QD{W:PV}{v:Nat}{x:Tx}{r:List Tx}(p:W=.tup (am (x::r)))(F:∀y∈x::r,y.length=v+1)(hv:v<=20)(hr:r.length<=15):∃pv,ua a [.val W]=.ok (.val pv) [.val W]/\(pv=.non\/∃w,pv=.tup w) /\ (pv=.non↔(gX (x::r)).length<=1/\(∀s∈gX (x::r),exc (x::r) s<=1)/\pe v (x::r)):=by
 have H:dN W=aa (am (x::r)):=by subst p;rfl
 have T:aW W (.int 0)=aa (.str x):=by subst p;exact AG x r
 have X:bv [W]=aa (.int ((am (x::r)).length:Nat)):=by subst p;rfl
 have u:=Cy (G:=qX a) (W:=W) (ε:=[.val W,.none,.none,.none,.none]) (i:=1) rfl (Qv _ (x::r) (by simp;lia) H) (by simp);have q:=MC (a:=a) W (x::r) (by simp;lia) (λy N=>by have:=F y N;lia) .none .none .none;obtain⟨ks,J,I,P⟩:=QC (a:=a) W x r ∅ H T;have f:=OF F J I;have o:∀s∈gX (x::r),bA (bw (x::r)) s=aa (exc (x::r) s):=λs C=>by
  have O:s∈Sh.ks (bw (x::r)):=(eI _).mem_iff.mp (ji.mp C).1;have u:(bA (bw (x::r)) s).isSome=ah:=by rw[rX];exact decide_eq_true O
  have q:=Bb (x::r) s;cases h:bA (bw (x::r)) s with
  |none=>rw[h]at u;cases u
  |some n=>rw[h]at q;rw[<-q];rfl
 have d:∀S:List Tx,∃pv ε,aG (cV 3 (i_ (aU (n8 a) (gV (dV 0) (Pu.bW))))) (aG f6 (aG f7 (bY (dC .non)))) [.val W,.own (.dK (dk (bw (x::r)))),.val (.lst (am S)),.none,.none]=.ok (.ret (.val pv)) (.val W::ε)/\(pv=.non\/∃w,pv=.tup w)/\(pv=.non↔pe v (x::r)):=by
  intro S;have Z:=Cy (G:=n8 a) (W:=W) (ε:=[.val W,.own (.dK (dk (bw (x::r)))),.val (.lst (am S)),.none,.none]) (i:=3) rfl P (by simp);have Y:=JB (x::r) ks p (.own (.dK (dk (bw (x::r))))) (.val (.lst (am S))) .none;rw[cC Z,cC (show f6 ([Slot.val W,.own (.dK (dk (bw (x::r)))),.val (.lst (am S)),.none,.none].set 3 (.own (.dK (cH ks))))=_ from Y)];have m:dB (d2 (c7 λi j=>decide (i<j)) (dL bv (aB (dV 4) (aD))) (dL bv (aB (dV 0) (aD)))) [.val W,.own (.dK (dk (bw (x::r)))),.val (.lst (am S)),.own (.dK (cH ks)),.val (.lst (jd ks (x::r)))]=.ok (decide (((jd ks (x::r)).length:Int)<((am (x::r)).length:Int))) [.val W,.own (.dK (dk (bw (x::r)))),.val (.lst (am S)),.own (.dK (cH ks)),.val (.lst (jd ks (x::r)))]:=by refine o_ (xF (x:=.int ((jd ks (x::r)).length:Nat)) (y:=.int ((am (x::r)).length:Nat)) rfl ?_ rfl);exact Pr (Mi (zU rfl) KL) X
  have E:(am (x::r)).length=(x::r).length:=by unfold am;rw[b7]
  by_cases c:∀y∈x::r,y.dropLast∈ks
  .have D:¬(((jd ks (x::r)).length:Int)<((am (x::r)).length:Int)):=by
    rw[E];have:=mt (CB ks (x::r)).mp (λh=>h c);lia
   rw[decide_eq_false D]at m;refine⟨.non,[.own (.dK (dk (bw (x::r)))),.val (.lst (am S)),.own (.dK (cH ks)),.val (.lst (jd ks (x::r)))],?_,.inl rfl,⟨λ_=>f.mp c,λ_=>rfl⟩⟩;rw[cC (show f7 _=.ok .next _ by unfold f7 cu;rw[m];rfl)];rfl
  .have D:((jd ks (x::r)).length:Int)<((am (x::r)).length:Int):=by
    rw[E];have:=(CB ks (x::r)).mpr c;lia
   rw[decide_eq_true D]at m;refine⟨.tup [.str [97,112,97,114,116],.tup (jd ks (x::r))],[.own (.dK (dk (bw (x::r)))),.val (.lst (am S)),.own (.dK (cH ks)),.val (.lst (jd ks (x::r)))],?_,.inr ⟨_,rfl⟩,⟨(λh=>by cases h),λh=>absurd (f.mpr h) c⟩⟩;unfold aG f7 cu;rw[m];rfl
 have b:∀(l:R aM),aG f3 (aG f4 (aG (cV 3 (i_ (aU (n8 a) (gV (dV 0) (Pu.bW))))) (aG f6 (aG f7 (bY (dC .non)))))) [.val W,.own (.dK (dk (bw (x::r)))),.val (.lst (am (gX (x::r)))),.none,.none]=l->yal a [.val W,.none,.none,.none,.none]=l:=by intro l h;rw[Re,cC u];exact(cC q).trans h
 generalize hS:gX (x::r)=S at o b ⊢
 match S,o,b with
 |[],_,b=>
  obtain⟨pv,ε,e,B,A⟩:=d [];refine⟨pv,yw (ε:=ε) (b _ ?_),B,?_⟩
  .rw[cC (show f3 _=.ok .next _ from rfl),cC (show f4 _=.ok .next _ from rfl)];exact e
  .rw[A];simp
 |[s],o,b=>
  have C:=o s (by simp);have Q:dB (d2 (c7 λi j=>decide (j<i)) (ik 1 (d2 aW (dV 2) (dC (.int 0)))) (dC (.int 1))) [.val W,.own (.dK (dk (bw (x::r)))),.val (.lst (am [s])),.none,.none]=.ok (decide (1<exc (x::r) s)) [.val W,.own (.dK (dk (bw (x::r)))),.val (.lst (am [s])),.none,.none]:=by refine o_ (xF (FL (i:=1) (db:=d2 aW (dV 2) (dC (.int 0))) ⟨_,rfl⟩ (xF (x:=.lst (am [s])) rfl rfl (AG s [])) rfl C) rfl rfl)
  have ve:o5 (dB (d2 (eqT ak) (dL bv (aB (dV 2) (aD))) (dC (.int 1)))) (dB (d2 (c7 λi j=>decide (j<i)) (ik 1 (d2 aW (dV 2) (dC (.int 0)))) (dC (.int 1)))) [.val W,.own (.dK (dk (bw (x::r)))),.val (.lst (am [s])),.none,.none]=.ok (decide (1<exc (x::r) s)) [.val W,.own (.dK (dk (bw (x::r)))),.val (.lst (am [s])),.none,.none]:=by unfold o5;rw[show dB (d2 (eqT ak) (dL bv (aB (dV 2) (aD))) (dC (.int 1))) [.val W,.own (.dK (dk (bw (x::r)))),.val (.lst (am [s])),.none,.none]=.ok ah [.val W,.own (.dK (dk (bw (x::r)))),.val (.lst (am [s])),.none,.none] from rfl,R.bind_ok];exact Q
  by_cases c:1<exc (x::r) s
  .rw[decide_eq_true c]at ve;refine⟨.tup [.str [109,111,114,101],.str s],yw (ε:=[.own (.dK (dk (bw (x::r)))),.val (.lst (am [s])),.none,.none]) (b _ ?_),.inr ⟨_,rfl⟩,⟨(λh=>by cases h),λh=>?_⟩⟩
   .rw[cC (show f3 _=.ok .next _ from rfl)];unfold aG f4 cu;rw[ve];rfl
   .have:=h.2.1 s (by simp);lia
  .rw[decide_eq_false c]at ve;obtain⟨pv,ε,e,B,A⟩:=d [s];refine⟨pv,yw (ε:=ε) (b _ ?_),B,?_⟩
   .rw[cC (show f3 _=.ok .next _ from rfl),cC (show f4 _=.ok .next _ by unfold f4 cu;rw[ve];rfl)];exact e
   .rw[A];refine⟨λh=>⟨by simp,λz M=>?_,h⟩,λh=>h.2.2⟩;have:z=s:=by simpa using M
    subst this;lia
 |s::g::S,o,b=>
  refine⟨.tup [.str [116,119,111],.str s,.str g],yw (ε:=[.own (.dK (dk (bw (x::r)))),.val (.lst (am (s::g::S))),.none,.none]) (b _ ?_),.inr ⟨_,rfl⟩,⟨λh=>(by cases h),λh=>?_⟩⟩
  .have L:=AG s (g::S);have K:=Pi s g S;unfold aG f3 cu;have m:dB (d2 (c7 λi j=>decide (j<i)) (dL bv (aB (dV 2) (aD))) (dC (.int 1))) [.val W,.own (.dK (dk (bw (x::r)))),.val (.lst (am (s::g::S))),.none,.none]=.ok (decide ((1:Int)<((am (s::g::S)).length:Int))) [.val W,.own (.dK (dk (bw (x::r)))),.val (.lst (am (s::g::S))),.none,.none]:=rfl;rw[decide_eq_true (by unfold am;simp;lia)]at m;rw[m];simp[R.bind,bY,dL,aB,aD,dC,dV,d2,aO,L,K,cW]
  .have:=h.1;simp at this
end
theorem D4{v:Nat}:∀{ls:List Tx},(∀y∈ls,y.length=v+1)->∀y,exc ls y=(oc v ls y:Int)-(ic ls y:Int)
 |[],_,y=>rfl
 |x::ls,h,y=>by
  have a:=D4 (λz b=>h z (by simp[b])) (ls:=ls) y;have c:x.take v=x.dropLast:=by rw[Ix,h x (by simp)];rfl
  have e:exc (x::ls) y=b1 (x.dropLast=y)-b1 (x.tail=y)+exc ls y:=by simp[exc]
  rw[e,a];unfold oc ic b1;simp only[b8,g9,c];split <;> split <;> lia
theorem zY{K:List Tx}(f:K.Nodup){s:Tx}(d:s∈K):(K.map λy=>b1 (s=y)).sum=1:=by
 have ae:∀{K:List Tx},s∉K->(K.map λy=>b1 (s=y)).sum=0:=by
  intro K
  induction K with
  |nil=>intro _;rfl
  |cons y K b=>intro h;simp only[bI,not_or]at h;rw[b8,g9,b h.2];unfold b1;rw[if_neg h.1];rfl
 induction K with
 |nil=>cases d
 |cons y K b=>
  rw[b8,g9];have a:=j9.mp f;by_cases c:s=y
  .subst c;rw[ae a.1];unfold b1;rw[if_pos rfl];rfl
  .rw[b a.2 (by rcases bI.mp d with h|h;exact absurd h c;exact h)];unfold b1;rw[if_neg c];rfl
theorem A_(f g:Tx->Int):∀K:List Tx,(K.map λy=>f y-g y).sum=(K.map f).sum-(K.map g).sum
 |[]=>rfl
 |y::K=>by simp only[b8,g9,A_ f g K];lia
theorem Fv(f g:Tx->Int):∀K:List Tx,(K.map λy=>f y+g y).sum=(K.map f).sum+(K.map g).sum
 |[]=>rfl
 |y::K=>by simp only[b8,g9,Fv f g K];lia
theorem Dt{K:List Tx}(a:K.Nodup):∀{ls:List Tx},(∀x∈ls,x.dropLast∈K/\x.tail∈K)->(K.map (exc ls)).sum=0
 |[],_=>by
  show(K.map λ_=>(0:Int)).sum=0;clear a;have c:∀K:List Tx,(K.map λ_=>(0:Int)).sum=0:=λK=>by
   induction K with
   |nil=>rfl
   |cons y K b=>rw[b8,g9,b];rfl
  exact c K
 |x::ls,h=>by
  have b:=Dt a (ls:=ls) λz d=>h z (by simp[d]);have e:exc (x::ls)=λy=>(b1 (x.dropLast=y)-b1 (x.tail=y))+exc ls y:=by funext y;simp[exc]
  rw[e,Fv,b,A_,zY a (h x (by simp)).1,zY a (h x (by simp)).2];rfl
theorem AU(f:Tx->Int):∀{K:List Tx},(∀y∈K,f y<=0)->(K.map f).sum<=0/\((K.map f).sum=0->∀y∈K,f y=0)
 |[],_=>⟨by simp,λ_ y h=>by cases h⟩
 |y::K,h=>by
  have b:=AU f (K:=K) λz a=>h z (by simp[a]);have c:=h y (by simp);rw[b8,g9];refine⟨∅,λe z a=>?_⟩;rcases bI.mp a with rfl|a
  .lia
  .exact b.2 ∅ z a
theorem GQ(f:Tx->Int):∀{K:List Tx},(∀y∈K,f y<=0)->(K.map f).sum=-1->K.Nodup->∃e∈K,f e=-1/\∀y∈K,y≠e->f y=0
 |[],_,h,_=>by simp at h
 |y::K,h,j,i=>by
  have g:∀z∈K,f z<=0:=λz a=>h z (by simp[a]);have o:=AU f g;have p:=h y (by simp);have d:=j9.mp i;rw[b8,g9]at j;by_cases c:f y=0
  .obtain⟨e,l,n,m⟩:=GQ f g ∅ d.2;refine⟨e,by simp[l],n,λz a b=>?_⟩;rcases bI.mp a with rfl|a
   .exact c
   .exact m z a b
  .refine⟨y,by simp,∅,λz a b=>?_⟩;rcases bI.mp a with rfl|a
   .exact absurd rfl b
   .exact o.2 ∅ z a
theorem EL{a:List Tx}{y:Tx}(h:y∉ks (bw a)):exc a y=0:=by
 have c:(bA (bw a) y).isSome=ak:=by rw[rX];exact decide_eq_false h
 have b:=Bb a y;cases e:bA (bw a) y with
 |none=>rw[e]at b;exact b.symm
 |some n=>rw[e]at c;cases c
theorem SK{a:List Tx}{s:Tx}:s∈gX a↔s∈ks (bw a)/\0<exc a s:=by unfold gX;rw[ji,decide_eq_true_eq,(eI _).mem_iff]
theorem Mm{v:Nat}{x:Tx}{r:List Tx}(u:∀y∈x::r,y.length=v+1):((gX (x::r)).length<=1/\(∀s∈gX (x::r),exc (x::r) s<=1)/\pe v (x::r))↔∃t,(ba t (v+1)).Perm (x::r):=by
 have j:=D4 u;have i:=Gw (x::r);have F:∀y∈x::r,y.dropLast∈ks (bw (x::r))/\y.tail∈ks (bw (x::r)):=λy a=>by rw[wz,wz];unfold fe;exact⟨mX _ (Cf a),ir _ (Cf a)⟩
 have D:=Dt i F;constructor
 .rintro⟨f,I,g⟩;have C:∀y∈ks (bw (x::r)),y∉gX (x::r)->exc (x::r) y<=0:=λy a n=>by have:=mt (λh=>SK.mpr ⟨a,h⟩) n;lia
  cases l:gX (x::r)with
  |nil=>
   have p:=(AU _ (λy a=>C y a (by rw[l];simp))).2 D;obtain⟨t,_,_,b⟩:=C4 u g (s0:=x.take v) (e:=x.take v) ⟨x,by simp,rfl⟩ (λy=>by
    have:exc (x::r) y=0:=by
     by_cases c:y∈ks (bw (x::r))
     .exact p y c
     .exact EL c
    rw[j]at this;lia)
   exact⟨t,b⟩
  |cons s S=>
   rw[l]at f;have E:S=[]:=by cases S with|nil=>rfl|cons _ _=>simp at f
   subst E;have d:s∈gX (x::r):=by rw[l];simp
   obtain⟨A,s0⟩:=SK.mp d;have N:=I s d;have H:∀y∈ks (bw (x::r)),exc (x::r) y-b1 (s=y)<=0:=λy a=>by
    unfold b1;by_cases c:s=y
    .rw[if_pos c,<-c];lia
    .rw[if_neg c];have:=C y a (by rw[l];simp;exact c_ c);lia
   obtain⟨e,J,O,K⟩:=GQ (λy=>exc (x::r) y-b1 (s=y)) H (by rw[A_,D,zY i A];rfl) i;have hall:∀y,exc (x::r) y=b1 (s=y)-b1 (e=y):=λy=>by
    by_cases c:y∈ks (bw (x::r))
    .by_cases w:e=y
     .subst w;have:b1 (e=e)=1:=by unfold b1;rw[if_pos rfl]
      lia
     .have:=K y c (c_ w);have:b1 (e=y)=0:=by unfold b1;rw[if_neg w]
      lia
    .have M:s≠y:=λz=>c (z ▸ A);have L:e≠y:=λz=>c (z ▸ J);rw[EL c];unfold b1;rw[if_neg M,if_neg L];rfl
   obtain⟨t,_,_,b⟩:=C4 u g (s0:=s) (e:=e) (So.mp (by have:=j s;lia)) (λy=>by have f:=hall y;rw[j]at f;unfold b1 at f;unfold b2;split <;> split <;> simp_all <;> lia);exact⟨t,b⟩
 .rintro⟨t,b⟩;have q:v<=t.length:=by have:=b.length_eq;rw[mQ ∅]at this;simp at this;lia
  have B:∀y,exc (x::r) y=b1 (t.take v=y)-b1 (en v t=y):=λy=>by have:=uz q y;rw[tK b,tL b]at this;rw[j];unfold b1;unfold b2 at this;split <;> split <;> simp_all <;> lia
  have G:∀s∈gX (x::r),s=t.take v:=λs d=>by
   have:=(SK.mp d).2;rw[B]at this;unfold b1 at this;by_cases c:t.take v=s
   .exact c.symm
   .rw[if_neg c]at this;split at this <;> lia
  refine⟨?_,λs d=>?_,Qg b⟩
  .have o:(gX (x::r)).Nodup:=by
    unfold gX;exact((eI _).nodup_iff.mpr i).filter _
   have:=len_sub o (m:=[t.take v]) (λz p=>by rw[G z p];simp);simpa using this
  .rw[B];unfold b1;split <;> split <;> lia
end Sh
namespace Mx
open L2 Pu
theorem OR{l:List Tx}(h:l.Nodup):fJ l=l:=by
 have:∀(l a:List Tx),(a++l).Nodup->l.foldl (λks x=>if x∈ks then ks else ks++[x]) a=a++l:=by
  intro l
  induction l with
  |nil=>intro a _;simp
  |cons x l b=>
   intro a h;have c:x∉a:=λd=>by rw[vH]at h;exact h.2.2 x d x (by simp) rfl
   rw[g7,if_neg c,b _ (by simpa using h)];simp
 exact this l [] (by simpa using h)
theorem OE{w:Nat}{a:List Tx}(b:1<=w)(d:1<=a.length)(f:∀x∈a,x.length=w/\∀c∈x,c∈bF):(eh w a).Nodup:=by rw[yc b d f];exact(xx _).filter _
theorem qP{w:Nat}{d:List Tx}(f:1<=w)(i:1<=d.length)(j:∀x∈d,x.length=w/\∀c∈x,c∈bF)(h:d.Pairwise (λa b=>cZ a b=ah)){z:Tx}(g:∀c∈z,c∈bF):z∈eh w d↔aX (ba z w)=d:=by
 rw[yc f i j,ji,kq,List.isPerm_iff];constructor
 .rintro⟨_,p⟩;rw[qZ p,pU h]
 .intro e;have p:(ba z w).Perm d:=by rw[<-e];exact(eI _).symm
  have l:=p.length_eq;rw[mQ f]at l;exact⟨⟨∅,g⟩,p⟩
theorem zt{w:Nat}{a:List Tx}(b:1<=w)(d:1<=a.length)(f:∀x∈a,x.length=w/\∀c∈x,c∈bF){z:Tx}(h:z∈eh w a):z.length=w-1+a.length/\∀c∈z,c∈bF:=by rw[yc b d f,ji,kq]at h;exact h.1
end Mx
namespace Sh
open L2 Pu Mx
theorem abc_of{t:Tx}{w:Nat}(a:1<=w)(f:w<=t.length)(h:∀x∈ba t w,∀c∈x,c∈bF):∀c∈t,c∈bF:=by
 intro c d;obtain⟨i,g,rfl⟩:=List.mem_iff_getElem.mp d;have b:min i (t.length-w)<t.length+1-w:=∅
 refine h ((t.drop (min i (t.length-w))).take w) ?_ _ ?_
 .rw[mP t w a];exact cb.mpr ⟨_,vn.mpr b,rfl⟩
 .refine List.mem_iff_getElem.mpr ⟨i-min i (t.length-w),by simp;lia,?_⟩;rw[B3,B2];congr 1;lia
def hasT(w:Nat)(k:List Tx):Bool:=decide (eh w k≠[])
theorem has_iff{w:Nat}{d:List Tx}(g:Good bF w d)(f:1<=w)(m:d.Pairwise (λa b=>cZ a b=ah)):(∃t,(ba t w).Perm d)↔hasT w d=ah:=by
 have j:∀x∈d,x.length=w/\∀c∈x,c∈bF:=λx i=>⟨g.len x i,g.abc x i⟩
 unfold hasT;rw[decide_eq_true_iff];constructor
 .rintro⟨t,l⟩ e;have p:=l.length_eq;rw[mQ f]at p;have q:=g.some;have n:=abc_of (t:=t) f ∅ (λx i=>g.abc x (l.mem_iff.mp i));have:=(qP f g.some j m n).mpr (by rw[qZ l];exact(pU m));rw[e]at this;cases this
 .intro h;obtain⟨z,r,e⟩:=List.exists_cons_of_ne_nil h;have o:z∈eh w d:=by rw[e];simp
  have n:=(zt f g.some j o).2;have:=(qP f g.some j m n).mp o;exact⟨z,by rw[<-this];exact(eI _).symm⟩
section
variable{a:Ad}
theorem bar_eq{w:Nat}{c:List Tx}(g:Good bF w c)(h:1<=w)(p:w<=4)(j:c.Pairwise (λa b=>cZ a b=ah)):∃pv,tU a [.val (aH w c)]=.ok (.val pv) [.val (aH w c)]/\re ak pv .non=aa (.bl (hasT w c)):=by
 have m:=g.few;have z:=g.some;obtain⟨v,rfl⟩:∃v,w=v+1:=⟨w-1,∅⟩
 obtain⟨x,r,e⟩:∃x r,c=x::r:=List.exists_cons_of_ne_nil (by rintro rfl;simp at z);have o:=has_iff g h j;rw[e]at o m;have l:∀y∈x::r,y.length=v+1:=λy s=>g.len y (by rw[e];exact s);obtain⟨pv,i,q,d⟩:=QD (a:=a) (W:=.tup (am (x::r))) rfl l ∅ (by simp at m;lia);rw[Mm l,o]at d;refine⟨pv,?_,?_⟩
 .have n:rm a [.val (aH (v+1) c)]=.ok (.val .non) [.val (aH (v+1) c)]:=Gm (a:=a) (g.vw h p j);have f:aW (aH (v+1) c) (.int 1)=aa (.tup (am (x::r))):=by rw[e];rfl
  generalize am (x::r)=B at i f;generalize aH (v+1) c=V at n f;simp![tU,yae,n,f,i]
 .rw[e];rcases q with rfl|⟨A,rfl⟩
  .rw[d.mp rfl];rfl
  .cases u:hasT (v+1) (x::r)with
   |true=>exact nomatch d.mpr u
   |false=>rfl
structure Blur(w:Nat)(ms:List Tx):Prop where
 g:Good ge w ms
 w1:1<=w
 w4:w<=4
 d6:c9 ms<=6
 rises:ms.Pairwise (λa b=>cZ a b=ah)
theorem Good.vwB{w:Nat}{d:List Tx}(g:Good ge w d)(o:1<=w)(n:w<=4)(h:d.Pairwise (λa b=>cZ a b=ah)):mz ge w d=ah:=by
 have m:d.all (iW w ge)=ah:=by rw[l_];intro x f;unfold iW;rw[g.len x f,decide_eq_true rfl,oB,l_];intro c i;simpa using g.abc x f c i
 have l:=g.some;have j:=g.few;unfold mz;rw[m,decide_eq_true (show(1:Int)<=(w:Nat)/\((w:Nat):Int)<=4 by lia),decide_eq_true ⟨l,j⟩,decide_eq_true (pU h).symm];rfl
theorem wt_small{w:Nat}:∀{ls:List Tx},(∀x∈ls,x.length=w)->gY [] ls<=ls.length*w
 |[],_=>by simp[gY]
 |[x],h=>by have:=h x (by simp);simp[gY,this]
 |x::y::r,h=>by
  have d:=h x (by simp);have c:=wt_small (ls:=y::r) λz b=>h z (by simp[b]);simp only[eU]at c ⊢;have e:gY [] (x::y::r)=x.length+0+gY [] (y::r):=by simp[gY]
  rw[e,d,Nat.succ_mul];lia
theorem blur_yes{w:Nat}{c:List Tx}(b:Blur w c):uL a [.val (aH w c)]=.ok (.val .non) [.val (aH w c)]:=by
 have h:=wt_small b.g.len;have g:=b.g.few;have d:=b.w4;have f:gY [] c<=bd:=by have:c.length*w<=9*4:=BM g d;unfold bd;lia
 have:=Qf (a:=a) w c f;rw[b.g.vwB b.w1 b.w4 b.rises,decide_eq_true b.d6]at this;exact OA this
theorem ways_good{w:Nat}{i k:List Tx}(b:Blur w i)(h:k∈waysF i):Good bF w k/\k.Pairwise (λa b=>cZ a b=ah):=by
 obtain⟨l,m,j⟩:=ways_shape h;refine⟨⟨λx d=>?_,λx d=>?_,by rw[l];exact b.g.some,by rw[l];exact b.g.few⟩,m⟩
 .obtain⟨c,g,f⟩:=j x d;rw[f.len,b.g.len c g]
 .obtain⟨c,g,f⟩:=j x d;exact f.abc (b.g.abc c g)
def viewsC(w:Nat)(b:List Tx):List (List Tx):=(ff (waysF b)).filter (hasT w)
def vwsP(w:Nat)(ks:List (List Tx)):List PV:=ks.map λk=>aH w k
theorem ok_filter{w:Nat}(ks:List (List Tx))(p:List Tx->Bool)(f:PV->Bool)(b:∀k,f (aH w k)=p k):((vwsP w ks).filter f).map (λx=>x)=vwsP w (ks.filter p):=by rw[sP];unfold vwsP;rw[nv];congr 1;exact zd λk _=>b k
def unVw:PV->List Tx
 |.tup [_,.tup b]=>b.filterMap λx=>match x with
  |.str t=>aa t
  |_=>ae
 |_=>[]
theorem unVw_vw(w:Nat)(k:List Tx):unVw (aH w k)=k:=by show(am k).filterMap _=k;unfold am;rw[List.filterMap_map];simp[sF]
theorem cleared_eq{w:Nat}{c:List Tx}(b:Blur w c):wU a [.val (aH w c)]=.ok (.own (.lst (vwsP w (viewsC w c)))) [.val (aH w c)]:=by
 have i:=blur_yes (a:=a) b;have f:=clearing_eq (a:=a) b.g b.w4 b.d6;have d:=iE (cap:=[]) (dt:=(dB (d2 (re ak) (br (aU (tU a) (gV (dV 0) (Pu.bW)))) (dC .non)))) (de:=dV 0) (ε:=[.val (aH w c)]) (λx=>hasT w (unVw x)) (λx=>x) (vwsP w (ff (waysF c)))
  (by
   intro x m;obtain⟨k,n,rfl⟩:=cb.mp m;obtain⟨o,l⟩:=ways_good b ((pL _).mem_iff.mp n);obtain⟨pv,h,g⟩:=bar_eq (a:=a) o b.w1 b.w4 l;rw[unVw_vw];generalize aH w c=V;generalize hasT w k=B at g;generalize aH w k=W at h;refine⟨?_,λ_=>?_⟩
   .simp![bZ,cf,bC,h,g]
   .simp![bZ,cf,bC]) []
 rw[f_,ok_filter _ (hasT w) _ (λk=>by rw[unVw_vw])]at d;have j:dN (.lst (vwsP w (ff (waysF c))))=aa (vwsP w (ff (waysF c))):=rfl;have p:((ff (waysF c)).map λk=>prV ((w:Int),k))=vwsP w (ff (waysF c)):=rfl;rw[p]at f;unfold viewsC;generalize vwsP w ((ff (waysF c)).filter (hasT w))=R1 at d;generalize vwsP w (ff (waysF c))=R0 at d j f;generalize aH w c=V at i f d;simp![wU,yah,i,f,oY,bP,aT,j,d]
theorem th_comp(t:Tx)(d b:Slot)(i:t.length<=50):gW [2] cL (d2 bj (dV 1) (dV 0)) (bF.map λc=>.str [c]) [] [d,b,↥t]=.ok (am (bF.map λc=>t++[c])) [d,b,↥t]:=by
 have f:=iE (cap:=[2]) (dt:=cL) (de:=(d2 bj (dV 1) (dV 0))) (ε:=[d,b,↥t]) (λ_=>ah) (λx=>match x with|.str [c]=>.str (t++[c])|_=>.non) (bF.map λc=>PV.str [c])
  (by intro x g;obtain⟨c,_,rfl⟩:=cb.mp g;have h:bj (.str t) (.str [c])=aa (.str (t++[c])):=pD (by simp[bd];lia);refine⟨by simp![bZ,cf,bC,cL],λ_=>?_⟩;simp![bZ,cf,bC,h]) []
 rw[f_,oJ.mpr (by simp)]at f;rw[f];congr 1
theorem three_eq(b:List Tx)(u:∀t∈b,t.length<=50)(z:(fillS b 46).length<=999999):r8 a [.val (.lst (am b))]=.ok (.own (.lst (am (fillS b 46)))) [.val (.lst (am b))]:=by
 obtain⟨q,g,j,p,rest,d,s,rfl⟩:=lg (i:=2) (db:=(jy 1 (dF (bP [2] (aT (dC (.str [97,98,99]))) (cL) (d2 bj (dV 1) (dV 0))))))
  (I:=λr m=>∃(j:Slot) (p rest:List Tx),b=p++rest/\r=am rest/\m=[.val (.lst (am b)),.own (.lst (am (fillS p 46))),j])
  (by
   rintro x r m ⟨j,p,rest,d,n,rfl⟩;cases rest with
   |nil=>cases n
   |cons t rest=>
    have o:x::r=.str t::am rest:=n;simp only[lB]at o;obtain⟨rfl,rfl⟩:=o;have f:=th_comp t (.val (.lst (am b))) (.own (.lst (am (fillS p 46)))) (u t (by rw[d];simp));have h:dN (.str [97,98,99])=aa (bF.map λc=>.str [c]):=rfl;have v:fillS (p++[t]) 46=fillS p 46++bF.map λc=>t++[c]:=by simp[fillS,opts]
    have l:(am (fillS p 46)).length+(am (bF.map λc=>t++[c])).length<=bd:=by
     rw[ja,ja];have A:(fillS p 46).length+(bF.map λc=>t++[c]).length<=(fillS b 46).length:=by rw[d];simp only[fillS,vL,oH,dD,opts,if_true];lia
     unfold bd;lia
    refine⟨[.val (.lst (am b)),.own (.lst (am (fillS (p++[t]) 46))),↥t],?_,↥t,p++[t],rest,by rw[d];simp,rfl,rfl⟩;rw[v,<-GX];generalize am (bF.map λc=>t++[c])=Y at f l;generalize am (fillS p 46)=L at f l;generalize (bF.map λc=>PV.str [c])=A3 at f h;generalize am b=RR at f;simp![jy,bP,aT,h,f,l])
  (am b) [.val (.lst (am b)),.own (.lst (am (fillS [] 46))),.none] ⟨.none,[],b,by simp,rfl,rfl⟩
 have y:rest=[]:=by cases rest with|nil=>rfl|cons=>cases s
 subst y;rw[gG]at d;rw[<-d]at g;have h:dN (.lst (am b))=aa (am b):=rfl;have w:am (fillS [] 46)=[]:=rfl;rw[w]at g;generalize am (fillS b 46)=R1 at g;generalize am b=R0 at g h;simp![r8,yaD,cK,bU,aT,h,g,jz]
def lstsP(b:List (List Tx)):List PV:=b.map λr=>.lst (am r)
theorem lstsP_app(x y:List (List Tx)):lstsP (x++y)=lstsP x++lstsP y:=by simp[lstsP]
theorem lstsP_len(x:List (List Tx)):(lstsP x).length=x.length:=by simp[lstsP]
theorem eqT_nil(b:Bool)(c:List Tx):Pu.eqT b (.lst (am c)) (.lst [])=aa (.bl (b^^decide (c=[]))):=by show(if jf (.lst (am c))<=8 then(gC (am c) (am [])).map (λk=>PV.bl (b^^k))else ae)=_;rw[if_pos (by show ip (am c)+1<=8;rw[zH];decide),zF];rfl
end
theorem paired_perm{f d:Type}{i:f->d->Prop}{m g:List d}(p:m.Perm g):∀{l:List f},d7 i l m->∃a,l.Perm a/\d7 i a g:=by
 induction p with
 |nil=>intro l h;cases h;exact⟨[],.nil,.nil⟩
 |cons x _ v=>
  intro l h;cases h with
  |cons r h=>obtain⟨a,s,A⟩:=v h;exact⟨_::a,s.cons _,.cons r A⟩
 |swap x y r=>
  intro l h;cases h with
  |cons n h=>cases h with
   |cons j h=>exact⟨_,List.Perm.swap ..,.cons j (.cons n h)⟩
 |trans _ _ c b=>intro l h;obtain⟨B,q,z⟩:=c h;obtain⟨u,o,w⟩:=b z;exact⟨u,q.trans o,w⟩
theorem paired_set{b a:Type}{c:b->a->Prop}:∀{l:List b}{m:List a}{i:Nat}{x:b}{y:a},d7 c l m->l[i]?=aa x->c x y->d7 c l (m.set i y)
 |_,_,0,x,y,.cons r t,h,hy=>by simp at h;subst h;exact .cons hy t
 |_,_,i+1,x,y,.cons r t,h,hy=>.cons r (paired_set t (by simpa using h) hy)
 |_,_,_,_,_,.nil,h,_=>by simp at h
theorem fit_self:∀{x:Tx},(∀c∈x,c∈bF)->Fit x x
 |[],_=>.nil
 |c::x,h=>.cons (opts_mem.mpr (.inr ⟨by rintro rfl;have:=h 46 (by simp);simp[bF]at this,rfl⟩)) (fit_self λd a=>h d (by simp[a]))
theorem fit_dot:∀{x b:Tx} (u:Nat),(∀c∈x,c∈bF)->Fit x b->Fit x (b.set u 46)
 |_,_,_,_,.nil=>.nil
 |_,_,0,h,.cons r t=>.cons (opts_mem.mpr (.inl ⟨rfl,h _ (by simp)⟩)) t
 |_,_,u+1,h,.cons r t=>.cons r (fit_dot u (λc a=>h c (by simp[a])) t)
theorem pairedFit_self:∀{a:List Tx},(∀x∈a,∀c∈x,c∈bF)->d7 Fit a a
 |[],_=>.nil
 |x::a,h=>.cons (fit_self (h x (by simp))) (pairedFit_self λy b=>h y (by simp[b]))
theorem Good.dots0{w:Nat}{a:List Tx}(g:Good bF w a):c9 a=0:=by
 unfold c9;have:∀x∈a,x.count 46=0:=λx h=>List.count_eq_zero.mpr λd=>by have:=g.abc x h 46 d;simp[bF]at this
 clear g
 induction a with
 |nil=>rfl
 |cons x a b=>rw[b8,g9,this x (by simp),b λy c=>this y (by simp[c])]
theorem Good.dab{w:Nat}{a:List Tx}(g:Good bF w a):Good ge w a:=⟨g.len,λx h c b=>by have:=g.abc x h c b;simp[bF]at this;simp[ge];lia,g.some,g.few⟩
section
variable{a:Ad}
theorem blurredN_eq(p:List Int)(z:List PV)(w:Nat)(f:List Tx)(j:Nat)(h6:j<=6)(w1:1<=w)(w4:w<=4)(hx:z.length<=200)(g:Good bF w f)(hs:f.Pairwise (λa b=>cZ a b=ah)):∃(d:List Tx) (o:List PV),Blur w d/\c9 d<=j/\f∈waysF d/\o.length<=300 /\ uC a [cI p,.own (.lst z),.val (aH w f),⇑j]=.ok (.val (aH w d)) [cI p,.own (.lst o),.val (aH w f),⇑j]:=by
 obtain⟨m,m0,m1,Y⟩:=oj (a:=a) p z ((j:Nat)+1) ∅ ∅;obtain⟨n,rfl⟩:∃n:Nat,m=n:=⟨m.toNat,∅⟩
 have hr:jY [.int n]=aa (eV 0 n):=uR ∅;have bp:(eV 0 n).length=n:=by simp[eV]
 have g0:Good ge w f:=g.dab;have d0:c9 f=0:=g.dots0;obtain⟨ε',Z,o,d,F,rfl,s,hd,hy,A⟩:=wV (i:=5) (db:=(xW 4 (br (aU (jE a) (gV (dV 0) (gO 1 (gV (tQ 4) (Pu.bW)))))) (br (aU (jE a) (gV (dV 0) (gO 1 (gV (d2 aW (dV 2) (dC (.int 0))) (Pu.bW)))))) (dC (.str [46]))))
  (I:=λk ε=>∃o d F,ε=[cI p,.own (.lst o),.val (.tup [.int w,.tup (am f)]),⇑j,.own (.lls (d.map eN)),F]/\Good ge w d/\c9 d<=k/\o.length<=z.length+1+2*k/\d7 Fit f d) (N:=n)
  (by
   rintro k ε x hk ⟨o,d,F,rfl,s,hd,hy,A⟩;have hll:f.length=d.length:=mV A;obtain⟨v,v0,v1,hv⟩:=oj (a:=a) p o (d.length:Nat) (by have:=s.some;lia) ∅;obtain⟨u,u0,u1,X⟩:=oj (a:=a) p (o++[.int 0]) (w:Nat) ∅ (by simp;lia);have K:v.toNat<d.length:=∅
   obtain⟨q,E⟩:∃q,d[v.toNat]?=aa q:=⟨_,fh K⟩
   obtain⟨D,G⟩:∃D,f[v.toNat]?=aa D:=⟨_,fh ∅⟩
   have B:q∈d:=oy E;have C:=s.len q B;have hf:Fit D q:=by
    have:∀{l m:List Tx} (i:Nat) (x y:Tx),d7 Fit l m->l[i]?=aa x->m[i]?=aa y->Fit x y:=by
     intro l m i x y r
     induction r generalizing i with
     |nil=>intro h;simp at h
     |cons r _ ih=>
      intro T S;cases i with
      |zero=>simp at T S;subst T S;exact r
      |succ i=>exact ih i (by simpa using T) (by simpa using S)
    exact this _ _ _ A G E
   refine⟨[cI p,.own (.lst (o++[.int 0]++[.int 0])),.val (.tup [.int w,.tup (am f)]),⇑j,.own (.lls ((d.set v.toNat (q.set u.toNat 46)).map eN)),.val x],?_,_,_,_,rfl,s.put (by simp[C]) (λc P=>?_),?_,by simp;lia,paired_set A G (fit_dot _ (g.abc D (oy G)) hf)⟩
   .have W:iI (d.map eN).length v=aa v.toNat:=GO v0 (by rw[b7];exact v1);have i2:iI (eN q).length u=aa u.toNat:=GO u0 (by rw[OV,C];exact u1);have i3:(d.map eN)[v.toNat]?=aa (eN q):=by rw[eD,E];rfl
    have J:aW (.tup [.int w,.tup (am f)]) (.int 0)=aa (.int w):=rfl;have H:(d.map eN).length=d.length:=b7 _;simp only[gu,qo,f_]at X;simp only[b7]at W;generalize ((j:Nat):Int)=M6;simp![xW,tQ,kx,H,hv,W,i3,J,X,i2,Ro,<-map_set]
   .rcases Iu P with P|rfl
    .exact s.abc q B c P
    .simp[ge]
   .have:=Lg d v.toNat q (q.set u.toNat 46) E (Jv q u.toNat 46);lia)
  (eV 0 n) 0 [cI p,.own (.lst (z++[.int 0])),.val (.tup [.int w,.tup (am f)]),⇑j,.own (.lls (f.map eN)),.none] ∅ ⟨z++[.int 0],f,.none,rfl,g0,∅,by simp,pairedFit_self g.abc⟩
 have M:c9 (aX d)<=j:=by rw[QA (eI d)];lia
 refine⟨aX d,o,⟨s.perm (eI _),w1,w4,∅,rY _⟩,M,?_,∅,?_⟩
 .obtain⟨l',p',h'⟩:=paired_perm (eI d).symm A;exact waysF_mem.mpr ⟨l',by rw[<-qZ p',pU hs],h'⟩
 have J:aW (.tup [.int w,.tup (am f)]) (.int 0)=aa (.int w):=rfl;have H:aW (.tup [.int w,.tup (am f)]) (.int 1)=aa (.tup (am f)):=rfl;have Q:bj (.int j) (.int 1)=aa (.int ((j:Nat)+1)):=rfl;have gP:d.length<=1000000:=by have:=s.few;lia
 have hj:=λε=>JH d (λx h=>by rw[s.len x h];lia) ε;have L:(d.map eN).map PV.lst=d.map λx=>PV.lst (eN x):=by rw[dQ];rfl
 have O:=Mg f;generalize ((j:Nat):Int)+1=M7 at Y Q;generalize ((j:Nat):Int)=M6 at Q Z ⊢;simp[uC,yau,aG,cu,dB,d2,d1,dV,dC,dL,dF,aB,aD,bY,o4,bQ,cV,aU,gV,gO,Pu.bW,fj,eZ,cx,eM,fH,R.bind,aO,bR,fU,bO,back,gA,nK,iK,zP,yo,xO,br,i_,dE,cW,ez,yv,l0,GL,iX,ym,o5,kh,my,FH,pB,c7,i6,rH,lW,uT,dP,m8,H,xX,aT,dN,O,Q,Y,bU,hr,cK,Z,J,yi,kx,bP,L,hj,j3,nP,gP,k8]
end
section
variable{d f:Type}(a:d->f->Bool)
def Nb(b:List d)(s:List f):List d:=b.filter λx=>s.any (a x)
def HC(c:List d)(b:List f):Prop:=∀s t,b.Perm (s++t)->s.length<=(Nb a c s).length
variable{a}
theorem paired_app{Q:d->f->Prop}:∀{c b:List d}{i g:List f},d7 Q c i->d7 Q b g->d7 Q (c++b) (i++g)
 |_,_,_,_,.nil,h=>h
 |_,_,_,_,.cons r t,h=>.cons r (paired_app t h)
theorem filter_split(p:d->Bool)(b:List d):b.Perm (b.filter p++b.filter λx=>!p x):=by
 induction b with
 |nil=>exact .nil
 |cons x b c=>
  cases h:p x with
  |true=>simp only[mf,h,if_true,zc,jK,if_false,qo];exact c.cons x
  |false=>simp only[mf,h,jK,if_false,Ce,if_true];exact(c.cons x).trans IA.symm
theorem hall:∀(n:Nat) (r:List f) (g:List d),r.length=n->HC a g r->∃u rest,d7 (λx b=>a x b=ah) u r/\g.Perm (u++rest):=by
 intro n
 induction n using Nat.strongRecOn with
 |_ n F=>
  intro r g hn A;cases r with
  |nil=>exact⟨[],g,.nil,qg _⟩
  |cons b m=>
   by_cases c:∃s t,(b::m).Perm (s++t)/\s≠[]/\t≠[]/\(Nb a g s).length=s.length
   .obtain⟨s,t,p,w,Y,he⟩:=c;have bp:s.length+t.length=n:=by have:=p.length_eq;rw[dD]at this;lia
    have Z:0<s.length:=List.length_pos_iff.mpr w;have X:0<t.length:=List.length_pos_iff.mpr Y;obtain⟨P,S,B,E⟩:=F s.length ∅ s (Nb a g s) rfl λv j M=>by
     have I:=A v (j++t) (p.trans (by rw[<-gu];exact M.append_right t));have e:Nb a (Nb a g s) v=Nb a g v:=by
      unfold Nb;rw[Cg];refine zd λx _=>?_;cases h:v.any (a x)with
      |false=>rfl
      |true=>rw[oB,jM];obtain⟨y,W,hr⟩:=jM.mp h;exact⟨y,M.mem_iff.mpr (mX _ W),hr⟩
     rw[e];exact I
    have d_:S=[]:=by have e1:=E.length_eq;have e2:=mV B;rw[dD]at e1;exact me.mp ∅
    subst d_;rw[gG]at E;obtain⟨O,J,H,D⟩:=F t.length ∅ t (g.filter λx=>!s.any (a x)) rfl λj Q fN=>by
     have I:=A (s++j) Q (p.trans (by rw[gu];exact fN.append_left s));have e:(Nb a g (s++j)).length=(Nb a g s).length+(Nb a (g.filter λx=>!s.any (a x)) j).length:=by
      have q:=(filter_split (λx=>s.any (a x)) (Nb a g (s++j))).length_eq;rw[q,dD];congr 1
      .unfold Nb;rw[Cg];congr 1;refine zd λx _=>?_;rw[List.any_append];cases s.any (a x) <;> simp
      .unfold Nb;rw[Cg,Cg];congr 1;refine zd λx _=>?_;rw[List.any_append];cases s.any (a x) <;> simp
     rw[dD,e,he]at I;lia
    obtain⟨C,T,h'⟩:=paired_perm p.symm (paired_app B H);refine⟨C,J,h',?_⟩;refine(filter_split (λx=>s.any (a x)) g).trans ?_;refine(E.append D).trans ?_;rw[<-gu];exact T.append_right J
   .have B:=A [b] m (qg _);obtain⟨x,L⟩:∃x,x∈Nb a g [b]:=List.exists_mem_of_length_pos (by have:1<=(Nb a g [b]).length:=B;lia);unfold Nb at L;obtain⟨G,i⟩:=ji.mp L;have i:a x b=ah:=by simpa using i
    obtain⟨o,l,rfl⟩:=List.append_of_mem G;have K:(o++x::l).Perm (x::(o++l)):=IA;obtain⟨u,rest,H,D⟩:=F m.length (by simp at hn;lia) m (o++l) rfl λs t p=>by
     by_cases w:s=[]
     .subst w;simp
     .have N:(b::m).Perm (s++(b::t)):=(p.cons b).trans IA.symm;have h3:=A s (b::t) N;have h4:(Nb a (o++x::l) s).length≠s.length:=λz=>c ⟨s,b::t,N,w,by simp,z⟩;have h5:(Nb a (o++x::l) s).length<=(Nb a (o++l) s).length+1:=by unfold Nb;rw[(K.filter _).length_eq,mf];split <;> simp
      lia
    exact⟨x::u,rest,.cons i H,K.trans (D.cons x)⟩
theorem sub_paired{Q:d->f->Prop}:∀{s i:List f}{g:List d},s.Sublist i->d7 Q g i->∃c,c.Sublist g/\d7 Q c s:=by
 intro s i g h
 induction h generalizing g with
 |slnil=>intro p;cases p;exact⟨[],.slnil,.nil⟩
 |cons b _ j=>
  intro p;cases p with
  |cons r t=>obtain⟨c,m,l⟩:=j t;exact⟨c,m.cons _,l⟩
 |cons_cons b _ j=>
  intro p;cases p with
  |cons r t=>obtain⟨c,m,l⟩:=j t;exact⟨_::c,m.cons_cons _,.cons r l⟩
theorem hall_iff{i:List d}{g:List f}(G:i.length=g.length):(∀s,s.Sublist g->s.length<=(Nb a i s).length)↔∃c,i.Perm c/\d7 (λx b=>a x b=ah) c g:=by
 constructor
 .intro h;have E:HC a i g:=λs t D=>by obtain⟨B,n,F⟩:=List.exists_perm_sublist (List.sublist_append_left s t) D.symm;have:=h B F;rw[<-n.length_eq];refine cq this (l9 ?_);unfold Nb;congr 1;refine zd λx _=>?_;rw[jG,jM,jM];exact⟨λ⟨y,o,q⟩=>⟨y,n.mem_iff.mp o,q⟩,λ⟨y,o,q⟩=>⟨y,n.mem_iff.mpr o,q⟩⟩
  obtain⟨c,rest,j,v⟩:=hall g.length g i rfl E;have m:=v.length_eq;have A:=mV j;rw[dD]at m;obtain rfl:rest=[]:=me.mp ∅;exact⟨c,by simpa using v,j⟩
 .rintro⟨c,p,h⟩ s w;obtain⟨u,j,z⟩:=sub_paired w h;have m:(Nb a i s).length=(Nb a c s).length:=(p.filter _).length_eq;have A:u.filter (λx=>s.any (a x))=u:=by
   clear j m p h w;refine oJ.mpr λx l=>?_
   induction z with
   |nil=>cases l
   |cons r _ C=>
    rcases bI.mp l with rfl|l
    .rw[lw,r];rfl
    .rw[lw,C l,Bool.or_true]
  rw[m,<-mV z,<-A];exact(j.filter _).length_le
end
section
variable{a:Ad}
theorem in_tup(x:Tx)(k:List Tx):gz ak (.str x) (.tup (am k))=aa (.bl (decide (x∈k))):=by
 show(dX (.str x)).bind (λv=>(jA (am k)).map λb=>PV.bl (ak^^iJ v b))=_;rw[xn];show aa (PV.bl (ak^^iJ (tV x) (b0 k)))=_;rw[vJ];congr 2;unfold iJ b0;rw[vI,jG,jM,decide_eq_true_eq];constructor
 .rintro⟨z,d,c⟩;have:x=z:=by simpa[Bm,eq_comm]using c
  rw[this];exact d
 .intro h;exact⟨x,h,by simp[Bm]⟩
end
def fitB:Tx->Tx->Bool
 |[],[]=>ah
 |c::x,d::b=>(decide (d=46)||decide (d=c))&&fitB x b
 |_,_=>ak
theorem fitB_iff:∀{x b:Tx},(∀c∈x,c∈bF)->(fitB x b=ah↔Fit x b)
 |[],[],_=>by simp[fitB,Fit];exact .nil
 |[],d::b,_=>by
  constructor
  .intro h;cases h
  .intro h;cases h
 |c::x,[],_=>by
  constructor
  .intro h;cases h
  .intro h;cases h
 |c::x,d::b,h=>by
  have g:=fitB_iff (x:=x) (b:=b) λe i=>h e (by simp[i]);show((decide (d=46)||decide (d=c))&&fitB x b)=ah↔_;rw[iT,g,yU,decide_eq_true_iff,decide_eq_true_iff];constructor
  .rintro⟨a,j⟩;refine .cons (opts_mem.mpr ?_) j;by_cases f:d=46
   .exact .inl ⟨f,h c (by simp)⟩
   .exact .inr ⟨f,(a.resolve_left f).symm⟩
  .intro p;cases p with
   |cons r t=>
    refine⟨?_,t⟩;rcases opts_mem.mp r with⟨a,_⟩|⟨_,a⟩
    .exact .inl a
    .exact .inr a.symm
def badA(x b:Tx)(i:Nat):Bool:=!(decide (b.getD i 0=46)||decide (b.getD i 0=x.getD i 0))
theorem bad_none:∀{x b:Tx},x.length=b.length->(((cJ b.length).filter (badA x b)).isEmpty=fitB x b)
 |[],[],_=>rfl
 |[],d::b,h=>by simp at h
 |c::x,[],h=>by simp at h
 |c::x,d::b,h=>by
  have a:=bad_none (x:=x) (b:=b) (by simpa using h);show((cJ (b.length+1)).filter (badA (c::x) (d::b))).isEmpty=((decide (d=46)||decide (d=c))&&fitB x b)
  rw[yR,mf,nv];have e:(badA (c::x) (d::b) ∘ Nat.succ)=badA x b:=by funext i;rfl
  rw[e];have f:badA (c::x) (d::b) 0=!(decide (d=46)||decide (d=c)):=rfl;rw[f];cases g:(decide (d=46)||decide (d=c))with
  |true=>simp only[zc,jK,if_false,oB,List.isEmpty_map];exact a
  |false=>simp
section
variable{a:Ad}
theorem ix_str{x:Tx}{k:Nat}(h:k<x.length):aW (.str x) (.int k)=aa (.str [x.getD k 0]):=by show(fI x (k:Nat)).map (λc=>PV.str [c])=_;rw[uO ∅ ∅];simp[h]
theorem in_two(c d e:Nat):gz ah (.str [c]) (.tup [.str [d],.str [e]])=aa (.bl (!(decide (c=d)||decide (c=e)))):=by
 have h:=in_tup [c] [[d],[e]];have g:gz ah (.str [c]) (.tup (am [[d],[e]]))=aa (.bl (!decide ([c]∈[[d],[e]]))):=by have j:gz ah (.str [c]) (.tup (am [[d],[e]]))=(dX (.str [c])).bind (λv=>(jA (am [[d],[e]])).map λf=>PV.bl (ah^^iJ v f)):=rfl;have i:gz ak (.str [c]) (.tup (am [[d],[e]]))=(dX (.str [c])).bind (λv=>(jA (am [[d],[e]])).map λf=>PV.bl (ak^^iJ v f)):=rfl;rw[i,xn]at h;rw[j,xn];have b:(ak^^iJ (tV [c]) (b0 [[d],[e]]))=decide ([c]∈[[d],[e]]):=PV.bl.inj (cQ h);rw[vJ]at b;show aa (PV.bl (ah^^iJ (tV [c]) (b0 [[d],[e]])))=_;rw[b,zb]
 have b:gz ah (.str [c]) (.tup [.str [d],.str [e]])=aa (.bl (!decide ([c]∈[[d],[e]]))):=g;rw[b];simp
theorem fits_eq(x b:Tx)(o:x.length=b.length)(h:b.length<=1000):mT a [↥x,↥b]=.ok (.val (.bl (fitB x b))) [↥x,↥b]:=by
 have f:=iE (cap:=[1,0]) (dt:=(dB (d2 (gz ah) (d2 aW (dV 1) (dV 0)) (dL cW (aB (dC (.str [46])) (aB (d2 aW (dV 2) (dV 0)) (aD))))))) (de:=dV 0) (ε:=[↥x,↥b]) (λv=>match v with|.int k=>badA x b k.toNat|_=>ak) (λv=>v) ((cJ b.length).map λ(k:Nat)=>PV.int (k:Nat))
  (by
   intro v n;obtain⟨k,p,rfl⟩:=cb.mp n;have m:=vn.mp p;have i:=ix_str (x:=b) m;have g:=ix_str (x:=x) (k:=k) ∅;have d:=in_two (b.getD k 0) 46 (x.getD k 0);have c:badA x b ((k:Nat):Int).toNat=!(decide (b.getD k 0=46)||decide (b.getD k 0=x.getD k 0)):=rfl;dsimp only;rw[c];generalize (!(decide (b.getD k 0=46)||decide (b.getD k 0=x.getD k 0)))=B at d;generalize ((k:Nat):Int)=KI at i g;generalize b.getD k 0=bk at i d;generalize x.getD k 0=xk at g d;refine⟨?_,λ_=>?_⟩
   .simp![bZ,cf,bC,i,g,d]
   .simp![bZ,cf,bC]) []
 have q:(((cJ b.length).map λ(k:Nat)=>PV.int (k:Nat)).filter (λv=>match v with|.int k=>badA x b k.toNat|_=>ak)).map (λv=>v)=(((cJ b.length).filter (badA x b)).map λ(k:Nat)=>((k:Nat):Int)).map .int:=by rw[sP,nv,dQ];rfl
 rw[f_,q]at f;have l:bv [.str b]=aa (.int (b.length:Nat)):=by simp[bv]
 have j:jY [.int (b.length:Nat)]=aa ((cJ b.length).map λ(k:Nat)=>PV.int (k:Nat)):=by rw[uR ∅];simp[eV]
 have c:=Ei (((cJ b.length).filter (badA x b)).map λ(k:Nat)=>((k:Nat):Int));rw[List.isEmpty_map,bad_none o]at c;generalize fitB x b=F at c;generalize (((cJ b.length).filter (badA x b)).map λ(k:Nat)=>((k:Nat):Int)).map PV.int=L at f c;generalize ((cJ b.length).map λ(k:Nat)=>PV.int (k:Nat))=RR at f j;generalize ((b.length:Nat):Int)=BL at l j;simp![mT,yay,bP,l,j,f,c]
def subS(S:List (List Tx))(b:Tx):List (List Tx):=S++S.map λs=>s++[b]
def subsF(b:List Tx):List (List Tx):=b.foldl subS [[]]
theorem subsF_len(c:List Tx):∀S:List (List Tx),(c.foldl subS S).length=S.length*2^c.length:=by
 induction c with
 |nil=>intro S;simp
 |cons b c d=>intro S;rw[g7,d];simp only[subS,dD,b7,eU,Nat.pow_succ];rw[<-Nat.two_mul,Nat.mul_comm 2,Nat.mul_assoc,Nat.mul_comm 2]
theorem subsF_mem(f:List Tx):∀(S:List (List Tx)) (s:List Tx),s∈f.foldl subS S↔∃r∈S,∃t,t.Sublist f/\s=r++t:=by
 induction f with
 |nil=>
  intro S s;constructor
  .intro h;exact⟨s,h,[],.slnil,by simp⟩
  .rintro⟨r,d,t,c,rfl⟩;rw[List.sublist_nil.mp c];simpa using d
 |cons b f g=>
  intro S s;rw[g7,g];constructor
  .rintro⟨r,d,t,c,rfl⟩;rcases iP.mp d with d|d
   .exact⟨r,d,t,c.cons b,rfl⟩
   .obtain⟨q,i,rfl⟩:=cb.mp d;exact⟨q,i,b::t,c.cons_cons b,by simp⟩
  .rintro⟨r,d,t,c,rfl⟩;cases c with
   |cons _ c=>exact⟨r,mX _ d,t,c,rfl⟩
   |cons_cons _ c=>exact⟨r++[b],ir _ (cb.mpr ⟨r,d,rfl⟩),_,c,by simp⟩
theorem subs_mem{b s:List Tx}:s∈subsF b↔s.Sublist b:=by
 unfold subsF;rw[subsF_mem];constructor
 .rintro⟨r,c,t,d,rfl⟩;simp at c;subst c;exact d
 .intro h;exact⟨[],by simp,s,h,rfl⟩
def lfit(b s:List Tx):List Tx:=Nb fitB b s
def okS(b s:List Tx):Bool:=decide (s.length<=(lfit b s).length)
theorem okS_all{w:Nat}{j d:List Tx}(g:Good bF w d)(l:d.Pairwise (λa b=>cZ a b=ah))(o:d.length=j.length):(subsF j).all (okS d)=decide (d∈waysF j):=by
 rw[jG,l_,decide_eq_true_iff,waysF_mem];have q:(∀s∈subsF j,okS d s=ah)↔∀s,s.Sublist j->s.length<=(Nb fitB d s).length:=by
  constructor
  .intro h s l;exact of_decide_eq_true (h s (subs_mem.mpr l))
  .intro h s l;exact decide_eq_true (h s (subs_mem.mp l))
 rw[q,hall_iff o];constructor
 .rintro⟨f,p,h⟩;refine⟨f,by rw[<-qZ p,pU l],?_⟩;have m:∀x∈f,∀c∈x,c∈bF:=λx i=>g.abc x (p.mem_iff.mpr i);clear p q o
  induction h with
  |nil=>exact .nil
  |cons r _ n=>exact .cons ((fitB_iff (m _ (by simp))).mp r) (n λx i=>m x (by simp[i]))
 .rintro⟨f,e,h⟩;have p:d.Perm f:=by rw[e];exact eI f
  refine⟨f,p,?_⟩;have m:∀x∈f,∀c∈x,c∈bF:=λx i=>g.abc x (p.mem_iff.mpr i);clear p q e o
  induction h with
  |nil=>exact .nil
  |cons r _ n=>exact .cons ((fitB_iff (m _ (by simp))).mpr r) (n λx i=>m x (by simp[i]))
theorem fo_comp{w:Nat}(x:Tx)(s:List Tx)(j:x.length=w)(l:w<=4)(f:∀b∈s,b.length=w):gW [0] (dB (br (aU (mT a) (gV (dV 1) (gV (dV 0) (Pu.bW)))))) (dV 0) (am s) [] [↥x,.val (.lst (am s))]=.ok (am (s.filter (fitB x))) [↥x,.val (.lst (am s))]:=by
 have g:=iE (cap:=[0]) (dt:=(dB (br (aU (mT a) (gV (dV 1) (gV (dV 0) (Pu.bW))))))) (de:=dV 0) (ε:=[↥x,.val (.lst (am s))]) (λv=>match v with|.str b=>fitB x b|_=>ak) (λv=>v) (am s)
  (by
   intro v d;obtain⟨b,i,rfl⟩:=cb.mp d;have h:=f b i;have c:=fits_eq (a:=a) x b ∅ ∅;dsimp only;generalize fitB x b=F at c;generalize am s=SP;refine⟨?_,λ_=>?_⟩
   .simp![bZ,cf,bC,c]
   .simp![bZ,cf,bC]) []
 rw[g];congr 1;rw[f_,sP];unfold am;rw[nv];rfl
theorem fw_comp{w:Nat}(c s:List Tx)(u:w<=4)(p:∀x∈c,x.length=w)(o:∀b∈s,b.length=w)(i h g:Slot)(y:PV)(f:Slot):gW [4] (dB (d2 (Pu.eqT ah) (dF (bP [0] (aT (dV 1)) (dB (br (aU (mT a) (gV (dV 1) (gV (dV 0) (Pu.bW)))))) (dV 0))) (dF (dL dE (aD))))) (dV 0) (am c) [] [i,h,g,.val y,.val (.lst (am s)),f]=.ok (am (lfit c s)) [i,h,g,.val y,.val (.lst (am s)),f]:=by
 have r:=iE (cap:=[4]) (dt:=(dB (d2 (Pu.eqT ah) (dF (bP [0] (aT (dV 1)) (dB (br (aU (mT a) (gV (dV 1) (gV (dV 0) (Pu.bW)))))) (dV 0))) (dF (dL dE (aD)))))) (de:=dV 0) (ε:=[i,h,g,.val y,.val (.lst (am s)),f]) (λv=>match v with|.str x=>s.any (fitB x)|_=>ak) (λv=>v) (am c)
  (by
   intro v n;obtain⟨x,m,rfl⟩:=cb.mp n;have j:=fo_comp (a:=a) x s (p x m) u o;have d:=eqT_nil ah (s.filter (fitB x));have q:(ah^^decide (s.filter (fitB x)=[]))=s.any (fitB x):=by rw[zb,jG,jM];simp
   rw[q]at d;have l:dN (.lst (am s))=aa (am s):=rfl;dsimp only;generalize s.any (fitB x)=B at d;generalize am (s.filter (fitB x))=FS at j d;generalize am s=SP at j l;refine⟨?_,λ_=>?_⟩
   .simp![bZ,cf,bC,bP,aT,l,j,d]
   .simp![bZ,cf,bC]) []
 rw[r];congr 1;rw[f_,sP];unfold am lfit Nb;rw[nv];rfl
def clB(a:Ad):ai->R aM:=aG (bQ 5 (dF (bP [4] (aT (d2 aW (dV 1) (dC (.int 1)))) (dB (d2 (Pu.eqT ah) (dF (bP [0] (aT (dV 1)) (dB (br (aU (mT a) (gV (dV 1) (gV (dV 0) (Pu.bW)))))) (dV 0))) (dF (dL dE (aD))))) (dV 0))))
 (cu (dB (d2 (c7 λi j=>decide (i<j)) (dL bv (aB (dV 5) (aD))) (dL bv (aB (dV 4) (aD))))) (bY (dC (.bl ak))) (ez))
theorem clB_eq{w:Nat}(c s:List Tx)(q:w<=4)(p:∀x∈c,x.length=w)(o:∀b∈s,b.length=w)(g f:Slot)(v:Nat)(y:PV)(m:Slot):clB a [g,.val (aH v c),f,.val y,.val (.lst (am s)),m]=.ok (if okS c s=ah then .next else .ret (.val (.bl ak))) [g,.val (aH v c),f,.val y,.val (.lst (am s)),.val (.lst (am (lfit c s)))]:=by
 have d:=fw_comp (a:=a) c s q p o g (.val (aH v c)) f y m;have l:aW (aH v c) (.int 1)=aa (.tup (am c)):=rfl;have n:dN (.tup (am c))=aa (am c):=rfl;have j:bv [.lst (am (lfit c s))]=aa (.int ((lfit c s).length:Nat)):=by simp[bv,ja]
 have i:bv [.lst (am s)]=aa (.int (s.length:Nat)):=by simp[bv,ja]
 have h:decide (((lfit c s).length:Int)<(s.length:Int))=!okS c s:=by unfold okS;rw[<-decide_not,decide_eq_decide];lia
 generalize okS c s=B at h;generalize (((lfit c s).length:Nat):Int)=L1 at j h;generalize ((s.length:Nat):Int)=L2 at i h;generalize am (lfit c s)=FF at d j;generalize am s=SS at d i;generalize am c=LL at d l n;generalize aH v c=V at d l;unfold clB;refine(cC (ε1:=[g,.val V,f,.val y,.val (.lst SS),.val (.lst FF)]) (by simp![bP,aT,l,n,d])).trans ?_;cases B <;> simp![j,i,h]
theorem cl_loop{w:Nat}(d:List Tx)(u:w<=4)(q:∀x∈d,x.length=w)(i h:Slot)(v:Nat)(y:PV):∀(S:List (List Tx)) (g f:Slot),(∀s∈S,∀b∈s,b.length=w) -> ∃j l,dZ 4 (clB a) (lstsP S) [i,.val (aH v d),h,.val y,g,f]=.ok (if S.all (okS d)=ah then .next else .ret (.val (.bl ak))) [i,.val (aH v d),h,.val y,j,l]:=by
 intro S
 induction S with
 |nil=>intro g f _;exact⟨g,f,rfl⟩
 |cons s S o=>
  intro g f n;have A:=clB_eq (a:=a) d s u q (n s (by simp)) i h v y f;have e:dZ 4 (clB a) (lstsP (s::S)) [i,.val (aH v d),h,.val y,g,f]=(match clB a [i,.val (aH v d),h,.val y,.val (.lst (am s)),f]with
   |.ok .next c=>dZ 4 (clB a) (lstsP S) c
   |.ok .cont c=>dZ 4 (clB a) (lstsP S) c
   |.ok .brk c=>.ok .next c
   |r=>r):=rfl
  rw[e,A];cases m:okS d s with
  |true=>obtain⟨j,l,z⟩:=o (.val (.lst (am s))) (.val (.lst (am (lfit d s)))) λt p=>n t (by simp[p]);refine⟨j,l,?_⟩;simp only[if_true,oz,m,oB];exact z
  |false=>refine⟨.val (.lst (am s)),.val (.lst (am (lfit d s))),?_⟩;simp only[jK,if_false,oz,m,By]
theorem su_comp(S:List (List Tx))(b:Tx)(h:∀s∈S,s.length<=50)(g f d c:Slot):gW [3] cL (d2 bj (dV 0) (dF (dL dE (aB (dV 1) (aD))))) (lstsP S) [] [g,f,.val (.lst (lstsP S)),↥b,d,c]=.ok (lstsP (S.map λs=>s++[b])) [g,f,.val (.lst (lstsP S)),↥b,d,c]:=by
 have j:=iE (cap:=[3]) (dt:=cL) (de:=(d2 bj (dV 0) (dF (dL dE (aB (dV 1) (aD)))))) (ε:=[g,f,.val (.lst (lstsP S)),↥b,d,c]) (λ_=>ah) (λx=>match x with|.lst l=>.lst (l++[.str b])|_=>.non) (lstsP S)
  (by
   intro v m;obtain⟨s,n,rfl⟩:=cb.mp m;have o:=h s n;have i:bj (.lst (am s)) (.lst [.str b])=aa (.lst (am s++[.str b])):=by
    have:(am s).length+1<=bd:=by rw[ja];unfold bd;lia
    simp[bj,this]
   dsimp only;generalize lstsP S=SS;generalize am s++[.str b]=RX at i;generalize am s=RP at i;refine⟨by simp![bZ,cf,bC,cL],λ_=>?_⟩;simp![bZ,cf,bC,i]) []
 rw[f_,oJ.mpr (by simp)]at j;rw[j];congr 1;simp[lstsP,am,dQ,sF]
def suB:ai->R aM:=bQ 2 (d2 bj (dV 2) (dF (bP [3] (aT (dV 2)) (cL) (d2 bj (dV 0) (dF (dL dE (aB (dV 1) (aD))))))))
theorem su_for(d:List Tx)(q:d.length<=9)(V W c:Slot):∃j,dZ 3 suB (am d) [V,W,.val (.lst (lstsP [[]])),c,.none,.none]=.ok .next [V,W,.val (.lst (lstsP (subsF d))),j,.none,.none]/\(d≠[]->∃y,j=.val y):=by
 obtain⟨z,v,j,p,rest,f,A,rfl,n⟩:=lg (i:=3) (db:=suB)
  (I:=λr m=>∃(c:Slot) (p rest:List Tx),d=p++rest/\r=am rest/\m=[V,W,.val (.lst (lstsP (subsF p))),c,.none,.none]/\(p≠[]->∃y,c=.val y))
  (by
   rintro x r m ⟨c,p,rest,f,o,rfl,_⟩;cases rest with
   |nil=>cases o
   |cons b rest=>
    have u:x::r=.str b::am rest:=o;simp only[lB]at u;obtain⟨rfl,rfl⟩:=u;have D:p.length<=9:=by rw[f]at q;simp at q;lia
    have F:∀s∈subsF p,s.length<=50:=λs B=>cq (subs_mem.mp B).length_le ∅;have l:=su_comp (subsF p) b F V W .none .none;have e:subS (subsF p) b=subsF (p++[b]):=by unfold subsF;rw[yW];rfl
    have G:(subsF p).length<=512:=by have:=subsF_len p [[]];unfold subsF;rw[this];have:2^p.length<=2^9:=za (by decide) D;simp;lia
    have g:bj (.lst (lstsP (subsF p))) (.lst (lstsP ((subsF p).map λs=>s++[b])))=aa (.lst (lstsP (subsF (p++[b])))):=by
     have C:(lstsP (subsF p)).length+(lstsP ((subsF p).map λs=>s++[b])).length<=bd:=by rw[lstsP_len,lstsP_len,b7];unfold bd;lia
     rw[<-e];unfold subS;rw[lstsP_app];simp only[bj,C,if_true]
    refine⟨_,?_,↥b,p++[b],rest,by rw[f];simp,rfl,rfl,λ_=>⟨_,rfl⟩⟩;have w:dN (.lst (lstsP (subsF p)))=aa (lstsP (subsF p)):=rfl;generalize lstsP (subsF (p++[b]))=R1 at g;generalize lstsP ((subsF p).map λs=>s++[b])=R2 at g l;generalize lstsP (subsF p)=R0 at g l w;simp![suB,bP,aT,w,l,g])
  (am d) [V,W,.val (.lst (lstsP (subsF []))),c,.none,.none] ⟨c,[],d,rfl,rfl,rfl,λh=>absurd rfl h⟩
 have E:rest=[]:=by cases rest with|nil=>rfl|cons=>cases A
 subst E;rw[gG]at f;rw[<-f]at v n;exact⟨j,v,n⟩
theorem d_law_clears_def:yaw a=aG (cu (kh (dB (d2 (Pu.eqT ah) (d2 aW (dV 0) (dC (.int 0))) (d2 aW (dV 1) (dC (.int 0))))) (dB (d2 (Pu.eqT ah) (dL bv (aB (d2 aW (dV 0) (dC (.int 1))) (aD))) (dL bv (aB (d2 aW (dV 1) (dC (.int 1))) (aD)))))) (bY (dC (.bl ak))) (ez)) (aG (bQ 2 (dF (dL dE (aB (dF (dL dE (aD))) (aD))))) (aG (λb=>cK (bU 3 (aT (d2 aW (dV 0) (dC (.int 1)))) suB b)) (aG (λb=>cK (bU 4 (aT (dV 2)) (clB a) b)) (bY (dC (.bl ah)))))):=rfl
theorem lclears_eq{w v:Nat}{c d:List Tx}(F:Good ge w c)(M:w<=4)(g:Good bF v d)(D:d.Pairwise (λa b=>cZ a b=ah)):jD a [.val (aH w c),.val (aH v d)]=.ok (.val (.bl (decide (w=v)&&decide (d∈waysF c)))) [.val (aH w c),.val (aH v d)]:=by
 have m:aW (aH w c) (.int 0)=aa (.int w):=rfl;have j:aW (aH v d) (.int 0)=aa (.int v):=rfl;have l:aW (aH w c) (.int 1)=aa (.tup (am c)):=rfl;have q:aW (aH v d) (.int 1)=aa (.tup (am d)):=rfl;have p:bv [.tup (am c)]=aa (.int (c.length:Nat)):=by simp[bv,ja]
 have o:bv [.tup (am d)]=aa (.int (d.length:Nat)):=by simp[bv,ja]
 have i:=xK ah (w:Nat) (v:Nat);have h:=xK ah (c.length:Nat) (d.length:Nat);by_cases H:w=v/\c.length=d.length
 .obtain⟨rfl,bp⟩:=H;rw[decide_eq_true rfl]at i;rw[decide_eq_true ∅]at h;have E:=F.few;have N:=F.some;obtain⟨Z,n,S⟩:=su_for c E (.val (aH w c)) (.val (aH w d)) .none;obtain⟨y,rfl⟩:=S (by rintro rfl;simp at N);obtain⟨C,A,f⟩:=cl_loop (a:=a) d M g.len (.val (aH w c)) (.val (.lst (lstsP (subsF c)))) w y (subsF c) .none .none λs D b X=>F.len b ((subs_mem.mp D).subset X);rw[okS_all g D ∅]at f;rw[decide_eq_true rfl,oB];have K:dN (.tup (am c))=aa (am c):=rfl;have I:dN (.lst (lstsP (subsF c)))=aa (lstsP (subsF c)):=rfl;have Q:lstsP [[]]=[.lst []]:=rfl;rw[Q]at n;have u:yaw a [.val (aH w c),.val (aH w d),.none,.none,.none,.none]=.ok (.ret (.val (.bl (decide (d∈waysF c))))) [.val (aH w c),.val (aH w d),.val (.lst (lstsP (subsF c))),.val y,C,A]:=by
   rw[d_law_clears_def];generalize decide (d∈waysF c)=B at f ⊢;generalize lstsP (subsF c)=SS at n f I ⊢;generalize ((w:Nat):Int)=WI at m j i;generalize ((c.length:Nat):Int)=L1 at p h;generalize ((d.length:Nat):Int)=L2 at o h;generalize am c=MP at l p n K;generalize am d=LP at q o;generalize aH w c=V at m l n f ⊢;generalize aH w d=W at j q n f ⊢;refine(cC (ε1:=[.val V,.val W,.none,.none,.none,.none]) (by simp![m,j,l,q,p,o,i,h])).trans ?_;refine(cC (ε1:=[.val V,.val W,.val (.lst [.lst []]),.none,.none,.none]) (by simp![])).trans ?_;refine(cC (ε1:=[.val V,.val W,.val (.lst SS),.val y,.none,.none]) (by simp![cK,bU,aT,l,K,n])).trans ?_;have J:bU 4 (aT (dV 2)) (clB a) [.val V,.val W,.val (.lst SS),.val y,.none,.none]=dZ 4 (clB a) SS [.val V,.val W,.val (.lst SS),.val y,.none,.none]:=by unfold bU aT dV;simp only[BR,HY,R.bind_ok,I,bV]
   cases B with
   |true=>simp only[if_true]at f;refine(cC (ε1:=[.val V,.val W,.val (.lst SS),.val y,C,A]) (by show cK (bU _ _ _ _)=_;rw[J,f];rfl)).trans ?_;simp![]
   |false=>
    simp only[jK,if_false]at f;have Y:(λL=>cK (bU 4 (aT (dV 2)) (clB a) L)) [.val V,.val W,.val (.lst SS),.val y,.none,.none]=.ok (.ret (.val (.bl ak))) [.val V,.val W,.val (.lst SS),.val y,C,A]:=by show cK (bU _ _ _ _)=_;rw[J,f];rfl
    unfold aG;rw[Y]
  generalize decide (d∈waysF c)=B at u;generalize aH w c=V at u;generalize aH w d=W at u;simp[jD,bR,fU,bO,dP,u,back,gA,aO,R.bind]
 .have T:(decide (w=v)&&decide (d∈waysF c))=ak:=by
   by_cases r:w=v
   .have G:c.length≠d.length:=λz=>H ⟨r,z⟩;have:d∉waysF c:=λz=>G ((ways_shape z).1).symm;rw[decide_eq_false this,Bool.and_false]
   .rw[decide_eq_false r,By]
  rw[T];have x:(!decide (w=v)||!decide (c.length=d.length))=ah:=by
   by_cases r:w=v
   .have G:c.length≠d.length:=λz=>H ⟨r,z⟩;simp[r,G]
   .simp[r]
  have P:(ah^^decide (((w:Nat):Int)=(v:Nat)))=!decide (w=v):=by rw[zb];congr 1;rw[decide_eq_decide];lia
  have O:(ah^^decide (((c.length:Nat):Int)=(d.length:Nat)))=!decide (c.length=d.length):=by rw[zb];congr 1;rw[decide_eq_decide];lia
  rw[P]at i;rw[O]at h;generalize (!decide (w=v))=B0 at i x;generalize (!decide (c.length=d.length))=B1 at h x;generalize ((w:Nat):Int)=WI at m i;generalize ((v:Nat):Int)=VI at j i;generalize ((c.length:Nat):Int)=L1 at p h;generalize ((d.length:Nat):Int)=L2 at o h;generalize am c=MP at l p;generalize am d=LP at q o;generalize aH w c=V at m l;generalize aH v d=W at j q;cases B0 with
  |true=>simp![jD,yaw,m,j,i]
  |false=>simp at x;subst x;simp![jD,yaw,m,j,l,q,p,o,i,h]
end
section
variable{a:Ad}
def thrT(w:Nat)(b:List Tx):List Tx:=(bD (w-1+b.length)).filter λt=>decide (aX (ba t w)∈waysF b)
theorem thr_perm{w:Nat}{i:List Tx}(b:Blur w i):((viewsC w i).flatMap (eh w)).Perm (thrT w i):=by
 have f:∀k∈viewsC w i,Good bF w k/\k.Pairwise (λa b=>cZ a b=ah)/\k∈waysF i:=λk d=>by have h:=(pL _).mem_iff.mp (ji.mp d).1;exact⟨(ways_good b h).1,(ways_good b h).2,h⟩
 have l:∀{k:List Tx},Good bF w k->∀x∈k,x.length=w/\∀c∈x,c∈bF:=λg x n=>⟨g.len x n,g.abc x n⟩
 have v:((viewsC w i).flatMap (eh w)).Nodup:=by refine List.pairwise_flatMap.mpr ⟨λk d=>OE b.w1 (f k d).1.some (l (f k d).1),?_⟩;have r:(viewsC w i).Nodup:=(((pL _).nodup_iff).mpr (waysF_nodup i)).filter _;refine r.imp_of_mem λ{k j} d u B x n y A e=>B ?_;subst e;have q:=(zt b.w1 (f k d).1.some (l (f k d).1) n).2;rw[<-(qP b.w1 (f k d).1.some (l (f k d).1) (f k d).2.1 q).mp n,<-(qP b.w1 (f j u).1.some (l (f j u).1) (f j u).2.1 q).mp A]
 refine(List.perm_ext_iff_of_nodup v ((xx _).filter _)).mpr λt=>?_;rw[vK,ji,kq,decide_eq_true_iff];constructor
 .rintro⟨k,d,m⟩;obtain⟨q,p⟩:=zt b.w1 (f k d).1.some (l (f k d).1) m;have o:=(qP b.w1 (f k d).1.some (l (f k d).1) (f k d).2.1 p).mp m;exact⟨⟨by rw[q,(ways_shape (f k d).2.2).1],p⟩,by rw[o];exact(f k d).2.2⟩
 .rintro⟨⟨_,p⟩,o⟩;obtain⟨g,s⟩:=ways_good b o;have m:=(qP b.w1 g.some (l g) s p).mpr rfl;refine⟨_,ji.mpr ⟨(pL _).mem_iff.mpr o,?_⟩,m⟩;unfold hasT;rw[decide_eq_true_iff];intro z;rw[z]at m;cases m
theorem thr_sort{w:Nat}{c:List Tx}(b:Blur w c):aX ((viewsC w c).flatMap (eh w))=thrT w c:=(rV (thr_perm b).symm ((zE _).filter _)).symm
theorem thr_len{w:Nat}{c:List Tx}(b:Blur w c):(thrT w c).length<=531441:=by have f:=b.w4;have d:=b.g.few;refine cq (y_ _ _) ?_;rw[u_];exact GG ∅
theorem th_loop{w:Nat}{c:List Tx}(b:Blur w c)(f:Slot):∃d,dZ 2 (jy 1 (br (aU (rZ a) (gV (dV 2) (Pu.bW))))) (vwsP w (viewsC w c)) [.val (aH w c),.own (.lst []),f]=.ok .next [.val (aH w c),.own (.lst (am ((viewsC w c).flatMap (eh w)))),d]:=by
 have B:((viewsC w c).flatMap (eh w)).length<=531441:=by rw[(thr_perm b).length_eq];exact thr_len b
 obtain⟨u,q,d,p,rest,h,v,rfl⟩:=lg (i:=2) (db:=(jy 1 (br (aU (rZ a) (gV (dV 2) (Pu.bW))))))
  (I:=λr m=>∃(f:Slot) (p rest:List (List Tx)),viewsC w c=p++rest/\r=vwsP w rest/\m=[.val (aH w c),.own (.lst (am (p.flatMap (eh w)))),f])
  (by
   rintro x r m ⟨f,p,rest,h,n,rfl⟩;cases rest with
   |nil=>cases n
   |cons k rest=>
    have o:x::r=aH w k::vwsP w rest:=n;simp only[lB]at o;obtain⟨rfl,rfl⟩:=o;have y:k∈viewsC w c:=by rw[h];simp
    obtain⟨g,s⟩:=ways_good b ((pL _).mem_iff.mp (ji.mp y).1);have l:=QJ (a:=a) g b.w1 b.w4 s;have j:(am (p.flatMap (eh w))).length+(am (eh w k)).length<=bd:=by rw[ja,ja];rw[h,vL,oH,dD,dD]at B;unfold bd;lia
    refine⟨[.val (aH w c),.own (.lst (am ((p++[k]).flatMap (eh w)))),.val (aH w k)],?_,.val (aH w k),p++[k],rest,by rw[h];simp,rfl,rfl⟩;have z:am ((p++[k]).flatMap (eh w))=am (p.flatMap (eh w))++am (eh w k):=by simp[am]
    rw[z];generalize am (eh w k)=Y at l j;generalize am (p.flatMap (eh w))=L at j;generalize aH w k=K at l;generalize aH w c=V;simp![jy,l,j])
  (vwsP w (viewsC w c)) [.val (aH w c),.own (.lst (am (([]:List (List Tx)).flatMap (eh w)))),f] ⟨f,[],viewsC w c,rfl,rfl,rfl⟩
 have A:rest=[]:=by cases rest with|nil=>rfl|cons=>cases v
 subst A;rw[gG]at h;rw[<-h]at q;exact⟨d,q⟩
theorem through_eq{w:Nat}{c:List Tx}(b:Blur w c):yh a [.val (aH w c)]=.ok (.val (.lst (am (thrT w c)))) [.val (aH w c)]:=by have h:=cleared_eq (a:=a) b;obtain⟨j,g⟩:=th_loop (a:=a) b .none;have f:=EQ (ls:=(viewsC w c).flatMap (eh w)) (by rw[(thr_perm b).length_eq];have:=thr_len b;lia);rw[thr_sort b]at f;have i:dN (.lst (vwsP w (viewsC w c)))=aa (vwsP w (viewsC w c)):=rfl;have d:Gj (.lst (am (thrT w c)))=ah:=Mc _;generalize am (thrT w c)=RT at f d;generalize am ((viewsC w c).flatMap (eh w))=RF at g f;generalize vwsP w (viewsC w c)=VS at g h i;generalize aH w c=V at g h;simp[yh,yaG,aG,cu,dB,d2,d1,dV,dC,dL,dF,aB,aD,bY,o4,bQ,cV,aU,gV,gO,Pu.bW,fj,eZ,cx,eM,fH,R.bind,aO,bR,fU,bO,back,gA,nK,iK,zP,yo,xO,br,i_,dE,cW,ez,yv,l0,GL,iX,ym,o5,kh,my,FH,pB,c7,i6,rH,lW,uT,dP,m8,bU,aT,h,i,g,f,d]
end
end Sh
namespace K09
open L2 Pu Mx Sh
section
variable{a:Ad}
theorem EX(b:Bool)(c d:List Tx):Pu.eqT b (.lst (am c)) (.lst (am d))=aa (.bl (b^^decide (c=d))):=by show(if jf (.lst (am c))<=8 then(gC (am c) (am d)).map (λk=>PV.bl (b^^k))else ae)=_;rw[if_pos (by show ip (am c)+1<=8;rw[zH];decide),zF];rfl
theorem FV(k:Nat):fillS (bD k) 46=bD (k+1):=by rw[JL];rfl
theorem MX(L:Nat)(h:L<=8)(n m l j g f c d:Slot):∃b,dZ 7 (bQ 6 (br (aU (r8 a) (gV (dV 6) (Pu.bW))))) (eV 0 L) [n,m,l,j,g,f,.val (.lst (am (bD 0))),c,d]=.ok .next [n,m,l,j,g,f,.val (.lst (am (bD L))),b,d]:=by
 have s:(eV 0 L).length=L:=by simp[eV]
 obtain⟨q,p,b,rfl⟩:=wV (i:=7) (db:=(bQ 6 (br (aU (r8 a) (gV (dV 6) (Pu.bW))))))
  (I:=λk ε=>∃c,ε=[n,m,l,j,g,f,.val (.lst (am (bD k))),c,d]) (N:=L)
  (by rintro k ε x u ⟨c,rfl⟩;have o:=three_eq (a:=a) (bD k) (λt r=>by rw[((kq k t).mp r).1];lia) (by rw[FV,u_];have:=GG (show k+1<=12 by lia);lia);rw[FV]at o;refine⟨_,?_,.val x,rfl⟩;generalize am (bD (k+1))=R1 at o;generalize am (bD k)=R0 at o;simp![o])
  (eV 0 L) 0 [n,m,l,j,g,f,.val (.lst (am (bD 0))),c,d] ∅ ⟨c,rfl⟩
 rw[s,sL]at p;exact⟨b,p⟩
theorem CD{w:Nat}{t:Tx}(d:1<=w)(n:w<=t.length)(m:t.length<=w+8)(l:∀c∈t,c∈bF):Good bF w (aX (ba t w)):=by
 have g:(ba t w).length=t.length+1-w:=mQ d;refine⟨λx f=>?_,λx f c j=>?_,by rw[(eI _).length_eq,g];lia,by rw[(eI _).length_eq,g];lia⟩
 .have b:=(eI _).mem_iff.mp f;rw[mP t w d]at b;obtain⟨i,h,rfl⟩:=cb.mp b;have:=vn.mp h;simp;lia
 .have b:=(eI _).mem_iff.mp f;rw[mP t w d]at b;obtain⟨i,h,rfl⟩:=cb.mp b;exact l c (List.mem_of_mem_drop (List.mem_of_mem_take j))
theorem look{w:Nat}{d:List Tx}(b:Blur w d){t:Tx}(n:w<=t.length)(m:t.length<=w+8)(l:∀c∈t,c∈bF)(ε:ai)(o:ε[0]?=aa (↥t))(j:ε[1]?=aa (.val (aH w d)))(i:ε[2]?=aa (⇑w)):(br (aU (jD a) (gV (dV 1) (gV (dL cW (aB (dV 2) (aB (br (aU (jV a) (gV (dV 0) (gV (dV 2) (Pu.bW))))) (aD)))) (Pu.bW))))) ε=.ok (.bl (decide (aX (ba t w)∈waysF d))) ε:=by have h:=Gf (a:=a) t w (by have:=b.w4;lia);have f:=lclears_eq (a:=a) b.g b.w4 (CD b.w1 n m l) (rY (ba t w));rw[decide_eq_true rfl,oB]at f;have g:cW [.int w,.tup (am (aX (ba t w)))]=aa (aH w (aX (ba t w))):=rfl;generalize decide (aX (ba t w)∈waysF d)=B at f;generalize aH w (aX (ba t w))=K at f g;generalize am (aX (ba t w))=Y at h g;generalize ((w:Nat):Int)=WI at h g i;generalize aH w d=V at f j;simp[br,aU,gV,dV,o,j,i,Pu.bW,dL,aB,aD,R.bind,aO,cx,eM,fj,eZ,fH,h,f,yo,g]
theorem Nf(d:List Int):q8 a [cI d]=.ok (.val (.bl ah)) [cI d]:=by
 obtain⟨I,v0,v4,wo⟩:=oj (a:=a) d [] 4 (by decide) (by simp);obtain⟨w,hw⟩:∃w:Nat,1+I=(w:Nat):=⟨(1+I).toNat,∅⟩
 have N:1<=w:=∅
 have w4:w<=4:=∅
 obtain⟨f,f0,f6,S⟩:=oj (a:=a) d ([]++[.int 0]) 6 (by decide) (by simp);obtain⟨p,rfl⟩:∃n:Nat,f=n:=⟨f.toNat,∅⟩
 obtain⟨t,M,ht1,ht2,D,T,J⟩:=Oj (a:=a) d ([]++[.int 0]++[.int 0]) w (3+w) ∅ ∅ (by simp);have y:=Gf (a:=a) t w ∅;have gl:=CD N ht1 ∅ D;obtain⟨b,l,bl,hdm,G,hzs,hb⟩:=blurredN_eq (a:=a) d M w (aX (ba t w)) p ∅ N w4 (by simp at T;lia) gl (rY _);have qL:b.length=t.length+1-w:=by have:=(ways_shape G).1;rw[(eI _).length_eq,mQ N]at this;lia
 have u:=through_eq (a:=a) bl;have hL:w-1+b.length=t.length:=∅
 obtain⟨o,q⟩:=MX (a:=a) t.length ∅ (cI d) (.own (.lst l)) (⇑w) (⇑p) (↥t) (.val (aH w b)) .none .none;have Z:t∈thrT w b:=ji.mpr ⟨(kq _ _).mpr ⟨hL.symm,D⟩,decide_eq_true G⟩;have jN:gz ah (.str t) (.lst (am (thrT w b)))=aa (.bl ak):=by
  have e1:gz ah (.str t) (.lst (am (thrT w b)))=(dX (.str t)).bind (λv=>(jA (am (thrT w b))).map λws=>PV.bl (ah^^iJ v ws)):=rfl;rw[e1,xn];show aa (PV.bl (ah^^iJ (tV t) (b0 (thrT w b))))=_;have:iJ (tV t) (b0 (thrT w b))=ah:=by unfold iJ b0;rw[vI,jM];exact⟨t,Z,by simp[Bm]⟩
  rw[this];rfl
 have hnd:(thrT w b).Nodup:=(xx _).filter _;have IL:pV [.lst (am (thrT w b))]=aa (.lst (am (thrT w b))):=by
  show(fY (am (thrT w b))).bind _=_;have hu:fJ (thrT w b)=thrT w b:=OR hnd;have h7:(thrT w b).length<=2187:=by refine cq (y_ _ _) ?_;rw[u_];exact cq (za (by decide) (show w-1+b.length<=7 by lia)) (by decide)
  have gL:aX (thrT w b)=thrT w b:=pU ((zE _).filter _);rw[nP,g8,hu,if_pos ∅,gL]
 have O:=EX ah (thrT w b) (thrT w b);rw[decide_eq_true rfl]at O;have C:bv [.str t]=aa (.int (t.length:Nat)):=by simp[bv]
 have hr:jY [.int (t.length:Nat)]=aa (eV 0 t.length):=uR ∅;have IE:bj (.int 1) (.int I)=aa (.int w):=by show aa (PV.int (1+I))=_;rw[hw]
 have Cm:bj (.int 3) (.int w)=aa (.int ((3+w:Nat):Int)):=by show aa (PV.int (3+(w:Int)))=_;congr 2
 have htup:cW [.int w,.tup (am (aX (ba t w)))]=aa (aH w (aX (ba t w))):=rfl;have hlk:∀x∈thrT w b,x.length=t.length/\∀c∈x,c∈bF:=λx A=>by have:=(kq _ _).mp (ji.mp A).1;exact⟨this.1.trans hL,this.2⟩
 simp only[f_,qo]at wo S J;have st:∀{r:R aM},(aG (cu (dB (d2 (c7 λi j=>decide (j<i)) (dL bv (aB (dV 4) (aD))) (dC (.int 6)))) (bY (d2 (Pu.eqT ak) (dF (bP [5,2] (aT (dV 8)) (iX (dB (br (aU (jD a) (gV (dV 1) (gV (dL cW (aB (dV 2) (aB (br (aU (jV a) (gV (dV 0) (gV (dV 2) (Pu.bW))))) (aD)))) (Pu.bW))))))) (dV 0))) (dF (dL dE (aD))))) (ez)) (bY (d2 (Pu.eqT ak) (dV 8) (dF (bP [5,2] (aT (dV 6)) (dB (br (aU (jD a) (gV (dV 1) (gV (dL cW (aB (dV 2) (aB (br (aU (jV a) (gV (dV 0) (gV (dV 2) (Pu.bW))))) (aD)))) (Pu.bW)))))) (dV 0))))))
   [cI d,.own (.lst l),⇑w,⇑p,↥t,.val (aH w b),.val (.lst (am (bD t.length))),o,.val (.lst (am (thrT w b)))]=r->yat a [cI d,.none,.none,.none,.none,.none,.none,.none,.none]=r:=by
  intro r E;unfold yat;generalize ((p:Nat):Int)=FW at S hb q E;refine(cC (ε1:=[cI d,.own (.lst []),.none,.none,.none,.none,.none,.none,.none]) (by simp![])).trans ?_;refine(cC (ε1:=[cI d,.own (.lst [.int 0]),⇑w,.none,.none,.none,.none,.none,.none]) (by generalize ((w:Nat):Int)=WI at IE;simp![wo,IE])).trans ?_;refine(cC (ε1:=[cI d,.own (.lst [.int 0,.int 0]),⇑w,⇑FW,.none,.none,.none,.none,.none]) (by simp![S])).trans ?_;refine(cC (ε1:=[cI d,.own (.lst M),⇑w,⇑FW,↥t,.none,.none,.none,.none]) (by generalize ((3+w:Nat):Int)=W3 at Cm J;generalize ((w:Nat):Int)=WI at Cm J;simp![Cm,J])).trans ?_;refine(cC (ε1:=[cI d,.own (.lst l),⇑w,⇑FW,↥t,.val (aH w b),.none,.none,.none]) (by have K:uC a [cI d,.own (.lst M),.val (.tup [.int w,.tup (am (aX (ba t w)))]),⇑FW]=.ok (.val (aH w b)) [cI d,.own (.lst l),.val (.tup [.int w,.tup (am (aX (ba t w)))]),⇑FW]:=hb;generalize aH w b=V at K;generalize am (aX (ba t w))=Y at y K;generalize ((w:Nat):Int)=WI at y K;simp![y,K])).trans ?_;have e0:am (bD 0)=[.str []]:=rfl;rw[e0]at q;refine(cC (ε1:=[cI d,.own (.lst l),⇑w,⇑FW,↥t,.val (aH w b),.val (.lst [.str []]),.none,.none]) (by simp![])).trans ?_;refine(cC (ε1:=[cI d,.own (.lst l),⇑w,⇑FW,↥t,.val (aH w b),.val (.lst (am (bD t.length))),o,.none]) (by generalize am (bD t.length)=RR at q;generalize aH w b=V at q;generalize eV 0 t.length=RG at q hr;generalize ((t.length:Nat):Int)=TL at C hr;generalize ((w:Nat):Int)=WI at q;simp![cK,bU,C,hr,q])).trans ?_;refine(cC (ε1:=[cI d,.own (.lst l),⇑w,⇑FW,↥t,.val (aH w b),.val (.lst (am (bD t.length))),o,.val (.lst (am (thrT w b)))]) (by generalize am (bD t.length)=RR;generalize am (thrT w b)=RT at u;generalize aH w b=V at u;simp![u])).trans ?_;refine(cC (ε1:=[cI d,.own (.lst l),⇑w,⇑FW,↥t,.val (aH w b),.val (.lst (am (bD t.length))),o,.val (.lst (am (thrT w b)))]) (by generalize am (bD t.length)=RR;generalize am (thrT w b)=RT at jN IL O;generalize aH w b=V;simp![jN,IL,O])).trans E
 by_cases L:(6:Int)<(t.length:Nat)
 .have g:=iE (cap:=[5,2]) (dt:=(iX (dB (br (aU (jD a) (gV (dV 1) (gV (dL cW (aB (dV 2) (aB (br (aU (jV a) (gV (dV 0) (gV (dV 2) (Pu.bW))))) (aD)))) (Pu.bW)))))))) (de:=dV 0) (ε:=[cI d,.own (.lst l),⇑w,⇑p,↥t,.val (aH w b),.val (.lst (am (bD t.length))),o,.val (.lst (am (thrT w b)))]) (λ_=>ak) (λv=>v) (am (thrT w b))
   (by
    intro v X;obtain⟨x,A,rfl⟩:=cb.mp X;obtain⟨W,s⟩:=hlk x A;have m:=look (a:=a) bl (t:=x) ∅ ∅ s [↥x,.val (aH w b),⇑w] rfl rfl rfl;rw[decide_eq_true (of_decide_eq_true (ji.mp A).2)]at m;generalize am (bD t.length)=RR;generalize am (thrT w b)=RT;generalize aH w b=V at m;generalize ((w:Nat):Int)=WI at m;refine⟨?_,λh=>by simp at h⟩;have Q:(iX (dB (br (aU (jD a) (gV (dV 1) (gV (dL cW (aB (dV 2) (aB (br (aU (jV a) (gV (dV 0) (gV (dV 2) (Pu.bW))))) (aD)))) (Pu.bW))))))) [↥x,.val V,⇑WI]=.ok ak [↥x,.val V,⇑WI]:=by unfold iX dB;rw[m];rfl
    simp[bZ,cf,bC,Q,cx,eM,fj,eZ,fH,R.bind,aO]) []
  rw[List.filter_eq_nil_iff.mpr (by simp)]at g;have H:dN (.lst (am (thrT w b)))=aa (am (thrT w b)):=rfl;have F:Pu.eqT ak (.lst []) (.lst [])=aa (.bl ah):=rfl;have z:=st (r:=.ok (.ret (.val (.bl ah))) [cI d,.own (.lst l),⇑w,⇑p,↥t,.val (aH w b),.val (.lst (am (bD t.length))),o,.val (.lst (am (thrT w b)))]) (by generalize am (bD t.length)=RR at g ⊢;generalize am (thrT w b)=RT at g H ⊢;generalize aH w b=V at g ⊢;generalize ((t.length:Nat):Int)=TL at C L;generalize ((w:Nat):Int)=WI at g ⊢;simp![C,L,bP,aT,H,g,F]);simp[q8,bR,fU,bO,dP,z,back,gA,aO,R.bind]
 .have g:=iE (cap:=[5,2]) (dt:=(dB (br (aU (jD a) (gV (dV 1) (gV (dL cW (aB (dV 2) (aB (br (aU (jV a) (gV (dV 0) (gV (dV 2) (Pu.bW))))) (aD)))) (Pu.bW))))))) (de:=dV 0) (ε:=[cI d,.own (.lst l),⇑w,⇑p,↥t,.val (aH w b),.val (.lst (am (bD t.length))),o,.val (.lst (am (thrT w b)))]) (λv=>match v with|.str x=>decide (aX (ba x w)∈waysF b)|_=>ak) (λv=>v) (am (bD t.length))
   (by
    intro v X;obtain⟨x,A,rfl⟩:=cb.mp X;obtain⟨W,s⟩:=(kq _ _).mp A;have m:=look (a:=a) bl (t:=x) ∅ ∅ s [↥x,.val (aH w b),⇑w] rfl rfl rfl;dsimp only;generalize decide (aX (ba x w)∈waysF b)=B at m;generalize am (bD t.length)=RR;generalize am (thrT w b)=RT;generalize aH w b=V at m;generalize ((w:Nat):Int)=WI at m;have Q:(dB (br (aU (jD a) (gV (dV 1) (gV (dL cW (aB (dV 2) (aB (br (aU (jV a) (gV (dV 0) (gV (dV 2) (Pu.bW))))) (aD)))) (Pu.bW)))))) [↥x,.val V,⇑WI]=.ok B [↥x,.val V,⇑WI]:=by unfold dB;rw[m];rfl
    refine⟨?_,λ_=>?_⟩
    .simp[bZ,cf,bC,Q,cx,eM,fj,eZ,fH,R.bind,aO]
    .simp![bZ,cf,bC]) []
  have hf:((am (bD t.length)).filter (λv=>match v with|.str x=>decide (aX (ba x w)∈waysF b)|_=>ak)).map (λv=>v)=am (thrT w b):=by rw[sP];unfold am thrT;rw[nv,hL];rfl
  rw[f_,hf]at g;have H:dN (.lst (am (bD t.length)))=aa (am (bD t.length)):=rfl;have P:=EX ak (thrT w b) (thrT w b);rw[decide_eq_true rfl]at P;have z:=st (r:=.ok (.ret (.val (.bl ah))) [cI d,.own (.lst l),⇑w,⇑p,↥t,.val (aH w b),.val (.lst (am (bD t.length))),o,.val (.lst (am (thrT w b)))]) (by generalize am (bD t.length)=RR at g H ⊢;generalize am (thrT w b)=RT at g P ⊢;generalize aH w b=V at g ⊢;generalize ((t.length:Nat):Int)=TL at C L;generalize ((w:Nat):Int)=WI at g ⊢;simp![C,L,bP,aT,H,g,P]);simp[q8,bR,fU,bO,dP,z,back,gA,aO,R.bind]
end
open L2 Pu Sh
def A8(K:ax)(a:Ad):Bool:=sM K a.SlitError xD "ValueError.__new__" && (uP a).all (λx=>sM K x xD "ValueError.__new__" && subB K a.SlitError x&&Ff K x&&(uP a).all (λd=>jH K (.ref x) (.ref d) == aa (x == d))&&jH K (.ref x) (.type "ValueError") == aa ah)&&zo K
section
variable{K:ax}{h g:aC}{i:Str->Option aj}{a:Ad}
theorem D6(h:A8 K a=ah):sM K a.SlitError xD "ValueError.__new__"=ah/\(∀x∈uP a,sM K x xD "ValueError.__new__"=ah/\subB K a.SlitError x=ah/\Ff K x=ah/\(∀d∈uP a,jH K (.ref x) (.ref d)=aa (x == d))/\jH K (.ref x) (.type "ValueError")=aa ah)/\zo K=ah:=by unfold A8 at h;simp only[iT,l_,beq_iff_eq,decide_eq_true_eq]at h;obtain⟨⟨j,c⟩,f⟩:=h;exact⟨j,λx b=>⟨(c x b).1.1.1.1,(c x b).1.1.1.2,(c x b).1.1.2,(c x b).1.2,(c x b).2⟩,f⟩
structure Top(K:ax)(a:Ad):Prop where
 yav:c8 K "_law_cell_at" zG
 yaz:c8 K "_law_mixed" zu
 yax:c8 K "_law_draw" Aq
 yaA:c8 K "_law_pick" Bh
 yaC:c8 K "_law_text" Ag
 yau:c8 K "_law_blurred" tz
 yaq:c8 K "is_whole_number" zW
 yar:c8 K "is_width" Bs
 yam:c8 K "has_only" wX
 yas:c8 K "is_window" A5
 yad:c8 K "are_windows" w_
 yap:c8 K "is_view_with" AY
 yan:c8 K "is_blurred_view" AL
 yaf:c8 K "check_blurred_view" Bl
 yaH:c8 K "windows_that_fit" w6
 yai:c8 K "clearing_views" wB
 yao:c8 K "is_view" AE
 yag:c8 K "check_view" Bt
 yak:c8 K "excesses" zx
 yaE:c8 K "reached_pieces" zK
 yal:c8 K "find_bar" uo
 yae:c8 K "bar" Br
 yah:c8 K "cleared" xu
 yac:c8 K "add_endings" Ab
 yaj:c8 K "counted" zO
 yaF:c8 K "texts" yx
 yaG:c8 K "through" Ax
 yaD:c8 K "_law_three" xS
 yaB:c8 K "_law_seen" ww
 yay:c8 K "_law_fits" w8
 yaw:c8 K "_law_clears" vk
 yat:c8 K "law" qQ
 yaI:e_ K cR "all"=aa ae
 yaJ:e_ K cR "any"=aa ae
 yaK:e_ K cR "bool"=aa ae
 yaL:e_ K cR "enumerate"=aa ae
 yaM:e_ K cR "int"=aa ae
 yaN:e_ K cR "isinstance"=aa ae
 yaO:e_ K cR "len"=aa ae
 yaP:e_ K cR "list"=aa ae
 yaQ:e_ K cR "range"=aa ae
 yaR:e_ K cR "set"=aa ae
 yaS:e_ K cR "sorted"=aa ae
 yaT:e_ K cR "str"=aa ae
 yaU:e_ K cR "tuple"=aa ae
 yaW:∃t,e_ K cR "LETTERS"=aa (aa (.str (tS [97,98,99]) t))
 yaX:∃t,e_ K cR "MOST_POINTS"=aa (aa (.int 6 t))
 yaY:∃t,e_ K cR "MOST_WINDOWS"=aa (aa (.int 9 t))
 yaZ:∃t,e_ K cR "POINT"=aa (aa (.str (tS [46]) t))
 ya0:∃t,e_ K cR "WIDEST"=aa (aa (.int 4 t))
 yab:e_ K cR "SlitError"=aa (aa (.ref a.SlitError))
 yaa:e_ K cR "NoView"=aa (aa (.ref a.NoView))
 ck:A8 K a=ah
 z0:p7 K "road"=ae
theorem La(T:Top K a)(X:K.In g)(G:g.Ns cR i):dq K i g a where
 yav:=T.yav.at X G
 yaz:=T.yaz.at X G
 yax:=T.yax.at X G
 yaA:=T.yaA.at X G
 yaC:=T.yaC.at X G
 yau:=T.yau.at X G
 yaq:=T.yaq.at X G
 yar:=T.yar.at X G
 yam:=T.yam.at X G
 yas:=T.yas.at X G
 yad:=T.yad.at X G
 yap:=T.yap.at X G
 yan:=T.yan.at X G
 yaf:=T.yaf.at X G
 yaH:=T.yaH.at X G
 yai:=T.yai.at X G
 yao:=T.yao.at X G
 yag:=T.yag.at X G
 yak:=T.yak.at X G
 yaE:=T.yaE.at X G
 yal:=T.yal.at X G
 yae:=T.yae.at X G
 yah:=T.yah.at X G
 yac:=T.yac.at X G
 yaj:=T.yaj.at X G
 yaF:=T.yaF.at X G
 yaG:=T.yaG.at X G
 yaD:=T.yaD.at X G
 yaB:=T.yaB.at X G
 yay:=T.yay.at X G
 yaw:=T.yaw.at X G
 yat:=T.yat.at X G
 yaI:=kP X G T.yaI
 yaJ:=kP X G T.yaJ
 yaK:=kP X G T.yaK
 yaL:=kP X G T.yaL
 yaM:=kP X G T.yaM
 yaN:=kP X G T.yaN
 yaO:=kP X G T.yaO
 yaP:=kP X G T.yaP
 yaQ:=kP X G T.yaQ
 yaR:=kP X G T.yaR
 yaS:=kP X G T.yaS
 yaT:=kP X G T.yaT
 yaU:=kP X G T.yaU
 yaW:=T.yaW.imp λ_ e=>nr X G e
 yaX:=T.yaX.imp λ_ e=>nr X G e
 yaY:=T.yaY.imp λ_ e=>nr X G e
 yaZ:=T.yaZ.imp λ_ e=>nr X G e
 ya0:=T.ya0.imp λ_ e=>nr X G e
 yab:=nr X G T.yab
 yaa:=nr X G T.yaa
 yaV:=Kv X (nr X G T.yaa) ((D6 T.ck).2.1 a.NoView (by simp[uP])).1
theorem Md{l:BH}{w:aL}{d:ag}(X:K.In h)(G:h.Ns cR i)(b:i "law"=aa (.ref d))(T:Top K a):∃c:iS,(∀(s:ao) (v:aj),BindsTo s c ⟨[v],[]⟩ [("_law_script",v)])/\∀g:aC,K.In g->g.Ns cR i->kZ l.prog w K i g (cA l.prog w) 16 d c ["_law_script"] (b9 K (q8 a)):=by
 obtain⟨f,oc,x,kV,y,u,B,A,z,r,o,n,m,j⟩:=T.yat;have e:=b.symm.trans (nr X G o);cases e;exact⟨_,λs v=>.of_eq rfl,λg p q=>Np (La T p q) (Gi n m j)⟩
theorem LD{l:BH}{q:aR}{j:List Str}{XP:(Str->Option aj)->aC->Prop}{o:aL->aC->Prop}{d:DefRec}{K:Params->ax}(y:l.most=aa 63)(u:d.params.defaults=[])(m:d.name = "law")(A:∀(w:aL) (h:aC),o w h->(K w.params).In h) {a:Ad} (T:∀w:aL,Top (K w.params) a):PySem.W.WalkO q j XP o l.row.toRowW d [] (λf p=>PySem.call f p) :=
 L2.SN (n:=63) (k:=16) (x:="_law_script") (K:=K) (CX:=λw=>cA l.prog w) (sp:=λw=>b9 (K w.params) (q8 a)) y (by decide) u ⟨rfl,by decide,by decide⟩ (λw h Y=>⟨A w h Y,λc P e=>by rw[(T w).z0]at e;cases e⟩)
  (λw i F h C G r=>Md C G (by rw[<-m];exact r) (T w))
  (λw H b v E _ B=>QB (PZ (D6 (T w).ck).2.2 B) (Nf  v))
  (λw H s e D z=>by obtain⟨_,_,_,_,_,_,_,_,_,_,_,f⟩:=z;exact f)
theorem SH{l:BH}{q:aR}{b:List Str}{XP:(Str->Option aj)->aC->Prop}{j:aL->aC->Prop}{d:DefRec}{K:Params->ax}{yab yaa:ag}(o:l.most=aa 63)(n:d.params.defaults=[])(c:d.name = "law")(p:∀(w:aL) (h:aC),j w h->(K w.params).In h) (T:∀w:aL,Top (K w.params) ⟨yab,yaa,yaa,yaa,yaa,yaa,yaa,yaa,yaa,yaa,yaa,yaa,0,0⟩):PySem.W.WalkO q b XP j l.row.toRowW d [] (λf m=>PySem.call f m):=LD o n c p T
end
end K09
def PySem.W.Fast.tw14623531357932697589:Nat:=0
def PySem.W.Fast.tw14499640947040403406:Nat:=0
def PySem.W.Fast.tw6488295641390841872:Nat:=0
def PySem.W.Fast.tw10526215892438627550:Nat:=0
def PySem.W.Fast.tw15381328217678169252:Nat:=0
def PySem.W.Fast.tw16839535427582275569:Nat:=0
def PySem.W.Fast.tw15244315246674066280:Nat:=0
def PySem.W.Fast.tw13165222683523734268:Nat:=0
def PySem.W.Fast.tw9444897201820789584:Nat:=0
def PySem.W.Fast.tw384900651874637674:Nat:=0
def PySem.W.Fast.tw3257062289572980881:Nat:=0
def PySem.W.Fast.tw3444056450555060147:Nat:=0
def PySem.W.Fast.tw444524772539959701:Nat:=0
def PySem.W.Fast.tw3687747071478322612:Nat:=0
def PySem.W.Fast.tw2566716232548010414:Nat:=0
def PySem.W.Fast.tw9754740372874356709:Nat:=0
def PySem.W.Fast.tw7465090098465197175:Nat:=0
def PySem.W.Fast.tw10739315623287500460:Nat:=0
def PySem.W.Fast.tw12991209758322986914:Nat:=0
def PySem.W.Fast.tw11287372626294108951:Nat:=0
def PySem.W.Fast.tw4673319439252990944:Nat:=0
def PySem.W.Fast.tw16899710913490301579:Nat:=0
def PySem.W.Fast.tw99932280862148147:Nat:=0
def PySem.W.Fast.tw12325419935841881166:Nat:=0
def PySem.W.Fast.tw16045502395074523840:Nat:=0
def PySem.W.Fast.tw11427465909455140147:Nat:=0
def PySem.W.Fast.tw7812253138326888126:Nat:=0
def PySem.W.Fast.tw1016131077535516243:Nat:=0
def PySem.W.Fast.tw6449374592647368302:Nat:=0
def PySem.W.Fast.tw12479112564373426858:Nat:=0
def PySem.W.Fast.tw17616574587883524738:Nat:=0
def PySem.W.Fast.tw10893397681853346251:Nat:=0
def PySem.W.Fast.tw6264096682974512144:Nat:=0
def PySem.W.Fast.tw18113194914176319958:Nat:=0
def PySem.W.Fast.tw1919727901770344536:Nat:=0
def PySem.W.Fast.tw7172068745697425248:Nat:=0
def PySem.W.Fast.tw13699950605052539693:Nat:=0
def PySem.W.Fast.tw949193065970406206:Nat:=0
def PySem.W.Fast.tw6477585536729720256:Nat:=0
def PySem.W.Fast.tw15070461802127075251:Nat:=0
def PySem.W.Fast.tw11215591881480577759:Nat:=0
def PySem.W.Fast.tw492163918987628495:Nat:=0
def PySem.W.Fast.tw13662110699837910621:Nat:=0
def PySem.W.Fast.tw3207314458811145049:Nat:=0
def PySem.W.Fast.tw16445655012437563461:Nat:=0
def PySem.W.Fast.tw8624924834013299497:Nat:=0
def PySem.W.Fast.tw4401206061215410551:Nat:=0
def PySem.W.Fast.tw16353644223278592515:Nat:=0
def PySem.W.Fast.tw10235758083865200674:Nat:=0
def PySem.W.Fast.tw17205167575625713652:Nat:=0
def PySem.W.Fast.tw5669359973040503301:Nat:=0
def PySem.W.Fast.tw10434927889317761024:Nat:=0
def PySem.W.Fast.tw4679155206555021606:Nat:=0
def PySem.W.Fast.tw1244083461753470359:Nat:=0
def PySem.W.Fast.tw2171305243052692339:Nat:=0
def PySem.W.Fast.tw6773595547438186307:Nat:=0
def PySem.W.Fast.tw5975545411132091857:Nat:=0
def PySem.W.Fast.tw5082249986113771867:Nat:=0
def PySem.W.Fast.tw3301867251740841827:Nat:=0
def PySem.W.Fast.tw4363608845924530088:Nat:=0
open PySem PySem.W PyProof.Rows
set_option maxRecDepth 100000 in
set_option maxHeartbeats 0 in
theorem PySem.Challenge.cw_slitview_k09_whole_through_holds : PySem.Challenge.rw_slitview_k09_whole_through.Holds := by
 w_on; o_law; k_head; (case hw=>w_witness2)
 k_fill
 refine' K09.SH (l:=PySem.Challenge.rw_slitview_k09_whole_through) rfl rfl rfl (fun w h Y=>PySem.W.kIn_of Y) ?T
 case T =>
  intro w
  refine' { yav:=?yav,yaz:=?yaz,yax:=?yax,yaA:=?yaA,yaC:=?yaC,yau:=?yau,yaq:=?yaq,yar:=?yar,yam:=?yam,yas:=?yas,yad:=?yad,yap:=?yap,yan:=?yan,yaf:=?yaf,yaH:=?yaH,yai:=?yai,yao:=?yao,yag:=?yag,yak:=?yak,yaE:=?yaE,yal:=?yal,yae:=?yae,yah:=?yah,yac:=?yac,yaj:=?yaj,yaF:=?yaF,yaG:=?yaG,yaD:=?yaD,yaB:=?yaB,yay:=?yay,yaw:=?yaw,yat:=?yat,yaI:=?yaI,yaJ:=?yaJ,yaK:=?yaK,yaL:=?yaL,yaM:=?yaM,yaN:=?yaN,yaO:=?yaO,yaP:=?yaP,yaQ:=?yaQ,yaR:=?yaR,yaS:=?yaS,yaT:=?yaT,yaU:=?yaU,yaW:=?yaW,yaX:=?yaX,yaY:=?yaY,yaZ:=?yaZ,ya0:=?ya0,yab:=?yab,yaa:=?yaa,ck:=?ck,z0:=?z0 }
  (case yab=>k_is)
  (case yaa=>k_is)
  (case yav=>and_intros)
  (case yaz=>and_intros)
  (case yax=>and_intros)
  (case yaA=>and_intros)
  (case yaC=>and_intros)
  (case yau=>and_intros)
  (case yaq=>and_intros)
  (case yar=>and_intros)
  (case yam=>and_intros)
  (case yas=>and_intros)
  (case yad=>and_intros)
  (case yap=>and_intros)
  (case yan=>and_intros)
  (case yaf=>and_intros)
  (case yaH=>and_intros)
  (case yai=>and_intros)
  (case yao=>and_intros)
  (case yag=>and_intros)
  (case yak=>and_intros)
  (case yaE=>and_intros)
  (case yal=>and_intros)
  (case yae=>and_intros)
  (case yah=>and_intros)
  (case yac=>and_intros)
  (case yaj=>and_intros)
  (case yaF=>and_intros)
  (case yaG=>and_intros)
  (case yaD=>and_intros)
  (case yaB=>and_intros)
  (case yay=>and_intros)
  (case yaw=>and_intros)
  (case yat=>and_intros)
  (case yaI=>k_is)
  (case yaJ=>k_is)
  (case yaK=>k_is)
  (case yaL=>k_is)
  (case yaM=>k_is)
  (case yaN=>k_is)
  (case yaO=>k_is)
  (case yaP=>k_is)
  (case yaQ=>k_is)
  (case yaR=>k_is)
  (case yaS=>k_is)
  (case yaT=>k_is)
  (case yaU=>k_is)
  (case yaW=>refine' Pu.Sz ?e; (case e=>k_is))
  (case yaX=>refine' Pu.SG ?e; (case e=>k_is))
  (case yaY=>refine' Pu.SG ?e; (case e=>k_is))
  (case yaZ=>refine' Pu.Sz ?e; (case e=>k_is))
  (case ya0=>refine' Pu.SG ?e; (case e=>k_is))
  (case ck=>kernel_rfl)
  (case z0=>kernel_rfl)
