import PyProof.Rows.All
import Wide.All
import OpenK.AllK
import Wide.FinOn
import Lean
import PyProof.EqAt
import PyProof.EqKinds
import PyProof.TupleCall
import KE.KIntText
import KE.KDictList
import KE.KDictSum
import PyProof.Rows.Range3
import PyProof.DictWalks
import KE.KMinKey
import KE.KSortTup
import PyProof.EnumStmt
import PyProof.EnumMake
import PyProof.EnumFor
import PyProof.Draws
import PyProof.Rows.TupDisplay
import PyProof.Rows.SumAny
import KE.LcSums
import PySem.Challenge.RW_slitview_k27_whole_fewest_texts
noncomputable section
set_option compiler.extract_closed false
local macro_rules | `(tactic| eq_refl) => `(tactic| first | exact Or.inl rfl | exact Or.inr (Or.inl rfl) | exact Or.inr (Or.inr rfl))
local macro_rules | `(∅) => `(by first | lia | omega)
set_option Elab.async false
set_option bootstrap.genMatcherCode false
set_option genSizeOf false
set_option linter.all false
set_option maxRecDepth 100000
local macro_rules | `(tactic| ac_nf) => `(tactic| exact ⟨rfl,rfl,rfl,by decide +kernel,rfl,by decide +kernel,by decide +kernel⟩)
open Option renaming some->aa,none->ae,bind_some->jP,map_eq_some_iff->ly,map_some->pA,bind_eq_some_iff->ul,isSome_map->AF,getD_none->Gn,map_eq_none_iff->GY,getD_some->GZ
open PySem renaming Addr->ag,Value->ai,Shared->ao,wpAny->aq,model->ar,wpAny_bind->aw,Expr->ay,Heap->az,World->aG,wpAny_pure->aK,eval->aM,starEach->aQ,Program->aS,Around->aX,sizeLine->a8,Stmt->bf,mainGlobals->cG,backTo->cY,compareOp->dw,bootBuiltins->d7,Scope->d8,rawInt->eM,wpAny_mono->fH,cellsFrom->fI,NameKind->gn,bindArgs->gJ,FuncData->iz,strKind->iR,swapsWith->jj,Keyword->jl,binaryOp->jI,attributeBase->jK,SetTable->jN,Paired->ka,sysModules->kb,wpAny_holding->kM,foldedSetIterable->kN,mem_of_lookup->kP,behindInMarks->lr,isTrue->ml,pyIter->mo,IsPart->mq,wpAny_newObj_type->mr,setNext->mx,setField->my,wpAny_truthy_bool->nE,holding->nG,assign->nH,wpAny_rule->nM,builtinsNs->o4,codeAny->o7,backToKw->o8,keywordEach->o9,getItem->pe,assignEach->qY,wpAny_passesOwn->qZ,sizeLine_eq->q0,codeAny_mono->q8,wpAny_field->q_,sliceBounds->re,valueAt->rg,callerA->rj,relayAll->rq,wpAny_setState_of->rA,codeAny_builtin->rE,wpAny_askSetting->rF,tupleKind->t5,wpAny_call_entry->t8,pickOrder->ue,wpAny_setField->uf,PassesOwn->xu,call_meets->xx,tupleKind_room_in1->xy,setsByText->xG,wpAny_ite_split->xH,wpAny_execs_nil->As,letOwnedTupleGo->At,wpAny_loadPart'->Aw,subscripted->Az,plainId_quiet->AQ,wpAny_Call_Name_kw->Gj,wpAny_pyIter_list->Gw
open Bool renaming true->ah,false->ak,false_ne_true->fg,and_eq_true->iA,eq_iff_iff->ke,false_eq_true->pt,false_xor->um,or_eq_true->AN,true_xor->Bb,not_eq_true'->GI
open PySem.W renaming Frag->ax,nsIn->eE,kitOne->jk,mg_none_of->jq,fnOf->kg,kia_one->lu,tabIn->o5,mg_of->pC,excIn->rG,keepIn->t7,findIn->xv,codeIn->xw,OpenLaw->AH,methodObj->Ge
open PyProof.Rows renaming wpS_bind->aE,wpS_pure->aL,pendingOf->bj,SortSt->bD,StrsAre->dH,SortKind->gs,wpS_mono->gu,wpS_forRange->gv,seqObj->gw,size_push'->jo,envOfC->kf,pairsOf->kl,wpS_get->kQ,AllBare->mj,wpS_modify->mz,wpS_lift->rH,listUpdate_at->AT,slot_tuple_getitem->P_
open Nat renaming le_refl->aT,ne_of_lt->cF,le_trans->cH,lt_irrefl->eL,lt_of_lt_of_le->h8,zero_le->jM,lt_succ_of_lt->jO,le_of_lt->kc,lt_succ_self->lA,le_of_eq->mw,ne_of_gt->o6,le_succ->t_,lt_of_le_of_lt->ub,zero_add->uj,eq_zero_or_pos->uw,add_assoc->xJ,lt_trans->AG,sub_self->A0,min_eq_left->Bg,add_right_comm->GH
open List renaming mem_cons->bw,mem_map->bV,map_cons->bZ,size_toArray->cb,length_map->cM,length_cons->cS,length_append->cZ,range->df,replicate->dy,getElem?_eq_some_iff->dG,map_map->d9,mem_singleton->eN,getElem?_set_ne->ff,mem_append->fY,sum_cons->f8,mem_append_right->gm,append_assoc->gq,getElem?_eq_getElem->gK,getElem?_set_self->h_,append_nil->ie,map_congr_left->ig,mem_cons_of_mem->iN,getElem?_append_left->iO,length_set->iP,find?_cons->iQ,nil_append->iT,nodup_cons->jm,mem_filter->jH,getElem?_map->jJ,length_nil->jL,lookup_cons->kh,take_of_length_le->ki,not_mem_nil->kj,mem_cons_self->kK,mem_append_left->lq,length_take->lw,length_drop->lx,foldl_cons->lz,any_cons->mv,length_eq_zero_iff->mC,length_singleton->nK,take_append_drop->nL,all_eq_true->nN,dropLast->nP,any_eq_true->nQ,mem_range->o0,length->o_,getElem?_append_right->pc,map_append->ph,drop_zero->pi,eq_nil_of_length_eq_zero->pq,mem_reverse->pD,all_cons->rf,map_nil->rh,filterMap_cons->t6,range_succ->uc,ext_getElem?->ug,getElem?_eq_none->uh,drop_eq_getElem_cons->ui,cons_append->uk,flatMap_cons->uo,filter_map->uq,length_erase_of_mem->ur,filter_eq_self->ut,count_cons_self->uu,count_pos_iff->uv,all_map->xA,pairwise_map->xC,nodup_append->xI,getElem_of_mem->xK,length_filter_le->xM,mem_flatMap->xN,length_pos_of_mem->xO,of_mem_zip->Av,lookup->AI,drop_append_of_le_length->AJ,range_succ_eq_map->AK,toList_toArray->AM,getElem_mem->AO,eraseIdx_cons_succ->AR,getElem?_drop->AU,take_zero->AV,any_map->AZ,length_dropLast->A4,perm_append_comm->A5,getElem_drop->A6,getElem_take->A7,singleton_append->A8,drop_eq_nil_iff->A9,take_length->A_,cons_lt_cons_iff->Bc,filter_append->Bd,Perm->Be,count_append->Bf,find?_eq_none->Bh,count_erase_self->Bi,count_erase_of_ne->Bj,perm_cons_erase->Bk,count_cons_of_ne->Bl,any_eq_false->Gh,mem_of_getElem?->Gk,eraseIdxIfInBounds_toArray->Gq,replicate_succ->Gr,lookup_append->Gv,length_range->Gx,mergeSort_perm->Gy,drop_length->GD,pairwise_append->GK,pairwise_iff_getElem->GL,reverse_append->GM,reverse_perm->GN,pairwise_reverse->GO,getElem?_take->GP,flatMap_nil->GR,take_append_of_le_length->GS,filter_cons->GT,count_eq_zero_of_not_mem->GU,isEmpty_nil->GV,drop_of_length_le->GX,flatMap_append->G0,dropLast_eq_take->G1,exists_mem_of_ne_nil->G3,filter_append_perm->G4,take_succ_eq_append_getElem->Qc
open PySem.Heap renaming get?_push_of_some->bx,lt_size->bC,get?_push_size->cE,SameBut->kL,get?_update_other->nJ,get?_update_self->pf,size_push->xz,get?_none_of_le->Gf,get?_update_ne->GC,size_update->GF
open Option.some renaming inj->dP
open Ne renaming symm->eD
open PySem.Str renaming empty->fZ
open Array renaming toList_append->iS,length_toList->mn,getElem_extract->mB,getElem?_eq_some_iff->rm,getElem?_toList->ua,toList_push->ud,getElem?_eq_getElem->AS,perm_iff_toList_perm->Ba
open PySem.Obj renaming mapSeq->jn,mapFields->pB,data_mapFields->AX,isFreed_of_fields->GE
open PyProof.Rows.KeyOrd renaming kle_of_klt->kR,kle_refl->lB,kle_trans->rJ
open PySem.PassesOwn renaming never->kT
open False renaming elim->lv
open Function renaming comp->mD,comp_def->GQ
open Int renaming toNat_natCast->nI,emod_lt_of_pos->GW
open Iff renaming rfl->nO
open PySem.Value renaming isStrOf->oZ
open List.Perm renaming refl->pr,append_left->xF
open PySem.SetTable renaming grown->rD,below->Qb
open PySem.SeqAt renaming EqAt->t9
open PySem.Heap.SameBut renaming update->xD
open PySem.Around renaming under_plainId->xE
open List.cons renaming injEq->xL
open PySem.Calls renaming spliced_cons->Au,callWith_builtin->AA,evalArgs_plain->AD,spliced_nil->Gi
open PySem.Builtin.Slice renaming slicePlaces->Ax,sliceAdjust->Gm
open PySem.Builtin.Tuple renaming tupleExact->Ay
open PySem.Paired renaming snoc->AE
open PySem.F renaming plainAttrs_list->AW,slot_dict_get->Gs,plainAttrs_dict->Gu,slot_dict_values->GJ
open Nat.succ renaming inj->AY
open PySem.Builtin.Str renaming occurrences->Gg
open PySem.SeqAt.EqAt renaming str_str->Go
open PySem.Builtin.List renaming listTooLong->Gp
open PyProof.Rows.F renaming plain_set_update_loop->Gz,entry_set_update_loop->Qa
open PySem.SetTable.below renaming go->GA
open Classical renaming byContradiction->G2
open PySem PySem.Spec PyProof.Rows
namespace L2
abbrev aA:=Sum Int Str
def qI:aA->ai->Bool
 |.inl k,v=>Value.isInt k v
 |.inr x,v=>oZ x v
def Px(w:aG):aA->Int
 |.inl k=>hashInt k
 |.inr x=>hashStr w x
theorem ma:∀{k:aA}{v:ai},qI k v=ah->(∃i t,k=Sum.inl i/\v=Value.int i t)\/(∃x t,k=Sum.inr x/\v=Value.str x t)
 |.inl i,v,h=>by obtain⟨t,e⟩:=Value.isInt_shape (k:=i) (v:=v) h;exact .inl ⟨i,t,rfl,e⟩
 |.inr x,v,h=>by obtain⟨t,e⟩:=Value.isStrOf_shape (x:=x) (v:=v) h;exact .inr ⟨x,t,rfl,e⟩
theorem Ia(i:Int)(t:Tok):qI (.inl i) (.int i t)=ah:=by simp[qI,Value.isInt]
theorem Nj(x:Str)(t:Tok):qI (.inr x) (.str x t)=ah:=by simp[qI,oZ]
theorem OO(a b:Int):decide ((Sum.inl a:aA)=Sum.inl b)=(a == b):=by
 by_cases e:a=b
 .subst e;simp
 .have h:¬(Sum.inl a:aA)=Sum.inl b:=λq=>e (Sum.inl.inj q);rw[decide_eq_false h];exact(beq_eq_false_iff_ne.mpr e).symm
theorem O7(a b:Str):decide ((Sum.inr a:aA)=Sum.inr b)=decide (a=b):=by
 by_cases e:a=b
 .subst e;simp
 .have h:¬(Sum.inr a:aA)=Sum.inr b:=λq=>e (Sum.inr.inj q);rw[decide_eq_false h,decide_eq_false e]
theorem Jq(a:Int)(b:Str):decide ((Sum.inl a:aA)=Sum.inr b)=ak:=decide_eq_false (λq=>nomatch q)
theorem JD(a:Str)(b:Int):decide ((Sum.inr a:aA)=Sum.inl b)=ak:=decide_eq_false (λq=>nomatch q)
def ge(c:aS)(w:aG):PySem.KeyKind c w aA where
 is:=qI
 hash:=Px w
 inj:=λv a b l f=>by
  rcases ma l with⟨i,t,rfl,rfl⟩|⟨x,t,rfl,rfl⟩
  .rcases ma f with⟨j,u,rfl,e⟩|⟨y,u,rfl,e⟩
   .injection e with e1 _;rw[e1]
   .exact nomatch e
  .rcases ma f with⟨j,u,rfl,e⟩|⟨y,u,rfl,e⟩
   .exact nomatch e
   .injection e with e1 _;rw[e1]
 byValue:=λk v h=>by rcases ma h with⟨i,t,rfl,rfl⟩|⟨x,t,rfl,rfl⟩ <;> rfl
 pyHash:=λd h=>by
  rcases ma d with⟨i,t,rfl,rfl⟩|⟨x,t,rfl,rfl⟩
  .exact wpAny_pyHash_int h
  .exact wpAny_pyHash_str h
 eqBool:=λg d h=>by
  rcases ma g with⟨i,t,rfl,rfl⟩|⟨x,t,rfl,rfl⟩
  .rcases ma d with⟨j,u,rfl,rfl⟩|⟨y,u,rfl,rfl⟩
   .rw[OO]at h;exact wpAny_eqBool_int h
   .rw[Jq]at h;exact SeqAt.EqAt.int_str i t y u _ _ _ _ h
  .rcases ma d with⟨j,u,rfl,rfl⟩|⟨y,u,rfl,rfl⟩
   .rw[JD]at h;exact SeqAt.EqAt.str_int x t j u _ _ _ _ h
   .rw[O7]at h;exact wpAny_eqBool_str h
 «strs»:=λk x t v h=>by
  rcases ma h with⟨i,u,rfl,e⟩|⟨y,u,rfl,e⟩
  .exact nomatch e
  .injection e with e1 _;subst e1;cases v <;> rfl
theorem Hx(a:aS)(w:aG)(i:Int)(t:Tok):(ge a w).is (.inl i) (.int i t)=ah:=Ia i t
theorem JE(a:aS)(w:aG)(x:Str)(t:Tok):(ge a w).is (.inr x) (.str x t)=ah:=Nj x t
inductive V where
 |non|bl (b:Bool)|int (i:Int)|str (x:Str)|byt (b:Array UInt8)|flt (b:UInt64)|ref (a:ag)|ty (n:String)
 deriving DecidableEq
def RelV:V->ai->Prop
 |.non,u=>u=Value.none
 |.bl b,u=>u=Value.bool b
 |.int i,u=>∃t,u=Value.int i t
 |.str x,u=>∃t,u=Value.str x t
 |.byt b,u=>∃t,u=Value.bytes b t
 |.flt b,u=>∃t,u=Value.float b t
 |.ref a,u=>u=Value.ref a
 |.ty n,u=>u=Value.type n
abbrev bq:List V->List ai->Prop:=ka RelV
theorem bq.length{xs:List V}{a:List ai}(r:bq xs a):xs.length=a.length:=Paired.length r
theorem bq.get:∀{a:List V}{b:List ai}{i:Nat}{x:V},bq a b->a[i]?=aa x->∃u,b[i]?=aa u/\RelV x u
 |_,_,_,_,.nil,e=>by simp at e
 |_,_,0,_,.cons r _,e=>by simp at e;subst e;exact⟨_,rfl,r⟩
 |_,_,i+1,x,.cons _ t,e=>by obtain⟨u,d,c⟩:=bq.get (i:=i) (x:=x) t (by simpa using e);exact⟨u,by simpa using d,c⟩
theorem bq.set{x:V}{u:ai}(r:RelV x u):∀{a:List V}{b:List ai} (i:Nat),bq a b->bq (a.set i x) (b.set i u)
 |_,_,_,.nil=>.nil
 |_,_,0,.cons _ t=>.cons r t
 |_,_,i+1,.cons q t=>.cons q (bq.set r i t)
theorem bq.append:∀{b a:List V}{d c:List ai},bq b d->bq a c->bq (b++a) (d++c)
 |_,_,_,_,.nil,s=>s
 |_,_,_,_,.cons r t,s=>.cons r (bq.append t s)
theorem bq.take:∀{a:List V}{b:List ai} (n:Nat),bq a b->bq (a.take n) (b.take n)
 |_,_,0,_=>.nil
 |_,_,_+1,.nil=>.nil
 |_,_,n+1,.cons r t=>.cons r (bq.take n t)
theorem bq.drop:∀{a:List V}{b:List ai} (n:Nat),bq a b->bq (a.drop n) (b.drop n)
 |_,_,0,r=>r
 |_,_,_+1,.nil=>.nil
 |_,_,n+1,.cons _ t=>bq.drop n t
def nD:Option V->Option ai->Prop
 |some v,aa u=>RelV v u
 |none,ae=>True
 |_,_=>False
def KV{a:Type}:List (a×V)->List (a×ai)->Prop:=ka λ(p:a×V) (q:a×ai)=>p.1=q.1/\RelV p.2 q.2
def kV:aA->V
 |.inl i=>.int i
 |.inr x=>.str x
inductive HO where
 |lst (xs:List V)
 |tup (xs:List V)
 |dK (kvs:List (aA×V))|dT (kvs:List (List aA×V))|dN (kvs:List ((Str×List Str)×V))
 |set (S:Int->Bool) (n:Nat)
 |ins (C dx:ag) (fs:List (Str×V))
 |own (x:ag)
 |xd (fs:List (Str×V))
 |met (f x:ag)
 |rng (lo hi:Int)
 |frz (o:Obj) (u:HO)
 |tbl (q:Str)
 |ext (φ:az->Prop)
abbrev Hp:=ag->Option HO
def upd(H:Hp)(a:ag)(o:HO):Hp:=λb=>if b=a then aa o else H b
theorem upd_same{H:Hp}{a:ag}{o:HO}:upd H a o a=aa o:=by unfold upd;rw[if_pos rfl]
theorem bv{H:Hp}{a b:ag}{o:HO}(h:b≠a):upd H a o b=H b:=by unfold upd;rw[if_neg h]
theorem HJ{H:Hp}{a b:ag}{o u:HO}(h:H a=aa o)(c:H b=aa u)(d:o≠u):a≠b:=by intro e;subst e;rw[h]at c;exact d (dP c)
theorem ql{H:Hp}{a b:ag}{o:HO}(h:H a=aa o)(c:H b=ae):a≠b:=by
 intro e;subst e;rw[h]at c;cases c
def Gc(h:az)(a:ag)(b:Array ai):Prop:=IsTup h a b/\∃o,h.get? a=aa o/\o.dict=ae
theorem Gc.new(h:az)(its:Array ai):Gc (h.push {cls:=.type "tuple",data:=.seq its}) h.objs.size its:=⟨IsTup.new _ _,_,cE _ rfl,rfl⟩
section
variable(P:aS)(w:aG)
def IL(k:Str×List Str):Int:=reduceHash (Builtin.Tuple.tupleHashOf [hashStr w k.1,reduceHash (Builtin.Tuple.tupleHashOf (k.2.map (hashStr w)))])
def Js(H:Hp)(k:Str×List Str)(a:ag):Prop:=∃b,H a=aa (.tup [.str k.1,.ref b])/\H b=aa (.tup (k.2.map .str))
def b7(H:Hp)(h:az)(a:ag):HO->Prop
 |.lst d=>d.length<=a8/\∃(g:List ai) (n:Nat),bq d g/\h.get? a=aa {cls:=.type "list",data:=.seq g.toArray n}
 |.tup d=>d.length<=a8/\∃g:List ai,bq d g/\Gc h a g.toArray
 |.dK b=>b.length<=a8/\(a == kb)=ak/\∃A,KV b A/\h.DictOf (ge P w) a A
 |.dT b=>b.length<=a8/\(a == kb)=ak/\∃d:List (List aA×ag×ai),
   ka (λ(p:List aA×V) (q:List aA×ag×ai)=>p.1=q.1/\H q.2.1=aa (.tup (p.1.map kV))/\RelV p.2 q.2.2) b d /\
   ∃o j y,h.get? a=aa o/\o.ExactDict/\o.data=.dict j y/\j.toList=d.map (entryOfKey (t5 (ge P w)))/\(d.map (·.1)).Nodup
 |.dN b=>b.length<=a8/\(a == kb)=ak/\∃d:List ((Str×List Str)×ag×ai),
   ka (λ(p:(Str×List Str)×V) (q:(Str×List Str)×ag×ai)=>p.1=q.1/\Js H p.1 q.2.1/\RelV p.2 q.2.2) b d /\
   ∃o j y,h.get? a=aa o/\o.ExactDict/\o.data=.dict j y/\j.toList=d.map (λx=>⟨IL w x.1,.ref x.2.1,x.2.2⟩)/\(d.map (·.1)).Nodup
 |.set S n=>h.SetOf (intKind P w) a S n
 |.ins C l fs=>H l=aa (.own a)/\fs.length<=1000/\l≠a/\h.get? a=aa (PySem.W.instObj C l) /\
   ∃i,h.Ns1 l i/\(∀f,nD (fs.lookup f) (i f))/\PySem.Within i (fs.map (·.1))
 |.own _=>∃o,h.get? a=aa o
 |.xd fs=>∃i,h.Ns1 a i/\∀f,nD (fs.lookup f) (i f)
 |.rng E F=>∃t u v,h.get? a=aa {cls:=.type "range",data:=.fields #[.int E t,.int F u,.int 1 v]}
 |.frz o u=>h.get? a=aa o/\b7 H h a u
 |.tbl q=>∃r:Array ai,h.get? a=aa {cls:=.none,data:=.fields r}/\TriplesOk r.toList/\∀s z,codeAmong s r.toList=aa z->∃c,z=.ref c/\H c=aa (.own a)/\h.CodeRec z q
 |.met f x=>h.get? a=aa (Ge (.ref f) (.ref x))
 |.ext m=>m h/\(∃o,h.get? a=aa o)/\∀D B:az,m D->(∀o,D.get? a=aa o->B.get? a=aa o)->m B
def c9(H:Hp)(h:az):Prop:=∀a o,H a=aa o->b7 P w H h a o
end
section
variable{P:aS}{w:aG}{H i:Hp}{h h':az}{a:ag}{o:HO}
theorem b7.lt(x:b7 P w H h a o):a<h.objs.size:=by
 cases o with
 |lst c=>obtain⟨_,_,_,_,e⟩:=x;exact bC e
 |tup c=>obtain⟨_,_,_,p,_⟩:=x;exact p.lt
 |dK b=>obtain⟨_,_,_,_,o,_,_,e,_⟩:=x;exact bC e
 |dT b=>obtain⟨_,_,_,_,o,_,_,e,_⟩:=x;exact bC e
 |dN b=>obtain⟨_,_,_,_,o,_,_,e,_⟩:=x;exact bC e
 |set S n=>obtain⟨o,_,_,_,e,_⟩:=x;exact bC e
 |ins C m fs=>obtain⟨_,_,_,e,_⟩:=x;exact bC e
 |own y=>obtain⟨_,e⟩:=x;exact bC e
 |xd fs=>obtain⟨_,⟨_,_,_,e,_⟩,_⟩:=x;exact bC e
 |rng j l=>obtain⟨_,_,_,e⟩:=x;exact bC e
 |frz g u=>obtain⟨e,_⟩:=x;exact bC e
 |tbl q=>obtain⟨_,e,_⟩:=x;exact bC e
 |met f y=>exact bC (show h.get? a=aa _ from x)
 |ext d=>obtain⟨_,⟨_,e⟩,_⟩:=x;exact bC e
theorem Paired.mapP{j g:Type}{F G:j->g->Prop}:∀{d:List j}{c:List g},ka F d c->(∀a b,F a b->G a b)->ka G d c
 |_,_,.nil,_=>.nil
 |_,_,.cons r t,f=>.cons (f _ _ r) (Paired.mapP t f)
theorem b7.stay(x:b7 P w H h a o)(k:∀b u,(b=a\/H b=aa (.own a))->h.get? b=aa u->h'.get? b=aa u)(M:∀b,H b=aa (.own a)->i b=aa (.own a)) (K:∀b s,H b=aa (.tup s)->i b=aa (.tup s)):b7 P w i h' a o:=by
 induction o with
 |lst s=>obtain⟨z,A,n,r,e⟩:=x;exact⟨z,A,n,r,k _ _ (.inl rfl) e⟩
 |tup s=>obtain⟨z,A,r,⟨j,e,c⟩,T,D,N⟩:=x;exact⟨z,A,r,⟨j,k _ _ (.inl rfl) e,c⟩,T,k _ _ (.inl rfl) D,N⟩
 |dK B=>obtain⟨z,y,F,r,j,l,m,e,c⟩:=x;exact⟨z,y,F,r,j,l,m,k _ _ (.inl rfl) e,c⟩
 |dT B=>obtain⟨z,y,s,r,j,l,m,e,c⟩:=x;exact⟨z,y,s,Paired.mapP r λp q z=>⟨z.1,K _ _ z.2.1,z.2.2⟩,j,l,m,k _ _ (.inl rfl) e,c⟩
 |dN B=>obtain⟨z,y,s,r,j,l,m,e,c⟩:=x;exact⟨z,y,s,Paired.mapP r λp q z=>⟨z.1,(let ⟨b,E,h2⟩:=z.2.1;⟨b,K _ _ E,K _ _ h2⟩),z.2.2⟩,j,l,m,k _ _ (.inl rfl) e,c⟩
 |set S n=>obtain⟨j,l,m,t,e,c⟩:=x;exact⟨j,l,m,t,k _ _ (.inl rfl) e,c⟩
 |ins C dx fs=>obtain⟨d,z,W,e,J,⟨I,l,m,D,c⟩,r⟩:=x;exact⟨M _ d,z,W,k _ _ (.inl rfl) e,J,⟨I,l,m,k _ _ (.inr d) D,c⟩,r⟩
 |own y=>obtain⟨j,e⟩:=x;exact⟨j,k _ _ (.inl rfl) e⟩
 |xd fs=>obtain⟨J,⟨I,l,m,e,c⟩,r⟩:=x;exact⟨J,⟨I,l,m,k _ _ (.inl rfl) e,c⟩,r⟩
 |rng lo hi=>obtain⟨t,u,v,e⟩:=x;exact⟨t,u,v,k _ _ (.inl rfl) e⟩
 |frz j u X=>obtain⟨e,q⟩:=x;exact⟨k _ _ (.inl rfl) e,X q⟩
 |tbl q=>
  obtain⟨Q,e,t,g⟩:=x;refine⟨Q,k a _ (.inl rfl) e,t,λG cv Y=>?_⟩;obtain⟨c,rfl,E,N,o,F,O,D,Z,r⟩:=g G cv Y;cases D;exact⟨c,rfl,M c E,c,o,F,O,rfl,k c _ (.inr E) Z,r⟩
 |met f y=>have e:h.get? a=aa (Ge (.ref f) (.ref y)):=x;show h'.get? a=aa (Ge (.ref f) (.ref y));exact k a _ (.inl rfl) e
 |ext φ=>obtain⟨p,⟨o,e⟩,L⟩:=x;exact⟨L _ _ p λo q=>k _ _ (.inl rfl) q,⟨o,k _ _ (.inl rfl) e⟩,L⟩
theorem c9.lt(x:c9 P w H h)(e:H a=aa o):a<h.objs.size:=(x a o e).lt
theorem c9.fresh(x:c9 P w H h)(e:h.objs.size<=a):H a=ae:=by
 cases q:H a with
 |none=>rfl
 |some u=>exact absurd (h8 (x.lt q) e) (eL _)
theorem c9.kept(x:c9 P w H h)(k:∀b u,h.get? b=aa u->h'.get? b=aa u):c9 P w H h':=λa o e=>(x a o e).stay (λb u _ q=>k b u q) (λ_ q=>q) λ_ _ q=>q
theorem c9.laid(x:c9 P w H h)(k:∀b u,h.get? b=aa u->h'.get? b=aa u)(g:h.objs.size<=a)(new:b7 P w (upd H a o) h' a o):c9 P w (upd H a o) h':=λb u e=>by
 have d:=x.fresh g;by_cases f:b=a
 .subst f;rw[upd_same]at e;cases e;exact new
 .rw[bv f]at e;exact(x b u e).stay (λc v _ q=>k c v q) (λc q=>by rw[bv (ql q d)];exact q) λc j q=>by rw[bv (ql q d)];exact q
end
def Rd(H:Hp)(a:ag)(u:HO):Prop:=H a=aa u\/∃o,H a=aa (.frz o u)
theorem Rd.ok{P:aS}{w:aG}{H:Hp}{h:az}{a:ag}{u:HO}(r:Rd H a u)(x:c9 P w H h):b7 P w H h a u:=by
 rcases r with r|⟨o,r⟩
 .exact x a u r
 .obtain⟨_,q⟩:=x a _ r;exact q
def sL:Option HO->Prop
 |some (.lst _)=>True
 |some (.dK _)=>True
 |some (.dT _)=>True
 |some (.dN _)=>True
 |some (.set _ _)=>True
 |some (.ins _ _ _)=>True
 |some (.ext _)=>True
 |_=>False
section
variable{P:aS}{w:aG}{H:Hp}{h a:az}{x e:ag}{d:HO}
theorem c9.write(ok:c9 P w H h)(j:sL (H x))(p:e=x\/H e=aa (.own x))(k:∀b u,b≠e->h.get? b=aa u->a.get? b=aa u)(s:∃u,a.get? e=aa u)(new:b7 P w (upd H x d) a x d):c9 P w (upd H x d) a:=λb u q=>by
 have f:∀c y,H c=aa (.own y)->c≠x:=λc y r z=>by subst z;rw[r]at j;exact j
 have g:∀c i,H c=aa (.tup i)->c≠x:=λc i r z=>by subst z;rw[r]at j;exact j
 by_cases n:b=x
 .subst n;rw[upd_same]at q;cases q;exact new
 .rw[bv n]at q;by_cases l:b=e
  .have o:H b=aa (.own x):=by
    rcases p with z|z
    .exact absurd (l.trans z) n
    .rw[l];exact z
   rw[q]at o;cases o;obtain⟨v,A⟩:=s;exact⟨v,by rw[l];exact A⟩
  .refine(ok b u q).stay (λc v m r=>k c v ?_ r) (λc r=>by rw[bv (f c b r)];exact r) λc i r=>by rw[bv (g c i r)];exact r
   rcases m with rfl|m
   .exact l
   .rintro rfl;rcases p with z|z
    .exact f c b m z
    .rw[m]at z;cases z;exact n rfl
end
structure Un(fs ex:List ag)(H H':Hp)(h h':az):Prop where
 keep:∀b o,h.get? b=aa o->H b=ae->b∉fs->b∉ex->h'.get? b=aa o
 slot:∀b o,h.get? b=aa o->H b=ae->b∈fs->b∉ex->∃sl,h'.get? b=aa {o with slots:=sl}
 free:∀b o,h.get? b=aa o->H b=ae->b∉ex->H' b=ae
 there:∀b o,h.get? b=aa o->b∉ex->∃o',h'.get? b=aa o'
 tups:∀b xs,H b=aa (.tup xs)->H' b=aa (.tup xs)
 frzs:∀b o u,H b=aa (.frz o u)->H' b=aa (.frz o u)
 tbls:∀b q,H b=aa (.tbl q)->H' b=aa (.tbl q)
section
variable{fs d ex f:List ag}{H g j:Hp}{h c i h':az}{a x e:ag}{o:HO}
theorem Un.any(u:Un fs ex H g h c){b:ag}{l:Obj}(q:h.get? b=aa l)(n:H b=ae)(m:b∉ex):∃r,c.get? b=aa {l with slots:=r}:=by
 by_cases p:b∈fs
 .exact u.slot b l q n p m
 .exact⟨l.slots,u.keep b l q n p m⟩
theorem Un.kept(k:∀b u,h.get? b=aa u->h'.get? b=aa u):Un fs ex H H h h' :=⟨λb l q _ _ _=>k b l q,λb l q _ _ _=>⟨l.slots,k b l q⟩,λ_ _ _ n _=>n,λb l q _=>⟨l,k b l q⟩,λ_ _ q=>q,λ_ _ _ q=>q,λ_ _ q=>q⟩
theorem Un.refl:Un fs ex H H h h:=Un.kept λ_ _ q=>q
theorem Un.laid(k:∀b u,h.get? b=aa u->h'.get? b=aa u)(p:h.objs.size<=a)(l:H a=ae):Un fs ex H (upd H a o) h h' where
 keep:=λb u q _ _ _=>k b u q
 slot:=λb u q _ _ _=>⟨u.slots,k b u q⟩
 free:=λb u q n _=>by rw[bv (cF (h8 (bC q) p))];exact n
 there:=λb u q _=>⟨u,k b u q⟩
 tups:=λb m q=>by rw[bv (ql q l)];exact q
 frzs:=λb u m q=>by rw[bv (ql q l)];exact q
 tbls:=λb r q=>by rw[bv (ql q l)];exact q
theorem Un.write(l:sL (H x))(B:e=x\/H e=aa (.own x))(k:∀b u,b≠e->h.get? b=aa u->h'.get? b=aa u)(y:∃u,h'.get? e=aa u):Un fs ex H (upd H x o) h h':=by
 have s:∀b,H b=ae->b≠x:=λb n z=>by subst z;rw[n]at l;exact l
 have v:∀b,H b=ae->b≠e:=λb n z=>by
  subst z;rcases B with r|r
  .exact s b n r
  .rw[n]at r;cases r
 have m:∀b u,H b=aa u->¬sL (aa u)->b≠x:=λb u q A z=>by subst z;rw[q]at l;exact A l
 refine⟨λb u q n _ _=>k b u (v b n) q,λb u q n _ _=>⟨u.slots,k b u (v b n) q⟩,λb u q n _=>by rw[bv (s b n)];exact n,λb u q _=>?_,
  λb w q=>by rw[bv (m b _ q λz=>z)];exact q,λb u w q=>by rw[bv (m b _ q λz=>z)];exact q,λb C q=>by rw[bv (m b _ q λz=>z)];exact q⟩
 by_cases p:b=e
 .subst p;exact y
 .exact⟨u,k b u p q⟩
end
def wE(h:az)(H:Hp):List ag:=(df h.objs.size).filter λa=>(H a).isSome
def lY(h:az)(H:Hp):az:=PySem.W.hideAll h (wE h H)
theorem Hg(h:az)(H:Hp):(lY h H).objs.size=h.objs.size:=PySem.W.hideAll_size _ _
theorem La{h:az}{H:Hp}{b:ag}{o:Obj}(e:h.get? b=aa o)(n:H b=ae):(lY h H).get? b=aa o :=PySem.W.hideAll_get _ e λa=>by have q:(H b).isSome=ah:=(jH.mp a).2;rw[n]at q;simp at q
theorem P7{h:az}{H:Hp}{b:ag}{o:Obj}(e:(lY h H).get? b=aa o):h.get? b=aa o/\H b=ae:=by
 have a:h.get? b=aa o:=PySem.W.of_hideAll (wE h H) e;refine⟨a,?_⟩;cases q:H b with
 |none=>rfl
 |some x=>
  have c:b∈wE h H:=jH.mpr ⟨o0.mpr (bC a),by simp[q]⟩;have z:(lY h H).get? b=ae:=PySem.W.hideAll_none (wE h H) c;rw[z]at e;cases e
def M4(g h:az)(L:ag):List (ag×Obj):=(df h.objs.size).filterMap λa=>if a=L\/(g.get? a).isSome=ah then ae else(h.get? a).map λo=>(a,o)
def rest(g h:az)(L d:ag):List (ag×Obj):=(M4 g h L).filter λp=>decide (p.1≠d)
structure Mod(K:ax)(mg:Str->Option ai)(base:az):Prop where
 kin:K.In base
 glob:base.Ns cG mg
 blt:∃mb,base.Ns o4 mb/\∀x:Str,x≠"__name__"->mb x=d7 x
 nolimit:base.NoLimit
 bm:∃bm ob,mg "__builtins__"=aa (.ref bm)/\bm≠o4/\base.get? bm=aa ob/\ob.cls=.type "module"/\ob.dict=aa o4/\ob.data=.plain
set_option genInjectivity false in
structure Cx where
 prog:aS
 w:aG
 K:ax
 mg:Str->Option ai
 base:az
 A:aX
 N:List Str
 s₀:ao
 H₀:Hp
 env:Env
 outer:List Env
 stack:List Env
 ex:List ag
 fn:Str->Bool
 calm:Bool
 pn:List (ag×Obj)
 xe:ai->ao->Prop
def fR(l:List Env):List ag:=l.filterMap (·.frame)
abbrev Cx.fs(X:Cx):List ag:=fR X.outer
def dA(a:d8)(x:Str):Prop:=a.names.lookup x=aa .local\/a.names.lookup x=aa .cell\/a.names.lookup x=aa .free
def Loc(a:d8)(x:Str):Prop:=a.names.lookup x=aa .local\/a.names.lookup x=aa .cell
def Look(a:Env)(h:az)(m:Str->Option ai)(x:Str)(u:ai):Prop :=(a.kindOf x=aa .local/\m x=aa u)\/((a.kindOf x=aa .cell\/a.kindOf x=aa .free)/\∃c,a.cells.lookup x=aa c/\h.IsCell c (aa u))
def z8:List Str:=["least_ending"]
def vo(K:ax)(H:Hp):Prop:=∀x∈z8,∀c P,o5 K x=aa (c,P)->H P=aa (.tbl (x++".<locals>.<lambda>"))
set_option genInjectivity false in
structure Cx.Ok(X:Cx):Prop where
 mod:Mod X.K X.mg X.base
 kind:X.env.scope.kind=.function
 glob:X.env.globals=cG
 blt:X.env.builtins=o4
 above:X.s₀.heap.objs.size<=X.env.locals
 inj:∀x y c,X.env.cells.lookup x=aa c->X.env.cells.lookup y=aa c->x=y
 has:∀x,(X.env.kindOf x=aa .cell\/X.env.kindOf x=aa .free)->∃c,X.env.cells.lookup x=aa c
 cab:∀x c,X.fn x=ah->X.env.cells.lookup x=aa c->X.s₀.heap.objs.size<=c
 hd:X.calm=ah->X.A.handled=ae
 frames:X.A.frames=aa X.stack
 stk:X.stack=X.outer\/(X.stack=X.env::X.outer/\X.env.frame=aa X.env.locals)
 exf:∀b∈X.ex,b≠X.env.locals/\∀x c,X.env.cells.lookup x=aa c->c≠b
 bs:∀b o,X.base.get? b=aa o->X.s₀.heap.get? b=aa o/\X.H₀ b=ae
 bsz:X.base.objs.size<=X.s₀.heap.objs.size
 noex:∀b o,X.base.get? b=aa o->b∉X.ex
 exfs:∀b∈X.ex,b∉X.fs
 funs:X.s₀.heap.FunFrames X.base X.outer
 frf:∀b∈X.fs,X.H₀ b=ae
 tab:vo X.K X.H₀
structure Inv(X:Cx)(af:List (ag×Obj))(σ:List (Option V))(H:Hp)(s:ao):Prop where
 ok:X.Ok
 os:s.os=X.s₀.os
 bare:mj s.gens
 base:Un X.fs X.ex X.H₀ H X.s₀.heap s.heap
 loc:∃m,s.heap.Ns X.env.locals m/\∀(i:Nat) (x:Str) (v:V),X.N[i]?=aa x->σ[i]?=aa (aa v)->dA X.env.scope x->∃u,RelV v u/\Look X.env s.heap m x u
 cell:∀x c,X.env.cells.lookup x=aa c->∃v,s.heap.IsCell c v
 free:H X.env.locals=ae
 freeC:∀x c,X.env.cells.lookup x=aa c->H c=ae
 pin:∀p∈X.pn++af,s.heap.get? p.1=aa p.2/\H p.1=ae/\p.1≠X.env.locals/\p.1∉X.fs/\∀v,p.2.data≠.cell v
 hok:c9 X.prog X.w H s.heap
 len:σ.length=X.N.length
section
variable{X:Cx}{f:List (ag×Obj)}{g:List (Option V)}{H w:Hp}{s:ao}{h':az}
theorem Cx.Ok.nofr(ok:X.Ok){b:ag}{o:Obj}(e:X.base.get? b=aa o):b∉X.fs:=λa=>by
 have:=(ok.funs.mem a).1;rw[e]at this;cases this
theorem Inv.bs(I:Inv X f g H s):∀b o,X.base.get? b=aa o->s.heap.get? b=aa o/\H b=ae:=λb o e=>⟨I.base.keep b o (I.ok.bs b o e).1 (I.ok.bs b o e).2 (I.ok.nofr e) (I.ok.noex b o e),I.base.free b o (I.ok.bs b o e).1 (I.ok.bs b o e).2 (I.ok.noex b o e)⟩
theorem Inv.bk(I:Inv X f g H s):∀b o,X.base.get? b=aa o->s.heap.get? b=aa o:=λb o e=>(I.bs b o e).1
theorem Inv.mod(I:Inv X f g H s):Mod X.K X.mg X.base:=I.ok.mod
theorem Inv.kIn(I:Inv X f g H s):X.K.In s.heap:=I.ok.mod.kin.keeps I.bk
theorem Inv.lt(I:Inv X f g H s):X.env.locals<s.heap.objs.size:=let ⟨_,hn,_⟩:=I.loc;hn.lt
theorem Inv.sz(I:Inv X f g H s):X.s₀.heap.objs.size<=s.heap.objs.size:=cH I.ok.above (kc I.lt)
theorem Inv.nofs(I:Inv X f g H s){a:ag}(h:s.heap.objs.size<=a):a∉X.fs:=λc=>by obtain⟨_,o,b,_⟩:=I.ok.funs.mem c;exact absurd (h8 (bC b) (cH I.sz h)) (eL _)
theorem Inv.cne(I:Inv X f g H s):∀x c,X.env.cells.lookup x=aa c->c≠X.env.locals:=λx c e z=>by
 obtain⟨v,o,a,b⟩:=I.cell x c e;obtain⟨m,⟨i,j,l,h,d,_⟩,_⟩:=I.loc;rw[z,h]at a;cases a;rw[d]at b;cases b
theorem Inv.tab(I:Inv X f g H s):vo X.K H:=λx a c P h=>I.base.tbls P _ (I.ok.tab x a c P h)
theorem Inv.funs(I:Inv X f g H s):s.heap.FunFrames X.base X.outer:=by
 have all:∀(l:List Env),(∀b∈fR l,b∈X.fs)->X.s₀.heap.FunFrames X.base l->s.heap.FunFrames X.base l:=by
  intro l
  induction l with
  |nil=>intro _ _;trivial
  |cons v r i=>intro h p;obtain⟨q,⟨L,o,a,n,m,u⟩,j⟩:=p;have d:L∈X.fs:=h L (by unfold fR;rw[t6,a];exact kK);obtain⟨x,e⟩:=I.base.slot L o m (I.ok.frf L d) d λz=>I.ok.exfs L z d;exact⟨q,⟨L,_,a,n,e,u⟩,i (λb c=>h b (by unfold fR;rw[t6,a];exact iN _ c)) j⟩
 exact all X.outer (λ_ c=>c) I.ok.funs
theorem Inv.stack(I:Inv X f g H s):s.heap.FunFrames X.base X.stack:=by
 rcases I.ok.stk with e|⟨e,b⟩
 .rw[e];exact I.funs
 .rw[e];obtain⟨m,a,_⟩:=I.loc;refine .cons (by rw[I.ok.kind];decide) b a ?_ I.funs;exact Gf (cH I.ok.bsz I.ok.above)
theorem Inv.stkSub(I:Inv X f g H s):∀b∈fR X.stack,b∈X.env.locals::X.fs:=λb a=>by
 rcases I.ok.stk with e|⟨e,c⟩
 .rw[e]at a;exact iN _ a
 .rw[e]at a;unfold fR at a;rw[t6,c]at a;exact a
theorem Inv.stkFree(I:Inv X f g H s):∀b∈fR X.stack,H b=ae:=λb a=>by
 rcases bw.mp (I.stkSub b a)with e|a
 .rw[e];exact I.free
 .obtain⟨_,o,c,_⟩:=I.ok.funs.mem a;exact I.base.free b o c (I.ok.frf b a) λz=>I.ok.exfs b z a
theorem Inv.step{g':Array GenState}{t':Nat}{d':Drawn}{ch:List ag}(I:Inv X f g H s)(M:∀b∈ch,(b∈X.ex\/X.s₀.heap.objs.size<=b)/\b≠X.env.locals/\(∀x c,X.env.cells.lookup x=aa c->c≠b)/\∀p∈X.pn++f,p.1≠b)(keep:∀b o,b≠X.env.locals->b∉X.fs->b∉ch->s.heap.get? b=aa o->H b=ae->h'.get? b=aa o)(B:∀b o,b≠X.env.locals->b∈X.fs->b∉ch->s.heap.get? b=aa o->H b=ae->∃P,h'.get? b=aa {o with slots:=P}) (free:∀b o,b∉ch->s.heap.get? b=aa o->H b=ae->w b=ae)(C:∀b o,b∉ch->s.heap.get? b=aa o->∃K,h'.get? b=aa K)(G:∀b A,H b=aa (.tup A)->w b=aa (.tup A)) (N:∀b o u,H b=aa (.frz o u)->w b=aa (.frz o u)) (J:∀b q,H b=aa (.tbl q)->w b=aa (.tbl q))(ns:∀m,s.heap.Ns X.env.locals m->h'.Ns X.env.locals m) (Q:c9 X.prog X.w w h') (hg:mj g'):Inv X f g w {s with heap:=h',gens:=g',drawn:=d',toks:=t'}:=by
 have L:∀b o,X.s₀.heap.get? b=aa o->b≠X.env.locals:=λb o e=>cF (h8 (bC e) I.ok.above);have y:∀b o,X.s₀.heap.get? b=aa o->b∉X.ex->b∉ch:=λb o e a D=>by
  rcases(M b D).1 with z|z
  .exact a z
  .exact absurd (h8 (bC e) z) (eL _)
 have j:∀x c,X.env.cells.lookup x=aa c->∀v,s.heap.IsCell c v->h'.IsCell c v:=λx c e v ⟨o,F,S⟩=>by
  have h:c∉ch:=λz=>(M c z).2.2.1 x c e rfl;by_cases hc:c∈X.fs
  .obtain⟨P,q⟩:=B c o (I.cne x c e) hc h F (I.freeC x c e);exact⟨_,q,S⟩
  .exact⟨o,keep c o (I.cne x c e) hc h F (I.freeC x c e),S⟩
 refine⟨I.ok,I.os,hg,⟨λb o e n D a=>?_,λb o e n D a=>?_,λb o e n a=>?_,λb o e a=>?_,λb A e=>G b A (I.base.tups b A e),λb o A e=>N b o A (I.base.frzs b o A e),λb ps e=>?_⟩,?_,λx c e=>?_,?_,λx c e=>?_,λp Z=>?_,Q,I.len⟩
 .exact keep b o (L b o e) D (y b o e a) (I.base.keep b o e n D a) (I.base.free b o e n a)
 .obtain⟨P,E⟩:=I.base.slot b o e n D a;obtain⟨O,T⟩:=B b _ (L b o e) D (y b o e a) E (I.base.free b o e n a);exact⟨O,T⟩
 .obtain⟨K,E⟩:=I.base.there b o e a;exact free b K (y b o e a) E (I.base.free b o e n a)
 .obtain⟨K,E⟩:=I.base.there b o e a;exact C b K (y b o e a) E
 .exact J b _ (I.base.tbls b ps e)
 .obtain⟨m,hn,hl⟩:=I.loc;refine⟨m,ns m hn,λi x v E T e3=>?_⟩;obtain⟨u,r,l⟩:=hl i x v E T e3;refine⟨u,r,?_⟩;rcases l with l|⟨k,c,e,z⟩
  .exact .inl l
  .exact .inr ⟨k,c,e,j x c e _ z⟩
 .obtain⟨v,z⟩:=I.cell x c e;exact⟨v,j x c e v z⟩
 .obtain⟨m,⟨o,_,_,F,_⟩,_⟩:=I.loc;exact free _ o (λz=>(M _ z).2.1 rfl) F I.free
 .obtain⟨v,o,F,S⟩:=I.cell x c e;exact free c o (λz=>(M c z).2.2.1 x c e rfl) F (I.freeC x c e)
 .obtain⟨e,n,Y,W,d⟩:=I.pin p Z;have h:p.1∉ch:=λz=>(M p.1 z).2.2.2 p Z rfl;exact⟨keep p.1 p.2 Y W h e n,free p.1 p.2 h e n,Y,W,d⟩
theorem Inv.un{t':Nat}(I:Inv X f g H s)(u:Un X.fs [] H w s.heap h')(a:c9 X.prog X.w w h'):Inv X f g w {s with heap:=h',toks:=t'}:=by
 obtain⟨m,⟨o,A,B,i,r⟩,_⟩:=id I.loc;obtain⟨v,q⟩:=u.any i I.free (by simp);exact I.step (g':=s.gens) (d':=s.drawn) (ch:=[]) (λ_ z=>nomatch z) (λb o _ c _ e n=>u.keep b o e n c (by simp)) (λb o _ c _ e n=>u.slot b o e n c (by simp)) (λb o _ e n=>u.free b o e n (by simp)) (λb o _ e=>u.there b o e (by simp)) u.tups u.frzs u.tbls (λy p=>by
  obtain⟨x,d,h,j,l⟩:=p;rw[i]at j;cases j;exact⟨_,d,h,q,l⟩) a I.bare
theorem Inv.call{g':Array GenState}{t':Nat}{d':Drawn}{ch:List ag}(I:Inv X f g H s)(u:Un (fR X.stack) ch H w s.heap h')(d:c9 X.prog X.w w h')(B:mj g')(l:∀b∈ch,(b∈X.ex\/X.s₀.heap.objs.size<=b)/\b≠X.env.locals/\(∀x c,X.env.cells.lookup x=aa c->c≠b)/\∀p∈X.pn++f,p.1≠b):Inv X f g w {s with heap:=h',gens:=g',drawn:=d',toks:=t'}:=by
 obtain⟨m,⟨o,G,J,q,r⟩,_⟩:=id I.loc;obtain⟨D,h⟩:=u.any q I.free λz=>(l _ z).2.1 rfl;exact I.step (ch:=ch) l (λb o h C a e n=>u.keep b o e n (λz=>(bw.mp (I.stkSub b z)).elim h C) a) (λb o _ _ a e n=>u.any e n a) (λb o a e n=>u.free b o e n a) (λb o a e=>u.there b o e a) u.tups u.frzs u.tbls (λF A=>by
  obtain⟨E,i,j,v,y⟩:=A;rw[q]at v;cases v;exact⟨_,i,j,h,y⟩) d B
theorem Inv.turned{t':Nat}{it:ag}(I:Inv X f g H s)(k:∀b o,b≠it->s.heap.get? b=aa o->h'.get? b=aa o)(j:H it=ae)(h:it≠X.env.locals)(C:it∈X.ex\/X.s₀.heap.objs.size<=it) (B:∀x c,X.env.cells.lookup x=aa c->c≠it) (A:∀p∈X.pn++f,p.1≠it):Inv X f g H {s with heap:=h',toks:=t'}:=by
 have d:∀b u,H b=aa u->b≠it:=λb u e z=>by rw[z,j]at e;cases e
 refine I.step (g':=s.gens) (d':=s.drawn) (ch:=[it]) (λb y=>?_) (λb o _ _ a e _=>k b o (λz=>a (by simp[z])) e) (λb o _ _ a e _=>⟨o.slots,k b o (λz=>a (by simp[z])) e⟩) (λ_ _ _ _ n=>n)
  (λb o a e=>⟨o,k b o (λz=>a (by simp[z])) e⟩) (λ_ _ e=>e) (λ_ _ _ e=>e) (λ_ _ e=>e) (λm l=>?_) (λb u e=>?_) I.bare
 .have e:b=it:=by simpa using y
  subst e;exact⟨C,h,B,A⟩
 .obtain⟨o,D,E,i,r⟩:=l;exact⟨o,D,E,k _ o (eD h) i,r⟩
 .refine(I.hok b u e).stay (λc v a q=>k c v ?_ q) (λ_ q=>q) λ_ _ q=>q;rcases a with z|z
  .rw[z];exact d b u e
  .exact d c _ z
theorem Inv.tok(I:Inv X f g H s)(t:Nat):Inv X f g H {s with toks:=t}:=I.un (h':=s.heap) (t':=t) Un.refl I.hok
theorem Inv.kept{t':Nat}(I:Inv X f g H s)(k:∀b u,s.heap.get? b=aa u->h'.get? b=aa u):Inv X f g H {s with heap:=h',toks:=t'}:=I.un (Un.kept k) (I.hok.kept k)
theorem Inv.laid{a:ag}{o:HO}{t':Nat}(I:Inv X f g H s)(k:∀b u,s.heap.get? b=aa u->h'.get? b=aa u)(c:s.heap.objs.size<=a)(new:b7 X.prog X.w (upd H a o) h' a o):Inv X f g (upd H a o) {s with heap:=h',toks:=t'}:=I.un (Un.laid k c (I.hok.fresh c)) (I.hok.laid k c new)
theorem Inv.write{x e:ag}{o:HO}{h:Nat}(I:Inv X f g H s)(c:sL (H x))(d:e=x\/H e=aa (.own x))(k:∀b u,b≠e->s.heap.get? b=aa u->h'.get? b=aa u)(a:∃u,h'.get? e=aa u)(new:b7 X.prog X.w (upd H x o) h' x o):Inv X f g (upd H x o) {s with heap:=h',toks:=h}:=I.un (Un.write c d k a) (I.hok.write c d k a new)
theorem Inv.pins_of{a:List (ag×Obj)}(I:Inv X f g H s)(h:∀p∈a,s.heap.get? p.1=aa p.2/\H p.1=ae/\p.1≠X.env.locals/\p.1∉X.fs/\∀v,p.2.data≠.cell v):Inv X a g H s :=⟨I.ok,I.os,I.bare,I.base,I.loc,I.cell,I.free,I.freeC,λp b=>(fY.mp b).elim (λz=>I.pin p (lq _ z)) (h p),I.hok,I.len⟩
theorem Cf{N:List Str}(c:N.Nodup){i j:Nat}{x:Str}(a:N[i]?=aa x)(b:N[j]?=aa x):i=j:=by obtain⟨m,h⟩:=dG.mp a;obtain⟨l,d⟩:=dG.mp b;exact(List.getElem_inj c).mp (h.trans d.symm)
theorem E3{M:Model}{A:aX}{E:ai->ao->Prop}{i:Nat}{x:Str}{v:V}{u:ai}{Q:Unit->ao->Prop}(I:Inv X f g H s)(hN:X.N.Nodup)(T:X.N[i]?=aa x)(F:Loc X.env.scope x)(r:RelV v u)(h:∀s',Inv X f (g.set i (aa v)) H s'->(∃a,kL a s.heap s'.heap/\(a=X.env.locals\/X.env.cells.lookup x=aa a))->Q () s') (hf:X.fn x=ah\/X.env.scope.names.lookup x=aa .local:=by first|exact .inl rfl|exact .inr rfl|assumption):aq M A (storeName X.env x u) Q E s:=by
 obtain⟨m,hn,hl⟩:=id I.loc;have Bp:(X.env.scope.kind == .class||(X.env.scope.kind == .module&&X.env.locals != X.env.globals))=ak:=by rw[I.ok.kind];rfl
 have K:i<g.length:=by rw[I.len];exact(dG.mp T).1
 have cne:=I.cne;have B:∀{a:ag}{h':az},(∃o,s.heap.get? a=aa o/\H a=ae)->kL a s.heap h'->c9 X.prog X.w H h':=λ{a h'} ha l b ob e=>by
  obtain⟨_,_,ux⟩:=ha;refine(I.hok b ob e).stay (λc Y D q=>(l.2 c ?_).trans q) (λ_ q=>q) λ_ _ q=>q;rintro rfl;rcases D with rfl|D
  .rw[ux]at e;cases e
  .rw[ux]at D;cases D
 rcases F with J|J
 .refine wpAny_storeName_local J hn (λh' hn' l=>?_) Bp;obtain⟨oL,_,_,mE,_⟩:=id hn;refine h _ ⟨I.ok,I.os,I.bare,⟨λb o e n O F=>?_,λb o e n O F=>?_,I.base.free,λb o e F=>?_,I.base.tups,I.base.frzs,I.base.tbls⟩,⟨_,hn',λj y v' C G e3=>?_⟩,λy c e=>?_,I.free,I.freeC,λp hp=>?_,B ⟨oL,mE,I.free⟩ l,by simpa using I.len⟩ ⟨_,l,.inl rfl⟩
  .exact(l.2 b (cF (h8 (bC e) I.ok.above))).trans (I.base.keep b o e n O F)
  .obtain⟨sl,C⟩:=I.base.slot b o e n O F;exact⟨sl,(l.2 b (cF (h8 (bC e) I.ok.above))).trans C⟩
  .obtain⟨o',C⟩:=I.base.there b o e F;exact⟨o',(l.2 b (cF (h8 (bC e) I.ok.above))).trans C⟩
  .by_cases L:j=i
   .subst L;rw[T]at C;cases C;rw[h_ K]at G;cases G;exact⟨u,r,.inl ⟨J,by simp⟩⟩
   .rw[ff (eD L)]at G;obtain⟨u',r',q⟩:=hl j y v' C G e3;refine⟨u',r',?_⟩;rcases q with⟨k,e⟩|⟨k,c,e,z⟩
    .refine .inl ⟨k,?_⟩;have:y≠x:=λe=>L (Cf hN C (e ▸ T));simp[this,e]
    .exact .inr ⟨k,c,e,z.sameBut l (cne y c e)⟩
  .obtain⟨Y,z⟩:=I.cell y c e;exact⟨Y,z.sameBut l (cne y c e)⟩
  .obtain⟨e,n,Z,nf,d⟩:=I.pin p hp;exact⟨(l.2 p.1 Z).trans e,n,Z,nf,d⟩
 .have N:X.fn x=ah:=by
   rcases hf with z|z
   .exact z
   .rw[z]at J;cases J
  obtain⟨c,D⟩:=I.ok.has x (.inl J);obtain⟨Y,z⟩:=I.cell x c D;refine wpAny_storeName_cell I.ok.kind J D z (λh' iW l=>?_);obtain⟨oc,S,P⟩:=id z;refine h {s with heap:=h'} ⟨I.ok,I.os,I.bare,⟨λb o e n O F=>?_,λb o e n O F=>?_,I.base.free,λb o e F=>?_,I.base.tups,I.base.frzs,I.base.tbls⟩,⟨m,hn.sameBut l (eD (cne x c D)),λj y v' C G e3=>?_⟩,λy c' e=>?_,I.free,I.freeC,λp hp=>?_,B ⟨oc,S,I.freeC x c D⟩ l,by simpa using I.len⟩ ⟨c,l,.inr D⟩
  .exact(l.2 b (cF (h8 (bC e) (I.ok.cab x c N D)))).trans (I.base.keep b o e n O F)
  .obtain⟨sl,C⟩:=I.base.slot b o e n O F;exact⟨sl,(l.2 b (cF (h8 (bC e) (I.ok.cab x c N D)))).trans C⟩
  .obtain⟨o',C⟩:=I.base.there b o e F;exact⟨o',(l.2 b (cF (h8 (bC e) (I.ok.cab x c N D)))).trans C⟩
  .by_cases L:j=i
   .subst L;rw[T]at C;cases C;rw[h_ K]at G;cases G;exact⟨u,r,.inr ⟨.inl J,c,D,iW⟩⟩
   .rw[ff (eD L)]at G;obtain⟨u',r',q⟩:=hl j y v' C G e3;refine⟨u',r',?_⟩;rcases q with q|⟨k,c',e,z'⟩
    .exact .inl q
    .refine .inr ⟨k,c',e,z'.sameBut l ?_⟩;rintro rfl;exact L (Cf hN C (I.ok.inj _ _ _ e D ▸ T))
  .by_cases W:c'=c
   .subst W;exact⟨_,iW⟩
   .obtain⟨w2,z2⟩:=I.cell y c' e;exact⟨w2,z2.sameBut l W⟩
  .obtain⟨e,n,Z,nf,d⟩:=I.pin p hp;refine⟨(l.2 p.1 ?_).trans e,n,Z,nf,d⟩;intro q;rw[q,S]at e;have q':oc=p.2:=dP e;exact d Y (by rw[<-q'];exact P)
theorem EK{M:Model}{A:aX}{E:ai->ao->Prop}{i:Nat}{x:Str}{v:V}{u:ai}{Q:Unit->ao->Prop}(I:Inv X f g H s)(j:X.N.Nodup)(c:X.N[i]?=aa x)(b:Loc X.env.scope x)(r:RelV v u)(h:∀a,Inv X f (g.set i (aa v)) H a->Q () a) (d:X.fn x=ah\/X.env.scope.names.lookup x=aa .local:=by first|exact .inl rfl|exact .inr rfl|assumption):aq M A (storeName X.env x u) Q E s :=E3 I j c b r (λa l _=>h a l) d
theorem Inv.call'{s':ao}{ch:List ag}(I:Inv X f g H s)(i:s'.os=s.os)(u:Un (fR X.stack) ch H w s.heap s'.heap)(a:c9 X.prog X.w w s'.heap)(j:mj s'.gens)(h:∀b∈ch,(b∈X.ex\/X.s₀.heap.objs.size<=b)/\b≠X.env.locals/\(∀x c,X.env.cells.lookup x=aa c->c≠b)/\∀p∈X.pn++f,p.1≠b):Inv X f g w s':=by obtain⟨h',g',d',t',d⟩:=s';have e:d=s.os:=i;subst e;exact I.call (g':=g') (t':=t') (d':=d') u a j h
end
abbrev XK:=ai->Option ag->Hp->Prop
abbrev St:=List (Option V)
abbrev VK:=V->Hp->Prop
abbrev TE:=St->Hp->VK->Prop
abbrev TT:=St->Hp->(Bool->Hp->Prop)->Prop
abbrev TA:=St->Hp->(List V->Hp->Prop)->Prop
structure j0 where
 nx:St->Hp->Prop
 rt:VK
 bk:St->Hp->Prop:=λ_ _=>False
 ct:St->Hp->Prop:=λ_ _=>False
abbrev TS:=j0->St->Hp->Prop
def EP(X:Cx)(d:List (ag×Obj))(b:St)(Q:VK)(u:ai)(c:ao):Prop:=∃v a,Inv X d b a c/\RelV v u/\Q v a
def TP(X:Cx)(f:List (ag×Obj))(c:St)(Q:Bool->Hp->Prop)(b:Bool)(d:ao):Prop:=∃a,Inv X f c a d/\Q b a
def AP(X:Cx)(g:List (ag×Obj))(c:St)(Q:List V->Hp->Prop)(d:List ai)(f:ao):Prop:=∃a b,Inv X g c b f/\bq a d/\Q a b
def SP(X:Cx)(c:List (ag×Obj))(D:j0)(f:Flow)(s':ao):Prop :=
 match f with
 |.next=>∃a b,Inv X c a b s'/\D.nx a b
 |.brk=>∃a b,Inv X c a b s'/\D.bk a b
 |.cont=>∃a b,Inv X c a b s'/\D.ct a b
 |.ret u=>∃v a b,Inv X c a b s'/\RelV v u/\D.rt v b
def PE(X:Cx)(e:ay)(t:TE):Prop :=
 ∀(b:List (ag×Obj)) (s:ao) (a:St) (H:Hp) (Q:VK),Inv X b a H s->t a H Q->aq (ar X.prog X.w) X.A (aM e X.env) (EP X b a Q) X.xe s
def PT(X:Cx)(e:ay)(t:TT):Prop :=
 ∀(b:List (ag×Obj)) (s:ao) (a:St) (H:Hp) (Q:Bool->Hp->Prop),Inv X b a H s->t a H Q->aq (ar X.prog X.w) X.A (ml e X.env (aM e X.env)) (TP X b a Q) X.xe s
def PW(X:Cx)(e:ay)(t:TT):Prop :=
 ∀(c:Sem ai) (b:List (ag×Obj)) (s:ao) (a:St) (H:Hp) (Q:Bool->Hp->Prop),Inv X b a H s->t a H Q->aq (ar X.prog X.w) X.A (ml e X.env c) (TP X b a Q) X.xe s
def PA(X:Cx)(d:List ay)(t:TA):Prop :=
 ∀(b:Pos) (c:List (ag×Obj)) (s:ao) (a:St) (H:Hp) (Q:List V->Hp->Prop),Inv X c a H s->t a H Q->aq (ar X.prog X.w) X.A (spliced (cY b (aQ d X.env))) (AP X c a Q) X.xe s
def PS(X:Cx)(c:bf)(t:TS):Prop :=
 ∀(b:List (ag×Obj)) (s:ao) (a:St) (H:Hp) (D:j0),Inv X b a H s->t D a H->aq (ar X.prog X.w) X.A (exec c X.env) (SP X b D) X.xe s
def kG(X:Cx)(c:List bf)(t:TS):Prop :=
 ∀(b:List (ag×Obj)) (s:ao) (a:St) (H:Hp) (D:j0),Inv X b a H s->t D a H->aq (ar X.prog X.w) X.A (execs c X.env) (SP X b D) X.xe s
theorem aH{b:Type}{t:Sem b}{Q c:b->ao->Prop}{M:Model}{A:aX}{E:ai->ao->Prop}{s:ao}(h:aq M A t Q E s)(d:∀a s,Q a s->c a s):aq M A t c E s:=fH h d λ_ _ x=>x
section
variable{X:Cx}
theorem OL{a b:ay}{n o:TE}(D:PE X a n)(C:PE X b o){l:List (ag×Obj)}{s:ao}{c:St}{H:Hp}{R:V->V->Hp->Prop}(I:Inv X l c H s)(h:n c H λx m=>o c m λy d=>R x y d){p:Type}{Q:p->ao->Prop}{f:ai->ai->Sem p}(B:∀v u j x y d,Inv X l c d j->RelV x v->RelV y u->R x y d->aq (ar X.prog X.w) X.A (f v u) Q X.xe j):aq (ar X.prog X.w) X.A (aM a X.env) (λv i=>aq (ar X.prog X.w) X.A (aM b X.env) (λu g=>aq (ar X.prog X.w) X.A (f v u) Q X.xe g) X.xe i) X.xe s:=by refine aH (D l s c H _ I h) λv q ⟨x,m,F,w,A⟩=>?_;refine aH (C l q c m _ F A) λu j ⟨y,d,E,r,z⟩=>?_;exact B v u j x y d E w r z
def wX(i:Nat):TE:=λa H Q=>∃v,a[i]?=aa (aa v)/\Q v H
def tC(v:V):TE:=λ_ H Q=>Q v H
theorem eI{i:Nat}{x:Str}{g:Pos}(p:X.N[i]?=aa x)(j:dA X.env.scope x)(d:(x==("__debug__":Str))=ak:=by decide)(q:(x==("__classdict__":Str))=ak:=by decide):PE X (.Name x g) (wX i):=by
 intro w s f H Q I h;obtain⟨v,e,h⟩:=h;obtain⟨m,n,o⟩:=I.loc;obtain⟨u,r,l⟩:=o i x v p e j;have b:EP X w f Q u s:=⟨v,H,I,r,h⟩
 rcases l with⟨a,hm⟩|⟨a,c,hc,xP⟩
 .exact wpAny_Name (wpAny_loadName_local I.ok.kind a n hm b) d
 .rcases a with a|a
  .exact wpAny_Name (wpAny_loadName_cell I.ok.kind a hc xP b) d
  .exact wpAny_Name (wpAny_loadName_free I.ok.kind a hc xP b q) d
theorem z_{i j g}:PE X (.Constant (.int i) j g) (tC (.int i)):=λ_ _ _ H _ I h=>wpAny_Constant_int ⟨.int i,H,I.tok _,⟨_,rfl⟩,h⟩
theorem Mz{b j g}:PE X (.Constant (.bool b) j g) (tC (.bl b)):=λ_ _ _ H _ I h=>Constant_bool ⟨.bl b,H,I,rfl,h⟩
theorem Ll{x j g}:PE X (.Constant (.str x) j g) (tC (.str x)):=λ_ _ _ H _ I h=>Calls.Constant_str ⟨.str x,H,I.tok _,⟨_,rfl⟩,h⟩
def Gl(X:Cx)(x:Str):Prop:=X.env.kindOf x=aa .globalImplicit
theorem Ai{E:ai->ao->Prop}{f:List (ag×Obj)}{s:ao}{a:St}{H:Hp}{x:Str}{u:ai}{g:Pos}{Q:ai->ao->Prop}(I:Inv X f a H s)(c:Gl X x)(b:X.mg x=aa u)(h:Q u s)(d:(x==("__debug__":Str))=ak:=by decide):aq (ar X.prog X.w) X.A (aM (.Name x g) X.env) Q E s :=Calls.Name_function_global I.ok.kind c (Calls.loadGlobal_global (by rw[I.ok.glob];exact I.mod.glob.keeps I.bk) b h) d
theorem wV{E:ai->ao->Prop}{m:List (ag×Obj)}{s:ao}{a:St}{H:Hp}{x:Str}{u:ai}{g:Pos}{Q:ai->ao->Prop}(I:Inv X m a H s)(f:Gl X x)(d:X.mg x=ae)(b:d7 x=aa u)(h:Q u s)(c:x≠"__name__":=by decide) (i:(x==("__debug__":Str))=ak:=by decide):aq (ar X.prog X.w) X.A (aM (.Name x g) X.env) Q E s:=by obtain⟨n,l,j⟩:=I.mod.blt;exact Calls.Name_function_global I.ok.kind f (Calls.loadGlobal_builtin (by rw[I.ok.glob];exact I.mod.glob.keeps I.bk) d (by rw[I.ok.blt];exact l.keeps I.bk) ((j x c).trans b) h) i
theorem EH{x:Str}{v:V}{u:ai}{g:Pos}(b:Gl X x)(a:X.mg x=aa u)(r:RelV v u)(c:(x==("__debug__":Str))=ak:=by decide):PE X (.Name x g) (tC v) :=λ_ _ _ H _ I h=>Ai I b a ⟨v,H,I,r,h⟩ c
theorem KQ{x:Str}{v:V}{u:ai}{g:Pos}(d:Gl X x)(c:X.mg x=ae)(a:d7 x=aa u)(r:RelV v u)(b:x≠"__name__":=by decide)(f:(x==("__debug__":Str))=ak:=by decide):PE X (.Name x g) (tC v) :=λ_ _ _ H _ I h=>wV I d c a ⟨v,H,I,r,h⟩ b f
def NB(n o:TE)(k:Int->Int->Hp->Prop):St->Hp->Prop:=λa H=>n a H λx c=>o a c λy b=>∃i j,x=.int i/\y=.int j/\k i j b
variable{a b:ay}{n o:TE}{g:Pos}
def PC(X:Cx)(i:CmpOp)(a b:ay)(t:TE):Prop :=
 ∀(h:List (ag×Obj)) (s:ao) (f:St) (H:Hp) (Q:VK),Inv X h f H s->t f H Q ->
  aq (ar X.prog X.w) X.A (aM a X.env) (λv d=>aq (ar X.prog X.w) X.A (aM b X.env) (λu c=>aq (ar X.prog X.w) X.A (dw i v u) (EP X h f Q) X.xe c) X.xe d) X.xe s
theorem Pj(b:ay){c:CmpOp}(h:c≠.In)(d:c≠.NotIn):lr c b=ak:=by
 have i:(c == CmpOp.In)=ak:=by cases c <;> first|rfl|exact absurd rfl h
 have f:(c == CmpOp.NotIn)=ak:=by cases c <;> first|rfl|exact absurd rfl d
 cases b <;> simp[lr,i,f]
def B_(p:Int->Int->Bool)(n o:TE):TE:=λc H Q=>NB n o (λi j d=>Q (.bl (p i j)) d) c H
abbrev H_:TE->TE->TE:=B_ λi j=>decide (j<i)
theorem M6{d:CmpOp}{p:Int->Int->Bool}(z:PE X a n)(w:PE X b o)(c:∀(i j:Int) (t u:Tok) (Q:ai->ao->Prop) (s:ao),Q (.bool (p i j)) s->aq (ar X.prog X.w) X.A (dw d (.int i t) (.int j u)) Q X.xe s):PC X d a b (B_ p n o):=by intro D s C H Q I h;refine OL z w I h λv u l x y B A r m q=>?_;obtain⟨i,j,rfl,rfl,q⟩:=q;obtain⟨t,rfl⟩:=r;obtain⟨f,rfl⟩:=m;exact c i j t f _ l ⟨.bl _,B,A,rfl,q⟩
theorem Hj(d:PE X a n)(c:PE X b o):PC X .Gt a b (H_ n o):=M6 d c λ_ _ _ _ _ _ h=>gt_int h
def tB(t:TE):TT:=λd H Q=>t d H λx f=>∃c,x=.bl c/\Q c f
theorem wU{f:CmpOp}{t:TE}(h:PC X f a b t)(i:lr f b=ak:=by first|exact Pj _ (by decide) (by decide)|rfl):PT X (.Compare a [f] [b] g) (tB t):=by
 intro w s j H Q I p;refine wpAny_isTrue_Compare1 (aH (h w s j H _ I p) λv C i=>aH i λu B r=>aH r λc A ⟨x,z,y,l,m⟩=>?_) i;obtain⟨d,rfl,q⟩:=m;cases l;exact nE ⟨z,y,q⟩
theorem NR{e:ay}{t:TE}(h:PE X e t)(m:∀c,ml e X.env c=(do let v <-c;standAt e.pos;nG [v] (truthy v)):=by intro _;rfl):PT X e (tB t):=by
 intro p s f H Q I l;refine isTrue_plain (aH (h p s f H _ I l) λv w ⟨x,u,r,i,j⟩=>?_) (m _);obtain⟨d,rfl,q⟩:=j;cases i;exact nE ⟨u,r,q⟩
variable{w z:TT}{rest:List ay}
def Hl(t u:TT):TT:=λd H Q=>t d H λc f=>if c=ah then u d f Q else Q ak f
def Ic(t u:TT):TT:=λd H Q=>t d H λc f=>if c=ah then Q ah f else u d f Q
def OR(t:TT):TT:=λd H Q=>t d H λc f=>Q (!c) f
theorem My(f:PT X a w):PW X (.BoolOp .And [a] g) w:=by
 intro j i s d H Q I h;refine isTrue_and (aH (f i s d H Q I h) λc l e=>?_);cases c with
 |true=>exact isTrue_and_nil e
 |false=>exact e
theorem K4(f:PT X a w):PW X (.BoolOp .Or [a] g) w:=by
 intro j i s d H Q I h;refine isTrue_or (aH (f i s d H Q I h) λc l e=>?_);cases c with
 |false=>exact isTrue_or_nil e
 |true=>exact e
theorem KR(r:PT X a w)(q:PW X (.BoolOp .And (b::rest) g) z):PW X (.BoolOp .And (a::b::rest) g) (Hl w z):=by
 intro m i s d H Q I h;refine isTrue_and (aH (r i s d H _ I h) λc p ⟨l,j,f⟩=>?_);cases c with
 |true=>exact q m i p d l Q j f
 |false=>exact⟨l,j,f⟩
theorem MI(r:PT X a w)(q:PW X (.BoolOp .Or (b::rest) g) z):PW X (.BoolOp .Or (a::b::rest) g) (Ic w z):=by
 intro m i s d H Q I h;refine isTrue_or (aH (r i s d H _ I h) λc p ⟨l,j,f⟩=>?_);cases c with
 |true=>exact⟨l,j,f⟩
 |false=>exact q m i p d l Q j f
theorem Jh(f:PT X a w):PT X (.UnaryOp .Not a g) (OR w):=by intro i s d H Q I h;exact isTrue_not (f i s d H (λc j=>Q (!c) j) I h)
def Jb(n o:TE):TE:=λd H Q=>n d H λx f=>∃c,x=.bl c/\if c=ah then o d f Q else Q (.bl ak) f
def LR(n:TE):TE:=λd H Q=>n d H λx f=>∃c,x=.bl c/\Q (.bl (!c)) f
theorem J0{op}{t:TE}(h:PE X a t):PE X (.BoolOp op [a] g) t:=λf s c H Q I d=>BoolOp_one (h f s c H Q I d)
theorem Hs(r:PE X a n)(q:PE X (.BoolOp .And (b::rest) g) o):PE X (.BoolOp .And (a::b::rest) g) (Jb n o):=by
 intro i s f H Q I h;refine BoolOp_and (aH (r i s f H _ I h) λv m ⟨x,l,j,p,d⟩=>?_);obtain⟨c,rfl,d⟩:=d;cases p;refine nE ?_;cases c with
 |true=>exact q i m f l Q j d
 |false=>exact⟨.bl ak,l,j,rfl,d⟩
theorem Oc(j:PE X a n):PE X (.UnaryOp .Not a g) (LR n):=by
 intro l s f H Q I h;refine UnaryOp_ (aH (j l s f H _ I h) λv q ⟨x,p,m,i,d⟩=>?_);obtain⟨c,rfl,d⟩:=d;cases i;exact not_of (nE ⟨.bl (!c),p,m,rfl,d⟩)
def Ld(t:TT)(n o:TE):TE:=λd H Q=>t d H λc f=>if c=ah then n d f Q else o d f Q
theorem KY{c:ay}(q:PT X c w)(u:PE X a n)(r:PE X b o):PE X (.IfExp c a b g) (Ld w n o):=by
 intro i s f H Q I h;refine wpAny_IfExp (aH (q i s f H _ I h) λd j ⟨p,m,l⟩=>?_);cases d with
 |true=>exact u i j f p Q m l
 |false=>exact r i j f p Q m l
end
def b9(K:ax)(H:Hp)(a:ag)(c:List V):Prop :=
 Rd H a (.lst c) \/
  ∃(o:Obj) (b:Array ai) (n:Nat),K.lookup a=aa o/\o.cls=.type "list"/\o.dict=ae/\o.data=.seq b n/\b.size<=a8/\bq c b.toList
def cL(K:ax)(H:Hp)(a:ag)(c:List V):Prop :=
 Rd H a (.tup c) \/
  ∃(o:Obj) (b:Array ai) (n:Nat),K.lookup a=aa o/\o.cls=.type "tuple"/\o.data=.seq b n/\b.size<=a8/\bq c b.toList
def P9:ai->Option V
 |.none=>aa .non
 |.bool b=>aa (.bl b)
 |.int i _=>aa (.int i)
 |.str x _=>aa (.str x)
 |.bytes b _=>aa (.byt b)
 |.float b _=>aa (.flt b)
 |.ref a=>aa (.ref a)
 |.type n=>aa (.ty n)
 |_=>ae
theorem RelV.abs{x:V}{u:ai}(r:RelV x u):P9 u=aa x:=by
 cases x with
 |non=>cases r;rfl
 |bl _=>cases r;rfl
 |int _=>obtain⟨t,rfl⟩:=r;rfl
 |str _=>obtain⟨t,rfl⟩:=r;rfl
 |byt _=>obtain⟨t,rfl⟩:=r;rfl
 |flt _=>obtain⟨t,rfl⟩:=r;rfl
 |ref _=>cases r;rfl
 |ty _=>cases r;rfl
theorem RelV.inj{x y:V}{u:ai}(r:RelV x u)(q:RelV y u):x=y:=dP (r.abs.symm.trans q.abs)
theorem bq.inj:∀{b a:List V}{c:List ai},bq b c->bq a c->b=a
 |_,_,_,.nil,.nil=>rfl
 |_,_,_,.cons r t,.cons f d=>by rw[r.inj f,bq.inj t d]
section
variable{X:Cx}{f:List (ag×Obj)}{c:St}{H:Hp}{s:ao}{a:ag}{b ys:List V}
theorem b9.of{K:ax}(h:H a=aa (.lst b)):b9 K H a b:=.inl (.inl h)
theorem cL.of{K:ax}(h:H a=aa (.tup b)):cL K H a b:=.inl (.inl h)
theorem Inv.list(I:Inv X f c H s)(h:b9 X.K H a b):∃its:List ai,bq b its/\PlainL s.heap a its.toArray/\b.length<=a8:=by
 rcases h with h|⟨o,its,n,g,j,i,d,l,r⟩
 .obtain⟨z,its,n,r,e⟩:=h.ok I.hok;exact⟨its,r,⟨_,n,e,rfl,rfl,rfl⟩,z⟩
 .refine⟨its.toList,r,⟨o,n,I.kIn a o g,j,i,by simpa using d⟩,?_⟩;have e:=r.length;simp only[mn]at e;lia
theorem Inv.tuple(I:Inv X f c H s)(h:cL X.K H a b):∃d:List ai,bq b d/\IsTup s.heap a d.toArray/\b.length<=a8:=by
 rcases h with h|⟨o,d,n,i,j,g,l,r⟩
 .obtain⟨z,d,r,p,_⟩:=h.ok I.hok;exact⟨d,r,p,z⟩
 .refine⟨d.toList,r,⟨o,I.kIn a o i,j,n,by simpa using g⟩,?_⟩;have e:=r.length;simp only[mn]at e;lia
theorem Inv.list_inj(I:Inv X f c H s)(h:b9 X.K H a b)(p:b9 X.K H a ys):b=ys:=by
 obtain⟨i,r,⟨o,n,e,_,_,d⟩,_⟩:=I.list h;obtain⟨g,m,⟨q,u,j,_,_,l⟩,_⟩:=I.list p;rw[e]at j;cases j;rw[d]at l;injection l with d1 _;have:i=g:=by simpa using congrArg Array.toList d1
 subst this;exact r.inj m
theorem Inv.tuple_inj(I:Inv X f c H s)(h:cL X.K H a b)(p:cL X.K H a ys):b=ys:=by
 obtain⟨i,r,⟨o,e,_,n,d⟩,_⟩:=I.tuple h;obtain⟨g,m,⟨q,j,_,u,l⟩,_⟩:=I.tuple p;rw[e]at j;cases j;rw[d]at l;injection l with d1 _;have:i=g:=by simpa using congrArg Array.toList d1
 subst this;exact r.inj m
end
abbrev Cx.wish(X:Cx)(E:ai->ao->Prop):Cx:={X with xe:=E}
abbrev Cx.nox(X:Cx):Cx:=X.wish λ_ _=>False
theorem Cx.Ok.wish{X:Cx}(ok:X.Ok)(E:ai->ao->Prop):(X.wish E).Ok :=⟨ok.mod,ok.kind,ok.glob,ok.blt,ok.above,ok.inj,ok.has,ok.cab,ok.hd,ok.frames,ok.stk,ok.exf,ok.bs,ok.bsz,ok.noex,ok.exfs,ok.funs,ok.frf,ok.tab⟩
theorem Cx.Ok.unwish{X:Cx}{E:ai->ao->Prop}(ok:(X.wish E).Ok):X.Ok :=⟨ok.mod,ok.kind,ok.glob,ok.blt,ok.above,ok.inj,ok.has,ok.cab,ok.hd,ok.frames,ok.stk,ok.exf,ok.bs,ok.bsz,ok.noex,ok.exfs,ok.funs,ok.frf,ok.tab⟩
section
variable{X:Cx}{a:List (ag×Obj)}{b:St}{H:Hp}{s:ao}{E:ai->ao->Prop}
theorem Inv.wish(I:Inv X a b H s)(E:ai->ao->Prop):Inv (X.wish E) a b H s:=⟨I.ok.wish E,I.os,I.bare,I.base,I.loc,I.cell,I.free,I.freeC,I.pin,I.hok,I.len⟩
theorem Inv.unwish(I:Inv (X.wish E) a b H s):Inv X a b H s:=⟨I.ok.unwish,I.os,I.bare,I.base,I.loc,I.cell,I.free,I.freeC,I.pin,I.hok,I.len⟩
theorem SP.unwish{D:j0}{f:Flow}{g:ao}(h:SP (X.wish E) a D f g):SP X a D f g:=by
 cases f with
 |next=>obtain⟨c,d,I,q⟩:=h;exact⟨c,d,I.unwish,q⟩
 |brk=>obtain⟨c,d,I,q⟩:=h;exact⟨c,d,I.unwish,q⟩
 |cont=>obtain⟨c,d,I,q⟩:=h;exact⟨c,d,I.unwish,q⟩
 |ret u=>obtain⟨v,c,d,I,r,q⟩:=h;exact⟨v,c,d,I.unwish,r,q⟩
end
section
variable{X:Cx}{j:bf}{rest:List bf}{t u:TS}{e:ay}{i:TE}{g:Pos}
def Ke:TS:=λD a H=>D.nx a H
def Je(t u:TS):TS:=λD a H=>t {D with nx:=u D} a H
theorem IJ:kG X [] Ke:=λ_ _ a H _ I h=>As ⟨a,H,I,h⟩
theorem Hz(m:PS X j t)(l:kG X rest u):kG X (j::rest) (Je t u):=by
 intro b s c H D I h;refine wpAny_execs_cons (aH (m b s c H {D with nx:=u D} I h) λf d q=>?_);cases f with
 |next=>obtain⟨a,o,n,q⟩:=q;exact l b d a o D n q
 |ret v=>exact q
 |brk=>exact q
 |cont=>exact q
theorem IG(b:PS X j t):kG X [j] t:=by
 intro c s a H D I h;refine wpAny_execs_cons (aH (b c s a H D I h) λf d q=>?_);cases f with
 |next=>exact As q
 |ret v=>exact q
 |brk=>exact q
 |cont=>exact q
theorem Inv.quiet{b:List (ag×Obj)}{a:St}{H:Hp}{s:ao}(I:Inv X b a H s):interactive X.env=ak:=by simp[interactive,I.ok.kind]
def L9(i:TE):TS:=λD a H=>i a H λ_ b=>D.nx a b
theorem wq(d:PE X e i)(c:jj e ae g.line X.env=pure ak:=by rfl):PS X (.Expr e g) (L9 i):=by intro f s a H D I h;exact wpAny_Expr_any (aH (d f s a H _ I h) λv n ⟨x,m,l,o,b⟩=>⟨a,m,l,b⟩) I.quiet c
def LF(i:TE):TS:=λD a H=>i a H D.rt
theorem yF(d:PE X e i):PS X (.Return (aa e) g) (LF i):=by intro f s a H D I h;exact wpAny_Return_some (aH (d f s a H _ I h) λv n ⟨x,m,l,b,c⟩=>⟨x,a,m,l,b,c⟩)
def NZ:TS:=λD _ H=>D.rt .non H
theorem Pm:PS X (.Return ae g) NZ:=λ_ _ a H _ I h=>wpAny_Return_none ⟨.non,a,H,I,rfl,h⟩
def Pe(c:TT)(t u:TS):TS:=λD a H=>c a H λb d=>if b=ah then t D a d else u D a d
theorem O5{c:ay}{a b:List bf}{m:TT}(r:PT X c m)(w:kG X a t)(v:kG X b u):PS X (.If c a b g) (Pe m t u):=by
 intro l s f H D I h;refine wpAny_If (aH (r l s f H _ I h) λd n ⟨q,p,o⟩=>?_);cases d with
 |true=>exact w l n f q D p o
 |false=>exact v l n f q D p o
end
abbrev TG:=V->St->Hp->(St->Hp->Prop)->Prop
abbrev oI:=List V->St->Hp->(St->Hp->Prop)->Prop
def PG(X:Cx)(a:ay)(t:TG):Prop :=
 ∀(d:List (ag×Obj)) (s:ao) (c:St) (H:Hp) (v:V) (u:ai) (Q:St->Hp->Prop),Inv X d c H s->RelV v u->t v c H Q ->
  aq (ar X.prog X.w) X.A (nH a X.env u) (λ_ s'=>∃b f,Inv X d b f s'/\Q b f) X.xe s
def vN(X:Cx)(h:List ay)(t:oI):Prop :=
 ∀(f:List (ag×Obj)) (s:ao) (b:St) (H:Hp) (c:List V) (d:List ai) (Q:St->Hp->Prop),Inv X f b H s->bq c d->t c b H Q ->
  aq (ar X.prog X.w) X.A (assignInOrder ((qY h X.env).map (·.2)) d) (λ_ i=>∃a g,Inv X f a g i/\Q a g) X.xe s
abbrev zE:=V->V->V->Hp->(Hp->Prop)->Prop
def EN(X:Cx)(t:zE):Prop :=
 ∀(c:List (ag×Obj)) (s:ao) (a:St) (H:Hp) (o i v:V) (ov b u:ai) (Q:Hp->Prop),Inv X c a H s->RelV o ov->RelV i b->RelV v u->t o i v H Q ->
  aq (ar X.prog X.w) X.A (setItem ov b u) (λ_ f=>∃d,Inv X c a d f/\Q d) X.xe s
section
variable{X:Cx}{d:Pos}
def B2(i:Nat):TG:=λv a H Q=>Q (a.set i (aa v)) H
theorem xq{i:Nat}{x:Str}(f:X.N.Nodup)(b:X.N[i]?=aa x)(a:Loc X.env.scope x)(c:X.fn x=ah\/X.env.scope.names.lookup x=aa .local:=by first|exact .inl rfl|exact .inr rfl|assumption):PG X (.Name x d) (B2 i):=by intro m s j H v u Q I r h;exact wpAny_assign_Name (EK I f b a r (λl g=>⟨_,H,g,h⟩) c)
def bN:oI:=λb a H Q=>b=[]/\Q a H
def LD(t:TG)(u:oI):oI:=λc b H Q=>∃v r,c=v::r/\t v b H λa f=>u r a f Q
theorem Nq:vN X [] bN:=by
 intro f s a H b c Q I r h;obtain⟨e,h⟩:=h;subst e;cases r;exact assignInOrder_nil ⟨a,H,I,h⟩
theorem FV{e:ay}{a:List ay}{t:TG}{u:oI}(n:PG X e t)(m:vN X a u)(l:(qY (e::a) X.env).map (·.2)=nH e X.env::(qY a X.env).map (·.2):=by rfl):vN X (e::a) (LD t u):=by
 intro c s f H w y Q I r h;obtain⟨v,x,o,h⟩:=h;subst o;cases r with
 |cons r i=>rw[l];refine assignInOrder_cons (aH (n c s f H _ _ _ I r h) λ_ g ⟨b,q,p,j⟩=>?_);exact m c g b q _ _ Q p i j
def Nu(K:ax)(n:Nat)(t:oI):TG:=λv c H Q=>∃a b,v=.ref a/\cL K H a b/\b.length=n/\t b c H Q
theorem NA{c:List ay}{k:Nat}{t:oI}{n:Nat}(z:X.calm=ah)(h:vN X c t)(x:(qY c X.env).length=n:=by rfl) (B:(qY c X.env).findIdx? (·.1)=ae:=by rfl):PG X (.Tuple c k d) (Nu X.K n t):=by
 intro j s g H v u Q I r f;obtain⟨a,l,C,w,y,f⟩:=f;subst C;cases r;obtain⟨m,i,q,E⟩:=I.tuple w;refine assign_Tuple_tuple (I.ok.hd z) q (by simp[x,<-y,i.length]) B λA p=>?_;have D:Inv X j g H {s with heap:=A}:=I.kept (t':=s.toks) λb o e=>p b o (cF (bC e)) e;exact h j _ g H l _ Q D (by simpa using i) f
def Oq(b c:TE)(t:zE):TG:=λv a H Q=>b a H λo h=>c a h λi g=>t o i v g λf=>Q a f
theorem Ha{o i:ay}{f g:TE}{t:zE}(A:PE X o f)(B:PE X i g)(z:EN X t)(C:∀v,nH (.Subscript o i d) X.env v=(do
   let ov <-nG [v] (aM o X.env)
   let a <-nG [v,ov] (aM i X.env)
   standAt d
   nG [v,ov,a] (setItem ov a v)
   release [v,ov,a] []):=by intro _;rfl):PG X (.Subscript o i d) (Oq f g t):=by
 intro c s b H v u Q I r h;rw[C];refine aw (kM (aH (A c s b H _ I h) λov l ⟨x,K,F,n,w⟩=>?_));refine aw (kM (aH (B c l b K _ F w) λa j ⟨y,J,E,m,q⟩=>?_));refine aw (wpAny_standAt (aw (kM (aH (z c j b J x y v ov a u _ E n m r q) λ_ L ⟨G,D,p⟩=>?_))));exact wpAny_release ⟨b,G,D,p⟩
def CB(b:TE)(g:TG):TS:=λD a H=>b a H λx c=>g x a c D.nx
theorem KS{a e:ay}{c:TE}{g:TG}(p:PE X e c)(o:PG X a g)(n:swapsWithSole [a] e d.line X.env=pure ak:=by rfl)(m:swappedStores [a] e X.env=pure ae:=by rfl)(r:(qY [a] X.env).map (·.2)=[nH a X.env]:=by rfl):PS X (.Assign [a] e d) (CB c g):=by intro f s b H D I h;refine wpAny_Assign_stores (aH (p f s b H _ I h) λv i ⟨x,w,u,j,l⟩=>?_) n m;rw[r];exact aH (o f i b w x v _ u j l) λ_ y q=>q
theorem FK{i:Nat}{x:Str}{e:ay}{b:TE}{a:Pos}(p:X.N.Nodup)(m:X.N[i]?=aa x)(j:Loc X.env.scope x)(o:PE X e b)(l:jj e (aa (.Name x a)) d.line X.env=pure ak:=by rfl)(n:X.fn x=ah\/X.env.scope.names.lookup x=aa .local:=by first|exact .inl rfl|exact .inr rfl|assumption):PS X (.Assign [.Name x a] e d) (CB b (B2 i)):=by intro q s c H D I h;refine wpAny_Assign_Name (aH (o q s c H _ I h) λv A ⟨y,w,u,f,g⟩=>?_) l;exact EK u p m j f (λz r=>⟨_,w,r,g⟩) n
def Jz(c:TT)(j:TS):TS:=λD a H=>∃W:Nat->St->Hp->Prop,(∃m,W m a H)/\∀m a H,W m a H ->
 c a H λb h=>if b=ah then ∃N:St->Hp->Prop,(∀f i,N f i->∃g,g<m/\W g f i)/\j {D with nx:=N,ct:=N,bk:=D.nx} a h else D.nx a h
theorem Ox{c:ay}{i:List bf}{z:TT}{A:TS}(B:xu (ar X.prog X.w) X.A X.env X.xe)(T:PT X c z)(Y:kG X i A):PS X (.While c i [] d) (Jz z A):=by
 intro x s K H D I h;obtain⟨W,⟨S,M⟩,l⟩:=h;refine wpAny_While (codeAny_whileLoop (λn Q=>∃j J,Inv X x j J Q/\W n j J) ?_ S ⟨K,H,I,M⟩);rintro n P ⟨g,G,Z,L⟩;refine qZ B (aH (T x P g G _ Z (l n g G L)) λb O ⟨F,E,p⟩=>?_);cases b with
 |true=>
  obtain⟨N,C,p⟩:=p;rw[if_pos rfl];refine qZ B (aH (Y x O g F _ E p) λf s3 o=>?_);cases f with
  |next=>obtain⟨a,m,y,r⟩:=o;obtain⟨u,w,q⟩:=C a m r;exact⟨u,w,a,m,y,q⟩
  |cont=>obtain⟨a,m,y,r⟩:=o;obtain⟨u,w,q⟩:=C a m r;exact⟨u,w,a,m,y,q⟩
  |brk=>exact o
  |ret v=>exact o
 |false=>rw[if_neg fg];exact As ⟨g,F,E,p⟩
end
structure It where
 go:Nat->Hp->Prop
 yld:Nat->Hp->V->Hp->Prop
 stop:Nat->Hp->Prop
def kJ(X:Cx)(a:List (ag×Obj))(H:Hp)(b:ag):Prop :=
 H b=ae/\b≠X.env.locals/\b∉X.fs/\(b∈X.ex\/X.s₀.heap.objs.size<=b)/\(∀x c,X.env.cells.lookup x=aa c->c≠b)/\∀p∈X.pn++a,p.1≠b
theorem Inv.fpOk{X:Cx}{d:List (ag×Obj)}{g:St}{H f:Hp}{s:ao}{b:ag}(I:Inv X d g H s)(a:s.heap.objs.size<=b)(i:f b=ae):kJ X d f b:=by
 refine⟨i,o6 (h8 I.lt a),I.nofs a,.inr (cH I.sz a),λx c e z=>?_,λp h z=>?_⟩
 .obtain⟨v,q⟩:=I.cell x c e;exact absurd (h8 q.lt (by rw[z];exact a)) (eL _)
 .exact absurd (h8 (bC (I.pin p h).1) (by rw[z];exact a)) (eL _)
structure qr(P:aS)(w:aG)(K:ax)(tg:ay)(J:It)(fp:List ag)(it:ag)(tn:Nat->az->Prop):Prop where
 mem:it∈fp
 obj:∀i h,tn i h->∀b∈fp,∃o,h.get? b=aa o/\∀v,o.data≠.cell v
 keep:∀i h h',tn i h->(∀b∈fp,∀o,h.get? b=aa o->h'.get? b=aa o)->tn i h'
 item:∀(X:Cx),X.prog=P->X.w=w->X.K=K->X.calm=ah->∀(i:Nat) (af:List (ag×Obj)) (s:ao) (σ:St) (H:Hp) (E:ai->ao->Prop),Inv X af σ H s->(∀b∈fp,kJ X af H b)->tn i s.heap->J.go i H ->
  aq (ar P w) X.A (pyNext (.ref it)) (λr s1=>∃u,r=aa u /\ aq (ar P w) X.A (At tg (.ref it) u) (λ_ s2=>∃x H',Inv X af σ H' s2/\RelV x u/\J.yld i H x H'/\tn (i+1) s2.heap/\∀b∈fp,H' b=ae) E s1) E s
 done:∀(X:Cx),X.prog=P->X.w=w->X.K=K->X.calm=ah->∀(i:Nat) (af:List (ag×Obj)) (s:ao) (σ:St) (H:Hp) (E:ai->ao->Prop),Inv X af σ H s->(∀b∈fp,kJ X af H b)->tn i s.heap->J.stop i H ->
  aq (ar P w) X.A (pyNext (.ref it)) (λr s1=>r=ae/\Inv X af σ H s1) E s
 self:∀(A:aX) (i:Nat) (s:ao) (Q:ai->ao->Prop) (E:ai->ao->Prop),tn i s.heap->Q (.ref it) s->aq (ar P w) A (mo (.ref it)) Q E s
abbrev TI:=St->Hp->(It->Hp->Prop)->Prop
def vF(X:Cx)(i:List (ag×Obj))(j:St)(l:ay)(R:It->Hp->Prop)(a:ai)(f:ao):Prop :=
 ∃(g:ag) (h:List ag) (d:Nat->az->Prop) (J:It) (c:Hp),a=.ref g/\Inv X i j c f/\qr X.prog X.w X.K l J h g d/\d 0 f.heap/\(∀b∈h,kJ X i c b)/\R J c
def PI(X:Cx)(f a:ay)(d:TI):Prop :=
 ∀(c:List (ag×Obj)) (s:ao) (b:St) (H:Hp) (R:It->Hp->Prop),Inv X c b H s->d b H R ->
  aq (ar X.prog X.w) X.A (aM a X.env) (λv g=>aq (ar X.prog X.w) X.A (mo v) (vF X c b f R) X.xe g) X.xe s
theorem sm{M:Model}{A:aX}{E:ai->ao->Prop}{s:ao}{c:ay}{d:ag}{u:ai}{o:Obj}{n:String}{b:Array ai}{Q:Unit->ao->Prop}(f:s.heap.get? d=aa o)(j:o.cls=.type n)(i:o.data=.fields b)(g:["enumerate","zip","dict_itemiterator","dict_reverseitemiterator","odict_iterator","itertools.zip_longest","itertools.pairwise"].contains n=ak) (a:Q () s):aq M A (At c (.ref d) u) Q E s:=by
 unfold At;cases c <;> first
  |exact aK a
  | (cases u <;> first
    |exact aK a
    | (refine aw (wpAny_load f ?_)
       rw[j,i];show aq M A (if(["enumerate","zip","dict_itemiterator","dict_reverseitemiterator","odict_iterator","itertools.zip_longest","itertools.pairwise"].contains n&&b[0]? == aa (eM _))=ah then _ else _) Q E s;rw[if_neg (by intro h;rw[g,Bool.false_and]at h;cases h)];exact aK a))
def yx(K:ax)(a:ag):It :=⟨λi H=>∃b x,b9 K H a b/\b[i]?=aa x,λi H x c=>c=H/\∀b,b9 K H a b->b[i]?=aa x,λi H=>∃b,b9 K H a b/\b.length<=i⟩
def zB(K:ax)(a:ag):It :=⟨λi H=>∃b x,cL K H a b/\b[i]?=aa x,λi H x c=>c=H/\∀b,cL K H a b->b[i]?=aa x,λi H=>∃b,cL K H a b/\b.length<=i⟩
def wm(a:Int)(n:Nat):It:=⟨λi _=>i<n,λi H x b=>b=H/\x=.int (a+i),λi _=>n<=i⟩
theorem L0{P:aS}{w:aG}{K:ax}{S:ay}(a g:ag):qr P w K S (yx K a) [g] g (λi h=>h.IsListIter g a i) where
 mem:=by simp
 obj:=λi h f b j=>by
  have e:b=g:=by simpa using j
  subst e;obtain⟨o,e,c,d⟩:=f;exact⟨o,e,λv z=>by rw[d]at z;cases z⟩
 keep:=λi h n f k=>f.at λo e=>k g (by simp) o e
 item:=by intro X C A D M i O s L H E I m f B;subst C A D;obtain⟨Q,x,l,y⟩:=B;obtain⟨r,q,p,W⟩:=I.list l;obtain⟨u,Z,T⟩:=q.get y;obtain⟨J,G,f2,f3,f4,F⟩:=m g (by simp);refine wpAny_pyNext_list_item f p.isList (x:=u) (by simpa using Z) λn N sb=>?_;have I1:Inv X O L H {s with heap:=n}:=I.turned (t':=s.toks) (λb o j e=>(sb.2 b j).trans e) J G f3 f4 F;obtain⟨o,e,c,d⟩:=id N;exact⟨u,rfl,sm (s:={s with heap:=n}) e c d (by decide) ⟨x,H,I1,T,⟨rfl,λys Y=>by rw[I.list_inj Y l];exact y⟩,N,λb j=>(m b j).1⟩⟩
 done:=by intro X C A D M i O s L H E I m f B;subst C A D;obtain⟨Q,l,y⟩:=B;obtain⟨r,q,p,W⟩:=I.list l;obtain⟨J,G,f2,f3,f4,F⟩:=m g (by simp);have hl:=q.length;exact wpAny_pyNext_list_end (I.ok.hd M) f p.isList (by simp;lia) λn eb=>⟨rfl,I.turned (t':=s.toks) (λb o j e=>eb b o j e) J G f3 f4 F⟩
 self:=λ_ _ _ _ _ f h=>wpAny_pyIter_listiter f h
theorem Oe{P:aS}{w:aG}{K:ax}{S:ay}(a j:ag):qr P w K S (zB K a) [j] j (λi h=>h.IsTupleIter j a i) where
 mem:=by simp
 obj:=λi h f b l=>by
  have e:b=j:=by simpa using l
  subst e;obtain⟨o,e,c,d⟩:=f;exact⟨o,e,λv z=>by rw[d]at z;cases z⟩
 keep:=λi h q f k=>f.at λo e=>k j (by simp) o e
 item:=by intro X C A D M i O s L H E I n f B;subst C A D;obtain⟨Q,x,m,y⟩:=B;obtain⟨g,r,p,W⟩:=I.tuple m;obtain⟨u,Z,T⟩:=r.get y;obtain⟨J,G,f2,f3,f4,F⟩:=n j (by simp);refine wpAny_pyNext_tuple_item f (show s.heap.IsTuple a g.toArray from p) (x:=u) (by simpa using Z) λq N sb=>?_;have I1:Inv X O L H {s with heap:=q}:=I.turned (t':=s.toks) (λb o l e=>(sb.2 b l).trans e) J G f3 f4 F;obtain⟨o,e,c,d⟩:=id N;exact⟨u,rfl,sm (s:={s with heap:=q}) e c d (by decide) ⟨x,H,I1,T,⟨rfl,λys Y=>by rw[I.tuple_inj Y m];exact y⟩,N,λb l=>(n b l).1⟩⟩
 done:=by intro X C A D M i O s L H E I n f B;subst C A D;obtain⟨Q,m,y⟩:=B;obtain⟨g,r,p,W⟩:=I.tuple m;obtain⟨J,G,f2,f3,f4,F⟩:=n j (by simp);have hl:=r.length;exact wpAny_pyNext_tuple_end (I.ok.hd M) f (show s.heap.IsTuple a g.toArray from p) (by simp;lia) λq eb=>⟨rfl,I.turned (t':=s.toks) (λb o l e=>eb b o l e) J G f3 f4 F⟩
 self:=λ_ _ _ _ _ f h=>wpAny_pyIter_tupleiter f h
theorem KF{P:aS}{w:aG}{K:ax}{G:ay}(c:ag)(f:Int)(n:Nat):qr P w K G (wm f n) [c] c (λi h=>IsRangeIter h c (f+(i:Nat)*1) ((n:Int)-(i:Nat)) 1) where
 mem:=by simp
 obj:=λi h a b d=>by
  have e:b=c:=by simpa using d
  subst e;exact⟨_,a,λv z=>by
   have F:Data.fields _=Data.cell v:=z;cases F⟩
 keep:=λi h j a k=>k c (by simp) _ a
 item:=by intro X q l r p i D s A H E I g a m;subst q l r;obtain⟨y,x,f2,f3,f4,u⟩:=g c (by simp);have W:=Walks.range (prog:=X.prog) (w:=X.w) (I.ok.hd p) c f 1 n;refine W.item i s _ _ m a λv j B L C J=>?_;obtain⟨t,rfl⟩:=L;have N:Inv X D A H {s with heap:=j,toks:=B}:=I.turned (λb o d e=>J b o (by simpa using d) e) y x f3 f4 u;refine⟨_,rfl,sm (s:={s with heap:=j,toks:=B}) (n:="range_iterator") C rfl rfl (by decide) ⟨.int (f+i),H,N,⟨t,?_⟩,⟨rfl,rfl⟩,C,λb d=>(g b d).1⟩⟩;rw[Int.mul_one]
 done:=by intro X q l r p i D s A H E I g a m;subst q l r;obtain⟨y,x,f2,f3,f4,u⟩:=g c (by simp);exact wpAny_pyNext_range_end (I.ok.hd p) a (by have:n<=i:=m;lia) λj M=>⟨rfl,I.turned (t':=s.toks) (λb o d e=>M b o d e) y x f3 f4 u⟩
 self:=λ_ _ _ _ _ a h=>wpAny_pyIter_rangeiter a h
section
variable{X:Cx}{c:ay}
theorem HA{h:List (ag×Obj)}{f:St}{H:Hp}{s:ao}{R:It->Hp->Prop}{E:ai->ao->Prop}{a d:Int}{t u v:Tok}{g:Nat}(I:Inv X h f H s)(p:-(2^62)<=a)(n:a<2^62)(m:-(2^62)<=d)(l:d<2^62)(q:R (wm a (d-a).toNat) H):aq (ar X.prog X.w) X.A (mo (.ref s.heap.objs.size)) (vF X h f c R) E {s with heap:=s.heap.push {cls:=.type "range",data:=.fields #[.int a t,.int d u,.int 1 v]},toks:=g}:=by
 refine wpAny_pyIter_range (IsRange.new ..) (small_one p n m l) ?_;have i:Inv X h f H {s with heap:=s.heap.push {cls:=.type "range",data:=.fields #[.int a t,.int d u,.int 1 v]},toks:=g}:=I.kept λb o e=>bx _ e;refine⟨(s.heap.push {cls:=.type "range",data:=.fields #[.int a t,.int d u,.int 1 v]}).objs.size,[(s.heap.push {cls:=.type "range",data:=.fields #[.int a t,.int d u,.int 1 v]}).objs.size],_,_,H,rfl,i.kept (t':=g) λb o e=>bx _ e,KF _ a (d-a).toNat,?_,λb j=>?_,q⟩
 .have w:a+((0:Nat):Int)*1=a:=by simp
  have r:(((d-a).toNat:Nat):Int)-((0:Nat):Int)=Builtin.Range.rangeSize a d 1:=by rw[rangeSize_one];split <;> lia
  show IsRangeIter _ _ (a+((0:Nat):Int)*1) ((((d-a).toNat:Nat):Int)-((0:Nat):Int)) 1;rw[w,r];exact cE _ rfl
 .have e:b=(s.heap.push {cls:=.type "range",data:=.fields #[.int a t,.int d u,.int 1 v]}).objs.size:=by simpa using j
  subst e;exact i.fpOk (aT _) (i.hok.fresh (aT _))
def HR(d:TA):TI:=λa H R=>d a H λb f=>∃j:Int,b=[.int j]/\-(2^62)<=j/\j<2^62/\R (wm 0 j.toNat) f
theorem Pp{a:ay}{f:TA}{p b:Pos}(u:Gl X "range")(o:X.mg "range"=ae)(v:PA X [a] f)(n:aQ [a] X.env=[(ak,aM a X.env)]:=by rfl):PI X c (.Call (.Name "range" p) [a] [] b) (HR f):=by
 intro w s g H R I h;refine Call_ (wV I u o boot_range (PyProof.Rows.callWith_type1 (aH (v b w s g H _ I h) λz A ⟨y,B,x,l,d⟩=>?_) n rfl));obtain⟨j,e,d,m,q⟩:=d;subst e;cases l with
 |cons r i=>
  cases i;obtain⟨t,rfl⟩:=r;exact call_range_1 (HA x ∅ ∅ d m (by simpa using q))
def N1(j:TI)(g:TG)(l:TS):TS:=λD a H=>j a H λJ o=>∃W:Nat->Nat->St->Hp->Prop,(∃m,W 0 m a o)/\∀i m a H,W i m a H ->
 (J.stop i H/\D.nx a H)\/(J.go i H/\∃N:St->Hp->Prop,(∀b d,N b d->∃h,h<m/\W (i+1) h b d)/\∀x d,J.yld i H x d->g x a d λf n=>l {D with nx:=N,ct:=N,bk:=D.nx} f n)
def tJ(a:List ag)(h:az):List (ag×Obj):=a.filterMap λb=>(h.get? b).map λo=>(b,o)
theorem wH{a:List ag}{h:az}{b:ag}{o:Obj}(d:b∈a)(e:h.get? b=aa o):(b,o)∈tJ a h:=List.mem_filterMap.mpr ⟨b,d,by rw[e];rfl⟩
theorem KZ{a:List ag}{h:az}{p:ag×Obj}(d:p∈tJ a h):p.1∈a/\h.get? p.1=aa p.2:=by
 obtain⟨b,f,e⟩:=List.mem_filterMap.mp d;cases q:h.get? b with
 |none=>rw[q]at e;cases e
 |some o=>rw[q]at e;have g:(b,o)=p:=dP e;subst g;exact⟨f,q⟩
theorem Inv.pinned{f:List (ag×Obj)}{g:St}{H:Hp}{s:ao}{a:List ag}(I:Inv X f g H s)(m:∀b∈a,kJ X f H b)(l:∀b∈a,∃o,s.heap.get? b=aa o/\∀v,o.data≠.cell v):Inv X (f++tJ a s.heap) g H s :=
 I.pins_of λp j=>(fY.mp j).elim (λz=>I.pin p (gm _ z)) λz=>by
  obtain⟨h,e⟩:=KZ z;obtain⟨q,n,f2,_⟩:=m p.1 h;obtain⟨o,i,d⟩:=l p.1 h;rw[e]at i;cases i;exact⟨e,q,n,f2,d⟩
theorem Inv.unpinned{b d:List (ag×Obj)}{a:St}{H:Hp}{s:ao}(I:Inv X (b++d) a H s):Inv X b a H s:=I.pins_of λp f=>I.pin p (gm _ (lq _ f))
theorem Eg{q:ay}{E:List bf}{wi:TI}{g:TG}{tb:TS}{Y:Pos}(L:xu (ar X.prog X.w) X.A X.env X.xe)(hc:X.calm=ah)(hi:PI X c q wi)(hg:PG X c g)(w:kG X E tb)(hs:∀x,kN q X.env x=pure x:=by intro _;rfl):PS X (.For c q E [] Y) (N1 wi g tb):=by
 intro F s σ H D I h;refine wpAny_For (aH (hi F s σ H _ I h) λv s1 h1=>aH h1 λitv s2 h2=>?_) hs;obtain⟨it,O,tn,J,H2,e,I2,T,aW,f2,W,⟨m0,w0⟩,G⟩:=h2;subst e;have p:∀{B:Hp},(∀b∈O,B b=ae)->∀b∈O,kJ X F B b:=λhn b w=>⟨hn b w,(f2 b w).2⟩
 refine codeAny_forLoop_any (λn s'=>∃i l B,Inv X F l B s'/\tn i s'.heap/\(∀b∈O,B b=ae)/\W i n l B) ?_ m0 ⟨0,σ,H2,I2,aW,λb w=>(f2 b w).1,w0⟩;rintro n s3 ⟨i,j,P,I3,bA,M,w3⟩;rcases G i n j P w3 with⟨stop,qn⟩|⟨go,N,hN,step⟩
 .refine qZ L (aH (T.done X rfl rfl rfl hc i F s3 j P X.xe I3 (p M) bA stop) λr s4 ⟨Z,I4⟩=>?_);subst Z;exact As ⟨j,P,I4,qn⟩
 .refine qZ L (aH (T.item X rfl rfl rfl hc i F s3 j P X.xe I3 (p M) bA go) λr s4 ⟨u,Z,h4⟩=>?_);subst Z;refine qZ L (aH h4 λ_ s5 ⟨x,H5,I5,r5,y5,b0,fr5⟩=>?_);have I5':=I5.pinned (p fr5) (T.obj _ _ b0);refine qZ L (aH (hg _ s5 j H5 x u _ I5' r5 (step x H5 y5)) λ_ s6 ⟨Q,H6,I6,q6⟩=>?_);refine qZ L (aH (w _ s6 Q H6 _ I6 q6) λf S C=>?_);have y:∀{a:St}{A:Hp},Inv X (F++tJ O s5.heap) a A S->N a A->∃m,m<n/\∃i l B,Inv X F l B S/\tn i S.heap/\(∀b∈O,B b=ae)/\W i m l B:=λ{a A} z K=>by obtain⟨m',hm,w7⟩:=hN a A K;refine⟨m',hm,i+1,a,A,z.unpinned,T.keep _ _ _ b0 λb w o e=>(z.pin (b,o) (gm _ (gm _ (wH w e)))).1,λb w=>?_,w7⟩;obtain⟨o,e,d⟩:=T.obj _ _ b0 b w;exact(z.pin (b,o) (gm _ (gm _ (wH w e)))).2.1
  cases f with
  |next=>obtain⟨a,A,z,K⟩:=C;exact y z K
  |cont=>obtain⟨a,A,z,K⟩:=C;exact y z K
  |brk=>obtain⟨a,A,z,C⟩:=C;exact⟨a,A,z.unpinned,C⟩
  |ret v=>obtain⟨x7,a,A,z,r7,C⟩:=C;exact⟨x7,a,A,z.unpinned,r7,C⟩
end
abbrev R2:=V->V->Hp->VK->Prop
def bX(X:Cx)(f:ai->ai->Sem ai)(r:R2):Prop :=
 ∀(b:List (ag×Obj)) (s:ao) (a:St) (H:Hp) (x y:V) (v u:ai) (Q:VK),Inv X b a H s->RelV x v->RelV y u->r x y H Q ->
  aq (ar X.prog X.w) X.A (f v u) (EP X b a Q) X.xe s
def xo(X:Cx)(f:ai->Sem ai)(r:V->Hp->VK->Prop):Prop :=
 ∀(b:List (ag×Obj)) (s:ao) (a:St) (H:Hp) (x:V) (v:ai) (Q:VK),Inv X b a H s->RelV x v->r x H Q ->
  aq (ar X.prog X.w) X.A (f v) (EP X b a Q) X.xe s
def eG(X:Cx)(f:ai)(r:List V->Hp->VK->Prop):Prop :=
 ∀(d:List (ag×Obj)) (s:ao) (a:St) (H:Hp) (b:List V) (c:List ai) (Q:VK),Inv X d a H s->bq b c->r b H Q ->
  aq (ar X.prog X.w) X.A (call f c) (EP X d a Q) X.xe s
def vK(r:R2)(c b:TE):TE:=λa H Q=>c a H λx f=>b a f λy d=>r x y d Q
def NK(r:V->Hp->VK->Prop)(b:TE):TE:=λa H Q=>b a H λx c=>r x c Q
def rI(C:Int->Int->Prop)(g:Int->Int->V):R2:=λx y H Q=>∃i j,x=.int i/\y=.int j/\C i j/\Q (g i j) H
def k_(g:Int->Int->V):R2:=λx y H Q=>∃i j,x=.int i/\y=.int j/\Q (g i j) H
def rU(g:Int->V):V->Hp->VK->Prop:=λx H Q=>∃i,x=.int i/\Q (g i) H
section
variable{X:Cx}{a b c:ay}{d m n:TE}{l:Pos}
theorem zZ(F:PE X a d)(E:PE X b m){q:List (ag×Obj)}{s:ao}{g:St}{H:Hp}{R:V->V->Hp->Prop}(I:Inv X q g H s)(h:d g H λx r=>m g r λy i=>R x y i) {Q:ai->ao->Prop}{f:ai->ai->Sem ai}(D:∀v u p x y i,Inv X q g i p->RelV x v->RelV y u->R x y i->aq (ar X.prog X.w) X.A (f v u) Q X.xe p):aq (ar X.prog X.w) X.A (aM a X.env) (λv o=>aq (ar X.prog X.w) X.A (aM b X.env) (λu j=>aq (ar X.prog X.w) X.A (f v u) Q X.xe j) X.xe o) X.xe s:=by refine aH (F q s g H _ I h) λv w ⟨x,r,J,A,C⟩=>?_;refine aH (E q w g r _ J C) λu p ⟨y,i,G,z,B⟩=>?_;exact D v u p x y i G A z B
theorem Hf{f:Operator}{r:R2}(p:bX X (jI f) r)(z:PE X a d)(w:PE X b m):PE X (.BinOp a f b l) (vK r d m):=by intro A s g H Q I h;exact wpAny_BinOp (zZ z w I h λv u i x y C B o j q=>p A i g C x y v u Q B o j q)
theorem N4{g:UnaryOp}{r:V->Hp->VK->Prop}(q:xo X (unaryOp g) r)(u:PE X a d):PE X (.UnaryOp g a l) (NK r d):=by intro i s f H Q I h;exact UnaryOp_ (aH (u i s f H _ I h) λv j ⟨x,y,w,o,p⟩=>q i j f y x v Q w o p)
theorem zC{f:ai->ai->Sem ai}{C:Int->Int->Prop}{g:Int->Int->Int}(o:∀(i j:Int) (t u:Tok) (s:ao) (Q:ai->ao->Prop) (E:ai->ao->Prop),C i j->Q (.int (g i j) s.toks) {s with toks:=s.toks+1}->aq (ar X.prog X.w) X.A (f (.int i t) (.int j u)) Q E s):bX X f (rI C λi j=>.int (g i j)):=by intro B s A H x y v u Q I w r h;obtain⟨i,j,rfl,rfl,z,q⟩:=h;obtain⟨t,rfl⟩:=w;obtain⟨p,rfl⟩:=r;exact o i j t p s _ _ z ⟨.int (g i j),H,I.tok _,⟨_,rfl⟩,q⟩
theorem Eh{f:ai->ai->Sem ai}{g:Int->Int->Int}(o:∀(i j:Int) (t u:Tok) (s:ao) (Q:ai->ao->Prop) (E:ai->ao->Prop),Q (.int (g i j) s.toks) {s with toks:=s.toks+1}->aq (ar X.prog X.w) X.A (f (.int i t) (.int j u)) Q E s):bX X f (k_ λi j=>.int (g i j)):=by intro A s z H x y v u Q I w r h;obtain⟨i,j,rfl,rfl,q⟩:=h;obtain⟨t,rfl⟩:=w;obtain⟨p,rfl⟩:=r;exact o i j t p s _ _ ⟨.int (g i j),H,I.tok _,⟨_,rfl⟩,q⟩
theorem Ar{f:ai->ai->Sem ai}{g:Int->Int->Bool}(o:∀(i j:Int) (t u:Tok) (s:ao) (Q:ai->ao->Prop) (E:ai->ao->Prop),Q (.bool (g i j)) s->aq (ar X.prog X.w) X.A (f (.int i t) (.int j u)) Q E s):bX X f (k_ λi j=>.bl (g i j)):=by intro A s z H x y v u Q I w r h;obtain⟨i,j,rfl,rfl,q⟩:=h;obtain⟨t,rfl⟩:=w;obtain⟨p,rfl⟩:=r;exact o i j t p s _ _ ⟨.bl (g i j),H,I,rfl,q⟩
def Dr(i j:Int):Prop:=0<=j/\j<=1000000/\i.natAbs<2^64
def zx(i j:Int):Prop:=(-(2^64)<i/\i<2^64)\/(-(2^64)<j/\j<2^64)
theorem zx.ok{i j:Int}(h:zx i j):IntMulOk i j:=by
 rcases h with⟨h1,h2⟩|⟨h1,h2⟩
 .exact .of_left (intBits_le_64 h1 h2)
 .exact .of_right (intBits_le_64 h1 h2)
theorem QJ:bX X (jI .Add) (k_ λi j=>.int (i+j)):=Eh λ_ _ _ _ _ _ _ q=>add_int q
theorem sj:bX X (jI .Sub) (k_ λi j=>.int (i-j)):=Eh λ_ _ _ _ _ _ _ q=>sub_int q
theorem Qx:bX X (jI .Mult) (rI zx λi j=>.int (i*j)):=zC λ_ _ _ _ _ _ _ f q=>mul_int q f.ok
theorem qf:bX X (jI .Mod) (rI (λ_ j=>0<j) λi j=>.int (i % j)):=zC λi j _ _ _ _ _ f q=>by have g:(0:Int)<j:=f;exact mod_int' ∅ (by rw[Int.fmod_eq_emod_of_nonneg i ∅];exact q)
theorem N5:bX X (jI .Pow) (rI Dr λi j=>.int (i^j.toNat)):=zC λ_ _ _ _ _ _ _ f q=>pow_int_small f.1 f.2.1 f.2.2 q
theorem HE{f:ai->Sem ai}{g:Int->Int}(j:∀(i:Int) (t:Tok) (s:ao) (Q:ai->ao->Prop) (E:ai->ao->Prop),Q (.int (g i) s.toks) {s with toks:=s.toks+1}->aq (ar X.prog X.w) X.A (f (.int i t)) Q E s):xo X f (rU λi=>.int (g i)):=by intro r s p H x v Q I o h;obtain⟨i,rfl,q⟩:=h;obtain⟨t,rfl⟩:=o;exact j i t s _ _ ⟨.int (g i),H,I.tok _,⟨_,rfl⟩,q⟩
theorem m8:xo X (unaryOp .USub) (rU λi=>.int (-i)):=HE λ_ _ _ _ _ q=>neg_int q
end
def tt:V->V->Bool
 |.non,.non=>ah|.non,.int _=>ah|.int _,.non=>ah|.non,.bl _=>ah|.bl _,.non=>ah|.non,.str _=>ah|.str _,.non=>ah
 |.int _,.int _=>ah|.bl _,.bl _=>ah|.str _,.str _=>ah|.byt _,.byt _=>ah
 |.int _,.str _=>ah|.str _,.int _=>ah|.bl _,.str _=>ah|.str _,.bl _=>ah
 |_,_=>ak
def EA:R2:=λx y H Q=>tt x y=ah/\Q (.bl (decide (x=y))) H
def Dz:R2:=λx y H Q=>tt x y=ah/\Q (.bl (!decide (x=y))) H
theorem Ek{i j:Int}:decide (V.int i=V.int j)=(i == j):=by rw[ke];simp
theorem DM{i j:Bool}:decide (V.bl i=V.bl j)=(i == j):=by rw[ke];simp
theorem CP{i j:Str}:decide (V.str i=V.str j)=(i == j):=by rw[ke];simp
theorem F6{i j:Array UInt8}:decide (V.byt i=V.byt j)=(i.toList == j.toList):=by
 rw[ke];cases i;cases j;simp
section
variable{X:Cx}{a b c:ay}{l g o:TE}{m:Pos}
theorem c8{h:List (ag×Obj)}{d:St}{H:Hp}{s:ao}{Q:VK}{k f:Bool}(I:Inv X h d H s)(q:Q (.bl k) H)(e:k=f):EP X h d Q (.bool f) s:=by subst e;exact⟨.bl k,H,I,rfl,q⟩
theorem QF:bX X (dw .Eq) EA:=by
 intro w s r H x y v u Q I p d h;obtain⟨n,q⟩:=h;cases x with
 |non=>
  cases p;cases y with
  |non=>cases d;exact PySem.EqNone.eq_none_none (c8 I q (by simp))
  |bl j=>cases d;exact PySem.EqNone.eq_none_bool (c8 I q (by simp))
  |int j=>obtain⟨f,rfl⟩:=d;exact PySem.EqNone.eq_none_int (c8 I q (by simp))
  |str j=>obtain⟨f,rfl⟩:=d;exact PySem.EqNone.eq_none_str (c8 I q (by simp))
  |_=>exact absurd (show ak=ah from n) fg
 |bl i=>
  cases p;cases y with
  |non=>cases d;exact PySem.EqNone.eq_bool_none (c8 I q (by simp))
  |bl j=>cases d;exact eq_bool (c8 I q DM)
  |str j=>obtain⟨f,rfl⟩:=d;exact PySem.EqMixed.eq_bool_str (c8 I q (by simp))
  |_=>exact absurd (show ak=ah from n) fg
 |int i=>
  obtain⟨t,rfl⟩:=p;cases y with
  |non=>cases d;exact PySem.EqNone.eq_int_none (c8 I q (by simp))
  |int j=>obtain⟨f,rfl⟩:=d;exact eq_int (c8 I q Ek)
  |str j=>obtain⟨f,rfl⟩:=d;exact PySem.EqMixed.eq_int_str (c8 I q (by simp))
  |_=>exact absurd (show ak=ah from n) fg
 |str i=>
  obtain⟨t,rfl⟩:=p;cases y with
  |non=>cases d;exact PySem.EqNone.eq_str_none (c8 I q (by simp))
  |bl j=>cases d;exact PySem.EqMixed.eq_str_bool (c8 I q (by simp))
  |int j=>obtain⟨f,rfl⟩:=d;exact PySem.EqMixed.eq_str_int (c8 I q (by simp))
  |str j=>obtain⟨f,rfl⟩:=d;exact eq_str (c8 I q CP)
  |_=>exact absurd (show ak=ah from n) fg
 |byt i=>
  obtain⟨t,rfl⟩:=p;cases y with
  |byt j=>obtain⟨f,rfl⟩:=d;exact PySem.W.eq_bytes (c8 I q F6)
  |_=>exact absurd (show ak=ah from n) fg
 |_=>cases y <;> exact absurd (show ak=ah from n) fg
theorem QQ:bX X (dw .NotEq) Dz:=by
 intro w s r H x y v u Q I p d h;obtain⟨n,q⟩:=h;cases x with
 |non=>
  cases p;cases y with
  |non=>cases d;exact PySem.EqNone.ne_none_none (c8 I q (by simp))
  |bl j=>cases d;exact PySem.EqNone.ne_none_bool (c8 I q (by simp))
  |int j=>obtain⟨f,rfl⟩:=d;exact PySem.EqNone.ne_none_int (c8 I q (by simp))
  |str j=>obtain⟨f,rfl⟩:=d;exact PySem.EqNone.ne_none_str (c8 I q (by simp))
  |_=>exact absurd (show ak=ah from n) fg
 |bl i=>
  cases p;cases y with
  |non=>cases d;exact PySem.EqNone.ne_bool_none (c8 I q (by simp))
  |bl j=>cases d;exact ne_bool (c8 I q (congrArg not DM))
  |str j=>obtain⟨f,rfl⟩:=d;exact PySem.EqMixed.ne_bool_str (c8 I q (by simp))
  |_=>exact absurd (show ak=ah from n) fg
 |int i=>
  obtain⟨t,rfl⟩:=p;cases y with
  |non=>cases d;exact PySem.EqNone.ne_int_none (c8 I q (by simp))
  |int j=>obtain⟨f,rfl⟩:=d;exact ne_int (c8 I q (congrArg not Ek))
  |str j=>obtain⟨f,rfl⟩:=d;exact PySem.EqMixed.ne_int_str (c8 I q (by simp))
  |_=>exact absurd (show ak=ah from n) fg
 |str i=>
  obtain⟨t,rfl⟩:=p;cases y with
  |non=>cases d;exact PySem.EqNone.ne_str_none (c8 I q (by simp))
  |bl j=>cases d;exact PySem.EqMixed.ne_str_bool (c8 I q (by simp))
  |int j=>obtain⟨f,rfl⟩:=d;exact PySem.EqMixed.ne_str_int (c8 I q (by simp))
  |str j=>obtain⟨f,rfl⟩:=d;exact ne_str (c8 I q (congrArg not CP))
  |_=>exact absurd (show ak=ah from n) fg
 |byt i=>
  obtain⟨t,rfl⟩:=p;cases y with
  |byt j=>obtain⟨f,rfl⟩:=d;exact PySem.W.ne_bytes (c8 I q (congrArg not F6))
  |_=>exact absurd (show ak=ah from n) fg
 |_=>cases y <;> exact absurd (show ak=ah from n) fg
theorem Ff:bX X (dw .Lt) (k_ λi j=>.bl (decide (i<j))):=Ar λ_ _ _ _ _ _ _ q=>lt_int q
theorem p9:bX X (dw .LtE) (k_ λi j=>.bl (decide (i<=j))):=Ar λ_ _ _ _ _ _ _ q=>le_int q
theorem sN:bX X (dw .Gt) (k_ λi j=>.bl (decide (j<i))):=Ar λ_ _ _ _ _ _ _ q=>gt_int q
theorem QB:bX X (dw .In) (λx y H Q=>∃i j,x=.str i/\y=.str j/\Q (.bl (!(Gg j i 0 j.length 1).isEmpty)) H):=by intro r s n H x y v u Q I f d h;obtain⟨i,j,rfl,rfl,q⟩:=h;obtain⟨t,rfl⟩:=f;obtain⟨p,rfl⟩:=d;exact in_str (c8 I q rfl)
theorem bX.or{f:ai->ai->Sem ai}{r n:R2}(h:bX X f r)(w:bX X f n):bX X f (λx y H Q=>r x y H Q\/n x y H Q):=by
 intro p s d H x y v u Q I j i q;rcases q with q|q
 .exact h p s d H x y v u Q I j i q
 .exact w p s d H x y v u Q I j i q
theorem NI{d:CmpOp}{r:R2}(p:bX X (dw d) r)(A:PE X a l)(z:PE X b g)(w:lr d b=ak):PE X (.Compare a [d] [b] m) (vK r l g):=by intro B s f H Q I h;exact wpAny_Compare1 (zZ A z I h λv u i x y D C n j q=>p B i f D x y v u Q C n j q) w
def D3(t:TE):TT:=λd H Q=>t d H λx f=>∃k,x=.bl k/\Q k f
theorem Dt{f:CmpOp}{r:R2}(D:bX X (dw f) r)(G:PE X a l)(F:PE X b g)(E:lr f b=ak):PT X (.Compare a [f] [b] m) (D3 (vK r l g)):=by
 intro i s d H Q I h;refine wpAny_isTrue_Compare1 (aH (G i s d H _ I h) λv n ⟨x,O,L,w,C⟩=>aH (F i n d O _ L C) λu j ⟨y,N,K,q,B⟩=>aH (D i j d N x y v u _ K w q B) λc P ⟨z,M,J,p,k,e,A⟩=>?_) E;subst e;cases p;exact nE ⟨M,J,A⟩
def yE(r i:R2)(l g o:TE):TE:=λd H Q=>l d H λx p=>g d p λy n=>r x y n λz f=>∃k,z=.bl k /\
 (if k=ah then o d f λh j=>i y h j Q else Q (.bl ak) f)
theorem MJ{n f:CmpOp}{r q:R2}(S:bX X (dw n) r)(f9:bX X (dw f) q)(Z:PE X a l)(Y:PE X b g)(W:PE X c o)(T:lastMarks [n,f] [b,c]=ak:=by with_unfolding_all rfl):PE X (.Compare a [n,f] [b,c] m) (yE r q l g o):=by
 intro j s i H Q I h;refine Compare_chain (aH (Z j s i H _ I h) λv J ⟨x,H1,I1,M,P⟩=>chain_link (aH (Y j J i H1 _ I1 P) λu G ⟨y,H2,I2,p,O⟩=>aH (S j G i H2 x y v u _ I2 M p O) λd F ⟨z,B,A,L,k,e,w⟩=>?_)) T;subst e;cases L;refine nE ?_;cases k with
 |false=>exact ite_ff ⟨.bl ak,B,A,rfl,w⟩
 |true=>exact ite_tt (chain_last (aH (W j F i B _ A w) λD E ⟨C,H4,I4,K,N⟩=>f9 j E i H4 y C u D Q I4 p K N))
theorem Nb{n f:CmpOp}{r q:R2}(Y:bX X (dw n) r)(f9:bX X (dw f) q)(ha:PE X a l)(hb:PE X b g)(hc:PE X c o)(Z:lastMarks [n,f] [b,c]=ak:=by with_unfolding_all rfl):PT X (.Compare a [n,f] [b,c] m) (D3 (yE r q l g o)):=by
 intro j s i H Q I h;refine isTrue_chain (aH (ha j s i H _ I h) λv J ⟨x,H1,I1,N,T⟩=>test_link (aH (hb j J i H1 _ I1 T) λu G ⟨y,H2,I2,p,S⟩=>aH (Y j G i H2 x y v u _ I2 N p S) λd F ⟨z,B,A,M,k,e,w⟩=>?_)) Z;subst e;cases M;refine nE ?_;cases k with
 |false=>
  obtain⟨k',e',W⟩:=w;cases e';exact ite_ff ⟨B,A,W⟩
 |true=>
  refine ite_tt (test_last (aH (hc j F i B _ A w) λD E ⟨C,H4,I4,L,P⟩=>aH (f9 j E i H4 y C u D _ I4 p L P) λd' s5 ⟨z2,H5,I5,K,k2,e2,O⟩=>?_));subst e2;cases K;exact nE ⟨H5,I5,O⟩
theorem sM:(a8:Nat)<2^63:=by rw[q0];decide
theorem JI:bX X (jI .Add) (λx y H Q=>∃i j,x=.str i/\y=.str j/\i.length+j.length<=a8/\Q (.str (i++j)) H):=by intro z s r H x y v u Q I n f h;obtain⟨i,j,rfl,rfl,p,q⟩:=h;obtain⟨t,rfl⟩:=n;obtain⟨d,rfl⟩:=f;exact add_str (λd w=>⟨.str (i++j),H,I.tok _,⟨_,rfl⟩,q⟩) p
theorem vals1{x:V}{d:List ai}(r:bq [x] d):∃u,d=[u]/\RelV x u:=by
 cases r with
 |cons h f=>cases f;exact⟨_,rfl,h⟩
theorem vals2{x y:V}{f:List ai}(r:bq [x,y] f):∃u d,f=[u,d]/\RelV x u/\RelV y d:=by
 cases r with
 |cons n j=>
  cases j with
  |cons i h=>cases h;exact⟨_,_,rfl,n,i⟩
theorem Eo(n:X.calm=ah):eG X (.builtin "max") (λf H Q=>∃i j,f=[.int i,.int j]/\Q (.int (if j > i then j else i)) H):=by
 intro A s p H f w Q I r h;obtain⟨i,j,rfl,q⟩:=h;obtain⟨u,v,rfl,⟨t,rfl⟩,⟨y,rfl⟩⟩:=vals2 r;refine max_two_ints (I.ok.hd n) λz x k=>⟨_,H,I.kept k,?_,q⟩
 by_cases d:j > i
 .rw[if_pos d,if_pos d];exact⟨_,rfl⟩
 .rw[if_neg d,if_neg d];exact⟨_,rfl⟩
theorem HP(n:X.calm=ah):eG X (.builtin "min") (λf H Q=>∃i j,f=[.int i,.int j]/\Q (.int (if j<i then j else i)) H):=by
 intro A s p H f w Q I r h;obtain⟨i,j,rfl,q⟩:=h;obtain⟨u,v,rfl,⟨t,rfl⟩,⟨y,rfl⟩⟩:=vals2 r;refine min_two_ints (I.ok.hd n) λz x k=>⟨_,H,I.kept k,?_,q⟩
 by_cases d:j<i
 .rw[if_pos d,if_pos d];exact⟨_,rfl⟩
 .rw[if_neg d,if_neg d];exact⟨_,rfl⟩
def CN(K:ax)(x:V)(H:Hp)(n:Nat):Prop :=
 match x with
 |.str y=>y.length<=a8/\n=y.length
 |.byt y=>y.size<=a8/\n=y.size
 |.ref p=>(∃d,b9 K H p d/\n=d.length)\/∃d,cL K H p d/\n=d.length
 |_=>False
theorem ja:eG X (.builtin "len") (λd H Q=>∃x n,d=[x]/\CN X.K x H n/\Q (.int n) H):=by
 intro G s C H d D Q I r h;obtain⟨x,n,rfl,e,q⟩:=h;obtain⟨u,rfl,i⟩:=vals1 r;have F:=sM;have E:a8=16777216:=q0;cases x with
 |str y=>obtain⟨t,rfl⟩:=i;obtain⟨B,f⟩:y.length<=a8/\n=y.length:=e;subst f;exact len_str ∅ ⟨.int _,H,I.tok _,⟨_,rfl⟩,q⟩
 |byt y=>obtain⟨t,rfl⟩:=i;obtain⟨B,f⟩:y.size<=a8/\n=y.size:=e;subst f;exact PySem.W.len_bytes ∅ ⟨.int _,H,I.tok _,⟨_,rfl⟩,q⟩
 |ref p=>
  cases i;have f:(∃d,b9 X.K H p d/\n=d.length)\/∃d,cL X.K H p d/\n=d.length:=e;rcases f with⟨d,hx,f⟩|⟨d,hx,f⟩
  .subst f;obtain⟨w,j,v,A⟩:=I.list hx;have z:=j.length;exact Calls.call_len_list v.isList (by simp only[cb];lia) ⟨.int d.length,H,I.tok _,⟨_,by simp only[cb];rw[z]⟩,q⟩
  .subst f;obtain⟨w,j,v,A⟩:=I.tuple hx;have z:=j.length;exact len_tuple v (by simp only[cb];lia) ⟨.int d.length,H,I.tok _,⟨_,by simp only[cb];rw[z]⟩,q⟩
 |_=>exact(show False from e).elim
end
structure FY(h:az)(x dx C:ag)(mA:Str->Option ai):Prop where
 obj:h.get? x=aa (PySem.W.instObj C dx)
 ns:h.Ns1 dx mA
 ne:dx≠x
theorem Nw{h:az}{g:ag}{d:Str->Option ai}(n:h.Ns1 g d):∃c,h.get? g=aa c/\∀b,PySem.W.lookIn b c=aa (d b):=by
 obtain⟨o,f,u,j,p,m,_,l⟩:=n;refine⟨o,j,λb=>?_⟩;have e:=l b;unfold nsFind findBy at e;rw[<-Array.find?_toList]at e;unfold PySem.W.lookIn;rw[p];dsimp only;split
 .rename_i y q;rw[q]at e;exact congrArg aa e
 .rename_i q;rw[q]at e;have a:f.toList.any (·.refKey)=ak:=by rw[Gh];intro y i;obtain⟨z,t,r⟩:=m y (Array.mem_toList_iff.mp i);simp[DictEntry.refKey,r]
  have s:¬f.toList.any (·.refKey)=ah:=by rw[a];exact fg
  rw[if_neg s];exact congrArg aa e
theorem FY.look{h:az}{x d C:ag}{c:Str->Option ai}(I:FY h x d C c):∃b,PySem.W.InstAt h x (PySem.W.instObj C d) C (aa b)/\∀a,PySem.W.lookIn a b=aa (c a) :=
 let ⟨b,ho,hl⟩:=Nw I.ns
 ⟨b,⟨I.obj,rfl,rfl,ho⟩,hl⟩
theorem nD.some_of{v:V}{o:Option ai}(r:nD (aa v) o):∃u,o=aa u/\RelV v u:=by
 cases o with
 |none=>exact(show False from r).elim
 |some u=>exact⟨u,rfl,r⟩
section
variable{P:aS}{w:aG}{H i:Hp}{h g:az}{a C b:ag}{fs c:List (Str×V)}
theorem Lu(l:c9 P w H h)(e:H a=aa (.ins C b fs)):∃j,FY h a b C j/\(∀f,nD (fs.lookup f) (j f))/\PySem.Within j (fs.map (·.1))/\fs.length<=1000/\H b=aa (.own a):=by
 obtain⟨d,z,o,m,j,n,r,q⟩:=(show b7 P w H h a (.ins C b fs)from l a _ e)
 exact⟨j,⟨m,n,o⟩,r,q,z,d⟩
end
structure Ey(K:ax)(C:ag):Prop where
 pg:PySem.W.plainGet K C fZ=ah
 hd:PySem.W.hasDictIn K C=ah
 po:PySem.W.plainOver K C=ah
 sa:xv K (.ref C) "__setattr__"=aa (aa (.builtin "object.__setattr__"))
theorem Ey.get{K:ax}{C:ag}(c:Ey K C)(f:Str):PySem.W.plainGet K C f=ah:=c.pg
section
variable{X:Cx}{f:List (ag×Obj)}{d:St}{H:Hp}{s:ao}{A:aX}{E:ai->ao->Prop}{Q:ai->ao->Prop}{c:ai}{b:Bool}
inductive iM(K:ax)(H:Hp):V->ai->Prop where
 |non:iM K H .non (.type "NoneType")
 |bl (x:Bool):iM K H (.bl x) (.type "bool")
 |int (i:Int):iM K H (.int i) (.type "int")
 |str (x:Str):iM K H (.str x) (.type "str")
 |flt (x:UInt64):iM K H (.flt x) (.type "float")
 |lst {a:ag}{xs:List V} (e:H a=aa (.lst xs)):iM K H (.ref a) (.type "list")
 |frz {a:ag}{o:Obj}{xs:List V} (e:H a=aa (.frz o (.lst xs))):iM K H (.ref a) (.type "list")
 |tup {a:ag}{xs:List V} (e:H a=aa (.tup xs)):iM K H (.ref a) (.type "tuple")
 |dK {a:ag}{kvs:List (aA×V)} (e:H a=aa (.dK kvs)):iM K H (.ref a) (.type "dict")
 |dT {a:ag}{kvs:List (List aA×V)} (e:H a=aa (.dT kvs)):iM K H (.ref a) (.type "dict")
 |ins {a C dx:ag}{fs:List (Str×V)} (e:H a=aa (.ins C dx fs)) (cl:Ey K C) (ha:xv K (.ref C) "__class__"=aa (aa (.builtin "object.__class__")))
   (hn:PySem.W.specialIn K (.builtin "object.__class__") "__get__"=aa (aa (.builtin "getset_descriptor.__get__"))) (uF:PySem.W.takesIn K (.builtin "object.__class__")=aa ah)
   (hm:PySem.W.mroIn K C (.type "object")=aa ah):iM K H (.ref a) (.ref C)
theorem Kc{x:V}{u t:ai}(I:Inv X f d H s)(g:RelV x u)(ty:iM X.K H x t)(e:jk X.K t c=aa b)(h:∀r,Q (.bool b) {s with toks:=r}):aq (ar X.prog X.w) A (call (.builtin "isinstance") [u,c]) Q E s:=by
 cases ty with
 |non=>cases (show u=Value.none from g);exact lu PySem.W.kitx_none I.kIn True.intro e (λz=>nomatch z) h
 |bl y=>cases (show u=Value.bool y from g);exact lu PySem.W.kitx_bool I.kIn True.intro e (λz=>nomatch z) h
 |int i=>obtain⟨t,q⟩:=(show ∃t,u=Value.int i t from g);cases q;exact lu PySem.W.kitx_int I.kIn True.intro e (λz=>nomatch z) h
 |str y=>obtain⟨t,q⟩:=(show ∃t,u=Value.str y t from g);cases q;exact lu PySem.W.kitx_str I.kIn True.intro e (λz=>nomatch z) h
 |flt y=>obtain⟨t,q⟩:=(show ∃t,u=Value.float y t from g);cases q;exact lu PySem.W.kitx_float I.kIn True.intro e (λz=>nomatch z) h
 |@lst a l ea=>
  cases (show u=Value.ref a from g);obtain⟨_,_,n,_,j⟩:=(show b7 X.prog X.w H s.heap a (.lst l)from I.hok a _ ea)
  exact lu PySem.W.kitx_list I.kIn ⟨_,j,rfl⟩ e (λz=>nomatch z) h
 |@frz a ob l ea=>
  cases (show u=Value.ref a from g);obtain⟨_,_,_,n,_,j⟩:=(show b7 X.prog X.w H s.heap a (.frz ob (.lst l))from I.hok a _ ea)
  exact lu PySem.W.kitx_list I.kIn ⟨_,j,rfl⟩ e (λz=>nomatch z) h
 |@tup a l ea=>
  cases (show u=Value.ref a from g);obtain⟨_,_,_,p,_⟩:=(show b7 X.prog X.w H s.heap a (.tup l)from I.hok a _ ea)
  obtain⟨o,j,m,_⟩:=p;exact lu PySem.W.kitx_tuple I.kIn ⟨o,j,m⟩ e (λz=>nomatch z) h
 |@dK a kvs ea=>
  cases (show u=Value.ref a from g);obtain⟨_,_,B,_,p⟩:=(show b7 X.prog X.w H s.heap a (.dK kvs)from I.hok a _ ea)
  obtain⟨o,v,w,j,m,_⟩:=p;exact lu PySem.W.kitx_dict I.kIn ⟨o,j,m.1⟩ e (λz=>nomatch z) h
 |@dT a kvs ea=>
  cases (show u=Value.ref a from g);obtain⟨_,_,l,_,o,v,w,j,m,_⟩:=(show b7 X.prog X.w H s.heap a (.dT kvs)from I.hok a _ ea)
  exact lu PySem.W.kitx_dict I.kIn ⟨o,j,m.1⟩ e (λz=>nomatch z) h
 |@ins a C dx fs ea cl ha hn uF hm=>
  cases (show u=Value.ref a from g);obtain⟨F,O,_⟩:=Lu I.hok ea;obtain⟨D,J,_⟩:=O.look;exact lu (PySem.W.kitx_own (cl.get _) cl.hd ha hn uF hm) I.kIn J e (λz=>nomatch z) h
end
structure gc(k:Nat)(A:aX):Prop where
 hd:A.handled=ae
 dp:A.depth+3*k+5<recursionLimit
 un:A.units+16*k+200<cLine
theorem gc.mono{j k:Nat}{A:aX}(r:gc k A)(h:j<=k):gc j A:=⟨r.hd,by have:=r.dp;lia,by have:=r.un;lia⟩
theorem gc.deeper{k:Nat}{A:aX}(r:gc (k+1) A)(a:Env):gc k (A.deeper a) :=⟨r.hd,by have:=r.dp;show A.depth+1+3*k+5<_;lia,by have:=r.un;show A.units+3+16*k+200<_;lia⟩
theorem gc.depth{k:Nat}{A:aX}(r:gc k A):A.depth<recursionLimit:=by have:=r.dp;lia
theorem gc.units{k:Nat}{A:aX}(r:gc k A):A.units+64<cLine:=by have:=r.un;lia
def J2:TA:=λ_ H Q=>Q [] H
def JO(d:TE)(c:TA):TA:=λa H Q=>d a H λx g=>c a g λb f=>Q (x::b) f
section
variable{X:Cx}{e:ay}{es:List ay}{c:TE}{t:TA}{a:Pos}
theorem i8:PA X [] J2:=λ_ _ _ _ H Q I h=>Gi ⟨[],H,I,.nil,h⟩
theorem gZ(p:PE X e c)(o:PA X es t)(n:aQ (e::es) X.env=(ak,aM e X.env)::aQ es X.env:=by rfl):PA X (e::es) (JO c t):=by intro a d s b H Q I h;rw[n];show aq _ _ (spliced ((ak,aM e X.env)::cY a (aQ es X.env))) _ _ s;refine Au (aH (p d s b H _ I h) λu g ⟨x,w,r,j,m⟩=>?_);exact aH (o a d g b w _ r m) λy z ⟨f,v,q,i,l⟩=>⟨x::f,v,q,.cons j i,l⟩
def LJ(t:TA):TE:=λf H Q=>t f H λb d=>b.length<=a8/\∀p,d p=ae->Q (.ref p) (upd d p (.tup b))
def HM(t:TA):TE:=λf H Q=>t f H λb d=>b.length<=a8/\∀p,d p=ae->Q (.ref p) (upd d p (.lst b))
theorem Ja{x1}(h:PA X es t):PE X (.Tuple es x1 a) (LJ t):=by intro o s i H Q I m;refine wpAny_Tuple_spliced (aH (h a o s i H _ I m) λl d ⟨j,g,f,r,z,q⟩=>⟨by rw[<-r.length];exact z,?_⟩);have n:g d.heap.objs.size=ae:=f.hok.fresh (aT _);refine⟨.ref d.heap.objs.size,upd g d.heap.objs.size (.tup j),f.laid (t':=d.toks) (λb u e=>bx _ e) (aT _) ?_,rfl,q _ n⟩;exact⟨z,l,r,⟨⟨_,cE _ rfl,rfl,_,rfl⟩,_,cE _ rfl,rfl⟩⟩
theorem OS(h:PA X es t):PE X (.List es a) (HM t):=by intro o s i H Q I m;refine wpAny_List_spliced (aH (h a o s i H _ I m) λl d ⟨j,g,f,r,z,q⟩=>⟨by rw[<-r.length];exact z,?_⟩);have n:g d.heap.objs.size=ae:=f.hok.fresh (aT _);refine⟨.ref d.heap.objs.size,upd g d.heap.objs.size (.lst j),f.laid (t':=d.toks) (λb u e=>bx _ e) (aT _) ?_,rfl,q _ n⟩;exact⟨z,l,0,r,cE _ rfl⟩
end
abbrev Sp:=List V->Hp->VK->XK->Prop
abbrev gy:=List Env->Hp->ao->XK->ai->ao->Prop
structure vX(P:aS)(w:aG)(K:ax)(mg:Str->Option ai)(base:az)(A:aX)(outer:List Env)(s:ao)(H:Hp):Prop where
 frames:A.frames=aa outer
 mod:Mod K mg base
 bs:∀b o,base.get? b=aa o->s.heap.get? b=aa o/\H b=ae
 bsz:base.objs.size<=s.heap.objs.size
 funs:s.heap.FunFrames base outer
 frf:∀b∈fR outer,H b=ae
 hok:c9 P w H s.heap
 bare:mj s.gens
 tab:vo K H
def CE(a:List Env)(P:aS)(w:aG)(H:Hp)(s:ao)(Q:VK)(u:ai)(b:ao):Prop :=
 ∃v c,b.os=s.os/\mj b.gens/\Un (fR a) [] H c s.heap b.heap/\c9 P w c b.heap/\RelV v u/\Q v c
def CR(c:gy)(a:List Env)(P:aS)(w:aG)(H:Hp)(s:ao)(Q:VK)(E:XK)(r:Result)(b:ao):Prop :=
 match r with
 |.ok (.ret u)=>CE a P w H s Q u b
 |.ok _=>False
 |.error e=>c a H s E e b
structure kt(P:aS)(w:aG)(K:ax)(mg:Str->Option ai)(base:az)(CX:gy)(k:Nat)(f:ag)(fd:iz)(ps:List Str)(sp:Sp):Prop where
 len:∀vs H Q E,sp vs H Q E->vs.length=ps.length
 run:∀(A:aX) (outer:List Env) (s:ao) (H:Hp) (args:Args) (us:List ai) (vs:List V) (Q:VK) (E:XK),gc k A->vX P w K mg base A outer s H->BindsTo s fd args (ps.zip us)->bq vs us->sp vs H Q E ->
  o7 (ar P w) A (.call (.ref f) args) (CR CX outer P w H s Q E) s
section
variable{X:Cx}{f:List (ag×Obj)}{a:St}{H:Hp}{s c:ao}
theorem Inv.env0(I:Inv X f a H s):vX X.prog X.w X.K X.mg X.base X.A X.stack s H :=⟨I.ok.frames,I.ok.mod,I.bs,cH I.ok.bsz I.sz,I.stack,I.stkFree,I.hok,I.bare,I.tab⟩
theorem Inv.after{Q:VK}{u:ai}(I:Inv X f a H s)(h:CE X.stack X.prog X.w H s Q u c):EP X f a Q u c:=by obtain⟨v,o,m,i,un,l,r,q⟩:=h;obtain⟨n,g,d,t,j⟩:=c;obtain rfl:j=s.os:=m;exact⟨v,o,I.call (h':=n) (g':=g) (d':=d) (t':=t) (ch:=[]) un l i (λb z=>absurd z (by simp)),r,q⟩
end
def Jr(d:Sp)(a:List V)(E:XK)(t:TA):TE:=λb H Q=>t b H λc f=>d (c++a) f Q E
def Binds(K:ax)(d:iz)(b:List Str)(c:List ai):Prop :=
 ∀(s:ao) (a:List ai),K.In s.heap->(a++c).length=b.length->BindsTo s d ⟨a,[]⟩ (b.zip (a++c))
theorem Binds.all{K:ax}{d:iz}{b:List Str}(h:∀a:List ai,a.length=b.length->gJ d ⟨a,[]⟩=pure (b.zip a)):Binds K d b []:=λs a _ c=>by rw[ie]at c ⊢;exact .of_eq (h a c)
def qF(c:gy)(X:Cx)(E:XK):Prop:=∀(b:List (ag×Obj)) (a:St) (H:Hp) (s:ao) (e:ai) (s':ao),Inv X b a H s->c X.stack H s E e s'->X.xe e s'
section
variable{X:Cx}{l:gy}{k:Nat}{f C:ag}{j:iz}{d:List Str}{i:Sp}{a:List V}{c:List ai}{E:XK}{x m:Str}{p b n:Pos}{e o:ay}{g:List ay}{v:TE}{t:TA}
theorem P6{A:List (ag×Obj)}{z:St}{H:Hp}{s:ao}{Q:VK}{q:List ai}{y:List V}(F:kt X.prog X.w X.K X.mg X.base l k f j d i)(J:gc k X.A)(M:Binds X.K j d c)(L:bq a c)(G:qF l X E)(I:Inv X A z H s) (r:bq y q) (h:i (y++a) H Q E):aq (ar X.prog X.w) X.A (call (.ref f) q) (EP X A z Q) X.xe s:=by
 have B:bq (y++a) (q++c):=r.append L;have K:(q++c).length=d.length:=by rw[<-B.length];exact F.len _ _ _ _ h
 refine wpAny_call (q8 (F.run X.A X.stack s H ⟨q,[]⟩ (q++c) (y++a) Q E J I.env0 (M s q I.kIn K) B h) λr D w=>?_);cases r with
 |error e=>exact G A z H s e D I w
 |ok N=>
  cases N with
  |ret u=>exact I.after w
  |next=>exact lv w
  |brk=>exact lv w
  |cont=>exact lv w
theorem CY(F:kt X.prog X.w X.K X.mg X.base l k f j d i)(z:gc k X.A)(D:Gl X x)(A:X.mg x=aa (.ref f))(B:t7 X.K (.ref f)=ah)(K:Binds X.K j d c)(J:bq a c)(y:qF l X E)(L:PA X (e::g) t) (M:(x==("__debug__":Str))=ak:=by decide) (G:aQ (e::g) X.env=(ak,aM e X.env)::aQ g X.env:=by rfl) (N:(cY b (aQ g X.env)).any (·.1)=ak:=by rfl):PE X (.Call (.Name x p) (e::g) [] b) (Jr i a E t):=by intro O s w H Q I h;refine Gj (Ai I D A ?_ M);refine PySem.W.callWith_K (h₀:=X.base) I.ok.mod.kin B (aH (L b O s w H _ I h) λS T ⟨P,W,u,r,q⟩=>⟨u.kIn,?_⟩) G N;exact P6 F z K J y u r q
end
def PK(X:Cx)(c:List jl)(t:TA):Prop :=
 ∀(b:Pos) (d:List (ag×Obj)) (s:ao) (a:St) (H:Hp) (Q:List V->Hp->Prop),Inv X d a H s->t a H Q->aq (ar X.prog X.w) X.A (evalAll ((o8 b (o9 c X.env)).map (·.2))) (AP X d a Q) X.xe s
structure cO(N P:List Str)(sc:d8):Prop where
 kind:sc.kind=.function
 co:sc.isCoroutine=ak
 gen:sc.isGenerator=ak
 nd:N.Nodup
 pre:N.take P.length=P
 par:∀x∈P,sc.names.lookup x=aa .local\/sc.names.lookup x=aa .cell
 nofree:∀y∈sc.names,y.2≠.free
theorem EC{a:Str->Option gn}{x:Str}:∀{binds:List (Str×ai)}{m:Str->Option ai},(∀v,(x,v)∉binds)->bindL a binds m x=m x
 |[],_,_=>rfl
 | (n,v)::r,m,h=>by
  unfold bindL;rw[EC λw b=>h w (iN _ b)];split
  .have:x≠n:=by rintro rfl;exact h v kK
   simp[this]
  .rfl
theorem F7{a:Str->Option gn}{x:Str}:∀{binds:List (Str×ai)}{m:Str->Option ai},(∀v,(x,v)∉binds)->bindC a binds m x=m x
 |[],_,_=>rfl
 | (n,v)::r,m,h=>by
  unfold bindC;rw[F7 λw b=>h w (iN _ b)];split
  .rfl
  .have:x≠n:=by rintro rfl;exact h v kK
   simp[this]
theorem CL{a:Str->Option gn}{x:Str}{v:ai}:∀{P:List Str}{b:List ai}{i:Nat}{m:Str->Option ai},P.Nodup->P[i]?=aa x->b[i]?=aa v->a x=aa .local -> bindL a (P.zip b) m x=aa v
 |[],_,_,_,_,h,_,_=>by simp at h
 |_::_,[],_,_,_,_,h,_=>by simp at h
 |p::P,w::b,0,m,nd,h1,h2,hk=>by simp at h1 h2;subst h1;subst h2;show bindL a ((p,w)::P.zip b) m p=_;unfold bindL;rw[EC λv c=>(jm.mp nd).1 (Av c).1,if_pos hk];simp
 |p::P,w::b,i+1,m,nd,h1,h2,hk=>by show bindL a ((p,w)::P.zip b) m x=_;unfold bindL;exact CL (i:=i) (jm.mp nd).2 (by simpa using h1) (by simpa using h2) hk
theorem FT{a:Str->Option gn}{x:Str}{v:ai}:∀{P:List Str}{b:List ai}{i:Nat}{m:Str->Option ai},P.Nodup->P[i]?=aa x->b[i]?=aa v->a x≠aa .local -> bindC a (P.zip b) m x=aa v
 |[],_,_,_,_,h,_,_=>by simp at h
 |_::_,[],_,_,_,_,h,_=>by simp at h
 |p::P,w::b,0,m,nd,h1,h2,hk=>by simp at h1 h2;subst h1;subst h2;show bindC a ((p,w)::P.zip b) m p=_;unfold bindC;rw[F7 λv c=>(jm.mp nd).1 (Av c).1,if_neg hk];simp
 |p::P,w::b,i+1,m,nd,h1,h2,hk=>by show bindC a ((p,w)::P.zip b) m x=_;unfold bindC;exact FT (i:=i) (jm.mp nd).2 (by simpa using h1) (by simpa using h2) hk
def start(N:List Str)(a:List V):St:=a.map aa++dy (N.length-a.length) ae
def jA(g:gy)(P:aS)(w:aG)(K:ax)(mg:Str->Option ai)(base:az)(N:List Str)(b:Str)(a:d8)(f:ag)(d:ai)(A:aX)(outer:List Env)(s:ao)(H:Hp)(E:XK):Cx where
 prog:=P
 w:=w
 K:=K
 mg:=mg
 base:=base
 A:=A.deeper (kf b a s.heap.objs.size f d)
 N:=N
 s₀:=s
 H₀:=H
 env:=kf b a s.heap.objs.size f d
 outer:=outer
 stack:=kf b a s.heap.objs.size f d::outer
 ex:=[]
 calm:=ah
 fn:=λ_=>ah
 pn:=[]
 xe:=λe s'=>aq (ar P w) (A.deeper (kf b a s.heap.objs.size f d)) (leaving (kf b a s.heap.objs.size f d) e) (λ_ c=>g outer H s E e c) (λh c=>g outer H s E h c) s'
theorem Cu{a:d8}{n:Nat}{x:Str}(h:a.names.lookup x=aa .cell):∃c,(fI n a.names []).lookup x=aa c:=by have q:=PySem.W.cellsFrom_some a.names n [] (.inl h);exact Option.isSome_iff_exists.mp q
theorem Lg{Y:gy}{P:aS}{w:aG}{K:ax}{Q:Str->Option ai}{o:az}{N C:List Str}{j:Str}{d:d8}{f:ag}{M:ai}{A:aX}{g:List Env}{s T:ao}{H:Hp}{E:XK}{O:List ai}{B:List V}(S:cO N C d) (hd:A.handled=ae) (m:vX P w K Q o A g s H) (hl:B.length=C.length) (r:bq B O)(x:InCallC s s.heap.objs.size (bindL (kf j d s.heap.objs.size f M).kindOf (C.zip O) λ_=>ae) (fI (s.heap.objs.size+1) d.names []) (bindC (kf j d s.heap.objs.size f M).kindOf (C.zip O) λ_=>ae) T):Inv (jA Y P w K Q o N j d f M A g s H E) [] (start N B) H T:=by
 have c7:C.length<=N.length:=by have:=congrArg o_ S.pre;rw[lw]at this;lia
 obtain⟨L,tk,rfl,X⟩:=x.done;have D:∀b:ag,b∉(jA Y P w K Q o N j d f M A g s H E).ex:=λb z=>absurd (show b∈([]:List ag)from z) (by simp);refine⟨⟨m.mod,S.kind,rfl,rfl,aT _,λy z c L l=>?_,λy F=>?_,λy c _ h=>?_,λ_=>hd,Around.frames_deeper m.frames,.inr ⟨rfl,rfl⟩,λb z=>absurd z (D b),m.bs,m.bsz,λb _ _=>D b,λb z=>absurd z (D b),m.funs,m.frf,m.tab⟩,rfl,m.bare,Un.kept X,⟨_,x.toInCall.ns,λi y v L l h3=>?_⟩,λy c h=>⟨_,x.cell y c h⟩,m.hok.fresh (aT _),λy c h=>?_,λp I=>absurd (show p∈([]:List (ag×Obj))from I) (by simp),m.hok.kept X,?_⟩
 .exact name_of_addr x.apart (kP L) (kP l)
 .have F:d.names.lookup y=aa .cell\/d.names.lookup y=aa .free:=F;rcases F with F|F
  .exact Cu F
  .exact absurd rfl (S.nofree _ (kP F))
 .exact kc (x.above y c (kP h))
 .have J:i<B.length:=by
   unfold start at l;by_cases J:i<B.length
   .exact J
   .rw[pc (by simpa using J)]at l;rw[List.getElem?_replicate]at l;split at l <;> cases l
  have ha:B[i]?=aa v:=by
   unfold start at l;rw[iO (by simpa using J),jJ]at l;cases e:B[i]? with
   |none=>rw[e]at l;cases l
   |some a=>rw[e]at l;cases l;rfl
  obtain⟨u,W,Z⟩:=r.get ha;have I:C[i]?=aa y:=by rw[<-S.pre,List.getElem?_take_of_lt ∅];exact L
  have G:C.Nodup:=by rw[<-S.pre];exact S.nd.sublist (List.take_sublist _ _)
  refine⟨u,Z,?_⟩;rcases S.par y (Gk I)with k|k
  .exact .inl ⟨k,CL G I W k⟩
  .obtain⟨c,e⟩:=Cu (n:=s.heap.objs.size+1) k;refine .inr ⟨.inl k,c,e,?_⟩;have q:=x.cell y c e;rw[FT G I W (by show d.names.lookup y≠_;rw[k];decide)]at q;exact q
 .exact m.hok.fresh (kc (x.above y c (kP h)))
 .unfold start;show _=N.length;rw[cZ,cM,List.length_replicate];lia
theorem Hu{M:gy}{P:aS}{w:aG}{K:ax}{L:Str->Option ai}{h:az}{k:Nat}{f:ag}{m d:Str}{g:Arguments}{i:List bf}{a:d8}{dV kV F pm z ct oc:ai}{an od:Option ag}{X:Array (Option ai)}{N G:List Str}{O:Sp} (lk:K.lookup f=aa ⟨oc,od,.func (kg m d g i a dV kV F pm an z ct),X⟩) (bn:xw K z d=ah) (S:cO N G a)(len:∀l H Q E,O l H Q E->l.length=G.length)(kU:∀(A:aX) (c:List Env) (s:ao) (H:Hp) (l:List V) (Q:VK) (E:XK),gc k (A.deeper (kf d a s.heap.objs.size f z))->O l H Q E -> ∃t,kG (jA M P w K L h N d a f z A c s H E) i t/\t {nx:=λ_ p=>Q .non p,rt:=Q} (start N l) H):kt P w K L h M (k+1) f (kg m d g i a dV kV F pm an z ct) G O:=by
 refine⟨len,λA c s H args us l Q E Z D hb r lG=>?_⟩;have hl:=len _ _ _ _ lG;have KX:K.In s.heap:=D.mod.kin.keeps λb o e=>(D.bs b o e).1;have Y:s.heap.NoLimit:=D.mod.nolimit.keeps λb o e=>(D.bs b o e).1;have Qh:∀y∈G.zip us,a.names.lookup y.1=aa .local\/(a.names.lookup y.1=aa .cell/\((fI (s.heap.objs.size+1) a.names []).lookup y.1).isSome=ah):=λ⟨n,v⟩ hy=>by
  rcases S.par n (Av hy).1 with q|q
  .exact .inl q
  .exact .inr ⟨q,PySem.W.cellsFrom_some _ _ _ (.inl q)⟩
 refine codeAny_call_function Z.depth (KX _ _ lk) rfl S.co S.gen rfl (PySem.W.codeRec_of KX bn) (hb _ _ _ _ ?_);refine wpAny_newFunctionEnv_cells S.kind Qh λenv he s1 x=>?_;subst he;refine⟨Y.keeps x.toInCall.keep,codeAny_func ?_⟩;obtain⟨t,ht,hq⟩:=kU A c s H l Q E (Z.deeper _) lG;have I:Inv (jA M P w K L h N d a f z A c s H E) [] (start N l) H s1:=Lg S Z.hd D hl r x;refine fH (ht [] s1 (start N l) H _ I hq) (λfl T B=>?_) λe T B=>B;have C:∀{j:St}{p:Hp}{v:V}{u:ai},Inv (jA M P w K L h N d a f z A c s H E) [] j p T->RelV v u->Q v p->CE c P w H s Q u T :=λ{j p v u} J W q=>⟨v,p,J.os,J.bare,J.base,J.hok,W,q⟩
 cases fl with
 |ret u=>obtain⟨v,j,p,J,W,q⟩:=B;exact C J W q
 |next=>obtain⟨j,p,J,q⟩:=B;exact C (v:=V.non) (u:=Value.none) J rfl q
 |brk=>obtain⟨_,_,_,q⟩:=B;exact lv q
 |cont=>obtain⟨_,_,_,q⟩:=B;exact lv q
section
variable{X:Cx}{x:Str}{p a:Pos}{e:ay}{b:List ay}{t:TA}{c T:String}{r:List V->Hp->VK->Prop}
def E9(r:List V->Hp->VK->Prop)(t:TA):TE:=λd H Q=>t d H λf g=>r f g Q
theorem nz(w:eG X (.builtin c) r)(u:Gl X x)(q:X.mg x=ae)(n:d7 x=aa (.builtin c))(y:PA X (e::b) t)(o:x≠"__name__":=by decide)(z:(x==("__debug__":Str))=ak:=by decide)(v:aQ (e::b) X.env=(ak,aM e X.env)::aQ b X.env:=by rfl) (A:(cY a (aQ b X.env)).any (·.1)=ak:=by rfl):PE X (.Call (.Name x p) (e::b) [] a) (E9 r t):=by intro f s d H Q I h;refine Gj (wV I u q n ?_ o z);exact PyProof.Rows.callWith_builtin1 (aH (y a f s d H _ I h) λi j ⟨g,C,B,l,m⟩=>w f j d C g i Q B l m) v A
theorem tF(w:eG X (.type T) r)(u:Gl X x)(q:X.mg x=ae)(n:d7 x=aa (.type T))(y:PA X (e::b) t)(o:x≠"__name__":=by decide)(z:(x==("__debug__":Str))=ak:=by decide)(v:aQ (e::b) X.env=(ak,aM e X.env)::aQ b X.env:=by rfl) (A:(cY a (aQ b X.env)).any (·.1)=ak:=by rfl):PE X (.Call (.Name x p) (e::b) [] a) (E9 r t):=by intro f s d H Q I h;refine Gj (wV I u q n ?_ o z);exact PyProof.Rows.callWith_type1 (aH (y a f s d H _ I h) λi j ⟨g,C,B,l,m⟩=>w f j d C g i Q B l m) v A
end
end L2
namespace HT
section
open PySem.SeqAt
open PySem.AutoSeq1 (wpAny_loadPart')
open PySem.MeetsSeq PySem.MeetsSeq2 PySem.MeetsSeq3
end
section
variable{a:aS}{w:aG}{A:aX}{E:ai->ao->Prop}{s:ao}
theorem cat_tup{t b:ag}{d c:List ai}{Q:ai->ao->Prop}(B:IsTup s.heap t d.toArray)(C:IsTup s.heap b c.toArray)(u:d≠[])(F:c=[]->Q (.ref t) s) (D:c≠[]->Q (.ref s.heap.objs.size) {s with heap:=s.heap.push {cls:=.type "tuple",data:=.seq (d++c).toArray}})(l:d.length+c.length<=a8):aq (ar a w) A (jI .Add (.ref t) (.ref b)) Q E s:=by
 obtain⟨⟨cls,y,data,o⟩,j,x,n,v⟩:=id B;obtain⟨⟨z,g,m,f⟩,h,p,r,q⟩:=id C;simp only at x v p q;subst x v p q;have e:d.toArray++c.toArray=(d++c).toArray:=by simp
 by_cases i:c=[]
 .exact concat_meets ⟨_,j,rfl⟩ ⟨_,h,rfl⟩ noFill_tuple_add seq_tuple_add PySem.F.slot_tuple_add PySem.F.entry_tuple_add (PySem.F.args_tuple_add_2 _ _)
   (tuple_addW1 t b d.toArray c.toArray n r y g o f (by simpa using u) (by simp[i])) ⟨j,h,F i⟩
 .refine concat_meets ⟨_,j,rfl⟩ ⟨_,h,rfl⟩ noFill_tuple_add seq_tuple_add PySem.F.slot_tuple_add PySem.F.entry_tuple_add (PySem.F.args_tuple_add_2 _ _)
   (tuple_addW2 t b d.toArray c.toArray n r y g o f (by simpa using u) (by simpa using i) (by rw[cb,cb];exact l)) ⟨j,h,?_⟩
  rw[e];exact D i
def sIx(n d:Nat):Option Int->Nat
 |none=>d
 |some v=>if v<0 then(v+(n:Int)).toNat else min v.toNat n
theorem sIx_nat(n d k:Nat):sIx n d (aa (k:Int))=min k n:=by show(if(k:Int)<0 then((k:Int)+(n:Int)).toNat else min (k:Int).toNat n)=min k n;rw[if_neg ∅,nI]
theorem sIx_le(n d:Nat)(c:d<=n)(o:Option Int):sIx n d o<=n:=by
 cases o with
 |none=>exact c
 |some v=>
  show(if v<0 then(v+(n:Int)).toNat else min v.toNat n)<=n;by_cases b:v<0
  .rw[if_pos b];lia
  .rw[if_neg b];exact Nat.min_le_right _ _
theorem Ch(v:Int)(n d:Nat):(if v<0 then max (v+(n:Int)) 0 else min v (n:Int))=((sIx n d (aa v):Nat):Int):=by
 show(if v<0 then max (v+(n:Int)) 0 else min v (n:Int))=(((if v<0 then(v+(n:Int)).toNat else min v.toNat n):Nat):Int)
 by_cases b:v<0
 .simp only[if_pos b];lia
 .simp only[if_neg b];lia
theorem JY(b c:Option Int)(n:Nat):Gm b c 1 (n:Int)=(((sIx n 0 b:Nat):Int),((sIx n n c:Nat):Int)):=by
 have d:¬((1:Int)<0):=∅
 unfold Gm;simp only[d,if_false];refine Prod.ext ?_ ?_
 .cases b with
  |none=>rfl
  |some v=>exact Ch v n 0
 .cases c with
  |none=>rfl
  |some v=>exact Ch v n n
theorem M8(i j:Nat):Ax (i:Int) (j:Int) 1=j-i:=by
 unfold Ax;have b:(1:Int) > 0:=∅
 simp only[b,if_true,Int.ediv_one];split <;> lia
theorem FE{v:ai}{o:Option Int}{Q:Option Int->ao->Prop}(p:mq v o)(h:Q o s):aq (ar a w) A (Builtin.Slice.slicePartIndex v) Q E s:=by
 cases p with
 |none=>exact slicePart_none h
 |int i t=>exact slicePart_int h
theorem NU{j:ag}{g f:ai}{b c:Option Int}{n:Nat}{Q:Int×Int×Nat->ao->Prop}(o:s.heap.IsSliceOf j g f .none)(m:mq g b)(l:mq f c)(h:Q (((sIx n 0 b:Nat):Int),1,sIx n n c-sIx n 0 b) s):aq (ar a w) A (Builtin.Slice.sliceApplied (.ref j) (pure (n:Int))) Q E s:=by
 obtain⟨q,i,p,d⟩:=id o;unfold Builtin.Slice.sliceApplied Builtin.Slice.sliceFields;refine aw (aw (q_ i d (x:=g) rfl (aw (q_ i d (x:=f) rfl (aw (q_ i d (x:=.none) rfl (aK ?_)))))));refine aw (slicePart_none ?_);show aq _ _ (if((1:Int) == 0)=ah then _ else _) _ _ s;rw[if_neg (by decide)];refine aw (FE m (aw (FE l (aw (aK ?_)))));show aq _ _ (match Gm b c 1 (n:Int)with | (b,c)=>pure (b,(1:Int),Ax b c 1)) _ _ s;rw[JY b c n];show aq _ _ (pure (((sIx n 0 b:Nat):Int),(1:Int),Ax ((sIx n 0 b:Nat):Int) ((sIx n n c:Nat):Int) 1)) _ _ s;rw[M8];exact aK h
theorem Mg(b:Array ai)(i k:Nat):((df k).filterMap λ(m:Nat)=>b[((i:Int)+(m:Int)*1).toNat]?).toArray=((b.toList.drop i).take k).toArray:=by
 have e:(λ(m:Nat)=>b[((i:Int)+(m:Int)*1).toNat]?)=λm=>b[i+m]?:=by
  funext m;have:((i:Int)+(m:Int)*1).toNat=i+m:=∅
  rw[this]
 rw[e];have:=pick_run b i k;rw[List.filterMap_map]at this;have c:((λx=>b[x]?) ∘ λx=>i+x)=λm=>b[i+m]?:=rfl;rw[c]at this;rw[this]
theorem getItem_tuple_cut{t i:ag}{b:Array ai}{n l:ai}{c d:Option Int}{Q:ai->ao->Prop}(g:IsTup s.heap t b)(o:s.heap.IsSliceOf i n l .none)(x:mq n c)(v:mq l d)(z:¬(sIx b.size 0 c=0/\sIx b.size b.size d=b.size))(h:Q (.ref s.heap.objs.size) {s with heap:=s.heap.push {cls:=.type "tuple",data:=.seq ((b.toList.drop (sIx b.size 0 c)).take (sIx b.size b.size d-sIx b.size 0 c)).toArray}})(B:b.size<=a8):aq (ar a w) A (pe (.ref t) (.ref i)) Q E s:=by
 have f:sizeOk (.seq ((b.toList.drop (sIx b.size 0 c)).take (sIx b.size b.size d-sIx b.size 0 c)).toArray):=by show((b.toList.drop (sIx b.size 0 c)).take (sIx b.size b.size d-sIx b.size 0 c)).toArray.size<=a8;rw[cb,lw,lx,mn];lia
 have G:sIx b.size b.size d<=b.size:=sIx_le _ _ (aT _) d;obtain⟨y,u,r,C⟩:=id o;have j:s.TypeIs (.ref i) "slice":=⟨y,u,r⟩
 unfold pe
 try with_reducible refine kM ?_
 first|refine aw (aK ?_)|skip
 refine aw (wpAny_sequenceKey g.typeIs (by decide) ?_);refine aw (wpAny_callSpecial?_slot (name:=Str.ofString "__getitem__") g.typeIs P_ (t8 P_ g.typeIs entry_tuple_getitem ?_ (args_tuple_getitem _ _)));show aq _ _ (Builtin.Tuple.tupleItemsOf (.ref t) >>= _) _ _ s;refine aw (tupleItemsOf_ g ?_);refine aw (wpAny_typeOf j ?_);rw[if_pos (by decide)];refine aw (NU o x v ?_);have p:¬((((sIx b.size 0 c:Nat):Int) == 0&&(1:Int) == 1&&(sIx b.size b.size d-sIx b.size 0 c) == b.size)=ah):=by intro q;rw[iA,iA]at q;have F:((sIx b.size 0 c:Nat):Int)=0:=eq_of_beq q.1.1;have D:sIx b.size b.size d-sIx b.size 0 c=b.size:=eq_of_beq q.2;exact z ⟨∅,∅⟩
 show aq _ _ (if(((sIx b.size 0 c:Nat):Int) == 0&&(1:Int) == 1&&(sIx b.size b.size d-sIx b.size 0 c) == b.size)=ah then _ else _) _ _ s;rw[if_neg p,Mg]
 first
  |exact aw (m:=Ay _) (mr (aK ⟨_,rfl,aK h⟩) f)
  |exact aw (m:=Ay _) (mr (aw (aK (aK ⟨_,rfl,aK h⟩))) f)
  |exact aw (aw (m:=Ay _) (mr (aK (aK ⟨_,rfl,aK h⟩)) f))
  |exact aw (aw (m:=Ay _) (mr (aK ⟨_,rfl,aK h⟩) f))
end
end HT
namespace L2
abbrev TO:=St->Hp->(Option Int->Hp->Prop)->Prop
def PO(X:Cx)(e:Option ay)(t:TO):Prop :=
 ∀(b:List (ag×Obj)) (s:ao) (a:St) (H:Hp) (Q:Option Int->Hp->Prop),Inv X b a H s->t a H Q ->
  aq (ar X.prog X.w) X.A (evalPart e X.env) (λu d=>∃o c,Inv X b a c d/\mq u o/\Q o c) X.xe s
def Og:TO:=λ_ H Q=>Q ae H
def Jx(t:TE):TO:=λa H Q=>t a H λx b=>∃i,x=.int i/\Q (aa i) b
section
variable{X:Cx}{e:ay}{f:TE}{c d:Option ay}{g j:TO}{n m:Pos}
theorem Kt:PO X ae Og:=by intro b s a H Q I h;rw[evalPart_none];exact aK ⟨ae,H,I,.none,h⟩
theorem Mq(h:PE X e f):PO X (aa e) (Jx f):=by intro p s a H Q I o;rw[evalPart_some];refine aH (h p s a H _ I o) λu w ⟨x,v,r,b,l⟩=>?_;obtain⟨i,rfl,q⟩:=l;obtain⟨t,rfl⟩:=b;exact⟨aa i,v,r,.int i t,q⟩
def lW(X:Cx)(r:V->Option Int->Option Int->Hp->VK->Prop):Prop :=
 ∀(l:List (ag×Obj)) (s:ao) (a:St) (H:Hp) (x:V) (v h b:ai) (c d:Option Int) (i:ag) (Q:VK),Inv X l a H s->RelV x v->s.heap.IsSliceOf i h b .none->mq h c->mq b d->r x c d H Q ->
  ∃T o,typeLookup (.type T) "__getitem__"=pure (aa (.builtin o))/\s.TypeIs v T/\aq (ar X.prog X.w) X.A (pe v (.ref i)) (EP X l a Q) X.xe s
theorem lW.or{r p:V->Option Int->Option Int->Hp->VK->Prop}(h:lW X r)(A:lW X p):lW X (λx c d H Q=>r x c d H Q\/p x c d H Q):=by
 intro z s a H x v i b c d l Q I o y w u q;rcases q with q|q
 .exact h z s a H x v i b c d l Q I o y w u q
 .exact A z s a H x v i b c d l Q I o y w u q
def Np(r:V->Option Int->Option Int->Hp->VK->Prop)(f:TE)(g j:TO):TE:=λa H Q=>f a H λx i=>g a i λl h=>j a h λu b=>r x l u b Q
theorem Ly{r:V->Option Int->Option Int->Hp->VK->Prop}(L:lW X r)(O:PE X e f)(M:PO X c g)(J:PO X d j):PE X (.Subscript e (.Slice c d ae m) n) (Np r f g j):=by intro o s i H Q I h;refine Subscript_ (aH (O o s i H _ I h) λv A ⟨x,H1,Z,B,E⟩=>?_);refine wpAny_Slice (aH (M o A i H1 _ Z E) λw z ⟨l,H2,Y,G,D⟩=>aH (J o z i H2 _ Y D) λp a ⟨u,y,W,F,C⟩=>?_);rw[evalPart_none];refine aK ?_;have S:Inv X o i y {a with heap:=a.heap.push {cls:=.type "slice",data:=.fields #[w,p,.none]}}:=W.kept (t':=a.toks) λb ob q=>bx _ q;obtain⟨T,id,P,K,N⟩:=L o {a with heap:=a.heap.push {cls:=.type "slice",data:=.fields #[w,p,.none]}} i y x v w p l u a.heap.objs.size Q S B (Heap.IsSliceOf.new ..) G F C;show aq (ar X.prog X.w) X.A (subscriptTail e (.Slice c d ae m) v (.ref a.heap.objs.size)) (EP X o i Q) X.xe {a with heap:=a.heap.push {cls:=.type "slice",data:=.fields #[w,p,.none]}};exact tail_any (ops:=[.ref a.heap.objs.size,v]) K P N (by with_unfolding_all rfl)
def mX(a:List V)(c d:Option Int):List V:=(a.drop (HT.sIx a.length 0 c)).take (HT.sIx a.length a.length d-HT.sIx a.length 0 c)
theorem Cg(a:List V)(c d:Option Int):(mX a c d).length<=a.length:=by unfold mX;rw[lw,lx];lia
def EW(K:ax):V->Option Int->Option Int->Hp->VK->Prop:=λx c d H Q=>∃a b,x=.ref a/\cL K H a b /\
 ¬(HT.sIx b.length 0 c=0/\HT.sIx b.length b.length d=b.length)/\∀p,H p=ae->Q (.ref p) (upd H p (.tup (mX b c d)))
theorem J8:lW X (EW X.K):=by
 intro L s E H x v G F c d J Q I y D A z h;obtain⟨a,i,rfl,B,C,q⟩:=h;cases y;obtain⟨l,r,w,u⟩:=I.tuple B;have p:l.toArray.size=i.length:=by rw[cb];exact r.length.symm
 refine⟨"tuple",_,PyProof.Rows.slot_tuple_getitem.lookup,w.typeIs,?_⟩;refine HT.getItem_tuple_cut w D A z (by rw[p];exact C) ?_ (by rw[p];exact u);rw[p];refine⟨.ref s.heap.objs.size,_,I.laid (t':=s.toks) (o:=.tup (mX i c d)) (λb K q=>bx _ q) (aT _) ?_,rfl,q _ (I.hok.fresh (aT _))⟩;exact⟨cH (Cg i c d) u,_,(r.drop (HT.sIx i.length 0 c)).take (HT.sIx i.length i.length d-HT.sIx i.length 0 c),Gc.new _ _⟩
def C5(K:ax):R2:=λx y H Q=>∃a b i h,x=.ref a/\y=.ref b/\cL K H a i/\cL K H b h/\i≠[]/\i.length+h.length<=a8 /\
 (h=[]->Q (.ref a) H)/\(h≠[]->∀p,H p=ae->Q (.ref p) (upd H p (.tup (i++h))))
theorem bq.nil_iff{a:List V}{b:List ai}(r:bq a b):b=[]↔a=[]:=by
 cases r with
 |nil=>simp
 |cons _ _=>simp
theorem QD:bX X (jI .Add) (C5 X.K):=by
 intro P s N H x y v u Q I D C h;obtain⟨a,b,B,A,rfl,rfl,M,L,K,r,F,E⟩:=h;cases D;cases C;obtain⟨J,l,G,_⟩:=I.tuple M;obtain⟨p,i,m,_⟩:=I.tuple L;refine HT.cat_tup G m (λz=>K (l.nil_iff.mp z)) (λz=>⟨.ref a,H,I,rfl,F (i.nil_iff.mp z)⟩) (λz=>?_) (by rw[<-l.length,<-i.length];exact r);refine⟨.ref s.heap.objs.size,_,I.laid (t':=s.toks) (o:=.tup (B++A)) (λb O q=>bx _ q) (aT _) ?_,rfl,E (λw=>z (i.nil_iff.mpr w)) _ (I.hok.fresh (aT _))⟩;exact⟨by rw[cZ];exact r,_,l.append i,Gc.new _ _⟩
end
def jY(n:Nat)(i:Int):Option Nat:=if 0<=i then(if i<n then aa i.toNat else ae)else if -(n:Int)<=i then aa (i+n).toNat else ae
def fq{a:Type}(xs:List a)(i:Int):Option a:=(jY xs.length i).bind λj=>xs[j]?
theorem C4{n:Nat}{i:Int}{j:Nat}(h:jY n i=aa j):seqIndex? i n=aa j/\j<n/\-(n:Int)<=i/\i<n:=by
 unfold jY at h;by_cases b:0<=i
 .rw[if_pos b]at h;by_cases a:i<n
  .rw[if_pos a]at h;have e:i.toNat=j:=dP h;exact⟨by rw[seqIndex_of b a,e],∅,∅,a⟩
  .rw[if_neg a]at h;cases h
 .rw[if_neg b]at h;by_cases a:-(n:Int)<=i
  .rw[if_pos a]at h;have e:(i+n).toNat=j:=dP h;exact⟨by rw[seqIndex_neg ∅ a,e],∅,a,∅⟩
  .rw[if_neg a]at h;cases h
theorem yv{b:Type}{a:List b}{i:Int}{v:b}(h:fq a i=aa v):∃j,seqIndex? i a.length=aa j/\a[j]?=aa v/\j<a.length/\-(a.length:Int)<=i/\i<a.length:=by
 unfold fq at h;cases e:jY a.length i with
 |none=>rw[e]at h;cases h
 |some j=>rw[e]at h;obtain⟨g,f,d,c⟩:=C4 e;exact⟨j,g,h,f,d,c⟩
theorem ND{a:Type}{xs:List a}{j:Nat}{v:a}(h:xs[j]?=aa v):fq xs (j:Int)=aa v:=by
 have b:j<xs.length:=(dG.mp h).1;have e:jY xs.length (j:Int)=aa j:=by unfold jY;rw[if_pos ∅,if_pos ∅];simp
 unfold fq;rw[e];exact h
def Ez(b:ay):Prop:=∀o i,Az b ak o i=operate [o,i] (pe o i)
def lR(X:Cx)(r:R2):Prop :=
 ∀(b a:ay) (d:List (ag×Obj)) (s:ao) (c:St) (H:Hp) (x y:V) (v u:ai) (Q:VK),Inv X d c H s->RelV x v->RelV y u->r x y H Q ->
  Az a ak v u=operate [v,u] (pe v u)->aq (ar X.prog X.w) X.A (subscriptTail b a v u) (EP X d c Q) X.xe s
def xp(X:Cx)(f:String)(r:V->List V->Hp->VK->Prop):Prop :=
 ∀(d:List (ag×Obj)) (s:ao) (a:St) (H:Hp) (x:V) (b:List V) (v:ai) (c:List ai) (Q:VK),Inv X d a H s->RelV x v->bq b c->r x b H Q ->
  aq (ar X.prog X.w) X.A (call (.builtin f) (v::c)) (EP X d a Q) X.xe s
section
variable{X:Cx}{a b:ay}{G F:TE}{E:Pos}
theorem lR.or{r j:R2}(h:lR X r)(n:lR X j):lR X (λx y H Q=>r x y H Q\/j x y H Q):=by
 intro c d m s f H x y v u Q I i g q l;rcases q with q|q
 .exact h c d m s f H x y v u Q I i g q l
 .exact n c d m s f H x y v u Q I i g q l
theorem KH{r:R2}(j:lR X r)(m:PE X a G)(l:PE X b F)(i:Ez b):PE X (.Subscript a b E) (vK r G F):=by intro n s c H Q I h;exact Subscript_ (zZ m l I h λv u d x y p o g f q=>j a b n d c p x y v u Q o g f q (i _ _))
def EI(K:ax):R2:=λx y H Q=>∃p c i v,x=.ref p/\y=.int i/\b9 K H p c/\fq c i=aa v/\Q v H
def BL(K:ax):R2:=λx y H Q=>∃p c i v,x=.ref p/\y=.int i/\cL K H p c/\fq c i=aa v/\Q v H
def B1:R2:=λx y H Q=>∃z i c,x=.str z/\y=.int i/\z.length<=a8/\fq z.cps.toList i=aa c/\Q (.str ⟨#[c]⟩) H
theorem QG:lR X (EI X.K):=by
 intro f g J s A H x y v u Q I M L h B;obtain⟨p,Y,i,z,rfl,rfl,N,P,q⟩:=h;cases M;obtain⟨t,rfl⟩:=L;obtain⟨n,r,m,Z⟩:=I.list N;obtain⟨j,d,W,h3,T,S⟩:=yv P;obtain⟨w,D,l⟩:=r.get W;have O:=r.length;have hn:=sM;have c:EP X J A Q w s:=⟨z,H,I,l,q⟩
 by_cases C:0<=i
 .have o:i.toNat=j:=by
   rw[seqIndex_of C S]at d;exact dP d
  exact item_listR m.isList C ∅ (by rw[o];simpa using D) c B
 .have o:(i+(n.toArray.size:Int)).toNat=j:=by
   rw[seqIndex_neg ∅ T]at d;rw[cb,<-O];exact dP d
  exact subscriptTail_builtinR (x:=w) m.isList.typeIs slot_list_getitem.lookup
   (wpAny_getItem_list_neg (Q:=λr K=>r=w/\EP X J A Q r K) m.isList ∅ (by rw[cb] <;> lia) ∅ (by rw[o];simpa using D) ⟨rfl,c⟩) B
theorem QL:lR X (BL X.K):=by
 intro c d n s l H x y v u Q I B A h D;obtain⟨p,P,i,z,rfl,rfl,J,L,q⟩:=h;cases B;obtain⟨t,rfl⟩:=A;obtain⟨C,r,m,S⟩:=I.tuple J;obtain⟨j,N,M,Z,Y,W⟩:=yv L;obtain⟨w,O,f⟩:=r.get M;have K:=r.length;have T:=sM;have g:EP X n l Q w s:=⟨z,H,I,f,q⟩
 exact subscriptTail_builtinR (x:=w) m.typeIs slot_tuple_getitem.lookup
  (getItem_tuple (j:=j) (Q:=λr o=>r=w/\EP X n l Q r o) m ∅ ∅ (by rw[cb,<-K];exact N) (by simpa using O) ⟨rfl,g⟩) D
theorem Lp:lR X B1:=by
 intro d f N s D H x y v u Q I m l h n;obtain⟨z,i,c,rfl,rfl,K,p,q⟩:=h;obtain⟨t,rfl⟩:=m;obtain⟨J,rfl⟩:=l;obtain⟨j,g,A,M,w,r⟩:=yv p;have o:z.cps.toList.length=z.length:=by simp[Str.length]
 rw[o]at g w r;have L:=sM;exact tail_any (typeIs_str s z t) slot_str_getitem.lookup (getItem_str (c:=c) (by have C:decide (i < -(2^63:Int))=ak:=decide_eq_false ∅;have B:decide (i ≥ 2^63)=ak:=decide_eq_false ∅;rw[C,B,Bool.or_false]) (by rw[g];simpa using A) ⟨.str ⟨#[c]⟩,H,I.tok _,⟨_,rfl⟩,q⟩) n
def Fh(K:ax):R2:=λx y H Q=>EI K x y H Q\/BL K x y H Q\/B1 x y H Q
theorem g_:lR X (Fh X.K):=QG.or (QL.or Lp)
theorem Jk(c:List ai)(n j:Nat)(u:ai):jn (·.setIfInBounds j u) {cls:=.type "list",data:=.seq c.toArray n}={cls:=.type "list",data:=.seq (c.set j u).toArray n}:=by simp[jn]
theorem Inv.lst{d:List (ag×Obj)}{c:St}{H:Hp}{s:ao}{p:ag}{xs:List V}(I:Inv X d c H s)(h:H p=aa (.lst xs)):∃(its:List ai) (n:Nat),bq xs its/\s.heap.get? p=aa {cls:=.type "list",data:=.seq its.toArray n}/\xs.length<=a8:=by obtain⟨z,its,n,r,e⟩:=I.hok p _ h;exact⟨its,n,r,e,z⟩
theorem Inv.lstUpd{m:List (ag×Obj)}{j:St}{H:Hp}{s:ao}{p:ag}{o g:List V}{d c:List ai}{n i:Nat}{f:Obj->Obj}(I:Inv X m j H s)(h:H p=aa (.lst o))(w:s.heap.get? p=aa {cls:=.type "list",data:=.seq d.toArray n}) (l:f {cls:=.type "list",data:=.seq d.toArray n}={cls:=.type "list",data:=.seq c.toArray i}) (r:bq g c) (v:g.length<=a8) (t:Nat):Inv X m j (upd H p (.lst g)) {s with heap:=s.heap.update p f,toks:=t}:=by
 have e:(s.heap.update p f).get? p=aa {cls:=.type "list",data:=.seq c.toArray i}:=by rw[pf f w (by rw[l] <;> rfl),l]
 refine I.write (x:=p) (e:=p) (by rw[h];trivial) (.inl rfl) (λb u y q=>(nJ _ _ (eD y)).trans q) ⟨_,e⟩ ?_;exact⟨v,c,i,r,e⟩
def Ii:V->V->V->Hp->(Hp->Prop)->Prop:=λo i v H Q=>∃p c k j,o=.ref p/\i=.int k/\H p=aa (.lst c)/\jY c.length k=aa j/\Q (upd H p (.lst (c.set j v)))
theorem O9:EN X Ii:=by
 intro M s A H o i v ov N u Q I D J C h;obtain⟨p,B,k,j,rfl,rfl,m,L,q⟩:=h;cases D;obtain⟨t,rfl⟩:=J;obtain⟨c,n,r,f,K⟩:=I.lst m;obtain⟨d,P,x,w⟩:=C4 L;have g:=r.length;have O:=sM;have z:Inv X M A (upd H p (.lst (B.set j v))) {s with heap:=s.heap.update p (jn (·.setIfInBounds j u))} :=I.lstUpd m f (Jk c n j u) (r.set C j) (by rw[iP];exact K) s.toks;by_cases y:0<=k
 .have l:k.toNat=j:=by
   rw[seqIndex_of y w]at d;exact dP d
  exact PySem.W.ki_setAt f y ∅ (by rw[cb,<-g];exact w) (by rw[l];exact⟨_,z,q⟩)
 .have l:(k+(c.toArray.size:Int)).toNat=j:=by
   rw[seqIndex_neg ∅ x]at d;rw[cb,<-g];exact dP d
  exact PySem.W.ki_setBack f ∅ (by rw[cb,<-g];exact x) ∅ (by rw[l];exact⟨_,z,q⟩)
theorem MD(c d:Option Int)(n:Nat):(re c d ae n).1=((HT.sIx n 0 c:Nat):Int)/\(re c d ae n).2.1=((HT.sIx n n d:Nat):Int)/\(re c d ae n).2.2=1:=by
 refine⟨?_,?_,rfl⟩
 .cases c with
  |none=>simp[re,HT.sIx]
  |some i=>
   simp only[re,HT.sIx,Gn,show(1:Int) > 0 by decide,if_true];by_cases h:i<0
   .simp only[h,if_true] <;> lia
   .simp only[h,if_false] <;> lia
 .cases d with
  |none=>simp[re,HT.sIx]
  |some i=>
   simp only[re,HT.sIx,Gn,show(1:Int) > 0 by decide,if_true];by_cases h:i<0
   .simp only[h,if_true] <;> lia
   .simp only[h,if_false] <;> lia
theorem Ik(c:List ai)(d f:Option Int):slicePick c.toArray d f ae=((c.drop (HT.sIx c.length 0 d)).take (HT.sIx c.length c.length f-HT.sIx c.length 0 d)).toArray:=by obtain⟨i,h,g⟩:=MD d f c.toArray.size;unfold slicePick;rw[i,h,g];simp only[sliceRange_one,pick_run,cb] <;> rfl
def DC(K:ax):V->Option Int->Option Int->Hp->VK->Prop:=λx d f H Q=>∃a c,x=.ref a/\b9 K H a c/\∀p,H p=ae->Q (.ref p) (upd H p (.lst (mX c d f)))
theorem Qz:lW X (DC X.K):=by
 intro D s y H x v A z d f B Q I i u l j h;obtain⟨a,c,rfl,p,q⟩:=h;cases i;obtain⟨m,r,g,n⟩:=I.list p;have w:=r.length;refine⟨"list",_,slot_list_getitem.lookup,g.isList.typeIs,?_⟩;refine wpAny_getItem_list_slice g.isList u l j .none (by simp) ?_ (by rw[cb] <;> lia);rw[Ik,<-w];refine⟨.ref s.heap.objs.size,_,I.laid (t':=s.toks) (o:=.lst (mX c d f)) (λb C q=>bx _ q) (aT _) ?_,rfl,q _ (I.hok.fresh (aT _))⟩;exact⟨cH (Cg c d f) n,_,0,(r.drop (HT.sIx c.length 0 d)).take (HT.sIx c.length c.length f-HT.sIx c.length 0 d),cE _ rfl⟩
def iq:V->Bool
 |.non=>ah
 |.bl _=>ah
 |.int _=>ah
 |.str _=>ah
 |_=>ak
def fS:V->V->Bool
 |.non,.non=>ah
 |.bl a,.bl b=>a == b
 |.bl a,.int b=>(if a then 1 else 0) == b
 |.int a,.bl b=>a == (if b then 1 else 0)
 |.int a,.int b=>a == b
 |.str a,.str b=>a == b
 |_,_=>ak
theorem DL{A:aX}{s:ao}{y x:V}{u v:ai}(f:RelV y u)(c:RelV x v)(h:iq y=ah)(g:iq x=ah):t9 A s u v (fS y x):=by
 cases y with
 |non=>
  cases f;cases x with
  |non=>cases c;exact SeqAt.EqAt.same _
  |bl b=>cases c;exact SeqAt.EqAt.none_bool b
  |int b=>obtain⟨t,rfl⟩:=c;exact SeqAt.EqAt.none_int b t
  |str b=>obtain⟨t,rfl⟩:=c;exact SeqAt.EqAt.none_str b t
  |_=>exact absurd (show ak=ah from g) fg
 |bl a=>
  cases f;cases x with
  |non=>cases c;exact SeqAt.EqAt.bool_none a
  |bl b=>cases c;exact SeqAt.EqAt.bool_bool a b
  |int b=>obtain⟨t,rfl⟩:=c;exact SeqAt.EqAt.bool_int a b t
  |str b=>obtain⟨t,rfl⟩:=c;exact SeqAt.EqAt.bool_str a b t
  |_=>exact absurd (show ak=ah from g) fg
 |int a=>
  obtain⟨d,rfl⟩:=f;cases x with
  |non=>cases c;exact SeqAt.EqAt.int_none a d
  |bl b=>cases c;exact SeqAt.EqAt.int_bool a d b
  |int b=>obtain⟨t,rfl⟩:=c;exact SeqAt.EqAt.int_int a d b t
  |str b=>obtain⟨t,rfl⟩:=c;exact SeqAt.EqAt.int_str a d b t
  |_=>exact absurd (show ak=ah from g) fg
 |str a=>
  obtain⟨d,rfl⟩:=f;cases x with
  |non=>cases c;exact SeqAt.EqAt.str_none a d
  |bl b=>cases c;exact SeqAt.EqAt.str_bool a d b
  |int b=>obtain⟨t,rfl⟩:=c;exact SeqAt.EqAt.str_int a d b t
  |str b=>obtain⟨t,rfl⟩:=c;exact Go a d b t
  |_=>exact absurd (show ak=ah from g) fg
 |_=>exact absurd (show ak=ah from h) fg
def kD(x:V)(u:ai):Bool:=match u with
 |.none=>fS .non x
 |.bool b=>fS (.bl b) x
 |.int i _=>fS (.int i) x
 |.str z _=>fS (.str z) x
 |_=>ak
theorem yL{x y:V}{u:ai}(r:RelV y u)(f:iq y=ah):kD x u=fS y x:=by
 cases y with
 |non=>cases r;rfl
 |bl b=>cases r;rfl
 |int i=>obtain⟨t,rfl⟩:=r;rfl
 |str z=>obtain⟨t,rfl⟩:=r;rfl
 |_=>exact absurd (show ak=ah from f) fg
theorem ze{x:V}:∀{c:List V}{d:List ai},bq c d->c.all iq=ah->d.any (kD x)=c.any λy=>fS y x
 |_,_,.nil,_=>rfl
 |y::c,u::d,.cons r t,f=>by rw[rf,iA]at f;rw[mv,mv,yL r f.1,ze t f.2]
theorem vH{A:aX}{s:ao}{x:V}{v:ai}(h:RelV x v)(i:iq x=ah):∀{d:List V}{g:List ai},bq d g->d.all iq=ah->∀u∈g,t9 A s u v (kD x u)
 |_,_,.nil,_=>λu c=>by cases c
 |y::d,u::g,.cons r t,f=>λj c=>by
  rw[rf,iA]at f;rcases bw.mp c with rfl|c
  .rw[yL r f.1];exact DL r h f.1 i
  .exact vH h i t f.2 j c
def nc(x:V)(c:List V):Bool:=c.any λy=>fS y x
def za(K:ax)(d:Bool):R2:=λx y H Q=>∃p c,y=.ref p/\(b9 K H p c\/cL K H p c)/\iq x=ah/\c.all iq=ah/\Q (.bl (if d then !nc x c else nc x c)) H
theorem Oh:bX X (dw .In) (za X.K ak):=by
 intro z s n H x y v u Q I i l h;obtain⟨p,o,rfl,d,j,fs,q⟩:=h;cases l;rcases d with d|d
 .obtain⟨c,r,f,m⟩:=I.list d;refine SeqAt.in_listAt (kD x) f.isList (λw g=>vH i j r fs w (by simpa using g)) ⟨.bl _,H,I,rfl,?_⟩;rw[show c.toArray.any (kD x)=c.any (kD x) by simp,ze r fs];exact q
 .obtain⟨c,r,f,m⟩:=I.tuple d;refine SeqAt.in_tupleAt (kD x) f (λw g=>vH i j r fs w (by simpa using g)) ⟨.bl _,H,I,rfl,?_⟩;rw[show c.toArray.any (kD x)=c.any (kD x) by simp,ze r fs];exact q
theorem Ah:eG X (.type "list") (λB H Q=>∃p f,B=[.ref p]/\(b9 X.K H p f\/cL X.K H p f)/\∀l,H l=ae->Q (.ref l) (upd H l (.lst f))):=by
 intro K s D H B M Q I r h;obtain⟨p,f,rfl,v,q⟩:=h;obtain⟨u,rfl,J⟩:=vals1 r;cases J;have w:∀(c:List ai),bq f c->f.length<=a8->∀(d:az) (i:Nat),(∀b C,s.heap.get? b=aa C->d.get? b=aa C) ->
   d.get? s.heap.objs.size=aa {cls:=.type "list",dict:=ae,data:=.seq c.toArray i,slots:=#[]}->EP X K D Q (.ref s.heap.objs.size) {s with heap:=d}:=λc g m d i j e=>
  ⟨.ref s.heap.objs.size,_,I.laid (t':=s.toks) j (aT _) (show b7 X.prog X.w _ d _ (.lst f)from⟨m,c,i,g,e⟩),rfl,q _ (I.hok.fresh (aT _))⟩
 rcases v with v|v
 .obtain⟨c,g,x,m⟩:=I.list v;have L:=g.length;obtain⟨o,y,A,n,z⟩:=x.isList;exact call_list_seq p (.inl rfl) y A z (λd i j e=>w c g m d i j e) (by simp only[cb] <;> lia)
 .obtain⟨c,g,x,m⟩:=I.tuple v;have L:=g.length;obtain⟨o,y,A,n,z⟩:=x;exact call_list_seq p (.inr rfl) y A z (λd i j e=>w c g m d i j e) (by simp only[cb] <;> lia)
theorem tK:eG X (.type "tuple") (λm H Q=>∃p d,m=[.ref p]/\((b9 X.K H p d/\∀l,H l=ae->Q (.ref l) (upd H l (.tup d)))\/(cL X.K H p d/\Q (.ref p) H))):=by
 intro v s j H m A Q I r h;obtain⟨p,d,rfl,h⟩:=h;obtain⟨u,rfl,x⟩:=vals1 r;cases x;rcases h with⟨hq,q⟩|⟨hq,q⟩
 .obtain⟨c,g,i,n⟩:=I.list hq;have B:=g.length;refine call_tuple_list i.isList (λf y=>?_) (by simp only[cb] <;> lia);have w:Inv X v j H {s with heap:=f}:=I.kept (t':=s.toks) y;have z:Inv X v j (upd H f.objs.size (.tup d)) {s with heap:=f.push {cls:=.type "tuple",data:=.seq c.toArray}} :=w.laid (t':=s.toks) (λb o e=>bx _ e) (aT _) (show b7 X.prog X.w _ _ _ (.tup d)from⟨n,c,g,Gc.new _ _⟩);exact⟨.ref f.objs.size,_,z,rfl,q _ (w.hok.fresh (aT _))⟩
 .obtain⟨c,g,i,n⟩:=I.tuple hq;exact call_tuple_same i ⟨.ref p,H,I,rfl,q⟩
def Ag(K:ax)(T:String)(x:V)(H:Hp):Prop:=match x with
 |.str _=>T = "str"
 |.int _=>T = "int"
 |.ref p=>(T = "list"/\∃d,b9 K H p d)\/(T = "tuple"/\∃o,K.lookup p=aa o/\o.cls=.type "tuple"/\o.dict=ae) \/
   (T = "dict"/\((∃c,H p=aa (.dK c))\/∃c,H p=aa (.dT c)))\/(T = "set"/\∃S n,H p=aa (.set S n))
 |_=>False
theorem C8{q:List (ag×Obj)}{l:St}{H:Hp}{s:ao}{T:String}{x:V}{v:ai}(I:Inv X q l H s)(r:RelV x v)(ty:Ag X.K T x H):s.TypeIs v T/\∀a,v=.ref a->∃j,s.heap.get? a=aa j/\j.dict=ae:=by
 cases x with
 |str z=>
  obtain⟨t,rfl⟩:=r;cases (show T = "str" from ty);exact⟨typeIs_str s z t,λ_ e=>nomatch e⟩
 |int i=>
  obtain⟨t,rfl⟩:=r;cases (show T = "int" from ty);exact⟨typeIs_int s i t,λ_ e=>nomatch e⟩
 |ref p=>
  cases r;rcases ty with⟨rfl,xs,hq⟩|⟨rfl,o,hk,hc,f⟩|⟨rfl,hk⟩|⟨rfl,S,n,hk⟩
  .obtain⟨m,_,h,_⟩:=I.list hq;refine⟨h.isList.typeIs,λa e=>?_⟩;cases e;obtain⟨o,n,e,c,f,_⟩:=h;exact⟨o,e,f⟩
  .refine⟨⟨o,I.kIn p o hk,hc⟩,λa e=>?_⟩;cases e;exact⟨o,I.kIn _ o hk,f⟩
  .have z:∃o,s.heap.get? p=aa o/\o.ExactDict:=by
    rcases hk with⟨kvs,hk⟩|⟨kvs,hk⟩
    .obtain⟨_,_,_,_,o,_,_,e,d,_⟩:=I.hok p _ hk;exact⟨o,e,d⟩
    .obtain⟨_,_,_,_,o,_,_,e,d,_⟩:=I.hok p _ hk;exact⟨o,e,d⟩
   obtain⟨o,e,d⟩:=z;refine⟨⟨o,e,d.1⟩,λa g=>?_⟩;cases g;exact⟨o,e,d.2.1⟩
  .obtain⟨o,_,_,_,e,d,_⟩:=I.hok p _ hk;refine⟨⟨o,e,d.1⟩,λa g=>?_⟩;cases g;exact⟨o,e,d.2.1⟩
 |_=>exact lv ty
def NC(K:ax)(T:String)(r:V->List V->Hp->VK->Prop)(B:TE):TE:=λd H Q=>B d H λx c=>Ag K T x c/\r x [] c Q
def Ju(K:ax)(T:String)(r:V->List V->Hp->VK->Prop)(B:TE)(t:TA):TE:=λc H Q=>B c H λx d=>Ag K T x d/\t c d λf g=>r x f g Q
variable{o e:ay}{D:List ay}{B:TE}{t:TA}{g:Str}{m d:Pos}{T C:String}{r:V->List V->Hp->VK->Prop}
theorem CQ(q:PlainAttrs T)(c:Slot T g C)(u:typeOf (.builtin C)=pure (.type "method_descriptor"))(A:xp X C r)(z:PE X o B)(y:jK o g X.env (aM o X.env)=aM o X.env:=by rfl) (w:(m.endLine == d.line)=ah:=by rfl):PE X (.Call (.Attribute o g m) [] [] d) (NC X.K T r B):=by intro j s f H Q I h;refine wpAny_Call_method0_late y w (aH (z j s f H _ I h) λv n ⟨x,L,l,i,ty,p⟩=>?_);obtain⟨K,J⟩:=C8 l i ty;exact⟨T,C,q,c,u,K,J,AA rfl (PySem.evalArgs_none (A j n f L x [] v [] Q l i .nil p))⟩
theorem wS(K:PlainAttrs T)(c:Slot T g C)(L:typeOf (.builtin C)=pure (.type "method_descriptor"))(S:xp X C r)(P:PE X o B)(W:PA X (e::D) t)(N:jK o g X.env (aM o X.env)=aM o X.env:=by rfl)(p:((cY d (aQ (e::D) X.env)).all (λx=>!x.1)&&(o8 d (o9 [] X.env)).all (λx=>x.1.isSome)&&decide ((e::D).length+([]:List jl).length+(if([]:List jl).isEmpty then 0 else 1)<30))=ah:=by rfl)(M:(m.endLine == d.line)=ah:=by rfl) (O:aQ (e::D) X.env=(ak,aM e X.env)::aQ D X.env:=by rfl) (Bm:(cY d (aQ D X.env)).any (·.1)=ak:=by rfl):PE X (.Call (.Attribute o g m) (e::D) [] d) (Ju X.K T r B t):=by intro i s f H Q I h;refine wpAny_Call_method_late N p M rfl (aH (P i s f H _ I h) λv y ⟨x,H1,n,j,ty,J⟩=>?_);obtain⟨Z,Y⟩:=C8 n j ty;refine⟨T,C,K,c,L,Z,Y,?_⟩;have l:=W d i y f H1 _ n J;rw[O]at l ⊢;refine AA (by show(ak||(cY d (aQ D X.env)).any (·.1))=ak;rw[Bm] <;> rfl) (AD ?_);exact aH l λu w ⟨q,H2,I2,z,A⟩=>S i w f H2 x q v u Q I2 j z A
end
def t4(X:Cx)(f:String)(r:V->List V->Hp->VK->Prop):Prop :=
 ∀(d:List (ag×Obj)) (s:ao) (a:St) (H:Hp) (x:V) (b:List V) (v:ai) (c:List ai) (Q:VK),Inv X d a H s->RelV x v->bq b c->r x b H Q ->
  aq (ar X.prog X.w) X.A (call (.builtin f) (v::c)) (EP X d a Q) X.xe s
theorem bq.one:∀{x:V}{a:List ai},bq [x] a->∃u,a=[u]/\RelV x u
 |_,_,.cons r .nil=>⟨_,rfl,r⟩
theorem bq.zero:∀{a:List ai},bq [] a->a=[]
 |_,.nil=>rfl
theorem bq.eraseIdx:∀{a:List V}{b:List ai} (i:Nat),bq a b->bq (a.eraseIdx i) (b.eraseIdx i)
 |_,_,_,.nil=>.nil
 |_,_,0,.cons _ t=>t
 |_,_,i+1,.cons r t=>.cons r (bq.eraseIdx i t)
theorem yt{a:Type}:∀(l:List a) (i:Nat),(l.eraseIdx i).length<=l.length
 |[],_=>aT _
 |_::_,0=>t_ _
 |_::r,i+1=>Nat.succ_le_succ (yt r i)
section
variable{X:Cx}{c:List (ag×Obj)}{a:St}{H:Hp}{s:ao}{l b:ag}{d ys g:List V}
theorem Inv.lset{h its':List ai}{n:Nat}{f:Array ai->Array ai}{i:Nat}(I:Inv X c a H s)(v:H l=aa (.lst d))(e:s.heap.get? l=aa {cls:=.type "list",data:=.seq h.toArray n}) (p:f h.toArray=its'.toArray) (m:bq ys its') (j:ys.length<=a8):Inv X c a (upd H l (.lst ys)) {s with heap:=s.heap.update l (jn f),toks:=i}:=by have q:=PySem.IsL.update e f;rw[p]at q;refine I.write (x:=l) (e:=l) (by rw[v];exact trivial) (.inl rfl) (λw u r o=>(nJ s.heap (jn f) (eD r)).trans o) ⟨_,q⟩ ?_;exact⟨j,its',_,m,q⟩
theorem Inv.lnew{its:List ai}{t':Nat}(I:Inv X c a H s)(h:bq ys its)(f:ys.length<=a8):Inv X c a (upd H s.heap.objs.size (.lst ys)) {s with heap:=s.heap.push {cls:=.type "list",data:=.seq its.toArray},toks:=t'} :=I.laid (λ_ _ q=>bx _ q) (aT _) ⟨f,its,0,h,cE _ rfl⟩
theorem Inv.fresh(I:Inv X c a H s):H s.heap.objs.size=ae:=I.hok.fresh (aT _)
theorem Inv.lstM(I:Inv X c a H s)(h:H l=aa (.lst d)):d.length<=a8/\∃(f:List ai) (n:Nat),bq d f/\d.length=f.length/\s.heap.get? l=aa {cls:=.type "list",data:=.seq f.toArray n}:=by obtain⟨z,f,n,r,e⟩:=I.hok l _ h;exact⟨z,f,n,r,r.length,e⟩
theorem NQ{n:Nat}(h:n<=a8):Gp n=ak:=by unfold Gp;exact decide_eq_false ∅
end
section
variable{X:Cx}
def Mb:V->List V->Hp->VK->Prop:=λx b H Q=>∃l a y,x=.ref l/\b=[y]/\H l=aa (.lst a)/\a.length<a8/\Q .non (upd H l (.lst (a++[y])))
theorem Ev:t4 X "list.append" Mb:=by
 intro p s f H x i v j Q I b c h;obtain⟨l,g,y,rfl,rfl,a,m,q⟩:=h;cases b;obtain⟨u,rfl,d⟩:=c.one;obtain⟨z,its,n,r,o,e⟩:=I.lstM a;refine xx F.slot_list_append ⟨_,e,rfl⟩ F.entry_list_append (F.args_list_append_2 _ _) (PySem.list_append l its.toArray n u (by rw[cb];lia)) ⟨e,?_⟩;refine⟨.non,_,I.lset (its':=its++[u]) a e (by simp) (r.append (.cons d .nil)) ?_,rfl,q⟩;rw[cZ,nK];lia
def Ml:V->List V->Hp->VK->Prop:=λx b H Q=>∃l a i k y,x=.ref l/\b=[.int i]/\H l=aa (.lst a)/\-(2^63)<=i/\i<2^63/\seqIndex? i a.length=aa k/\a[k]?=aa y/\Q y (upd H l (.lst (a.eraseIdx k)))
theorem JK:t4 X "list.pop" Ml:=by
 intro J s D H x E v G Q I f g h;obtain⟨l,d,i,k,y,rfl,rfl,c,C,B,A,m,q⟩:=h;cases f;obtain⟨u,rfl,j⟩:=g.one;obtain⟨t,rfl⟩:=j;obtain⟨z,a,n,r,p,e⟩:=I.lstM c;obtain⟨w,o,b⟩:=r.get m;refine xx F.slot_list_pop ⟨_,e,rfl⟩ F.entry_list_pop (F.args_list_pop_2 _ _)
  (MeetsSeq.list_pop_at l a.toArray n i t k w (fitsIndex_both C B) (by rw[cb,<-p];exact A) (by rw[<-ua];exact o) (by rw[cb];lia)) ⟨e,?_⟩
 refine⟨y,_,I.lset (its':=a.eraseIdx k) c e ?_ (r.eraseIdx k) ?_,b,q⟩
 .show a.toArray.eraseIdxIfInBounds k=(a.eraseIdx k).toArray;rw[Gq]
 .have:=yt d k;lia
theorem LC{b:Type}(a:List b)(k:Nat):(dy k a).flatten.length=k*a.length:=by
 induction k with
 |zero=>simp
 |succ k c=>rw[Gr,List.flatten_cons,cZ,c,Nat.succ_mul,Nat.add_comm]
end
section
variable{κ:Type}[DecidableEq κ]
def gD(a:List (κ×V))(k:κ):Option V:=(a.find? λb=>decide (b.1=k)).map (·.2)
def fc(a:List (κ×V))(k:κ)(v:V):List (κ×V) :=if(a.any λb=>decide (b.1=k))=ah then a.map (λb=>if b.1=k then(b.1,v)else b)else a++[(k,v)]
theorem tz{p:κ×V}{r:List (κ×V)}{k:κ}(e:p.1=k):gD (p::r) k=aa p.2:=by simp[gD,iQ,e]
theorem sQ{p:κ×V}{r:List (κ×V)}{k:κ}(e:¬p.1=k):gD (p::r) k=gD r k:=by simp[gD,iQ,e]
theorem CO(k:κ):∀a:List (κ×V),(a.any λb=>decide (b.1=k))=(gD a k).isSome
 |[]=>rfl
 |p::r=>by
  rw[mv];by_cases e:p.1=k
  .simp only[tz e,decide_eq_true e,Bool.true_or,Option.isSome_some]
  .rw[sQ e,decide_eq_false e,Bool.false_or];exact CO k r
theorem Ae(a:List (κ×V))(k:κ)(v:V):(fc a k v).length<=a.length+1:=by
 unfold fc;split
 .rw[cM];lia
 .rw[cZ,cS,jL];lia
theorem nD.isSome_eq{o:Option V}{u:Option ai}(r:nD o u):o.isSome=u.isSome:=by
 cases o with
 |none=>cases u with
  |none=>rfl
  |some _=>exact(show False from r).elim
 |some _=>cases u with
  |none=>exact(show False from r).elim
  |some _=>rfl
theorem nD.getD{o:Option V}{u:Option ai}{d:V}{a:ai}(r:nD o u)(rd:RelV d a):RelV (o.getD d) (u.getD a):=by
 cases o with
 |none=>cases u with
  |none=>exact rd
  |some _=>exact(show False from r).elim
 |some _=>cases u with
  |none=>exact(show False from r).elim
  |some _=>exact r
theorem KV.val{a:List (κ×V)}{d:List (κ×ai)}(r:KV a d)(k:κ):nD (gD a k) (rg d k):=by
 unfold KV at r
 induction r with
 |nil=>exact True.intro
 |@cons p q ps qs h t ih=>
  obtain⟨f,g⟩:=h;by_cases e:p.1=k
  .have c:q.1=k:=f.symm.trans e;have b:rg (q::qs) k=aa q.2:=by simp[rg,iQ,c]
   rw[tz e,b];exact g
  .have c:¬q.1=k:=λz=>e (f.trans z);have b:rg (q::qs) k=rg qs k:=by simp[rg,iQ,c]
   rw[sQ e,b];exact ih
theorem KV.any{a:List (κ×V)}{c:List (κ×ai)}(r:KV a c)(k:κ):(a.any λb=>decide (b.1=k))=c.any λb=>decide (b.1=k):=by
 unfold KV at r
 induction r with
 |nil=>rfl
 |cons h t d=>rw[mv,mv,d,h.1]
theorem KV.repl{b:List (κ×V)}{d:List (κ×ai)}(r:KV b d)(k:κ){y:V}{u:ai}(f:RelV y u):KV (b.map λa=>if a.1=k then(a.1,y)else a) (d.map λa=>if a.1=k then(a.1,u)else a):=by
 unfold KV at r ⊢
 induction r with
 |nil=>exact .nil
 |@cons p q ps qs h t ih=>
  rw[bZ,bZ];refine .cons ?_ ih;obtain⟨c,g⟩:=h;by_cases e:p.1=k
  .rw[if_pos e,if_pos (c.symm.trans e)];exact⟨c,f⟩
  .rw[if_neg e,if_neg (λz=>e (c.trans z))];exact⟨c,g⟩
theorem KV.put{a:List (κ×V)}{b:List (κ×ai)}(r:KV a b)(k:κ){y:V}{u:ai}(c:RelV y u):KV (fc a k y) (stored b k u):=by
 unfold fc stored;rw[r.any k];by_cases e:(b.any λd=>decide (d.1=k))=ah
 .rw[if_pos e,if_pos e];exact r.repl k c
 .rw[if_neg e,if_neg e];exact AE r ⟨rfl,c⟩
theorem KV.length{a:List (κ×V)}{b:List (κ×ai)}(r:KV a b):a.length=b.length:=Paired.length r
end
theorem oY{P:aS}{w:aG}{k:aA}{u:ai}(r:RelV (kV k) u):(ge P w).is k u=ah:=by
 cases k with
 |inl i=>obtain⟨t,e⟩:=(show ∃t,u=Value.int i t from r);subst e;exact Hx P w i t
 |inr x=>obtain⟨t,e⟩:=(show ∃t,u=Value.str x t from r);subst e;exact JE P w x t
theorem CD{P:aS}{w:aG}:∀{ks:List aA}{a:List ai},bq (ks.map kV) a->ItemsAre (ge P w) ks a
 |[],_,r=>by rw[rh]at r;cases r;exact .nil
 |k::ks,_,r=>by
  rw[bZ]at r;cases r with
  |cons h t=>exact .cons (oY h) (CD t)
abbrev KT(H:Hp):List (List aA×V)->List (List aA×ag×ai)->Prop:=ka λp q=>p.1=q.1/\H q.2.1=aa (.tup (p.1.map kV))/\RelV p.2 q.2.2
theorem KT.val{H:Hp}{a:List (List aA×V)}{xs:List (List aA×ag×ai)}(r:KT H a xs)(k:List aA):nD (gD a k) ((atKey xs k).map (·.2)):=by
 induction r with
 |nil=>exact True.intro
 |@cons p q ps qs h t ih=>
  obtain⟨d,_,f⟩:=h;by_cases e:p.1=k
  .have c:q.1=k:=d.symm.trans e;have b:atKey (q::qs) k=aa q.2:=by simp[atKey,iQ,c]
   rw[tz e,b];exact f
  .have c:¬q.1=k:=λz=>e (d.trans z);have b:atKey (q::qs) k=atKey qs k:=by simp[atKey,iQ,c]
   rw[sQ e,b];exact ih
theorem KT.repl{H:Hp}{a:List (List aA×V)}{d:List (List aA×ag×ai)}(r:KT H a d)(k:List aA){y:V}{u:ai}(g:RelV y u):KT H (a.map λc=>if c.1=k then(c.1,y)else c) (d.map (putAt k u)):=by
 induction r with
 |nil=>exact .nil
 |@cons p q ps qs h t ih=>
  rw[bZ,bZ];refine .cons ?_ ih;obtain⟨b,f,i⟩:=h;unfold putAt;by_cases e:p.1=k
  .rw[if_pos e,if_pos (b.symm.trans e)];exact⟨b,f,g⟩
  .rw[if_neg e,if_neg (λz=>e (b.trans z))];exact⟨b,f,i⟩
theorem KT.put{H:Hp}{a:List (List aA×V)}{c:List (List aA×ag×ai)}(r:KT H a c)(k:List aA){b:ag}{y:V}{u:ai}(g:H b=aa (.tup (k.map kV)))(d:RelV y u):KT H (fc a k y) (storedH c k b u):=by
 have e:(a.any λf=>decide (f.1=k))=(atKey c k).isSome:=by rw[CO,(r.val k).isSome_eq,AF]
 unfold fc storedH;rw[e];by_cases q:(atKey c k).isSome=ah
 .rw[if_pos q,if_pos q];exact r.repl k d
 .rw[if_neg q,if_neg q];exact AE r ⟨rfl,g,d⟩
theorem KT.keeps{H f:Hp}{a:List (List aA×V)}{d:List (List aA×ag×ai)}(r:KT H a d)(g:∀b c,H b=aa (.tup c)->f b=aa (.tup c)):KT f a d :=Paired.mapP r λ_ _ z=>⟨z.1,g _ _ z.2.1,z.2.2⟩
section
variable{P:aS}{w:aG}{H:Hp}{h:az}{a:ag}
theorem E2{u:HO}(ok:c9 P w H h)(e:Rd H a u):b7 P w H h a u:=e.ok ok
theorem nB{b:List (aA×V)}(ok:c9 P w H h)(e:Rd H a (.dK b)):b.length<=a8/\(a == kb)=ak/\∃c,KV b c/\h.DictOf (ge P w) a c :=show b7 P w H h a (.dK b)from E2 ok e
theorem wy{b:List (aA×V)}(ok:c9 P w H h)(e:H a=aa (.dK b)):b.length<=a8/\(a == kb)=ak/\∃c,KV b c/\h.DictOf (ge P w) a c:=nB ok (.inl e)
theorem qM{ks:List aA}(ok:c9 P w H h)(e:H a=aa (.tup (ks.map kV))):(t5 (ge P w)).is h ks a:=by
 obtain⟨_,b,r,⟨o,f,d,n,c⟩,_⟩:=(show b7 P w H h a (.tup (ks.map kV))from ok a _ e)
 exact⟨o,b.toArray,n,f,d,c,by simpa using CD r⟩
theorem oU{b:List (List aA×V)}(ok:c9 P w H h)(e:Rd H a (.dT b)):b.length<=a8/\(a == kb)=ak /\ ∃d,KT H b d/\h.DictOfH (t5 (ge P w)) a d:=by
 obtain⟨z,y,d,r,o,s,u,n,j,i,g,f⟩:=(show b7 P w H h a (.dT b)from E2 ok e)
 refine⟨z,y,d,r,o,s,u,n,j,i,g,λx c=>?_,f⟩;have all:∀{l:List (List aA×V)}{m:List (List aA×ag×ai)},KT H l m->∀x∈m,(t5 (ge P w)).is h x.1 x.2.1:=by
  intro l m q
  induction q with
  |nil=>intro x c;exact nomatch c
  |@cons p q ps qs hq t ih=>
   intro x c;rcases bw.mp c with e|c
   .subst e;exact qM ok (by rw[<-hq.1];exact hq.2.1)
   .exact ih x c
 exact all r x c
theorem HU{b:List (List aA×V)}(ok:c9 P w H h)(e:H a=aa (.dT b)):b.length<=a8/\(a == kb)=ak /\ ∃c,KT H b c/\h.DictOfH (t5 (ge P w)) a c:=oU ok (.inl e)
end
def jz(H:Hp)(a:ag)(y:V)(r:Option V):Prop :=(∃c k,Rd H a (.dK c)/\y=kV k/\r=gD c k)\/∃c k b,Rd H a (.dT c)/\y=.ref b/\H b=aa (.tup (k.map kV))/\r=gD c k
def xt(H:Hp)(a:ag)(y v:V)(d:Hp):Prop :=
 (∃c k,H a=aa (.dK c)/\y=kV k/\c.length<a8/\d=upd H a (.dK (fc c k v))) \/
 ∃c k b,H a=aa (.dT c)/\y=.ref b/\H b=aa (.tup (k.map kV))/\c.length<a8/\d=upd H a (.dT (fc c k v))
theorem jz.k{H:Hp}{a:ag}{b:List (aA×V)}{k:aA}(e:H a=aa (.dK b)):jz H a (kV k) (gD b k):=.inl ⟨b,k,.inl e,rfl,rfl⟩
theorem jz.t{H:Hp}{a b:ag}{c:List (List aA×V)}{k:List aA}(e:H a=aa (.dT c))(d:H b=aa (.tup (k.map kV))):jz H a (.ref b) (gD c k):=.inr ⟨c,k,b,.inl e,rfl,d,rfl⟩
theorem xt.k{H:Hp}{a:ag}{b:List (aA×V)}{k:aA}{v:V}(e:H a=aa (.dK b))(c:b.length<a8):xt H a (kV k) v (upd H a (.dK (fc b k v))):=.inl ⟨b,k,e,rfl,c,rfl⟩
theorem xt.t{H:Hp}{a b:ag}{c:List (List aA×V)}{k:List aA}{v:V}(e:H a=aa (.dT c))(f:H b=aa (.tup (k.map kV)))(d:c.length<a8):xt H a (.ref b) v (upd H a (.dT (fc c k v))):=.inr ⟨c,k,b,e,rfl,f,d,rfl⟩
section
variable{X:Cx}{f:List (ag×Obj)}{d:St}{H:Hp}{s:ao}{a:ag}{y v:V}{u r:ai}{o:Option V}{A:aX}{E:ai->ao->Prop}
theorem Inv.big(I:Inv X f d H s):kb<s.heap.objs.size:=by have h:cG<s.heap.objs.size:=(I.mod.glob.keeps I.bk).lt;exact AG (by decide) h
theorem Lj{Q:ai->ao->Prop}(C:A.units+1<cLine)(I:Inv X f d H s)(g:jz H a y (aa v))(w:RelV y u)(h:∀j q,Inv X f d H q->RelV v j->Q j q):aq (ar X.prog X.w) A (pe (.ref a) u) Q E s:=by
 rcases g with⟨kvs,k,e,ey,l⟩|⟨kvs,k,b,e,ey,eb,l⟩
 .subst ey;obtain⟨z,F,B,i,n⟩:=nB I.hok e;obtain⟨j,m,c⟩:=nD.some_of (v:=v) (o:=rg B k) (by rw[l];exact i.val k);exact wpAny_getItem_of (oY w) n.mapOf m (h j _ (I.tok _) c)
 .subst ey;cases (show u=Value.ref b from w);obtain⟨z,F,x,i,n⟩:=oU I.hok e;obtain⟨j,m,c⟩:=nD.some_of (v:=v) (o:=(atKey x k).map (·.2)) (by rw[l];exact i.val k);obtain⟨p,D,G⟩:=ly.mp m;refine wpAny_getItem_heap (xy C) (qM I.hok eb) n D ?_;rw[G];exact h j _ (I.tok _) c
theorem Pq{Q:ai->ao->Prop}(p:A.units+1<cLine)(I:Inv X f d H s)(g:jz H a y o)(n:RelV y u)(h:∀m,Inv X f d H m->Q (.bool o.isSome) m):aq (ar X.prog X.w) A (dw .In u (.ref a)) Q E s:=by
 rcases g with⟨kvs,k,e,ey,l⟩|⟨kvs,k,b,e,ey,eb,l⟩
 .subst ey;obtain⟨z,i,x,c,j⟩:=nB I.hok e;refine wpAny_in_of (oY n) i j.mapOf ?_;rw[<-(c.val k).isSome_eq,<-l];exact h _ (I.tok _)
 .subst ey;cases (show u=Value.ref b from n);obtain⟨z,i,w,c,j⟩:=oU I.hok e;refine wpAny_in_heap (xy p) (qM I.hok eb) i j ?_;have q:=(c.val k).isSome_eq;rw[AF]at q;rw[<-q,<-l];exact h _ (I.tok _)
theorem NM{Q:ai->ao->Prop}(p:A.units+1<cLine)(I:Inv X f d H s)(g:jz H a y o)(n:RelV y u)(h:∀m,Inv X f d H m->Q (.bool (!o.isSome)) m):aq (ar X.prog X.w) A (dw .NotIn u (.ref a)) Q E s:=by
 rcases g with⟨kvs,k,e,ey,l⟩|⟨kvs,k,b,e,ey,eb,l⟩
 .subst ey;obtain⟨z,i,x,c,j⟩:=nB I.hok e;refine wpAny_notIn_of (oY n) i j.mapOf ?_;rw[<-(c.val k).isSome_eq,<-l];exact h _ (I.tok _)
 .subst ey;cases (show u=Value.ref b from n);obtain⟨z,i,w,c,j⟩:=oU I.hok e;refine wpAny_notIn_heap (xy p) (qM I.hok eb) i j ?_;have q:=(c.val k).isSome_eq;rw[AF]at q;rw[<-q,<-l];exact h _ (I.tok _)
theorem yo{h':az}{t':Nat}{c:HO}(I:Inv X f d H s)(g:sL (H a))(h:kL a s.heap h')(i:∃q,h'.get? a=aa q)(new:b7 X.prog X.w (upd H a c) h' a c):Inv X f d (upd H a c) {s with heap:=h',toks:=t'} :=I.write (x:=a) (e:=a) g (.inl rfl) (λb q j z=>(h.2 b j).trans z) i new
theorem B4{P:aS}{w:aG}{j:Hp}{h':az}{b:List (aA×V)}{c:List (aA×ai)}(z:b.length<=a8)(h:(a == kb)=ak)(g:KV b c)(i:h'.DictOf (ge P w) a c):b7 P w j h' a (.dK b):=⟨z,h,c,g,i⟩
theorem JN{K:Hp}{Q:Unit->ao->Prop}(N:A.units+1<cLine)(I:Inv X f d H s)(g:xt H a y v K)(D:RelV y u)(F:RelV v r)(h:∀C,Inv X f d K C->Q () C):aq (ar X.prog X.w) A (setItem (.ref a) u r) Q E s:=by
 rcases g with⟨kvs,k,e,ey,l,eH⟩|⟨kvs,k,b,e,ey,eb,l,eH⟩
 .subst ey eH;obtain⟨z,x,M,i,B⟩:=wy I.hok e;have n:M.length<=a8:=by rw[<-i.length];exact z
  have w:(fc kvs k v).length<=a8:=by have:=Ae kvs k v;lia
  refine wpAny_setItem_pairs (hsz:=n) (oY D) B λG j p=>h _ ?_;have O:∃q,G.get? a=aa q:=let ⟨q,_,_,m,_⟩:=j;⟨q,m⟩
  exact yo I (by rw[e];exact True.intro) p O (B4 w x (i.put k F) j)
 .subst ey eH;cases (show u=Value.ref b from D);obtain⟨z,x,L,i,B⟩:=HU I.hok e;have n:L.length<=a8:=by rw[<-Paired.length i];exact z
  have w:(fc kvs k v).length<=a8:=by have:=Ae kvs k v;lia
  refine wpAny_setItem_heap (hsz:=n) (xy N) (qM I.hok eb) B λG j p=>h _ ?_;obtain⟨q,Y,Z,m,W,T,S,_,P⟩:=j;refine yo I (by rw[e];exact True.intro) p ⟨q,m⟩ ⟨w,x,_,(i.put k eb F).keeps λc ys J=>?_,q,Y,Z,m,W,T,S,P⟩;rw[bv (HJ J e (λz=>nomatch z))];exact J
end
section
variable{X:Cx}{d:List (ag×Obj)}{c:St}{H:Hp}{s:ao}{a:ag}{b:List (aA×V)}{k:aA}{u:ai}{A:aX}{E:ai->ao->Prop}
theorem Om{Q:ai->ao->Prop}(I:Inv X d c H s)(e:Rd H a (.dK b))(h:∀t g,Inv X d c H g->Q (.int b.length t) g):aq (ar X.prog X.w) A (call (.builtin "len") [.ref a]) Q E s:=by obtain⟨z,i,l,f,j⟩:=nB I.hok e;refine call_len_dict i j (by rw[<-f.length];rw[q0]at z;lia) ?_;rw[<-f.length];exact h _ _ (I.tok _)
end
def we(i:ay):Prop:=∀ov a,Az i ak ov a=operate [ov,a] (pe ov a)
theorem O8{a:aS}{w:aG}{A:aX}{E:ai->ao->Prop}{s:ao}{m:Env}{c b:ay}{q:Pos}{T v:String}{Q:ai->ao->Prop}(z:typeLookup (.type T) "__getitem__"=pure (aa (.builtin v))) (y:we b)(h:aq (ar a w) A (aM c m) (λo j=>aq (ar a w) A (aM b m) (λi d=>d.TypeIs o T/\aq (ar a w) A (pe o i) Q E d) E j) E s):aq (ar a w) A (aM (.Subscript c b q) m) Q E s:=by
 refine Subscript_ (fH h (λo j p=>fH p (λi d f=>?_) λ_ _ x=>x) λ_ _ x=>x);obtain⟨u,f⟩:=f;unfold subscriptTail;refine aw ?_;rw[getitemInPython_of_ne u.not_modules];refine aw (wpAny_specialOf u z ?_);have l:aq (ar a w) A (Az b ak o i) (λr g=>aq (ar a w) A (letTemporaryGo c o r >>= λ_=>pure r) Q E g) E d:=by rw[y o i];exact wpAny_operating (fH f (λr g n=>aw (wpAny_letTemporaryGo (aK n))) λ_ _ x=>x)
 first
  |exact aK (aw l)
  |exact aw (aK (aw l))
  |exact aw l
theorem K9{X:Cx}{f:List (ag×Obj)}{d:St}{H:Hp}{s:ao}{a:ag}{y:V}{o:Option V}(I:Inv X f d H s)(g:jz H a y o):s.TypeIs (.ref a) "dict":=by
 rcases g with⟨kvs,k,e,_,_⟩|⟨kvs,k,b,e,_,_,_⟩
 .obtain⟨_,_,i,_,c⟩:=nB I.hok e;exact c.typeIs
 .obtain⟨_,_,h,_,c⟩:=oU I.hok e;exact c.typeIs
def Jv(d ty:TE):TE:=λb H Q=>d b H λx f=>ty b f λy c=>∃a v,x=.ref a/\jz c a y (aa v)/\Q v c
def O4(ty d:TE):TE:=λb H Q=>ty b H λy f=>d b f λx c=>∃a o,x=.ref a/\jz c a y o/\Q (.bl o.isSome) c
def Jo(ty d:TE):TE:=λb H Q=>ty b H λy f=>d b f λx c=>∃a o,x=.ref a/\jz c a y o/\Q (.bl (!o.isSome)) c
def Jl(f ty d:TE):TS:=λD b H=>d b H λv i=>f b i λx h=>ty b h λy g=>∃a c,x=.ref a/\xt g a y v c/\D.nx b c
section
variable{X:Cx}{o i e b:ay}{j f m:Pos}{d c l:TE}
theorem BF(D:X.A.units+1<cLine)(F:PE X o d)(G:PE X i c)(E:we i):PE X (.Subscript o i j) (Jv d c):=by intro q s p H Q I h;refine O8 PySem.F.slot_dict_getitem.lookup E (aH (F q s p H _ I h) λu w ⟨x,N,L,A,C⟩=>aH (G q w p N _ L C) λT S ⟨y,M,r,z,a,v,J,g,B⟩=>?_);subst J;obtain rfl:u=Value.ref a:=A;exact⟨K9 r g,Lj D r g z λO P K n=>⟨v,M,K,n,B⟩⟩
theorem Lr(A:X.A.units+1<cLine)(C:PE X i c)(B:PE X o d):PC X .In i o (O4 c d):=by intro p s n H Q I h;refine aH (C p s n H _ I h) λN q ⟨y,K,G,r,z⟩=>aH (B p q n K _ G z) λu M ⟨x,J,F,v,a,ov,D,g,w⟩=>?_;subst D;obtain rfl:u=Value.ref a:=v;exact Pq A F g r λL E=>⟨.bl ov.isSome,J,E,rfl,w⟩
theorem ES(A:X.A.units+1<cLine)(C:PE X i c)(B:PE X o d):PC X .NotIn i o (Jo c d):=by intro p s n H Q I h;refine aH (C p s n H _ I h) λN q ⟨y,K,G,r,z⟩=>aH (B p q n K _ G z) λu M ⟨x,J,F,v,a,ov,D,g,w⟩=>?_;subst D;obtain rfl:u=Value.ref a:=v;exact NM A F g r λL E=>⟨.bl (!ov.isSome),J,E,rfl,w⟩
theorem Cs(J:X.A.units+1<cLine)(L:PE X o d)(M:PE X i c)(G:PE X b l)(K:jj b (aa (.Subscript o i f)) j.line X.env=pure ak):PS X (.Assign [.Subscript o i f] b j) (Jl d c l):=by intro p s n H D I h;refine wpAny_Assign_Subscript (aH (G p s n H _ I h) λr w ⟨v,Y,S,B,F⟩=>aH (L p w n Y _ S F) λu q ⟨x,W,Q,A,E⟩=>aH (M p q n W _ Q E) λiv s3 ⟨y,H3,P,z,a,T,N,g,C⟩=>?_) K;subst N;obtain rfl:u=Value.ref a:=A;exact JN J P g z B λZ O=>⟨n,T,O,C⟩
end
theorem Di{P:aS}{w:aG}{H:Hp}(h:az)(a:kb<h.objs.size):b7 P w H (h.push {cls:=.type "dict",data:=.dict #[]}) h.objs.size (.dK []) :=⟨jM _,beq_eq_false_iff_ne.mpr (eD (cF a)),[],.nil,Heap.DictOf.new h⟩
theorem LZ{P:aS}{w:aG}{H:Hp}(h:az)(a:kb<h.objs.size):b7 P w H (h.push {cls:=.type "dict",data:=.dict #[]}) h.objs.size (.dT []) :=⟨jM _,beq_eq_false_iff_ne.mpr (eD (cF a)),[],.nil,_,#[],0,cE _ rfl,⟨rfl,rfl,rfl⟩,rfl,rfl,List.nodup_nil⟩
def M0:TE:=λ_ H Q=>∀p,H p=ae->Q (.ref p) (upd H p (.dK []))
def KG:TE:=λ_ H Q=>∀p,H p=ae->Q (.ref p) (upd H p (.dT []))
section
variable{X:Cx}{b:Pos}
theorem JF:PE X (.Dict [] [] b) M0:=λd s c H Q I h=>wpAny_Dict_empty ⟨.ref s.heap.objs.size,_,I.laid (a:=s.heap.objs.size) (o:=.dK []) (t':=s.toks) (λ_ _ q=>bx _ q) (aT _) (Di s.heap I.big),rfl,h _ (I.hok.fresh (aT _))⟩
theorem ON:PE X (.Dict [] [] b) KG:=λd s c H Q I h=>wpAny_Dict_empty ⟨.ref s.heap.objs.size,_,I.laid (a:=s.heap.objs.size) (o:=.dT []) (t':=s.toks) (λ_ _ q=>bx _ q) (aT _) (LZ s.heap I.big),rfl,h _ (I.hok.fresh (aT _))⟩
end
def zf:List (TE×TE)->St->Hp->(List (V×V)->Hp->Prop)->Prop
 |[],_,H,Q=>Q [] H
 | (c,b)::r,a,H,Q=>c a H λx h=>b a h λy g=>zf r a g λd f=>Q ((x,y)::d) f
abbrev VV:List (V×V)->List (ai×ai)->Prop:=ka λp q=>RelV p.1 q.1/\RelV p.2 q.2
def wF(X:Cx)(f:Pos)(b:List (Option ay))(a:List ay)(d:List (TE×TE)):Prop :=
 ∀(h:List (ag×Obj)) (s:ao) (c:St) (H:Hp) (Q:List (V×V)->Hp->Prop),Inv X h c H s->zf d c H Q ->
  aq (ar X.prog X.w) X.A (evalPairs (pairTrees b a X.env f)) (λj l=>∃g i,Inv X h c i l/\VV g j/\Q g i) X.xe s
theorem OC{X:Cx}{a:Pos}:wF X a [] [] []:=λc s b H Q I h=>pairTrees_nil_walk ⟨[],H,I,.nil,h⟩
theorem L3{X:Cx}{b:Pos}{k v:ay}{ks:List (Option ay)}{g:List ay}{j i:TE}{a:List (TE×TE)}(B:PE X k j)(z:PE X v i)(A:wF X b ks g a):wF X b (aa k::ks) (v::g) ((j,i)::a):=λf s c H Q I h=>pairTrees_cons_walk (aH (B f s c H _ I h) λu m ⟨x,J,E,o,r⟩=>aH (z f m c J _ E r) λL l ⟨y,G,D,n,q⟩=>aH (A f l c G _ D q) λK M ⟨w,F,C,d,p⟩=>⟨(x,y)::w,F,C,.cons ⟨o,n⟩ d,p⟩)
def qU(a more:List (aA×V)):List (aA×V):=more.foldl (λc b=>fc c b.1 b.2) a
theorem KV.merge:∀{more:List (aA×V)}{c:List (aA×ai)}{a:List (aA×V)}{b:List (aA×ai)},KV more c->KV a b->KV (qU a more) (merged b c):=by
 intro more c a b r;unfold KV at r
 induction r generalizing a b with
 |nil=>intro q;exact q
 |@cons p q ps qs h t ih=>
  intro d;have e:KV (fc a p.1 p.2) (stored b q.1 q.2):=by have:=d.put p.1 h.2;rw[<-h.1];exact this
  exact ih e
theorem E1:∀(more a:List (aA×V)),(qU a more).length<=a.length+more.length
 |[],a=>by show a.length<=a.length+0;lia
 |p::r,a=>by have c:=E1 r (fc a p.1 p.2);have b:=Ae a p.1 p.2;show(qU (fc a p.1 p.2) r).length<=_;rw[cS];lia
theorem Cd{P:aS}{w:aG}:∀{d:List (aA×V)}{g:List (ai×ai)},VV (d.map λi=>(kV i.1,i.2)) g->∃f,Carries (ge P w) g f/\KV d f
 |[],_,r=>by rw[rh]at r;cases r;exact⟨[],True.intro,.nil⟩
 |p::d,_,r=>by
  rw[bZ]at r;cases r with
  |@cons a b as bs h t=>obtain⟨f,c,q⟩:=Cd (P:=P) (w:=w) t;obtain⟨b1,b2⟩:=b;exact⟨(p.1,b2)::f,⟨oY h.1,rfl,c⟩,.cons ⟨rfl,h.2⟩ q⟩
def Pl(b:List (TE×TE)):TE:=λf H Q=>∀p,H p=ae->zf b f (upd H p (.dK [])) λg d=>d p=aa (.dK [])/\∃a:List (aA×V),g=a.map (λc=>(kV c.1,c.2))/\a.length<=15/\Q (.ref p) (upd d p (.dK (qU [] a)))
theorem Ir{X:Cx}{g:Pos}{b:List (Option ay)}{d:List ay}{f:List (TE×TE)}(h:wF X g b d f)(x:b.all (·.isSome)=ah)(E:b.length=d.length)(K:b≠[])(m:b.length<=15):PE X (.Dict b d g) (Pl f):=by
 intro N s p H Q I q;have D:=I.hok.fresh (aT s.heap.objs.size);have O:=I.laid (a:=s.heap.objs.size) (o:=.dK []) (h':=s.heap.push {cls:=.type "dict",data:=.dict #[]}) (t':=s.toks) (λ_ _ q=>bx _ q) (aT _) (Di s.heap I.big);refine wpAny_Dict_walk (knd:=ge X.prog X.w) x E K m (aH (h N _ p _ _ O (q _ D)) λS T ⟨W,Z,n,l,e,i,L,Y,A⟩=>?_);subst L;obtain⟨u,c,v⟩:=Cd (P:=X.prog) (w:=X.w) l;obtain⟨z,G,r,y,M⟩:=wy n.hok e;cases y;refine⟨u,c,M,λh' j C=>⟨.ref s.heap.objs.size,_,?_,rfl,A⟩⟩;have B:(qU [] i).length<=a8:=by have J:=E1 i [];rw[jL]at J;rw[q0];lia
 have F:∃q,h'.get? s.heap.objs.size=aa q:=let ⟨q,_,_,hq,_⟩:=j;⟨q,hq⟩
 exact yo n (by rw[e];exact True.intro) C F (B4 B G (v.merge .nil) j)
structure M2(X:Cx)(o:ay)(m:Str)(apos:Pos)(e f:ay)(cpos:Pos):Prop where
 base:jK o m X.env (aM o X.env)=aM o X.env
 few:((cY cpos (aQ [e,f] X.env)).all (λx=>!x.1)&&(o8 cpos (o9 [] X.env)).all (λx=>x.1.isSome)&&decide (([e,f]:List ay).length+([]:List jl).length+(if([]:List jl).isEmpty then 0 else 1)<30))=ah
 line:(apos.endLine == cpos.line)=ah
 trees:cY cpos (aQ [e,f] X.env)=[(ak,aM e X.env),(ak,aM f X.env)]
def Cz(H:Hp)(a:ag):Prop:=(∃b,Rd H a (.dK b))\/∃b,Rd H a (.dT b)
theorem Mu{X:Cx}{l:List (ag×Obj)}{j:St}{H:Hp}{s:ao}{a:ag}(I:Inv X l j H s)(d:Cz H a):s.TypeIs (.ref a) "dict"/\(∀b,Value.ref a=.ref b->∃c,s.heap.get? b=aa c/\c.dict=ae)/\(a == kb)=ak:=by
 rcases d with⟨kvs,e⟩|⟨kvs,e⟩
 .obtain⟨_,g,n,_,f⟩:=nB I.hok e;refine⟨f.typeIs,λb q=>?_,g⟩;cases q;obtain⟨c,_,_,i,h,_⟩:=f;exact⟨c,i,h.2.1⟩
 .obtain⟨_,g,m,_,f⟩:=oU I.hok e;refine⟨f.typeIs,λb q=>?_,g⟩;cases q;obtain⟨c,_,_,i,h,_⟩:=f;exact⟨c,i,h.2.1⟩
section
variable{X:Cx}{f:List (ag×Obj)}{c:St}{H:Hp}{s:ao}{a:ag}{y d:V}{u r:ai}{o:Option V}{A:aX}{E:ai->ao->Prop}
theorem Jg{Q:ai->ao->Prop}(w:A.units+1<cLine)(I:Inv X f c H s)(g:jz H a y o)(q:RelV y u)(rd:RelV d r)(h:∀n p,Inv X f c H p->RelV (o.getD d) n->Q n p):aq (ar X.prog X.w) A (call (.builtin "dict.get") [.ref a,u,r]) Q E s:=by
 rcases g with⟨kvs,k,e,ey,l⟩|⟨kvs,k,b,e,ey,eb,l⟩
 .subst ey;obtain⟨z,m,x,i,j⟩:=nB I.hok e;refine call_meetsIn Gs j.typeIs PySem.F.entry_dict_get (PySem.F.args_dict_get_3 _ _ _) (meets_dict_get_default (ge X.prog X.w) a (oY q) m r) ⟨_,j.mapOf,h _ _ (I.tok _) ?_⟩;rw[l];exact(i.val k).getD rd
 .subst ey;cases (show u=Value.ref b from q);obtain⟨z,m,v,i,j⟩:=oU I.hok e;refine call_meetsIn Gs j.typeIs PySem.F.entry_dict_get (PySem.F.args_dict_get_3 _ _ _) (meetsH_dict_get_default (t5 (ge X.prog X.w)) a b m r) ⟨xy w,k,v,qM I.hok eb,j,h _ _ (I.tok _) ?_⟩;rw[l];exact(i.val k).getD rd
end
def NE(g ty f:TE):TE:=λb H Q=>g b H λx d=>∃a,x=.ref a/\Cz d a/\ty b d λy h=>f b h λz c=>∃o,jz c a y o/\Q (o.getD z) c
section
variable{X:Cx}{o e f:ay}{c b:Pos}{l i j:TE}
theorem JL(K:X.A.units+1<cLine)(L:PE X o l)(N:PE X e i)(M:PE X f j)(m:M2 X o "get" c e f b):PE X (.Call (.Attribute o "get" c) [e,f] [] b) (NE l i j):=by intro q s n H Q I h;refine wpAny_Call_method m.base m.few m.line Gu Gs PySem.F.type_dict_get (aH (L q s n H _ I h) λu B ⟨x,Z,r,E,a,O,d,J⟩=>?_);subst O;obtain rfl:u=Value.ref a:=E;obtain⟨w,v,_⟩:=Mu r d;refine⟨w,v,?_⟩;rw[m.trees];refine AA rfl (AD (Au (aH (N q B n Z _ r J) λiv A ⟨y,Y,T,D,G⟩=>Au (aH (M q A n Y _ T G) λfv s3 ⟨z,W,S,C,ov,g,F⟩=>Gi ?_))));exact Jg K S g D C λw' s4 P p=>⟨_,W,P,p,F⟩
end
end L2
namespace Att
open PySem PySem.W PySem.Calls PyProof.Rows
theorem On{P:Params}{h:az}:∀(c:List Int) (d:List ai),WellAll P h d (c.map WData.int)->IntsAre d c:=by
 intro c
 induction c with
 |nil=>
  intro d w;rw[rh]at w;cases w;exact .nil
 |cons n c f=>
  intro d w;rw[bZ]at w;cases w with
  |cons a b=>
   cases a;exact .cons _ _ (f _ b)
theorem Pn{l:OpenLaw}{n:Nat}(y:l.most=aa n){P:Params}{h:az}{args:List WData}{c:List ai}(o:l.row.toRowW.claim.pre args=ah) (i:WellAll P h c args):∃a m b,c=[Value.ref a]/\args=[WData.list (b.map WData.int)]/\h.get? a=aa {cls:=.type "list",data:=.seq m.toArray}/\IntsAre m b/\b.length<=n:=by
 have j:WShape.hasAll [] args [.list .int]=ah:=(pre_splitW o).1;have p:l.pre.holds [] {args:=args}=ah:=(pre_splitW o).2;obtain⟨d,r,rfl,B,A⟩:=hasAllW_cons j;obtain rfl:=hasAllW_nil A;obtain⟨D,rfl,z⟩:=hasW_list B;obtain⟨b,rfl⟩:=items_int z;have C:b.length<=n:=by
  unfold OpenLaw.pre at p;have g:(WTm.not (.lt (.lit (.int (n:Int))) (.len (.arg 0)))).holds [] {args:=[.list (b.map .int)]}=ah:=by have g:=(holds_andW p).1;rw[y]at g;exact g
  have f:=condW_of g (w_not (w_lt w_lit (w_len_list (w_arg rfl))));rw[cM]at f;refine Nat.le_of_not_lt λq=>?_;have w:(n:Int)<((b.length:Nat):Int):=∅
  first
   | (rw[decide_eq_true w]at f;exact absurd f (by decide))
   | (simp at f;lia)
 cases i with
 |cons u s=>
  cases s;cases u with
  |list x v=>exact⟨_,_,b,rfl,rfl,x,On b _ v,C⟩
theorem Me(l:OpenLaw)(args:List WData):l.row.toRowW.claim.post args (.bool ah) args=ah :=
 postW_of (r:=l.row.toRowW) (X:=(ah == ah))
  (show WShape.has [] (.bool ah) .bool=ah by first|rfl|decide|simp[WShape.has,WShape.arms,WShape.armsAll])
  (show(WTm.eq .res (.lit (.bool ah))).value [] {args:=args,res:=aa (.bool ah),after:=args}=aa (.bool (ah == ah))from w_eq_bool (w_res rfl) w_lit) rfl
theorem attach_call{l:OpenLaw}{n:Nat}{q:aS}{g:List Str}{XP:(Str->Option ai)->az->Prop}{D:aG->az->Prop}{d:DefRec}(L:l.most=aa n) (H:d.params.defaults=[])(call:∀(w:aG) (c b:ao) (s x:Str->Option ai) (j:ag) (o:Obj) (v u h:ai) (a:ag) (i:List ai) (p:List Int),Ground q g [] XP w c s x b.heap->D w b.heap -> b.heap.get? j=aa o->o.data=.func (docDef d.name d.params d.body d.scope v u h)->b.heap.CodeRec u d.name->s d.name=aa (.ref j) -> b.heap.get? a=aa {cls:=.type "list",data:=.seq i.toArray}->IntsAre i p->p.length<=n->b.gens=#[] -> o7 (ar l.prog w) rj (.call (.ref j) ⟨[.ref a],[]⟩) (λr m=>r=.ok (.ret (.bool ah))/\OldK b.heap m.heap/\m.os=b.os/\mj m.gens) b):WalkO q g XP D l.row.toRowW d [] (λf i=>PySem.call f i):=by intro w c b s x G Y j o v u h dV kV K O T B E N C z as F A I y rO;obtain rfl:dV=.none:=Dflts.none B H;obtain rfl:kV=.none:=Dflts.noKw B;obtain⟨a,i,p,rfl,rfl,X,Z,W⟩:=Pn L F y;refine enter_call (q8 (call w c b s x j o v u h a i p G Y K (fd_plain O) T E X Z W N) λr m J=>?_);obtain⟨rfl,S,Q,P⟩:=J;exact⟨.inl ⟨.bool ah,.bool ah,[],rfl,λ_=>rfl,.bool ah,Me l _,λ_=>⟨List.Pairwise.nil,λ_ M=>(nomatch M)⟩⟩,S,Q,P⟩
end Att
namespace L2
theorem vt:∀{a:List ai}{b:List Int},IntsAre a b->bq (b.map V.int) a
 |_,_,.nil=>.nil
 |_,_,.cons n t h=>.cons ⟨t,rfl⟩ (vt h)
def zQ(H:Hp):Prop:=∀b,H b=ae\/(∃o a,H b=aa (.frz o (.lst a)))\/∃q,H b=aa (.tbl q)
def jx(K:ax):Hp:=λb=>match o5 K "least_ending" with
 |some (_,P)=>if b=P then aa (.tbl "least_ending.<locals>.<lambda>")else ae
 |none=>ae
theorem oF{K:ax}{b:ag}{u:HO}(h:jx K b=aa u):u=.tbl "least_ending.<locals>.<lambda>"/\∃c,o5 K "least_ending"=aa (c,b):=by
 unfold jx at h;split at h
 .rename_i c P e;split at h
  .rename_i a;subst a;cases h;exact⟨rfl,c,e⟩
  .cases h
 .cases h
theorem CF{K:ax}{c P:ag}(h:o5 K "least_ending"=aa (c,P)):jx K P=aa (.tbl "least_ending.<locals>.<lambda>"):=by unfold jx;rw[h];exact if_pos rfl
def B7(K:ax)(h:az):Prop:=∀c P,o5 K "least_ending"=aa (c,P)->PySem.W.codeHdIn K c P=ah/\K.lookup P=ae/\h.get? P=aa {cls:=.none,data:=.fields #[]}
theorem L5{P:aS}{w:aG}{K:ax}{L mb:Str->Option ai}{CX:gy}{k:Nat}{fa a:ag}{fd:iz}{x:Str}{sp:Sp}{f:ao}{G:List ai}{M:List Int}(KX:K.In f.heap) (rP:f.heap.Ns cG L) (j:f.heap.Ns o4 mb) (pH:∀x:Str,x≠"__name__"->mb x=d7 x) (O:f.heap.NoLimit) (hbm:∃E B,L "__builtins__"=aa (.ref E)/\E≠o4/\f.heap.get? E=aa B/\B.cls=.type "module"/\B.dict=aa o4/\B.data=.plain) (C:B7 K f.heap) (hg:f.gens=#[])(y:f.heap.get? a=aa {cls:=.type "list",data:=.seq G.toArray}) (hi:IntsAre G M) (hl:M.length<=a8) (hr:gc k rj)(F:∀p:az,K.In p->p.Ns cG L->kt P w K L p CX k fa fd [x] sp) (Qi:∀(s:ao) (u:ai),BindsTo s fd ⟨[u],[]⟩ [(x,u)])(lG:∀H:Hp,zQ H->b9 K H a (M.map V.int)->sp [.ref a] H (λv _=>v=.bl ah) λ_ _ _=>False)(hCX:∀H e l,CX [] H f (λ_ _ _=>False) e l->False):o7 (ar P w) rj (.call (.ref fa) ⟨[.ref a],[]⟩) (λr l=>r=.ok (.ret (.bool ah))/\OldK f.heap l.heap/\l.os=f.os/\mj l.gens) f:=by
 have rv:=vt hi;have N:=hi.length;have D:∀H:Hp,zQ H->b9 K H a (M.map V.int)->c9 P w H f.heap->(∀b,H b≠ae->b=a\/∃c,o5 K "least_ending"=aa (c,b))->(H a≠ae->K.lookup a=ae)->vo K H ->
   o7 (ar P w) rj (.call (.ref fa) ⟨[.ref a],[]⟩) (λr l=>r=.ok (.ret (.bool ah))/\OldK f.heap l.heap/\l.os=f.os/\mj l.gens) f:=by
  intro H hO hS I Y hK hTH;have g:∀{b:ag}{o:Obj},f.heap.get? b=aa o->H b=ae->(lY f.heap H).get? b=aa o:=λe n=>La e n;have noA:∀{b:ag}{o:Obj}{S:Array DictEntry}{T:Nat},f.heap.get? b=aa o->o.data=.dict S T->H b=ae:=λ{b o S T} e d=>by
   cases q:H b with
   |none=>rfl
   |some u=>
    rcases Y b (by rw[q];simp)with i|⟨c,i⟩
    .subst i;rw[y]at e;cases e;have d':Data.seq G.toArray _=Data.dict S T:=d;cases d'
    .rw[(C c b i).2.2]at e;cases e;cases d
  have A:∀{b:ag}{m:Str->Option ai},f.heap.Ns b m->(lY f.heap H).Ns b m:=λ{b m} ⟨o,S,T,e,d,r⟩=>⟨o,S,T,g e (noA e d),d,r⟩
  have Q:K.In (lY f.heap H):=λb o e=>g (KX b o e) (by
   cases q:H b with
   |none=>rfl
   |some u=>
    rcases Y b (by rw[q];simp)with i|⟨c,i⟩
    .subst i;rw[hK (by rw[q];simp)]at e;cases e
    .rw[(C c b i).2.1]at e;cases e)
  have hM:Mod K L (lY f.heap H):=⟨Q,A rP,⟨mb,A j,pH⟩,(let ⟨mc,h1,h2⟩:=O;⟨mc,A h1,h2⟩),by
   obtain⟨E,B,b1,b2,X,b4,b5,b6⟩:=hbm;refine⟨E,B,b1,b2,g X ?_,b4,b5,b6⟩;cases q:H E with
   |none=>rfl
   |some u=>
    rcases Y E (by rw[q];simp)with i|⟨c,i⟩
    .subst i;rw[y]at X;cases X;simp at b4
    .rw[(C c E i).2.2]at X;cases X;simp at b4⟩
  have e0:vX P w K L (lY f.heap H) rj [] f H:=⟨rfl,hM,λb o e=>P7 e,mw (Hg _ _),trivial,λb j=>absurd (show b∈([]:List ag)from j) (by simp),I,.of_eq hg,hTH⟩
  refine q8 ((F _ Q (A rP)).run rj [] f H ⟨[.ref a],[]⟩ [.ref a] [.ref a] _ _ hr e0 (Qi f (.ref a)) (.cons rfl .nil) (lG H hO hS)) λr l h=>?_;cases r with
  |error e=>exact(hCX H e l h).elim
  |ok fl=>
   cases fl with
   |next=>exact lv h
   |brk=>exact lv h
   |cont=>exact lv h
   |ret u=>
    obtain⟨v,H',os,W,un,G8,r',q⟩:=h;have q':v=.bl ah:=q;subst q';obtain rfl:u=Value.bool ah:=r';refine⟨rfl,⟨λb o e=>?_,λb o e=>un.there b o e (by simp)⟩,os,W⟩;cases q:H b with
    |none=>exact .inl (un.keep b o e q (by intro z;exact absurd (show b∈([]:List ag)from z) (by simp)) (by simp))
    |some u=>
     rcases hO b with z|⟨B,xs,z⟩|⟨qn,z⟩
     .rw[q]at z;cases z
     .have z2:=un.frzs b B _ z;obtain⟨J,_⟩:=I b _ z;obtain⟨e2,_⟩:=G8 b _ z2;rw[e]at J;cases J;exact .inl e2
     .rcases Y b (by rw[q];simp)with i|⟨c,i⟩
      .subst i;obtain⟨ps,J,_⟩:=I b _ z;rw[y]at J;cases J
      .obtain⟨k1,k2,k3⟩:=C c b i;rw[k3]at e;cases e;obtain⟨oc,Z,_,_,_,_,_,_,_,f1,f2,f3,f4,_⟩:=PySem.W.codeHd_of_K KX k1;obtain⟨ps,J,_⟩:=G8 b _ (un.tbls b _ z);exact .inr (.inl ⟨⟨c,oc,Z,f1,f2,f3,f4⟩,rfl,#[],ps,rfl,by rw[J];simp⟩)
 cases hk:K.lookup a with
 |some o=>
  have e:=KX a o hk;rw[y]at e;cases e;have tH:∀b u,jx K b=aa u->b7 P w (jx K) f.heap b u:=λb u z=>by
   obtain⟨rfl,c,e⟩:=oF z;exact⟨#[],(C c b e).2.2,trivial,λpos cv h=>by cases h⟩
  refine D (jx K) (λb=>?_) (.inr ⟨_,G.toArray,_,hk,rfl,rfl,rfl,by rw[cb,N];exact hl,by simpa using rv⟩) tH (λb z=>?_) (λz=>?_) λx hx c P e=>?_
  .cases q:jx K b with
   |none=>exact .inl rfl
   |some u=>exact .inr (.inr ⟨_,congrArg aa (oF q).1⟩)
  .cases q:jx K b with
   |none=>exact absurd q z
   |some u=>exact .inr (oF q).2
  .cases q:jx K a with
   |none=>exact absurd q z
   |some u=>
    obtain⟨_,c,i⟩:=oF q;rw[(C c a i).2.2]at y;cases y
  .obtain rfl:x = "least_ending":=by simpa[z8]using hx
   exact CF e
 |none=>
  have ta:∀c P,o5 K "least_ending"=aa (c,P)->P≠a:=λc P e z=>by subst z;rw[(C c P e).2.2]at y;cases y
  refine D (λb=>if b=a then aa (.frz {cls:=.type "list",data:=.seq G.toArray} (.lst (M.map V.int)))else jx K b) (λb=>?_) (.inl (.inr ⟨{cls:=.type "list",data:=.seq G.toArray},if_pos rfl⟩)) (λb u z=>?_) (λb z=>?_) (λ_=>hk) λx hx c P e=>?_
  .by_cases j:b=a
   .exact .inr (.inl ⟨_,_,if_pos j⟩)
   .cases q:jx K b with
    |none=>exact .inl ((if_neg j).trans q)
    |some u=>exact .inr (.inr ⟨_,(if_neg j).trans (q.trans (congrArg aa (oF q).1))⟩)
  .by_cases j:b=a
   .have z':=(if_pos j).symm.trans z;cases z';subst j;exact⟨y,by rw[cM];exact hl,G,_,rv,y⟩
   .obtain⟨rfl,c,e⟩:=oF ((if_neg j).symm.trans z);exact⟨#[],(C c b e).2.2,trivial,λpos cv h=>by cases h⟩
  .by_cases j:b=a
   .exact .inl j
   .cases q:jx K b with
    |none=>exact absurd ((if_neg j).trans q) z
    |some u=>exact .inr (oF q).2
  .obtain rfl:x = "least_ending":=by simpa[z8]using hx
   exact(if_neg (ta c P e)).trans (CF e)
theorem QR{l:AH}{n k:Nat}{q:aS}{c:List Str}{XP:(Str->Option ai)->az->Prop}{E:aG->az->Prop}{d:DefRec}{K:Params->ax}{CX:aG->gy}{sp:aG->Sp}{x:Str}(O:l.most=aa n) (r:n<=a8) (L:d.params.defaults=[]) (N:gc k rj)(C:∀(w:aG) (h:az),E w h->(K w.params).In h/\B7 (K w.params) h)(F:∀(w:aG) (g:Str->Option ai) (m:ag) (h:az),(K w.params).In h->h.Ns cG g->g d.name=aa (.ref m) -> ∃z:iz,(∀(s:ao) (u:ai),BindsTo s z ⟨[u],[]⟩ [(x,u)]) /\ ∀b:az,(K w.params).In b->b.Ns cG g->kt l.prog w (K w.params) g b (CX w) k m z [x] (sp w))(M:∀(w:aG) (H:Hp) (a:ag) (j:List Int),j.length<=n->zQ H->b9 (K w.params) H a (j.map V.int)->sp w [.ref a] H (λv _=>v=.bl ah) λ_ _ _=>False)(y:∀(w:aG) (H:Hp) (s:ao) (e:ai) (p:ao),CX w [] H s (λ_ _ _=>False) e p->False):PySem.W.WalkO q c XP E l.row.toRowW d [] (λf A=>PySem.call f A):=by refine Att.attach_call O L λw B i g mb m o pm cd X a A j G Y ho hd bn J Z Bn D P=>?_;have I:=(C w _ Y).1;obtain⟨z,Q,W⟩:=F w g m _ I G.T.g J;exact L5 I G.T.g G.T.b G.T.builtins G.T.nolimit G.T.bmain (C w _ Y).2 P Z Bn (cH D r) N W Q (λH T S=>M w H a j D T S) λH e p=>y w H i e p
def ku(s:bf):Arguments:=match s with
 |.FunctionDef _ a _ _ _ _ _ _ _ _=>a
 |_=>{posonlyargs:=[],args:=[],vararg:=ae,kwonlyargs:=[],kw_defaults:=[],kwarg:=ae,defaults:=[]}
def iw(s:bf):List bf:=match s with
 |.FunctionDef _ _ b _ _ _ _ _ _ _=>b
 |_=>[]
def bg(s:bf):d8:=match s with
 |.FunctionDef _ _ _ _ _ _ a _ _ _=>a
 |_=>{kind:=.function,names:=[],isGenerator:=ak,isCoroutine:=ak}
abbrev E0:XK:=λ_ _ _=>False
structure ol(K:ax)(x qual:Str)(st:bf)(f:ag)(fd:iz):Prop where
 ex:∃(oc:ai) (od:Option ag) (kV doc pm:ai) (an:Option ag) (a9 ct:ai) (osl:Array (Option ai)),
  fd=kg x qual (ku st) (iw st) (bg st) .none kV doc pm an a9 ct/\K.lookup f=aa ⟨oc,od,.func fd,osl⟩/\xw K a9 qual=ah
 kp:t7 K (.ref f)=ah
section
variable{P:aS}{w:aG}{K:ax}{b:Str->Option ai}{a:az}
theorem ol.binds{x c:Str}{g:bf}{f:ag}{p:iz}{j:List Str}(F:ol K x c g f p)(h:∀(kV d l:ai) (n:Option ag) (o m:ai) (i:List ai),i.length=j.length->gJ (kg x c (ku g) (iw g) (bg g) .none kV d l n o m) ⟨i,[]⟩=pure (j.zip i)):Binds K p j []:=by obtain⟨oc,r,kV,d,l,n,o,m,q,rfl,s,u⟩:=F.ex;exact .all (h kV d l n o m)
theorem E7{x d:Str}{g:bf}{f:ag}{oc:ai}{p o:Option ag}{i:Array (Option ai)}{kV h m j n:ai}(l:K.lookup f=aa ⟨oc,p,.func (kg x d (ku g) (iw g) (bg g) .none kV h m o j n),i⟩)(c:xw K j d=ah) (k:t7 K (.ref f)=ah):ol K x d g f (kg x d (ku g) (iw g) (bg g) .none kV h m o j n):=⟨⟨oc,p,kV,h,m,o,j,n,i,rfl,l,c⟩,k⟩
end
theorem Nx{n:Nat}(h:n<=1000):n<a8:=ub h (by decide)
section
variable{X:Cx}
theorem pv(i:Nat){x:Str}{a:Pos}(d:X.N[i]?=aa x:=by rfl)(b:dA X.env.scope x:=by eq_refl)(c:(x==("__debug__":Str))=ak:=by decide)(f:(x==("__classdict__":Str))=ak:=by decide):PE X (.Name x a) (wX i):=eI d b c f
theorem JB:eG X (.builtin "len") (λc H Q=>∃a b,c=[V.ref a]/\H a=aa (.dK b)/\Q (.int b.length) H):=by
 intro m s i H c j Q I r h;obtain⟨a,b,rfl,f,q⟩:=h;obtain⟨u,rfl,d⟩:=vals1 r;cases d;exact Om I (.inl f) λt l g=>⟨.int b.length,H,g,⟨t,rfl⟩,q⟩
end
theorem mY{A B:Prop}(h:B):if ak=ah then A else B:=by rw[if_neg fg];exact h
theorem nj{A B:Prop}(h:A):if ah=ah then A else B:=by rw[if_pos rfl];exact h
def Same(H a:Hp):Prop:=∀b o,H b=aa o->a b=aa o
theorem Same.refl(H:Hp):Same H H:=λ_ _ h=>h
theorem Same.trans{H f d:Hp}(a:Same H f)(b:Same f d):Same H d:=λc o h=>b c o (a c o h)
theorem Same.free{H a:Hp}(e:Same H a){l:ag}(h:a l=Option.none):H l=Option.none:=by
 cases q:H l with
 |none=>rfl
 |some o=>
  rw[e l o q]at h;cases h
end L2
set_option maxHeartbeats 4000000
namespace L2
def gX(a:Env):List (Str×gn)->List (Str×ag)->List (Str×ag)
 |[],b=>b
 | (n,k)::r,b=>if k == .free then gX a r ((n,(a.cells.lookup n).getD 0)::b)else gX a r b
theorem OD{d:Env}{y:Str}{c:ag}(b:List (Str×gn))(f:List (Str×ag))(l:∀x∈b,x.2=.free->∃c,d.cells.lookup x.1=aa c)(h:(gX d b f).lookup y=aa c):f.lookup y=aa c\/d.cells.lookup y=aa c:=by
 induction b generalizing f with
 |nil=>exact .inl h
 |cons a r g=>
  obtain⟨n,k⟩:=a;unfold gX at h;have j:∀x∈r,x.2=.free->∃c,d.cells.lookup x.1=aa c:=λx m=>l x (iN _ m);split at h
  .rename_i o;obtain⟨s,i⟩:=l (n,k) (kK ..) (by simpa using o);rcases g _ j h with q|q
   .rw[kh]at q;split at q
    .rename_i p;have e:y=n:=by simpa using p
     subst e;rw[i]at q;exact .inr (by rw[i];exact q)
    .exact .inl q
   .exact .inr q
  .exact g _ j h
theorem EZ{a:Type}{n:Str}{v:a}{l:List (Str×a)}:((n,v)::l).lookup n=aa v:=by rw[kh];simp
theorem Es{a:Type}{n y:Str}{v:a}{l:List (Str×a)}(h:∃c,l.lookup y=aa c):∃c,((n,v)::l).lookup y=aa c:=by
 rw[kh];split
 .exact⟨_,rfl⟩
 .exact h
theorem zy{d:Env}{y:Str}:∀(a:List (Str×gn)) (b:List (Str×ag)),(∃c,b.lookup y=aa c)->∃c,(gX d a b).lookup y=aa c
 |[],b,h=>h
 | (n,k)::r,b,h=>by
  unfold gX;split
  .exact zy r _ (Es h)
  .exact zy r _ h
theorem yc{g:Env}{y:Str}:∀(a:List (Str×gn)) (i:List (Str×ag)),(∃x∈a,x.1=y/\x.2=.free)->∃c,(gX g a i).lookup y=aa c
 |[],i,⟨_,h,_⟩=>by simp at h
 | (n,k)::r,i,⟨x,b,f,d⟩=>by
  unfold gX;rcases bw.mp b with e|b
  .subst e;simp only at f d;subst f d;simp only[beq_self_eq_true,if_true];exact zy r _ ⟨_,EZ⟩
  .split
   .exact yc r _ ⟨x,b,f,d⟩
   .exact yc r _ ⟨x,b,f,d⟩
theorem zP{b:Env}:∀(a:List (Str×gn)) (g:List (Str×ag)),(∀x∈a,x.2=.free->∃c,b.cells.lookup x.1=aa c) -> (forIn (m:=Sem) a g λx r=>match x with | (d,f)=>if(f == NameKind.free)=ah then do let c <-cellOf b d;pure (ForInStep.yield ((d,c)::r))else pure (ForInStep.yield r))=pure (gX b a g)
 |[],g,_=>rfl
 | (n,k)::r,g,h=>by
  have j:∀x∈r,x.2=.free->∃c,b.cells.lookup x.1=aa c:=λx o=>h x (iN _ o);rw[List.forIn_cons];unfold gX;by_cases i:(k == NameKind.free)=ah
  .obtain⟨c,l⟩:=h (n,k) (kK ..) (by simpa using i);simp only[i,if_true];have e:cellOf b n=pure c:=by unfold cellOf;rw[l]
   rw[e];simp only[pure_bind];rw[zP r _ j,l];rfl
  .simp only[i,if_false,pure_bind];exact zP r _ j
theorem O0{a:d8}{b:Env}(h:∀x∈a.names,x.2=.free->∃c,b.cells.lookup x.1=aa c):closureFor a b=pure (gX b a.names []):=by unfold closureFor;have q:=zP a.names [] h;simp only[bind_pure_comp]at q ⊢;rw[q];rfl
theorem w6{n c:Nat}(b:n+1<=c)(a:c<n):False:=∅
theorem ym:∀(c:List (Str×gn)) (n:Nat) (a b:List (Str×ag)),fI n c (a++b)=fI n c a++b
 |[],_,_,_=>rfl
 | (x,k)::r,n,a,b=>by
  unfold fI;split
  .exact ym r (n+1) ((x,n)::a) b
  .exact ym r n a b
theorem vI{y:Str}{c:ag}:∀(b:List (Str×gn)) (n:Nat) (a:List (Str×ag)),(y,c)∈fI n b a->(y,c)∈a\/(y,.cell)∈b
 |[],_,_,h=>.inl h
 | (x,k)::r,n,a,h=>by
  unfold fI at h;split at h
  .rename_i d;rcases vI r _ _ h with z|z
   .rcases bw.mp z with z|z
    .cases z;have e:k=.cell:=by simpa using d
     subst e;exact .inr (kK ..)
    .exact .inl z
   .exact .inr (iN _ z)
  .rcases vI r _ _ h with z|z
   .exact .inl z
   .exact .inr (iN _ z)
theorem z6{y:Str}:∀(b:List (Str×gn)) (n:Nat) (a:List (Str×ag)),(∃c,a.lookup y=aa c)->∃c,(fI n b a).lookup y=aa c
 |[],_,_,h=>h
 | (x,k)::r,n,a,h=>by
  unfold fI;split
  .exact z6 r _ _ (Es h)
  .exact z6 r _ _ h
theorem xr{y:Str}:∀(b:List (Str×gn)) (n:Nat) (a:List (Str×ag)),(y,.cell)∈b->∃c,(fI n b a).lookup y=aa c
 | (x,k)::r,n,a,h=>by
  unfold fI;rcases bw.mp h with e|h
  .cases e;exact z6 r _ _ ⟨_,EZ⟩
  .split
   .exact xr r _ _ h
   .exact xr r _ _ h
def lc(X:Cx)(a:d8)(C:ag):List (Str×ag):=fI (C+1) a.names (gX X.env a.names [])
theorem zr(X:Cx)(a:d8)(C:ag):lc X a C=fI (C+1) a.names []++gX X.env a.names []:=ym a.names (C+1) [] _
theorem LH{M:Model}{A:aX}{E:ai->ao->Prop}{s:ao}{a:d8}{b:ag}{j:List (Str×ag)}{c:Str}{f:Env}{Q:Env->ao->Prop}(l:Q (newEnv a s.heap.objs.size b (fI (s.heap.objs.size+1) a.names j) c ae .none (aa f) o4) {s with heap:=pushCells (s.heap.push {cls:=.type "dict",data:=.dict #[]}) a.names}):aq M A (newFunctionEnv a b j [] c ae .none (aa f)) Q E s:=by
 simp only[newFunctionEnv,Option.isSome_some,if_true];refine aw (wpAny_alloc ?_);refine aw (wpAny_layCells _ (λi d h=>by cases g:d == NameKind.cell <;> simp[g]) _ _ _ _ ?_);rw[show({s with heap:=s.heap.push {cls:=.type "dict",data:=.dict #[]}}:ao).heap.objs.size=s.heap.objs.size+1 from xz ..];refine aw ?_;rw[List.forIn_nil];exact aK (aK l)
theorem Db{s:ao}{a:List (Str×gn)}{y:Str}{c:ag}(h:(y,c)∈fI (s.heap.objs.size+1) a []):(pushCells (s.heap.push {cls:=.type "dict",data:=.dict #[]}) a).IsCell c ae/\s.heap.objs.size+1<=c/\∀z,(z,c)∈fI (s.heap.objs.size+1) a []->y=z:=by have ok:=cellsFrom_ok a (s.heap.push {cls:=.type "dict",data:=.dict #[]}) (s.heap.objs.size+1) [] ⟨λ_ _ d=>(nomatch d),List.Pairwise.nil⟩ (by rw[xz];exact aT _);rw[xz]at ok;exact⟨(ok.empty y c h).1,(ok.empty y c h).2,λz b=>name_of_addr ok.apart h b⟩
def bW(X:Cx)(a:d8)(b:List Str)(C:ag)(s₀:ao)(H₀:Hp)(ex:List ag)(pn:List (ag×Obj)):Cx where
 prog:=X.prog
 w:=X.w
 K:=X.K
 mg:=X.mg
 base:=X.base
 A:=X.A
 N:=b
 s₀:=s₀
 H₀:=H₀
 env:=compEnvC a (lc X a C) C X.env
 outer:=X.stack
 stack:=X.stack
 ex:=ex
 fn:=λy=>a.names.lookup y == aa .cell
 calm:=X.calm
 pn:=X.pn++pn
 xe:=λ_ _=>False
def gb(b:St)(a:List Nat):St:=a.map λi=>(b[i]?).join
structure io(X:Cx)(scope:d8)(x:Str)(N':List Str)(cap:List Nat):Prop where
 kind:scope.kind=.function
 cells:∀y∈scope.names,y.2=.cell->scope.names.lookup y.1=aa .cell
 names:∀y∈scope.names,y.2=.local->scope.names.lookup y.1=aa .local
 loc:scope.names.lookup x=aa .local\/scope.names.lookup x=aa .cell
 free:∀y∈scope.names,y.2=.free->X.env.kindOf y.1=aa .cell\/X.env.kindOf y.1=aa .free
 nd:N'.Nodup
 hd:N'.head?=aa x
 len:N'.length=cap.length+1
 caps:∀i j y,N'[i+1]?=aa y->cap[i]?=aa j->(X.N[j]?=aa y/\scope.names.lookup y=aa .free)\/(X.N.length<=j/\scope.names.lookup y=aa .local)
theorem Mp{a:List (Str×gn)}{y:Str}{k:gn}(h:a.lookup y=aa k):∃x∈a,x.1=y/\x.2=k:=⟨(y,k),kP h,rfl,rfl⟩
theorem y9{a:Env}{x:Str}:∀{b:List (Str×gn)}{k:gn}, (b.map λ(n,k)=>if(k == NameKind.free&&a.scope.kind == .function&&a.kindOf n == aa .cell)then(n,NameKind.cell)else(n,k)).lookup x=aa k -> ∃f,b.lookup x=aa f/\(k=f\/(f=.free/\k=.cell))
 |[],_,h=>by simp at h
 | (n,c)::r,k,h=>by
  change AI x ((if(c == NameKind.free&&a.scope.kind == .function&&a.kindOf n == aa .cell)=ah then(n,NameKind.cell)else(n,c))::_)=_ at h;rw[kh];by_cases d:(c == NameKind.free&&a.scope.kind == .function&&a.kindOf n == aa .cell)=ah
  .rw[if_pos d,kh]at h;split at h
   .rename_i g;cases h;have:c=.free:=by simp at d;exact d.1.1
    exact⟨c,rfl,.inr ⟨this,rfl⟩⟩
   .exact y9 h
  .rw[if_neg d,kh]at h;split at h
   .rename_i g;cases h;exact⟨c,rfl,.inl rfl⟩
   .exact y9 h
theorem z9{a:Env}{x:Str}:∀{b:List (Str×gn)},b.lookup x=aa .free -> let q:=(b.map λ(n,k)=>if(k == NameKind.free&&a.scope.kind == .function&&a.kindOf n == aa .cell)then(n,NameKind.cell)else(n,k)).lookup x
  q=aa .cell\/q=aa .free
 |[],h=>by simp at h
 | (n,c)::r,h=>by
  show AI x ((if(c == NameKind.free&&a.scope.kind == .function&&a.kindOf n == aa .cell)=ah then(n,NameKind.cell)else(n,c))::_)=_\/AI x ((if(c == NameKind.free&&a.scope.kind == .function&&a.kindOf n == aa .cell)=ah then(n,NameKind.cell)else(n,c))::_)=_;rw[kh]at h;by_cases f:(c == NameKind.free&&a.scope.kind == .function&&a.kindOf n == aa .cell)=ah
  .rw[if_pos f,kh];cases d:x == n with
   |true=>exact .inl rfl
   |false=>rw[d]at h;exact z9 h
  .rw[if_neg f,kh];cases d:x == n with
   |true=>rw[d]at h;cases h;exact .inr rfl
   |false=>rw[d]at h;exact z9 h
theorem y_{a:Env}{x:Str}:∀{b:List (Str×gn)},b.lookup x=aa .cell -> (b.map λ(n,k)=>if(k == NameKind.free&&a.scope.kind == .function&&a.kindOf n == aa .cell)then(n,NameKind.cell)else(n,k)).lookup x=aa .cell
 |[],h=>by simp at h
 | (n,d)::r,h=>by
  show AI x ((if(d == NameKind.free&&a.scope.kind == .function&&a.kindOf n == aa .cell)=ah then(n,NameKind.cell)else(n,d))::_)=_;rw[kh]at h;by_cases f:(d == NameKind.free&&a.scope.kind == .function&&a.kindOf n == aa .cell)=ah
  .rw[if_pos f,kh];cases c:x == n with
   |true=>rfl
   |false=>rw[c]at h;exact y_ h
  .rw[if_neg f,kh];cases c:x == n with
   |true=>rw[c]at h;cases h;rfl
   |false=>rw[c]at h;exact y_ h
section
variable{X:Cx}{A:List (ag×Obj)}{w:St}{H:Hp}{s:ao}{f:d8}{x:Str}{D:List Str}{g:List Nat}
theorem Inv.freeHas(I:Inv X A w H s)(B:io X f x D g):∀y∈f.names,y.2=.free->∃c,X.env.cells.lookup y.1=aa c:=λy a e=>I.ok.has y.1 (B.free y a e)
theorem Inv.clIn(I:Inv X A w H s)(B:io X f x D g){y:Str}{c:ag}(h:(gX X.env f.names []).lookup y=aa c):X.env.cells.lookup y=aa c:=by
 rcases OD f.names [] (I.freeHas B) h with q|q
 .simp at q
 .exact q
theorem Inv.cbIn(I:Inv X A w H s)(B:io X f x D g){C:ag}{y:Str}{c:ag}(h:(lc X f C).lookup y=aa c):((y,c)∈fI (C+1) f.names []/\f.names.lookup y=aa .cell)\/((gX X.env f.names []).lookup y=aa c/\X.env.cells.lookup y=aa c):=by
 rw[zr,Gv]at h;cases e:(fI (C+1) f.names []).lookup y with
 |none=>rw[e]at h;exact .inr ⟨h,I.clIn B h⟩
 |some a=>
  rw[e]at h;cases h;have m:=kP e;rcases vI _ _ _ m with z|z
  .cases z
  .exact .inl ⟨m,B.cells _ z rfl⟩
theorem Inv.cbOld(I:Inv X A w H s)(B:io X f x D g){C:ag}{y:Str}{c:ag}(h:(gX X.env f.names []).lookup y=aa c)(a:f.names.lookup y=aa .free):(lc X f C).lookup y=aa c:=by
 rw[zr,Gv];cases e:(fI (C+1) f.names []).lookup y with
 |none=>exact h
 |some b=>
  rcases vI _ _ _ (kP e)with z|z
  .cases z
  .have:=B.cells _ z rfl;rw[a]at this;cases this
theorem Inv.block{fp:List ag}{E:az}{m:Str->Option ai}{t':Nat}(hh:E=pushCells (s.heap.push {cls:=.type "dict",data:=.dict #[]}) f.names)(I:Inv X A w H s)(B:io X f x D g)(Y:∀b∈fp,kJ X A H b)(hfo:∀b∈fp,∃o,s.heap.get? b=aa o)(rP:E.Ns s.heap.objs.size m)(F:∀b o,s.heap.get? b=aa o->E.get? b=aa o):Inv (bW X f D s.heap.objs.size s H fp A) [] (ae::gb w g) H {s with heap:=E,toks:=t'}:=by
 have N:∀x c,X.env.cells.lookup x=aa c->c<s.heap.objs.size:=λx c e=>(I.cell x c e).elim λv q=>q.lt;have C:∀{y:Str}{c:ag},(y,c)∈fI (s.heap.objs.size+1) f.names []->E.IsCell c ae/\s.heap.objs.size+1<=c/\∀z,(z,c)∈fI (s.heap.objs.size+1) f.names []->y=z:=λh=>by rw[hh];exact Db h
 have lk:∀y k,(compEnvC f (lc X f s.heap.objs.size) s.heap.objs.size X.env).kindOf y=aa k->∃O,f.names.lookup y=aa O/\(k=O\/(O=.free/\k=.cell)):=λy k h=>y9 h;have J:∀y,f.names.lookup y=aa .free->∃c,(gX X.env f.names []).lookup y=aa c:=λy h=>yc f.names [] (Mp h);have nfs:∀b∈fR X.stack,b≠s.heap.objs.size:=λb G e=>by
  rcases bw.mp (I.stkSub b G)with z|z
  .exact absurd I.lt (by rw[<-z,e];exact eL _)
  .exact I.nofs (mw e.symm) z
 refine⟨⟨I.ok.mod,B.kind,I.ok.glob,I.ok.blt,aT _,λy z c h1 h2=>?_,λy Q=>?_,λy c h jR=>?_,I.ok.hd,I.ok.frames,.inl rfl,λb G=>?_,λb o e=>I.bs b o e,cH I.ok.bsz I.sz,λb o e G=>?_,λb G hf=>?_,I.stack,(λb G=>I.stkFree b G),I.tab⟩,rfl,I.bare,Un.kept F,⟨m,rP,λi y v e1 S e3=>?_⟩,λy c h=>?_,I.hok.fresh (aT _),λy c h=>?_,λp hp=>?_,I.hok.kept F,?_⟩
 .-- inj
  rcases I.cbIn B h1 with⟨a1,a2⟩|⟨a1,a2⟩ <;> rcases I.cbIn B h2 with⟨b1,b2⟩|⟨b1,b2⟩
  .exact(C a1).2.2 z b1
  .exact(w6 (C a1).2.1 (N _ _ b2)).elim
  .exact(w6 (C b1).2.1 (N _ _ a2)).elim
  .exact I.ok.inj y z c a2 b2
 .-- has
  show ∃c,(lc X f s.heap.objs.size).lookup y=aa c;have lH:f.names.lookup y=aa .free->∃c,(lc X f s.heap.objs.size).lookup y=aa c:=λq=>(J y q).imp λc hc=>I.cbOld B hc q;rcases Q with Q|Q
  .obtain⟨O,q,z|⟨z,_⟩⟩:=lk y _ Q
   .subst z;exact xr _ _ _ (kP q)
   .subst z;exact lH q
  .obtain⟨O,q,z|⟨_,z⟩⟩:=lk y _ Q
   .subst z;exact lH q
   .cases z
 .-- cab
  have hk:f.names.lookup y=aa .cell:=by simpa using(show(f.names.lookup y == aa .cell)=ah from h)
  show s.heap.objs.size<=c;rcases I.cbIn B jR with⟨a1,a2⟩|⟨a1,a2⟩
  .have:=(C a1).2.1;lia
  .obtain⟨c',P⟩:=xr (n:=s.heap.objs.size+1) (a:=[]) _ (kP hk);have e:(lc X f s.heap.objs.size).lookup y=aa c':=by rw[zr,Gv,P];rfl
   have S:(lc X f s.heap.objs.size).lookup y=aa c:=jR;rw[e]at S;cases S;have:=(C (kP P)).2.1;lia
 .-- exf
  obtain⟨f0,f1,f2,f3,f4,f5⟩:=Y b G;obtain⟨o,L⟩:=hfo b G;refine⟨λe=>absurd (bC L) (by rw[e];exact eL _),λy c h=>?_⟩;rcases I.cbIn B h with⟨a1,a2⟩|⟨a1,a2⟩
  .rintro rfl;exact w6 (C a1).2.1 (bC L)
  .exact f4 y c a2
 .-- noex
  obtain⟨f0,f1,f2,f3,f4,f5⟩:=Y b G;rcases f3 with z|z
  .exact I.ok.noex b o e z
  .exact absurd (h8 (bC e) (cH I.ok.bsz z)) (eL _)
 .-- exfs
  obtain⟨f0,f1,f2,f3,f4,f5⟩:=Y b G;rcases bw.mp (I.stkSub b hf)with z|z
  .exact f1 z
  .exact f2 z
 .-- loc
  cases i with
  |zero=>simp at S
  |succ i=>
   have K:(gb w g)[i]?=aa (aa v):=by simpa using S
   unfold gb at K;rw[jJ]at K;cases Z:g[i]? with
   |none=>rw[Z]at K;cases K
   |some j=>
    rw[Z]at K;have T:(w[j]?).join=aa v:=dP K;have e5:w[j]?=aa (aa v):=by
     cases hq:w[j]? with
     |none=>rw[hq]at T;cases T
     |some o=>rw[hq]at T;exact congrArg aa T
    obtain⟨b1,b2⟩:=(B.caps i j y e1 Z).elim id λz=>by have:=(dG.mp e5).1;rw[I.len]at this;exact absurd this (Nat.not_lt.mpr z.1)
    obtain⟨mm,hn,hl⟩:=I.loc;have ux:=B.free _ (kP b2) rfl;have W:dA X.env.scope y:=by
     rcases ux with z|z
     .exact .inr (.inl z)
     .exact .inr (.inr z)
    obtain⟨u,r,l⟩:=hl j y v b1 e5 W;refine⟨u,r,.inr ⟨z9 b2,?_⟩⟩;rcases l with⟨l,_⟩|⟨_,c,hc,xP⟩
    .rcases ux with z|z
     .rw[l]at z;cases z
     .rw[l]at z;cases z
    .obtain⟨c',P⟩:=J y b2;have e6:=I.clIn B P;rw[hc]at e6;cases e6;obtain⟨M,L,hd⟩:=xP;exact⟨c,I.cbOld B P b2,M,F c M L,hd⟩
 .rcases I.cbIn B h with⟨a1,a2⟩|⟨a1,a2⟩
  .exact⟨ae,(C a1).1⟩
  .obtain⟨v,M,L,hd⟩:=I.cell y c a2;exact⟨v,M,F c M L,hd⟩
 .rcases I.cbIn B h with⟨a1,a2⟩|⟨a1,a2⟩
  .exact I.hok.fresh (cH (t_ _) (C a1).2.1)
  .exact I.freeC y c a2
 .have eX:p∈X.pn++A:=by simpa[bW]using hp
  obtain⟨e,n,ne,nf,d⟩:=I.pin p eX;refine⟨F _ _ e,n,cF (bC e),λhf=>?_,d⟩;rcases bw.mp (I.stkSub p.1 hf)with z|z
  .exact ne z
  .exact nf z
 .show(ae::gb w g).length=D.length;rw[B.len];simp[gb]
end
def oH(X:Cx)(b:List ay)(t:TT):Prop :=
 ∀(d:List (ag×Obj)) (s:ao) (a:St) (H:Hp) (Q:Bool->Hp->Prop),Inv X d a H s->t a H Q ->
  aq (ar X.prog X.w) X.A (forIn b ah λc r=>if r=ah then do let ok <-ml c X.env (aM c X.env);pure (ForInStep.yield ok)else pure (ForInStep.yield r)) (TP X d a Q) X.xe s
theorem JJ{P:aS}{w:aG}{A:aX}{R:Result->ao->Prop}{s:ao}{m q i:ay}{l:List ay}{g:d8}{p:Pos}{u C:ai}{d:Env}(J:Nat->ao->Prop)(n:∀k o,J k o->aq (ar P w) A (pyNext u) (λr B=>match r with
   |none=>R (.ok .next) B
   |some v=>aq (ar P w) A (At q u v) (λ_ G=>aq (ar P w) A (nH q d v) (λ_ F=>aq (ar P w) A (forIn l ah λc r=>if r=ah then do let ok <-ml c d (aM c d);pure (ForInStep.yield ok)else pure (ForInStep.yield r)) (λb z=>if b=ah then aq (ar P w) A (aM m d) (λy E=>aq (ar P w) A (call (.builtin "list.append") [C,y]) (λ_ D=>∃j,j<k/\J j D) (λ_ _=>False) E) (λ_ _=>False) z else ∃j,j<k/\J j z) (λ_ _=>False) F) (λ_ _=>False) G) (λ_ _=>False) B) (λ_ _=>False) o) (k:Nat) (h:J k s) :
  o7 (ar P w) A (.compLoop (.ListComp m [⟨q,i,l,0⟩] g p) 0 u C d) R s:=by
 refine codeAny_loop rfl J (λj o K=>?_) k h;show aq _ A (Sem.onRaise (compTurn (.ListComp m [⟨q,i,l,0⟩] g p) 0 u C d) (λx=>do noteFrame x d;theTreesLotGoes x)) _ _ o;refine wpAny_noted ?_;rw[compTurn_list];have no:∀(Q:ai->ao->Prop) (a:ai) (b:ao),False->Q a b:=λ_ _ _ f=>f.elim;refine aw (wpAny_standAt (aw (fH (n j o K) (λr B I=>?_) (no _))));cases r with
 |none=>exact aK I
 |some v=>
  refine aw (fH I (λ_ G O=>aw (fH O (λ_ F N=>aw (fH N (λb z H=>?_) (no _))) (no _))) (no _));cases b with
  |true=>exact aw (aw (fH H (λy E M=>aw (fH M (λ_ D L=>aK (aK ⟨rfl,L⟩)) (no _))) (no _)))
  |false=>exact aK ⟨rfl,H⟩
def Jm:TT:=λ_ H Q=>Q ah H
theorem Kh{X:Cx}:oH X [] Jm:=λ_ _ _ H _ I h=>wpAny_tests_nil ⟨H,I,h⟩
theorem Ga{X:Cx}{c:ay}{t:TT}(h:PT X c t):oH X [c] t:=λd s a H Q I b=>wpAny_tests_one (h d s a H Q I b)
def Am(q:TI)(h:V->Hp->St->Prop)(k:Nat)(r:TT)(s:TE)(d:List Nat):TE:=λg H Q=>q g H λJ p=>∀l,p l=ae->∃W:Nat->Nat->List V->Hp->Prop,(∃m,W 0 m [] (upd p l (.lst [])))/\∀i m a H,W i m a H ->
 (J.stop i H/\Q (.ref l) H)\/(J.go i H/\∀v j,J.yld i H v j->∃f,f.length=k+1/\h v j f/\r (f++(gb g d).drop k) j λb o=>if b=ah then s (f++(gb g d).drop k) o λy n=>n l=aa (.lst a)/\a.length<a8/\∃c,c<m/\W (i+1) c (a++[y]) (upd n l (.lst (a++[y]))) else ∃c,c<m/\W (i+1) c a o)
def F_:V->Hp->St->Prop:=λv _ a=>a=[aa v]
abbrev Ak(b:TI)(c:TT)(d:TE)(a:List Nat):TE:=Am b F_ 0 c d a
section
variable{X:Cx}{m:List (ag×Obj)}{w:St}{H:Hp}{s:ao}{g:d8}{x:Str}{j:List Str}{l:List Nat}
theorem Inv.unblock{r:List ag}{p:Hp}{y:St}{s':ao}{h:az}(I:Inv X m w H s)(D:∀b∈r,kJ X m H b)(a:Inv (bW X g j s.heap.objs.size s H r m) [] y p s') (sb:kL s.heap.objs.size s'.heap h):Inv X m w p {s' with heap:=h}:=by
 have k:∀b o,b≠s.heap.objs.size->s'.heap.get? b=aa o->h.get? b=aa o:=λb o f e=>(sb.2 b f).trans e;have A:∀b o,s.heap.get? b=aa o->b≠s.heap.objs.size:=λb o e=>cF (bC e);have un:Un (fR X.stack) r H p s.heap h:=by
  refine⟨λb o e n f d=>k b o (A b o e) (a.base.keep b o e n f d),λb o e n f d=>?_,λb o e n d=>a.base.free b o e n d,λb o e d=>?_,a.base.tups,a.base.frzs,a.base.tbls⟩
  .obtain⟨E,q⟩:=a.base.slot b o e n f d;exact⟨E,k b _ (A b o e) q⟩
  .obtain⟨C,q⟩:=a.base.there b o e d;exact⟨C,k b C (A b o e) q⟩
 have B:c9 X.prog X.w p h:=λb u e=>by
  have i:p s.heap.objs.size=ae:=a.free;refine(a.hok b u e).stay (λc v F q=>k c v ?_ q) (λ_ q=>q) λ_ _ q=>q;rintro rfl;rcases F with z|z
  .rw[<-z,i]at e;cases e
  .rw[i]at z;cases z
 refine I.call' (s':={s' with heap:=h}) (ch:=r) a.os un B a.bare λb f=>?_;obtain⟨K,J,f2,f3,f4,G⟩:=D b f;exact⟨f3,J,f4,G⟩
theorem Fb{elt G tg:ay}{pos pos':Pos}{ifs:List ay}{wi:TI}{tgf:V->Hp->St->Prop}{k:Nat}{ts:TT}{te:TE}{use:Option (ai->Sem Unit)}{Q:ai->ao->Prop}{Qp:VK}(B:io X g x j l)(hk:k<=l.length)(hc:X.calm=ah)(hi:PI X tg G wi)(fh:∀C F K ex pn,PG (bW X g j C F K ex pn) tg λv O H Q=>∃Y,Y.length=k+1/\O.length=j.length/\tgf v H Y/\Q (Y++O.drop (k+1)) H)(ht:∀C F K ex pn,oH (bW X g j C F K ex pn) ifs ts) (he:∀C F K ex pn,PE (bW X g j C F K ex pn) elt te) (hs:∀x,kN G X.env x=pure x) (I:Inv X m w H s) (h:Am wi tgf k ts te l w H Qp)(fin:∀{A s6:ao}{P H5:Hp}{L σ5 a f},Inv X m w P A->(∀b∈L,kJ X m P b)->Inv (bW X g j A.heap.objs.size A P L m) [] σ5 H5 s6->Qp (.ref a) H5->compPost (ar X.prog X.w) X.A X.xe use Q (.ref a) A.heap.objs.size (.ok f) s6):aq (ar X.prog X.w) X.A (comprehension (.ListComp elt [⟨tg,G,ifs,0⟩] g pos) g X.env pos' (newList []) ak (aM G X.env) use) Q X.xe s:=by
 refine wpAny_comprehension_free (use:=use) rfl hs (O0 (I.freeHas B)) B.kind B.names (aH (hi m s w H _ I h) λv s1 h1=>aH h1 λitv E h2=>?_);obtain⟨it,L,tn,J,H2,e,I2,T,aW,f2,h2⟩:=h2;subst e;refine mr ?_;have I3:Inv X m w (upd H2 E.heap.objs.size (.lst [])) {E with heap:=E.heap.push {cls:=.type "list",data:=.seq ([]:List ai).toArray},toks:=E.toks}:=I2.lnew (its:=[]) (t':=E.toks) .nil (jM _);obtain⟨W,⟨m0,w0⟩,turn⟩:=h2 E.heap.objs.size I2.fresh;generalize nW:({E with heap:=E.heap.push {cls:=.type "list",data:=.seq ([]:List ai).toArray},toks:=E.toks}:ao)=A at I3;have hs3':({E with heap:=E.heap.push {cls:=.type "list",data:=.seq ([]:List ai).toArray}}:ao)=A:=nW;generalize hH3:upd H2 E.heap.objs.size (.lst [])=P at I3 w0;have nl:∀b∈L,b≠E.heap.objs.size:=λb D e=>by obtain⟨o,ho,_⟩:=T.obj _ _ aW b D;exact absurd (bC ho) (by rw[e];exact eL _)
 have k3:∀b o,E.heap.get? b=aa o->A.heap.get? b=aa o:=λb o e=>by rw[<-nW];exact bx _ e
 have f3:∀b∈L,kJ X m P b:=λb D=>⟨by rw[<-hH3,bv (nl b D)];exact(f2 b D).1,(f2 b D).2⟩
 have bA:tn 0 A.heap:=T.keep _ _ _ aW λb _ o e=>k3 b o e;have fo3:∀b∈L,∃o,A.heap.get? b=aa o:=λb D=>(T.obj _ _ bA b D).imp λo q=>q.1;refine LH ?_;generalize hh:pushCells (A.heap.push {cls:=.type "dict",data:=.dict #[]}) g.names=h₁;have old:∀b o,A.heap.get? b=aa o->h₁.get? b=aa o:=λb o e=>hh ▸ pushCells_keeps _ _ b o (bx _ e);have rP:h₁.Ns A.heap.objs.size (λ_=>ae):=hh ▸ (Heap.Ns.new A.heap (.type "dict")).keeps (pushCells_keeps _ _);have I4:=Inv.block (t':=A.toks) hh.symm I3 B f3 fo3 rP old;have bO:tn 0 h₁:=T.keep _ _ _ bA λb _ o e=>old b o e;have M:∀{H':Hp},(∀b∈L,H' b=ae)->∀b∈L,kJ (bW X g j A.heap.objs.size A P L m) [] H' b:=λhn b D=>by
  obtain⟨f0,f1,f2',f3',f4,f5⟩:=f3 b D;refine⟨hn b D,λe=>?_,λhf=>?_,.inl D,λy c h=>?_,λp hp=>f5 p (by simpa[bW]using hp)⟩
  .obtain⟨o,ho⟩:=fo3 b D;exact absurd (bC ho) (by rw[show b=A.heap.objs.size from e];exact eL _)
  .rcases bw.mp (I3.stkSub b hf)with z|z
   .exact f1 z
   .exact f2' z
  .rcases I3.cbIn B h with⟨a1,a2⟩|⟨a1,a2⟩
   .rintro rfl;obtain⟨o,ho⟩:=fo3 _ D;exact w6 (Db a1).2.1 (bC ho)
   .exact f4 y c a2
 have Z:o7 (ar X.prog X.w) X.A (.compLoop (.ListComp elt [⟨tg,G,ifs,0⟩] g pos) 0 (.ref it) (.ref E.heap.objs.size) (compEnvC g (lc X g A.heap.objs.size) A.heap.objs.size X.env))
   (compPost (ar X.prog X.w) X.A X.xe use Q (.ref E.heap.objs.size) A.heap.objs.size) {A with heap:=h₁,toks:=A.toks}:=by
  refine JJ (λn s'=>∃i S O H',(∃pre:St,pre.length=k+1/\O=pre++(gb w l).drop k)/\Inv (bW X g j A.heap.objs.size A P L m) [] O H' s'/\tn i s'.heap/\(∀b∈L,H' b=ae)/\W i n S H') ?_ m0
   ⟨0,[],_,P,⟨(ae::gb w l).take (k+1),by simp[gb];lia,by rw[<-List.drop_succ_cons (a:=ae)];exact(nL _ _).symm⟩,I4,bO,λb D=>(f3 b D).1,w0⟩
  rintro n s5 ⟨i,S,σ5,H5,⟨pre,uA,rfl⟩,I5,b0,fr5,w5⟩;rcases turn i n S H5 w5 with⟨stop,q⟩|⟨go,step⟩
  .refine fH (T.done (bW X g j A.heap.objs.size A P L m) rfl rfl rfl hc i [] s5 _ H5 (λ_ _=>False) I5 (M fr5) b0 stop) (λr s6 ⟨hr,I6⟩=>?_) (λ_ _ f=>f.elim);subst hr;exact fin I3 f3 I6 q
  .refine fH (T.item (bW X g j A.heap.objs.size A P L m) rfl rfl rfl hc i [] s5 _ H5 (λ_ _=>False) I5 (M fr5) b0 go) (λr s6 ⟨u,hr,h6⟩=>?_) (λ_ _ f=>f.elim);subst hr;refine fH h6 (λ_ s7 ⟨v,H7,I7,r7,y7,st7,fr7⟩=>?_) (λ_ _ f=>f.elim);have I7':=I7.pinned (M fr7) (T.obj _ _ st7);have back:∀{N:St}{H8:Hp}{s8:ao},Inv (bW X g j A.heap.objs.size A P L m) ([]++tJ L s7.heap) N H8 s8->tn (i+1) s8.heap/\(∀b∈L,H8 b=ae):=λ{N H8 s8} I8=>⟨T.keep _ _ _ st7 λb D o e=>(I8.pin (b,o) (gm _ (gm _ (wH D e)))).1,λb D=>by obtain⟨o,e,d⟩:=T.obj _ _ st7 b D;exact(I8.pin (b,o) (gm _ (gm _ (wH D e)))).2.1⟩
   obtain⟨Y,cU,htg,step⟩:=step v H7 y7;refine aH (fh _ _ _ _ _ _ s7 _ H7 v u (λN H8=>N=Y++(gb w l).drop k/\H8=H7) I7' r7 ⟨Y,cU,I7'.len,htg,by rw[AJ ∅,List.drop_eq_nil_of_le ∅];rfl,rfl⟩) λ_ s8 ⟨N,H8,I8,e8,e8'⟩=>?_;subst e8 e8';refine aH (ht _ _ _ _ _ _ s8 _ _ _ I8 step) λb s9 ⟨H9,I9,q9⟩=>?_;cases b with
   |false=>
    obtain⟨m',hm,w9⟩:=(show ∃m',m'<n/\W (i+1) m' S H9 from q9)
    exact⟨m',hm,i+1,S,_,H9,⟨Y,cU,rfl⟩,I9.unpinned,(back I9).1,(back I9).2,w9⟩
   |true=>refine aH (he _ _ _ _ _ _ s9 _ H9 _ I9 q9) λu10 s10 ⟨y,H10,I10,r10,hl10,hz10,m',hm,w10⟩=>?_;refine aH (Ev _ s10 _ H10 (.ref E.heap.objs.size) [y] _ [u10] (λz H11=>H11=upd H10 E.heap.objs.size (.lst (S++[y]))) I10 rfl (.cons r10 .nil) ⟨_,S,y,rfl,rfl,hl10,hz10,rfl⟩) λ_ s11 ⟨_,H11,I11,_,e11⟩=>?_;subst e11;exact⟨m',hm,i+1,S++[y],_,_,⟨Y,cU,rfl⟩,I11.unpinned,(back I11).1,(back I11).2,w10⟩
 exact codeAny_compStart_list Z (T.self _ 0 _ _ _ bO Z)
theorem B5{y:Pos}(B:io X g x j l):∀C b c i f,PG (bW X g j C b c i f) (.Name x y) λv d H Q=>∃n,n.length=0+1/\d.length=j.length/\F_ v H n/\Q (n++d.drop (0+1)) H:=by
 intro C b c i f m s d H v u Q I r h;obtain⟨n,_,A,z,q⟩:=h;cases (show n=[aa v] from z);have D:Loc (bW X g j C b c i f).env.scope x:=B.loc.elim (λh=>.inl (lookup_relabel_local h)) (λh=>.inr (y_ h));have o:(bW X g j C b c i f).fn x=ah\/(bW X g j C b c i f).env.scope.names.lookup x=aa .local:=B.loc.elim (λh=>.inr (lookup_relabel_local h)) (λh=>.inl (by show(g.names.lookup x == aa .cell)=ah;rw[h];rfl));have p:(bW X g j C b c i f).N[0]?=aa x:=by show j[0]?=aa x;rw[<-List.head?_eq_getElem?];exact B.hd
 refine xq B.nd p D o m s d H v u Q I r ?_;show Q (d.set 0 (aa v)) H;cases d with
 |nil=>rw[jL,B.len]at A;lia
 |cons a r=>exact q
theorem D7{f b:ay}{p pos:Pos}{d:List ay}{wi:TI}{ts:TT}{te:TE}(B:io X g x j l)(D:X.calm=ah)(z:PI X (.Name x p) b wi)(v:∀C a c o i,oH (bW X g j C a c o i) d ts) (A:∀C a c o i,PE (bW X g j C a c o i) f te) (y:∀x,kN b X.env x=pure x:=by intro _;rfl):PE X (.ListComp f [⟨.Name x p,b,d,0⟩] g pos) (Ak wi ts te l):=by intro m s w H Q I h;rw[eval_ListComp];exact Fb (use:=ae) B (jM _) D z (B5 B) v A y I h λE f3 r q=>by obtain⟨u,n,_⟩:=r.loc;exact⟨u,n,λF sb=>⟨.ref _,_,E.unblock f3 r sb,rfl,q⟩⟩
end
def Walk(J:It)(a:List V)(R:Hp->Prop):Prop :=
 ∀H,R H->∀i,(∀x,a[i]?=aa x->J.go i H/\∀y b,J.yld i H y b->b=H/\y=x)/\(i=a.length->J.stop i H)
theorem Mc{K:ax}{a:ag}{b:List V}:Walk (yx K a) b (λH=>b9 K H a b):=λH h i=>⟨λx c=>⟨⟨b,x,h,c⟩,λy f z=>⟨z.1,by have:=z.2 b h;rw[c]at this;exact(dP this).symm⟩⟩,λd=>⟨b,h,mw d.symm⟩⟩
theorem HK{K:ax}{a:ag}{b:List V}:Walk (zB K a) b (λH=>cL K H a b):=λH h i=>⟨λx c=>⟨⟨b,x,h,c⟩,λy f z=>⟨z.1,by have:=z.2 b h;rw[c]at this;exact(dP this).symm⟩⟩,λd=>⟨b,h,mw d.symm⟩⟩
def qu(a:Int)(n:Nat):List V:=(df n).map λi=>V.int (a+(i:Nat))
theorem yM(a:Int)(n:Nat):(qu a n).length=n:=by simp[qu]
theorem Kl{b:Int}{n:Nat}:Walk (wm b n) (qu b n) (λ_=>True):=λH _ i=>by
 refine⟨λx a=>?_,λc=>by rw[yM]at c;exact mw c.symm⟩;have d:i<n:=by have:=(dG.mp a).1;rw[yM]at this;exact this
 refine⟨d,λy g z=>⟨z.1,?_⟩⟩;unfold qu at a;rw[jJ,List.getElem?_range d]at a;have f:V.int (b+(i:Nat))=x:=dP a;rw[z.2,<-f]
def sg(c:Nat):V:=.str ⟨#[c]⟩
def tU(z:Str):It:=⟨λi _=>i<z.cps.size,λi H x a=>a=H/\∃c,z.cps[i]?=aa c/\x=sg c,λi _=>i=z.cps.size⟩
theorem MY{z:Str}:Walk (tU z) (z.cps.toList.map sg) (λ_=>True):=λH _ i=>by
 refine⟨λx a=>?_,λd=>by show i=z.cps.size;simpa using d⟩;rw[jJ]at a;cases e:z.cps.toList[i]? with
 |none=>rw[e]at a;cases a
 |some c=>
  rw[e]at a;have f:i<z.cps.size:=by have:=(dG.mp e).1;simpa using this
  refine⟨f,λy h w=>⟨w.1,?_⟩⟩;obtain⟨g,b,rfl⟩:=w.2;have:z.cps[i]?=aa c:=by simpa using e
  rw[this]at b;cases b;exact(dP a)
section
variable{X:Cx}{a:ay}
theorem N2{P:aS}{w:aG}{K:ax}{z:Str}{d:ag}{f:Nat->az->Prop} (S:∀i h,f i h->∃o n r,h.get? d=aa o/\o.cls=.type n/\o.data=.fields r /\ ["enumerate","zip","dict_itemiterator","dict_reverseitemiterator","odict_iterator","itertools.zip_longest","itertools.pairwise"].contains n=ak)(Qk:∀(A:aX) (i:Nat) (s:ao) (Q:ai->ao->Prop) (E:ai->ao->Prop),f i s.heap->Q (.ref d) s->aq (ar P w) A (mo (.ref d)) Q E s)(C:∀A:aX,A.handled=ae->Walks P w A d [d] [d] z.cps.size (SignAt z) f):qr P w K a (tU z) [d] d f where
 mem:=by simp
 obj:=λi h g b j=>by
  have e:b=d:=by simpa using j
  subst e;obtain⟨o,n,r,J,_,G,_⟩:=S i h g;exact⟨o,J,λv q=>by rw[G]at q;cases q⟩
 keep:=λi h m g k=>by exact(C ({}:aX) rfl).frame i h m g k
 item:=by intro X D x F B i W s O H E I p g y;subst D x F;obtain⟨N,M,f2,f3,f4,L⟩:=p d (by simp);refine(C X.A (I.ok.hd B)).item i s _ _ y g λv m l Z T k=>?_;have I1:Inv X W O H {s with heap:=m,toks:=l}:=I.turned (t':=l) (λb o j e=>k b o (by simpa using j) e) N M f3 f4 L;obtain⟨o,n,r,J,h2,G,h4⟩:=S _ _ T;obtain⟨c,u,e1,rfl⟩:=Z;exact⟨_,rfl,sm (s:={s with heap:=m,toks:=l}) J h2 G h4 ⟨sg c,H,I1,⟨u,rfl⟩,⟨rfl,c,e1,rfl⟩,T,λb j=>(p b j).1⟩⟩
 done:=by intro X D x F B i W s O H E I p g y;subst D x F;obtain⟨N,M,f2,f3,f4,L⟩:=p d (by simp);have Y:i=z.cps.size:=y;subst Y;exact(C X.A (I.ok.hd B)).done s _ _ g λm l k=>⟨rfl,I.turned (t':=l) (λb o j e=>k b o (by simpa using j) e) N M f3 f4 L⟩
 self:=Qk
theorem EV{J:It}{c:List V}{R:Hp->Prop}{g:TG}{n:TS}{D:j0}{b:St}{H:Hp}(C:Walk J c R)(d:Nat->St->Hp->Prop)(E:d 0 b H)(z:∀i b H,i<=c.length->d i b H->R H)(w:∀i x b H,c[i]?=aa x->d i b H->g x b H λh l=>n {D with nx:=d (i+1),ct:=d (i+1),bk:=D.nx} h l) (B:∀b H,d c.length b H->D.nx b H):∃W:Nat->Nat->St->Hp->Prop,(∃m,W 0 m b H)/\∀i m b H,W i m b H -> (J.stop i H/\D.nx b H)\/(J.go i H/\∃N:St->Hp->Prop,(∀j f,N j f->∃o,o<m/\W (i+1) o j f)/\∀x f,J.yld i H x f->g x b f λh l=>n {D with nx:=N,ct:=N,bk:=D.nx} h l):=by
 refine⟨λi m b H=>m=c.length-i/\i<=c.length/\d i b H,⟨c.length,by simp,jM _,E⟩,?_⟩;rintro i m b H ⟨rfl,A,p⟩;have q:=C H (z i b H A p) i;by_cases s:i<c.length
 .have r:c[i]?=aa c[i]:=by simp[s]
  obtain⟨F,u⟩:=q.1 c[i] r;refine .inr ⟨F,d (i+1),λj f v=>⟨c.length-(i+1),∅,rfl,s,v⟩,λx f y=>?_⟩;obtain⟨rfl,rfl⟩:=u x f y;exact w i _ b _ r p
 .have e:i=c.length:=∅
  subst e;exact .inl ⟨q.2 rfl,B b H p⟩
theorem O_{b:Type}(l:List b)(f:b->Bool)(d:Nat->Bool)(c:∀i x,l[i]?=aa x->d i=f x):(df l.length).all d=l.all f:=by
 induction l generalizing d with
 |nil=>rfl
 |cons x r g=>rw[cS,AK,rf,xA,rf,c 0 x rfl];congr 1;exact g _ λi y h=>c (i+1) y (by simpa using h)
theorem Pr{bs:List Bool}{b:List ai}(r:bq (bs.map V.bl) b){i:Nat}{v:ai}(h:b.toArray[i]?=aa v):v=.bool (bs.getD i ak):=by
 have d:=r.length;rw[cM]at d;have g:i<b.length:=by have:=(rm.mp h).1;simpa using this
 have e:(bs.map V.bl)[i]?=aa (.bl (bs.getD i ak)):=by rw[jJ,gK ∅];simp[List.getD,gK (show i<bs.length by lia)]
 obtain⟨u,c,f⟩:=r.get e;have:b[i]?=aa v:=by simpa using h
 rw[this]at c;cases c;exact f
theorem yd{A:aX}(h:A.handled=ae):A.in1.handled=ae:=h
theorem zY(j:X.calm=ah):eG X (.builtin "all") (λl H Q=>∃(p:ag) (bs:List Bool),l=[.ref p]/\b9 X.K H p (bs.map V.bl)/\Q (.bl (bs.all id)) H):=by
 intro N s w H l P Q I r h;obtain⟨p,bs,rfl,F,q⟩:=h;obtain⟨u,rfl,A⟩:=vals1 r;cases A;obtain⟨d,m,f,T⟩:=I.list F;have n:=m.length;rw[cM]at n;refine call_all_walk (Gw f.isList ?_);have M:p≠s.heap.objs.size:=by obtain⟨o,g,_⟩:=f.isList;exact cF (bC g)
 refine⟨s.heap.objs.size,_,_,_,_,_,λi=>bs.getD i ak,rfl,Walks.list (yd (I.ok.hd j)) s.heap.objs.size p M d.toArray,⟨⟨_,cE _ rfl,rfl,rfl⟩,?_⟩,λi v S Y Z E L=>?_,λW y k=>?_⟩
 .obtain⟨o,g,j,J⟩:=f.isList;exact⟨o,bx _ g,j,J⟩
 .rw[Pr m E];exact nE L
 .have e:(df d.toArray.size).all (λi=>bs.getD i ak)=bs.all id:=by
   rw[cb,<-n];exact O_ bs id _ λi x D=>by simp[List.getD,D]
  rw[e];have O:Inv X N w H {s with heap:=s.heap.push {cls:=.type "list_iterator",data:=.fields #[.ref p,.int 0 0]},toks:=s.toks}:=I.kept (t':=s.toks) λb o e=>bx _ e;exact⟨.bl _,H,Inv.turned (t':=y) O (it:=s.heap.objs.size) (λb o K e=>k b o (by simpa using K) e) I.fresh (o6 I.lt) (.inr I.sz) (λx c e z=>by obtain⟨v,B⟩:=I.cell x c e;exact absurd B.lt (by rw[z];exact eL _)) (λC G z=>absurd (bC (I.pin C G).1) (by rw[z];exact eL _)),rfl,q⟩
end
section
variable{X:Cx}
def lh(z:Str)(a b:Option Int):Str:=⟨((z.cps.toList.drop (HT.sIx z.length 0 a)).take (HT.sIx z.length z.length b-HT.sIx z.length 0 a)).toArray⟩
theorem Nm(a b:Nat):sliceRange (a:Int) (b:Int) 1=(df (b-a)).map λk=>a+k:=by
 unfold sliceRange;have e:(if(1:Int) > 0 then(if(a:Int)<(b:Int)then((b:Int)-a+1-1) / 1 else 0)else(if(a:Int) > b then((a:Int)-b-1-1) / (-1)else 0)).toNat=b-a:=by
  rw[if_pos (by decide)];split
  .rw[Int.ediv_one];lia
  .have:b-a=0:=∅
   rw[this];rfl
 show(df (if(1:Int) > 0 then(if(a:Int)<(b:Int)then((b:Int)-a+1-1) / 1 else 0)else(if(a:Int) > b then((a:Int)-b-1-1) / (-1)else 0)).toNat).map _=_;rw[e];refine ig λk _=>?_;lia
theorem IA(a b:Option Int)(n:Nat):Builtin.Str.strSliceIndices a b 1 n=(df (HT.sIx n n b-HT.sIx n 0 a)).map λk=>HT.sIx n 0 a+k:=by
 rw[<-Nm];have p:(1:Int) > 0:=by decide
 cases a <;> cases b <;> (unfold Builtin.Str.strSliceIndices HT.sIx;simp only[p,if_true];congr 1 <;> (try split) <;> lia)
theorem JV{b:Type}(l:List b)(a k:Nat):((df k).map λj=>a+j).filterMap (λi=>l[i]?)=(l.drop a).take k:=by
 induction k with
 |zero=>simp
 |succ k c=>
  rw[uc,ph,List.filterMap_append,c,List.take_succ];congr 1;simp[t6];cases l[a+k]? <;> rfl
theorem JR(z:Str)(t:Tok)(l u:Option (Int×Tok)):∃m,sliceMade z t l u ae=m/\(m=.val (.str z t)/\lh z (l.map (·.1)) (u.map (·.1))=z\/m=.str (lh z (l.map (·.1)) (u.map (·.1)))):=by
 refine⟨_,rfl,?_⟩;unfold sliceMade slicePicked;have e:=IA (l.map (·.1)) (u.map (·.1)) z.length;simp only[Option.map_none,Gn];rw[e];have d:=JV z.cps.toList (HT.sIx z.length 0 (l.map (·.1))) (HT.sIx z.length z.length (u.map (·.1))-HT.sIx z.length 0 (l.map (·.1)));have b:(((df (HT.sIx z.length z.length (u.map (·.1))-HT.sIx z.length 0 (l.map (·.1)))).map λk=>HT.sIx z.length 0 (l.map (·.1))+k).filterMap (z.cps[·]?)).toArray=(lh z (l.map (·.1)) (u.map (·.1))).cps:=by unfold lh;rw[<-d];simp
 split
 .rename_i h;left;refine⟨rfl,?_⟩;simp only[beq_self_eq_true,Bool.true_and,cM,Gx,beq_iff_eq]at h;have g:HT.sIx z.length z.length (u.map (·.1))<=z.length:=HT.sIx_le _ _ (aT _) _;have f:z.cps.toList.length=z.length:=by simp[Str.length]
  have a:HT.sIx z.length 0 (l.map (·.1))=0\/z.length=0:=∅
  unfold lh;rw[h];rcases a with a|a
  .rw[a,pi,ki ∅]
  .have:z.cps.toList=[]:=pq ∅;rw[this];cases z;rename_i c;simp at this;subst this;simp
 .right;rw[show(⟨(((df (HT.sIx z.length z.length (u.map (·.1))-HT.sIx z.length 0 (l.map (·.1)))).map λk=>HT.sIx z.length 0 (l.map (·.1))+k).filterMap (z.cps[·]?)).toArray⟩:Str)=lh z (l.map (·.1)) (u.map (·.1))from by rw[b]]
def Ef:V->Option Int->Option Int->Hp->VK->Prop:=λx a b H Q=>∃z,x=.str z/\z.length<=a8/\Q (.str (lh z a b)) H
theorem OP(z:Str)(a b:Option Int):(lh z a b).length<=z.length:=by unfold lh Str.length;simp;lia
theorem part_of{v:ai}{o:Option Int}(p:mq v o):∃q:Option (Int×Tok),v=partValue q/\q.map (·.1)=o:=by
 cases p with
 |none=>exact⟨ae,rfl,rfl⟩
 |int i t=>exact⟨aa (i,t),rfl,rfl⟩
theorem Qw:lW X Ef:=by
 intro y s n H x v p o r w a Q I b g d c h;obtain⟨z,rfl,f,q⟩:=h;obtain⟨t,rfl⟩:=b;obtain⟨l,rfl,rfl⟩:=part_of d;obtain⟨u,rfl,rfl⟩:=part_of c;refine⟨"str",_,F.slot_str_getitem.lookup,typeIs_str s z t,?_⟩;obtain⟨m,j,i⟩:=JR z t l u;refine getItem_meets (typeIs_str s z t) (by decide) F.slot_str_getitem F.entry_str_getitem (F.args_str_getitem_2 _ _) (meets_str_getitem_slice z t a l u ae (by decide)) ⟨g,?_⟩;rw[j];rcases i with⟨rfl,e⟩|rfl
 .exact⟨.str z,H,I,⟨t,rfl⟩,by rw[e]at q;exact q⟩
 .exact⟨cH (OP z _ _) f,⟨.str _,H,I.tok _,⟨_,rfl⟩,q⟩⟩
def im(K:ax)(H:Hp)(d:Nat)(x y:V)(k:Bool):Prop :=
 ∀(X:Cx),X.K=K->∀(b:List (ag×Obj)) (a:St) (s:ao) (u v:ai) (A:aX),Inv X b a H s->RelV x u->RelV y v->A.units+d<cLine->t9 A s u v k
theorem IE{K:ax}{H:Hp}{d:Nat}{x y:V}(f:iq x=ah)(c:iq y=ah):im K H d x y (fS x y):=λ_ _ _ _ _ _ _ _ _ b a _=>DL b a f c
def fV(e:Nat->Bool)(n m:Nat):Bool:=(df (min n m)).all e&&n == m
theorem F8{A:aX}:A.in1.units=A.units+1:=rfl
theorem zg{H:Hp}{d:Nat}{a b:ag}{f c:List V}{e:Nat->Bool}{F:List (ag×Obj)}{p:St}{s:ao}{A:aX}(I:Inv X F p H s)(N:b9 X.K H a f)(M:b9 X.K H b c)(L:∀(j:Nat) x y,f[j]?=aa x->c[j]?=aa y->im X.K H d x y (e j)) (S:A.units+(d+1)<cLine):SeqAt.RcAt A s (.ref a) (.ref b) (fV e f.length c.length)/\SeqAt.RcNeAt A s (.ref a) (.ref b) (!fV e f.length c.length):=by
 obtain⟨h,r,o,_⟩:=I.list N;obtain⟨l,q,g,_⟩:=I.list M;have K:=r.length;have T:=q.length;have B:∀j (D:j<h.toArray.size) (C:j<l.toArray.size),t9 A.in1 s h.toArray[j] l.toArray[j] (e j):=λj D C=>by
  have O:j<h.length:=by simpa using D
  have Q:j<l.length:=by simpa using C
  have m:f[j]?=aa f[j]:=gK ∅;have E:c[j]?=aa c[j]:=gK ∅;obtain⟨u,z,J⟩:=r.get m;obtain⟨v,w,G⟩:=q.get E;have P:h[j]=u:=by rw[gK O]at z;exact dP z
  have f2:l[j]=v:=by rw[gK Q]at w;exact dP w
  have:=L j f[j] c[j] m E X rfl F p s u v A.in1 I J G (by rw[F8];lia);simpa[P,f2]using this
 by_cases i:f.length=c.length
 .have n:h.toArray.size=l.toArray.size:=by simp;lia
  have m:fV e f.length c.length=(df h.toArray.size).all e:=by unfold fV;rw[i,Nat.min_self,beq_self_eq_true,Bool.and_true,cb,<-K,i]
  rw[m];exact⟨.lists o.isList g.isList n ∅ B,.lists o.isList g.isList n ∅ B⟩
 .have m:fV e f.length c.length=ak:=by
   unfold fV;rw[beq_false_of_ne i,Bool.and_false]
  have n:(h.toArray.size != l.toArray.size)=ah:=by simp;lia
  rw[m];exact⟨.lists_lengths o.isList g.isList n ∅,.lists_lengths o.isList g.isList n ∅⟩
theorem Aa{H:Hp}{d:Nat}{a b:ag}{f c:List V}{e:Nat->Bool}{D:List (ag×Obj)}{m:St}{s:ao}{A:aX}(I:Inv X D m H s)(L:cL X.K H a f)(K:cL X.K H b c)(J:∀(j:Nat) x y,f[j]?=aa x->c[j]?=aa y->im X.K H d x y (e j)) (Q:A.units+(d+1)<cLine):SeqAt.RcAt A s (.ref a) (.ref b) (fV e f.length c.length)/\SeqAt.RcNeAt A s (.ref a) (.ref b) (!fV e f.length c.length):=by
 obtain⟨h,o,r,_⟩:=I.tuple L;obtain⟨g,n,i,_⟩:=I.tuple K;have G:=o.length;have M:=n.length;have w:∀j (B:j<h.toArray.size) (z:j<g.toArray.size),t9 A.in1 s h.toArray[j] g.toArray[j] (e j):=λj B z=>by
  have N:j<h.length:=by simpa using B
  have P:j<g.length:=by simpa using z
  have l:f[j]?=aa f[j]:=gK ∅;have C:c[j]?=aa c[j]:=gK ∅;obtain⟨u,q,F⟩:=o.get l;obtain⟨v,p,E⟩:=n.get C;have O:h[j]=u:=by rw[gK N]at q;exact dP q
  have f2:g[j]=v:=by rw[gK P]at p;exact dP p
  have:=J j f[j] c[j] l C X rfl D m s u v A.in1 I F E (by rw[F8];lia);simpa[O,f2]using this
 have l:fV e f.length c.length=((df (min h.toArray.size g.toArray.size)).all e&&h.toArray.size == g.toArray.size):=by unfold fV;rw[cb,cb,<-G,<-M]
 rw[l];exact⟨.tuples r i ∅ w,.tuples r i ∅ w⟩
theorem Hr{K:ax}{H:Hp}{d:Nat}{a b:ag}{f c:List V}{e:Nat->Bool}(n:b9 K H a f)(m:b9 K H b c)(p:a≠b)(l:∀(j:Nat) x y,f[j]?=aa x->c[j]?=aa y->im K H d x y (e j)):im K H (d+1) (.ref a) (.ref b) (fV e f.length c.length):=λX o r q s u v A I h g i=>by
 subst o;cases h;cases g;exact .of_refs p (zg I n m l i).1
theorem Jw{K:ax}{H:Hp}{d:Nat}{a b:ag}{f c:List V}{e:Nat->Bool}(n:cL K H a f)(m:cL K H b c)(p:a≠b)(l:∀(j:Nat) x y,f[j]?=aa x->c[j]?=aa y->im K H d x y (e j)):im K H (d+1) (.ref a) (.ref b) (fV e f.length c.length):=λX o r q s u v A I h g i=>by
 subst o;cases h;cases g;exact .of_refs p (Aa I n m l i).1
theorem Ca{K:ax}{H:Hp}{d:Nat}{a:ag}:im K H d (.ref a) (.ref a) ah:=λX h i f s u v A I c b g=>by
 cases c;cases b;exact .same _
def sG(K:ax)(g:Bool):R2:=λx y H Q=>∃a b f c d e,x=.ref a/\y=.ref b/\((b9 K H a f/\b9 K H b c)\/(cL K H a f/\cL K H b c))/\d<=8 /\
 (∀(j:Nat) x y,f[j]?=aa x->c[j]?=aa y->im K H d x y (e j))/\Q (.bl (if g then !fV e f.length c.length else fV e f.length c.length)) H
theorem HF(n:X.A.units+64<cLine):bX X (dw .Eq) (sG X.K ak):=by
 intro p s j H x y v u Q I g f h;obtain⟨a,b,m,l,d,e,rfl,rfl,i,o,c,q⟩:=h;cases g;cases f;rcases i with⟨h1,h2⟩|⟨h1,h2⟩
 .exact(zg I h1 h2 c ∅).1 _ _ _ _ ⟨.bl _,H,I,rfl,q⟩
 .exact(Aa I h1 h2 c ∅).1 _ _ _ _ ⟨.bl _,H,I,rfl,q⟩
theorem Na(n:X.A.units+64<cLine):bX X (dw .NotEq) (sG X.K ah):=by
 intro p s j H x y v u Q I g f h;obtain⟨a,b,m,l,d,e,rfl,rfl,i,o,c,q⟩:=h;cases g;cases f;rcases i with⟨h1,h2⟩|⟨h1,h2⟩
 .exact(zg I h1 h2 c ∅).2 _ _ _ _ ⟨.bl _,H,I,rfl,q⟩
 .exact(Aa I h1 h2 c ∅).2 _ _ _ _ ⟨.bl _,H,I,rfl,q⟩
theorem Fp{y:V}:∀{a:List V}{b:List ai},bq a b->a.all iq=ah->b.countP (kD y)=a.countP λz=>fS z y
 |_,_,.nil,_=>rfl
 |z::a,u::b,.cons r t,f=>by rw[rf,iA]at f;rw[List.countP_cons,List.countP_cons,yL r f.1,Fp t f.2]
def JZ(K:ax):V->List V->Hp->VK->Prop:=λx b H Q=>∃(p:ag) (a:List V) (y:V),x=.ref p/\b=[y]/\cL K H p a/\iq y=ah/\a.all iq=ah/\Q (.int ((a.countP λz=>fS z y:Nat):Int)) H
theorem Hh:t4 X "tuple.count" (JZ X.K):=by
 intro K s C H x E v G Q I i j h;obtain⟨p,D,y,rfl,rfl,o,z,d,q⟩:=h;cases i;obtain⟨u,rfl,l⟩:=j.one;obtain⟨a,r,⟨⟨B,A,f,g⟩,e,c,n,b⟩,J⟩:=I.tuple o;simp only at c b;subst c b;refine xx F.slot_tuple_count ⟨_,e,rfl⟩ F.entry_tuple_count (F.args_tuple_count_2 _ _) (SeqAt.tuple_countAt p a.toArray n A g u (kD y)) ⟨e,λw m=>vH l z r d w (by simpa using m),?_⟩;exact⟨.int _,H,I.tok _,⟨_,by rw[AM,Fp r d]⟩,q⟩
end
abbrev Tx:=List Nat
def tS(l:Tx):Str:=⟨l.toArray⟩
def tV(l:Tx):V:=.str (tS l)
def bU(ls:List Tx):List V:=ls.map tV
theorem kC(l:Tx):(tS l).cps.toList=l:=by simp[tS]
theorem lj(l:Tx):(tS l).length=l.length:=by simp[tS,Str.length]
theorem zh(z:Str):tS z.cps.toList=z:=by cases z;simp[tS]
theorem qp{a b:Tx}(h:tS a=tS b):a=b:=by rw[<-kC a,h,kC]
theorem wN(a:List Tx):(bU a).length=a.length:=cM _
def dv(a b:Tx):Bool:=decide (a<=b)
def aC(ls:List Tx):List Tx:=ls.mergeSort dv
theorem Du(a b c:Tx)(f:dv a b=ah)(d:dv b c=ah):dv a c=ah:=by simp only[dv,decide_eq_true_eq]at *;exact List.le_trans f d
theorem JP(a b:Tx):(dv a b||dv b a)=ah:=by simp only[dv,AN,decide_eq_true_eq];exact List.le_total a b
theorem Nf{a b:Tx}(d:dv a b=ah)(c:dv b a=ah):a=b:=by simp only[dv,decide_eq_true_eq]at *;exact List.le_antisymm d c
theorem ef(ls:List Tx):(aC ls).Perm ls:=Gy _ _
theorem tI(ls:List Tx):(aC ls).Pairwise (λa b=>dv a b=ah):=List.pairwise_mergeSort Du JP _
theorem zK(ls:List Tx):(aC ls).length=ls.length:=(ef ls).length_eq
theorem wK{c d:List Tx}(g:d.Perm c)(f:d.Pairwise (λa b=>dv a b=ah)):d=aC c :=List.Perm.eq_of_pairwise (le:=λa b=>dv a b=ah) (λ_ _ _ _ i h=>Nf i h) f (tI c) (g.trans (ef c).symm)
theorem wM{ls:List Tx}(c:ls.Pairwise (λa b=>dv a b=ah)):aC ls=ls:=(wK (pr ls) c).symm
theorem Co{a b:List Tx}(c:a.Perm b):aC a=aC b:=wK ((ef a).trans c) (tI a)
theorem Ds:∀(p:Str) (l:List Str),risingS p l=ah->(p::l).Pairwise (λa b=>dv a.cps.toList b.cps.toList=ah)
 |p,[],_=>List.pairwise_singleton _ _
 |p,x::r,h=>by
  have d:(!ltCps x.cps.toList p.cps.toList&&risingS x r)=ah:=h;rw[iA,ltCps_eq]at d;have q:=Ds x r d.2;have f:dv p.cps.toList x.cps.toList=ah:=by simp only[dv,decide_eq_true_eq];intro g;simp[g]at d
  refine List.pairwise_cons.mpr ⟨λy c=>?_,q⟩;rcases bw.mp c with rfl|c
  .exact f
  .exact Du _ _ _ f (List.rel_of_pairwise_cons q c)
theorem Pd{c:List Str}(h:sortedS c=ah):(c.map λz=>z.cps.toList).Pairwise (λa b=>dv a b=ah):=by
 rw[xC];cases c with
 |nil=>exact List.Pairwise.nil
 |cons x r=>exact Ds x r h
theorem sh:∀{ls:List Tx}{a:List ai},bq (bU ls) a->dH a (ls.map tS)
 |[],_,.nil=>.nil
 |l::ls,_::_,.cons ⟨t,e⟩ r=>by subst e;exact .cons _ t (sh (ls:=ls) r)
theorem EF:∀{b:List Str}{a:List ai},dH a b->bq (bU (b.map λz=>z.cps.toList)) a
 |_,_,.nil=>.nil
 |_,_,.cons y t h=>.cons ⟨t,by rw[zh]⟩ (EF h)
section
variable{X:Cx}
theorem KU(z:Tx)(n:Nat):Txt.mul (tS z) (n:Int)=tS (dy n z).flatten:=by
 unfold Txt.mul;cases n with
 |zero=>simp[tS,fZ]
 |succ n=>
  rw[if_neg ∅];split
  .rename_i h;simp only[AN,beq_iff_eq]at h;rcases h with h|h
   .have:n=0:=∅
    subst this;simp
   .rw[lj]at h;have:z=[]:=pq h;subst this;simp
  .unfold tS;congr 1;have b:∀(k:Nat) (a:Array Nat),(dy k z.toArray).foldl (·++·) a=a++(dy k z).flatten.toArray:=by
    intro k
    induction k with
    |zero=>intro a;simp
    |succ k c=>intro a;rw[Gr,lz,c,Gr,List.flatten_cons];simp[Array.append_assoc]
   have e:=b (n+1) #[];simp only[nI];simpa using e
theorem MH:bX X (jI .Mult) (λx y H Q=>∃(z:Tx) (n:Nat),x=tV z/\y=.int n/\n<=100/\z.length<=100/\Q (tV (dy n z).flatten) H):=by
 intro w s j H x y v u Q I c b h;obtain⟨z,n,rfl,rfl,f,d,q⟩:=h;obtain⟨t,rfl⟩:=c;obtain⟨m,rfl⟩:=b;refine SB.mul ?_ λl k=>?_
 .have o:z.length*n<=10000:=cH (Nat.mul_le_mul d f) (by decide);refine⟨by rw[Bool.or_eq_false_iff];constructor <;> (apply decide_eq_false;lia),λi _=>?_,λi _=>?_⟩
  .rw[lj];intro g;have r:(2^63-1:Int) / n ≥ (2^63-1) / 100:=by
    have a:(0:Int)<n:=∅
    apply (Int.le_ediv_iff_mul_le a).mpr;have:((2^63-1:Int) / 100)*n<=((2^63-1) / 100)*100:=Int.mul_le_mul_of_nonneg_left ∅ (by decide);refine Int.le_trans this (by decide)
   have p:((2^63-1:Int) / 100) > 1000:=by decide
   lia
  .rw[lj,nI];unfold Builtin.Str.tooLong;apply decide_eq_false;have:10000<a8:=by rw[q0];decide
   lia
 .rw[KU];exact⟨tV _,H,I.tok _,⟨_,rfl⟩,q⟩
end
theorem K2(t:jN)(j:Nat):(t.put j).1.led=t.led/\(t.put j).1.plain=t.plain:=⟨rfl,rfl⟩
theorem Hv(t:jN)(n:Nat):(t.orStandIn n).led=t.led/\((t.orStandIn n).plain=t.plain\/(t.orStandIn n).plain=ak):=by
 unfold SetTable.orStandIn;split
 .exact⟨rfl,.inl rfl⟩
 .exact⟨rfl,.inr rfl⟩
theorem Iy(t:jN)(c:Array (Int×ai))(h:Int)(x:ai):(layNew t c h x).2.1.led=t.led/\((layNew t c h x).2.1.plain=t.plain\/(layNew t c h x).2.1.plain=ak):=by
 unfold layNew;split
 .rename_i a b _;have f:=K2 t a;have d:=Hv (t.put a).1 (SetTable.insertAt c (t.put a).2 (h,x)).size;exact⟨d.1.trans f.1,by rw[<-f.2];exact d.2⟩
 .exact⟨rfl,.inr rfl⟩
theorem Mo(t:jN)(c:Array (Int×ai))(a:Nat)(d:t.plain=ak):(rq t c a).2.1.led=t.led/\(rq t c a).2.1.plain=ak:=by
 unfold rq;split
 .rename_i t' b e;have q:t'.led=t.led/\t'.plain=t.plain:=by
   unfold SetTable.relaid SetTable.laid at e;cases q:SetTable.layClean (SetTable.sizeAbove a-1) (c.map (·.1))with
   |none=>rw[q]at e;cases e
   |some f=>rw[q]at e;cases e;exact⟨rfl,rfl⟩
  dsimp only;split
  .exact⟨q.1,q.2.trans d⟩
  .exact⟨rfl,rfl⟩
 .exact⟨rfl,rfl⟩
def cx(w:aG):Bool:=w.params.followText "set-order"
structure iK(P:aS)(w:aG)(h:az)(a:ag)(ks:List Str):Prop where
 ex:∃(es:Array (Int×ai)) (ep:Nat) (t:jN) (ss:List Str),h.get? a=aa {cls:=.type "set",dict:=ae,data:=.set es ep t}/\dH (es.toList.map (·.2)) ss/\ss.Perm ks/\ElemsOf (iR P w) es.toList /\
  es.size<4090/\t.fits es.size=ah/\t.led=(!cx w)/\(ks≠[]->t.plain=ak)
theorem iK.at{P:aS}{w:aG}{h h':az}{a:ag}{ks:List Str}(S:iK P w h a ks)(k:∀o,h.get? a=aa o->h'.get? a=aa o):iK P w h' a ks:=by obtain⟨es,b,t,ss,e,r⟩:=S.ex;exact⟨es,b,t,ss,k _ e,r⟩
theorem EQ:∀{a:List ai}{b:List Str},dH a b->∀x,x∈b↔∃t,Value.str x t∈a
 |_,_,.nil,x=>by simp
 |_,_,.cons y t h,x=>by
  rw[bw,EQ h x];constructor
  .rintro(rfl|⟨t',q⟩)
   .exact⟨t,kK ..⟩
   .exact⟨t',iN _ q⟩
  .rintro⟨t',q⟩;rcases bw.mp q with q|q
   .cases q;exact .inl rfl
   .exact .inr ⟨t',q⟩
theorem yP:∀{a b:List ai},a.Perm b->∀{c:List Str},dH b c->∃d,dH a d/\d.Perm c:=by intro a b p c h;refine⟨a.map strOf,strsAre_map a λv f=>h.all v (p.mem_iff.mp f),?_⟩;have:=p.map strOf;rwa[h.strs]at this
section
variable{P:aS}{w:aG}{A:aX}{E:ai->ao->Prop}{s:ao}
def jE(ks:List Str)(x:Str):List Str:=if x∈ks then ks else ks++[x]
theorem iK.put{h:az}{a:ag}{c es':Array (Int×ai)}{b:Nat}{t t':jN}(e:h.get? a=aa {cls:=.type "set",dict:=ae,data:=.set c b t}):(h.update a (Obj.putSet es' t')).get? a=aa {cls:=.type "set",dict:=ae,data:=.set es' (b+1) t'}:=by have:=pf (Obj.putSet es' t') e (by rw[putSet_of es' t' rfl];rfl);rw[putSet_of es' t' rfl]at this;exact this
theorem Cr{a:ag}{ks:List Str}{x:Str}{g:Tok}{Q:Bool->ao->Prop}(S:iK P w s.heap a ks)(hn:ks.length<4000)(h:∀l b,kL a s.heap l->iK P w l a (jE ks x)->Q b {s with heap:=l}):aq (ar P w) A (setAddHashed a (.str x g) ((iR P w).hash x)) Q E s:=by
 obtain⟨m,ep,t,ss,T,W,hp,B,hsz,hf,pE,c7⟩:=S.ex;have v:∀y t',(iR P w).is x (.str y t')=decide (y=x):=λy t'=>by
  show oZ x (.str y t')=_;rw[ke];simp[oZ]
  try exact eq_comm
 have dz:(iR P w).is x (.str x g)=ah:=by rw[v];simp
 have hb:m.size<scanBound:=AG hsz (by decide);unfold setAddHashed setAddHashedIn;refine kM (aw (rA T rfl hf ?_));dsimp only;rw[byScan_of (knd:=iR P w) (x:=.str x g) rfl hb B];simp only[if_true];unfold setAddByScan;refine aw (aw (nM (aw (wpAny_setScan_of dz T rfl hf B ?_))));have p:x∈ks↔∃e∈m.toList,(iR P w).is x e.2=ah:=by
  rw[<-hp.mem_iff,EQ W x];constructor
  .rintro⟨t',q⟩;obtain⟨e,G,ee⟩:=bV.mp q;exact⟨e,G,by rw[ee,v];simp⟩
  .rintro⟨e,G,q⟩;obtain⟨y,t',ey⟩:=W.all e.2 (bV.mpr ⟨e,G,rfl⟩);rw[ey,v]at q;have:y=x:=of_decide_eq_true q;subst this;exact⟨t',bV.mpr ⟨e,G,ey⟩⟩
 have klen:ks.length=m.size:=by
  have Y:=hp.length_eq;have X:ss.length=m.size:=by rw[<-W.strs];simp
  lia
 cases hr:List.findIdx? (λe=>(iR P w).is x e.2) m.toList with
 |some j=>dsimp only;obtain⟨hj,hpj,_⟩:=List.findIdx?_eq_some_iff_getElem.mp hr;have O:x∈ks:=p.mpr ⟨_,AO hj,hpj⟩;refine aK (aK ?_);exact h s.heap _ (Heap.SameBut.refl a s.heap) (by unfold jE;rw[if_pos O];exact S)
 |none=>
  dsimp only;have O:¬x∈ks:=λhm=>by obtain⟨e,G,q⟩:=p.mp hm;have:=List.findIdx?_eq_none_iff.mp hr e G;rw[q]at this;exact Bool.noConfusion this
  have I:∀(b:Bool) {i:ao}{Q':Unit->ao->Prop},Q' () i->aq (ar P w) A (match b with|ah=>rule "set.scan.the-table-gave-way" |ak=>pure ()) Q' E i :=
   λb i Q' hq=>by cases b <;> first|exact aK hq|exact nM hq
  have D:=layNew_perm t m ((iR P w).hash x) (.str x g);have K:=layNew_fits t m ((iR P w).hash x) (.str x g);have uL:=Iy t m ((iR P w).hash x) (.str x g);generalize hL:layNew t m ((iR P w).hash x) (.str x g)=L at D K uL ⊢;obtain⟨c,t1,f,gave⟩:=L;dsimp only at D K uL ⊢;rw[ud]at D;have u:ElemsOf (iR P w) c.toList:=(B.push dz rfl).perm D;have hsz1:c.size=m.size+1:=by have:=D.length_eq;simpa using this
  have hS1:∃F,dH (c.toList.map (·.2)) F/\F.Perm (jE ks x):=by
   have p1:=D.map (λe:Int×ai=>e.2);rw[ph]at p1;have q1:dH (m.toList.map (·.2)++[Value.str x g]) (ss++[x]):=by
    have gen:∀{vs:List ai}{Z:List Str},dH vs Z->dH (vs++[Value.str x g]) (Z++[x]):=by
     intro vs Z hh
     induction hh with
     |nil=>exact .cons x g .nil
     |cons y t _ ih=>exact .cons y t ih
    exact gen W
   obtain⟨F,N,M⟩:=yP p1 q1;refine⟨F,N,M.trans ?_⟩;unfold jE;rw[if_neg O];exact hp.append_right _
  obtain⟨F,N,M⟩:=hS1;have cy:jE ks x≠[]:=by unfold jE;rw[if_neg O];simp
  have o:∀d:jN,d.fits c.size=ah->d.led=(!cx w)->d.plain=ak->aq (ar P w) A (do
    storeSet a c d
    if(!f&&d.tooFull)=ah then do
      (match (rq d c (rD c.size)).2.2 with|ah=>rule "set.scan.the-table-gave-way" |ak=>pure ())
      storeSet a (rq d c (rD c.size)).1 (rq d c (rD c.size)).2.1
      pure (aa ah)
     else pure (aa ah)) (λr s'=>∃l,r=aa ah/\s'={s with heap:=l}/\kL a s.heap l/\iK P w l a (jE ks x)) E s:=by
   intro d uO gL eW;refine aw (wpAny_storeSet_of T rfl ?_ (fits_of_scanBound (AG (show c.size<4090 by lia) (by decide))));have o1:=iK.put (es':=c) (t':=d) T;have iX:=xD s.heap a (Obj.putSet c d);split
   .have J:=relayAll_perm d c (rD c.size);have z:=relayAll_fits d c (rD c.size);have n:=Mo d c (rD c.size) eW;generalize hRl:rq d c (rD c.size)=Rl at J z n ⊢;obtain⟨C,t3,gave2⟩:=Rl;dsimp only at J z n ⊢;have hsz2:C.size=c.size:=by have:=J.length_eq;simpa using this
    refine aw (I _ ?_);refine aw (wpAny_storeSet_of o1 rfl ?_ (fits_of_scanBound (AG (show C.size<4090 by lia) (by decide))));obtain⟨ss2,u1,u2⟩:=yP (J.map (λe:Int×ai=>e.2)) N;refine aK ⟨_,rfl,rfl,iX.trans (xD _ a _),⟨C,_,t3,ss2,iK.put o1,u1,u2.trans M,u.perm J,∅,z,n.1.trans gL,λ_=>n.2⟩⟩
   .exact aK ⟨_,rfl,rfl,iX,⟨c,_,d,F,o1,N,M,u,∅,uO,gL,λ_=>eW⟩⟩
  have G5:t1.led=(!cx w):=uL.1.trans pE;refine aw (I _ ?_);split
  .refine aw ?_;rw[hashByValue_scannable 8 (x:=.str x g) rfl];refine aK ?_;have hk:plainKind (.str x g)=ak:=rfl;rw[hk];simp only[pt,if_false];refine aH (o {t1 with plain:=ak} (SetTable.fits_plain_off K) G5 rfl) λr s' ⟨l,Y,X,e3,e4⟩=>?_;subst Y X;exact aK (h l _ e3 e4)
  .rename_i H;refine aw (aK ?_);simp only[if_true];refine aH (o t1 K G5 (by simpa using H)) λr s' ⟨l,Y,X,e3,e4⟩=>?_;subst Y X;exact aK (h l _ e3 e4)
end
def met(val:Nat->Str)(i:Nat):List Str:=((df i).map val).foldl jE []
theorem zH(val:Nat->Str)(i:Nat):met val (i+1)=jE (met val i) (val i):=by unfold met;rw[uc,ph,List.foldl_append];rfl
theorem y0(val:Nat->Str){i:Nat}:∀{j:Nat},i<=j->(met val i).length<=(met val j).length
 |0,h=>by rw[show i=0 by lia];exact aT _
 |j+1,h=>by
  by_cases e:i=j+1
  .subst e;exact aT _
  .refine cH (y0 val (j:=j) ∅) ?_;rw[zH];unfold jE;split
   .exact aT _
   .simp
section
variable{P:aS}{w:aG}{A:aX}{R:Result->ao->Prop}{I:ag}{c a:List ag}{G:Array GenState->Array GenState->Prop}{n:Nat}{d:Nat->ai->Prop}{St:Nat->ao->Prop}
theorem Dk(W:WalksS P w A.in1 I c a G n d St)(S:ag)(D:S∉c){J:Nat->az->Prop}(H:∀i h j,J i h->(∀b o,b∉a->h.get? b=aa o->j.get? b=aa o)->J i j)(Y:∀(i:Nat) (v:ai) (s:ao) (E:ai->ao->Prop) (Q:Bool->ao->Prop),i<n->d i v->J i s.heap->(∀j r b,s.toks<=r->kL S s.heap j->J (i+1) j->Q b {s with heap:=j,toks:=r})->aq (ar P w) A.in1 (setAdd S v) Q E s):∀(k i:Nat) (s:ao),n-i=k->i<=n->St i s->J i s.heap -> (∀f,Moved (S::a) G s f->J n f.heap->R (.ok (.ret .none)) f)->o7 (ar P w) A (.builtin "set.update.loop" ⟨[.ref S,.ref I],[]⟩) R s:=by
 have T:S∉a:=λh=>D (W.sub _ h);have K:∀b∈a,b∈S::a:=λb g=>iN _ g;intro k
 induction k with
 |zero=>
  intro i s N O z x y;obtain rfl:i=n:=∅
  refine rE Qa ?_;rw[xE Gz _];show aq _ A.in1 (pyNext (.ref I) >>= _) _ _ s;refine aw (W.done s _ _ z λf p=>?_);show aq _ A.in1 (ret Value.none) _ _ f;exact aK (y f (p.mono K) (H _ _ _ x λb o g e=>p.heap b o g e))
 |succ k L=>
  intro i s N O z x y;have B:i<n:=∅
  refine rE Qa ?_;rw[xE Gz _];show aq _ A.in1 (pyNext (.ref I) >>= _) _ _ s;refine aw (W.item i s _ _ B z λv f X l p=>?_);show aq _ A.in1 (nG [v] (setAdd S v) >>= _) _ _ f;refine aw (kM (Y i v f _ _ B X (H _ _ _ x λb o g e=>p.heap b o g e) λj r b C F M=>?_));refine aK ⟨AQ Gz _,L (i+1) _ ∅ B (W.frame _ f _ _ l C λb g o e=>?_) M λu m q=>?_⟩
  .rw[F.2 b (λh:b=S=>D (by rw[<-h];exact g))];exact e
  .refine y u (Moved.trans W.gtrans ((p.mono K).then_heap C λb o g e=>?_) m) q;rw[F.2 b (λh:b=S=>g (by rw[h];exact kK))];exact e
end
section
variable{P:aS}{w:aG}{A:aX}{E:ai->ao->Prop}{s:ao}
theorem DB(a:ai){Q:ai->ao->Prop} (h:iK P w (s.heap.push {cls:=.type "set",dict:=ae,data:=.set #[] 0 (.fresh 0 0 (!cx w))}) s.heap.objs.size [] -> Q (.ref s.heap.objs.size) {s with heap:=s.heap.push {cls:=.type "set",dict:=ae,data:=.set #[] 0 (.fresh 0 0 (!cx w))}}):o7 (ar P w) A (.call (.builtin "set.__new__") ⟨[.type "set",a],[]⟩) (wants Q E) s:=by
 refine codeAny_of_tree ?_;show aq _ A.in1 (do checkBuiltinCall "set.__new__" ⟨[.type "set",a],[]⟩;again (.builtin "set.__new__" ⟨[.type "set",a],[]⟩)) _ _ s;refine aw (wpAny_of_eq (PySem.F.newCall_set_1 a) (aK ⟨AQ F.plain_set_new _,rE F.entry_set_new ?_⟩));rw[xE F.plain_set_new _];unfold Builtin.«set.__new__» Builtin.Frozenset.newClass;have j:=sub_set_self;obtain⟨i,g,d,c,f⟩:=s;dsimp only
 wp_walk
 refine rF (aK ?_);dsimp only;simp only[newObj];refine aw (wpAny_alloc (aK ?_));refine aK (h ⟨#[],0,_,[],cE _ rfl,.nil,pr _,λe b=>by simp at b,by decide,rfl,rfl,λh=>absurd rfl h⟩)
end
end L2
set_option maxHeartbeats 8000000
namespace L2
theorem Ht:entryFor table "set.__iter__"=aa Builtin.«frozenset.__iter__»:=entryFor_alias (id':="frozenset.__iter__") (by kernel_rfl) rfl (by decide +kernel) (by kernel_rfl)
theorem C7:Slot "set_iterator" "__next__" "set_iterator.__next__" :=
 .of (owner:="set_iterator") (n:="__next__") (by rw[typeLookup_type,builtinLookup_eq_fast];kernel_rfl) (by decide +kernel) (by decide +kernel) (by decide +kernel) (by first|exact .inl (by decide +kernel)|exact .inr (by decide +kernel)) (by rw[isSubtype_type];kernel_rfl)
theorem KL:entryFor table "set_iterator.__next__"=aa Builtin.«set_iterator.__next__»:=entryFor_of_fast (by kernel_rfl)
theorem LY(a:ai):argsOk "set_iterator.__next__" ⟨[a],[]⟩:=by unfold argsOk;kernel_rfl
theorem BJ:Slot "set_iterator" "__iter__" "set_iterator.__iter__" :=
 .of (owner:="set_iterator") (n:="__iter__") (by rw[typeLookup_type,builtinLookup_eq_fast];kernel_rfl) (by decide +kernel) (by decide +kernel) (by decide +kernel) (by first|exact .inl (by decide +kernel)|exact .inr (by decide +kernel)) (by rw[isSubtype_type];kernel_rfl)
theorem LX:entryFor table "set_iterator.__iter__"=aa Builtin.«dict_keyiterator.__iter__»:=entryFor_alias (id':="dict_keyiterator.__iter__") (by kernel_rfl) rfl (by decide +kernel) (by kernel_rfl)
theorem Hd(a:ai):argsOk "set_iterator.__iter__" ⟨[a],[]⟩:=by unfold argsOk;kernel_rfl
def iF(first:ai)(i:Nat)(a:ag)(n b:Nat):Obj:={cls:=.type "set_iterator",data:=.fields #[first,.int i 0,.ref a,.int n 0,.int b 0]}
section
variable{P:aS}{w:aG}{A:aX}{E:ai->ao->Prop}{s:ao}
theorem vi{I a:ag}{first:ai}{i n d:Nat}{Q:ai->ao->Prop}(h:s.heap.get? I=aa (iF first i a n d))(c:Q (.ref I) s):aq (ar P w) A (mo (.ref I)) Q E s:=by
 have b:s.TypeIs (.ref I) "set_iterator":=⟨_,h,rfl⟩
 refine wpAny_pyIter_slot b BJ (t8 BJ b LX ?_ (Hd _));show aq _ _ (ret (.ref I)) _ _ s;exact aK ⟨_,rfl,"set_iterator",_,b,C7.lookup,c⟩
theorem ou{I a:ag}{first:ai}{i:Nat}{f:Array (Int×ai)}{g:Nat}{t:jN}{Q:Option ai->ao->Prop}(n:s.heap.get? a=aa {cls:=.type "set",dict:=ae,data:=.set f g t})(m:t.fits f.size=ah)(l:s.heap.get? I=aa (iF first i a f.size g))(h:aq (ar P w) A.in1 (if let .int slot _:=first then do
    match <-mx a slot.toNat (i:Int).toNat (g:Int).toNat with
    |some (x,next)=>do
     my (.ref I) 0 (eM next)
     my (.ref I) 1 (eM ((i:Int)+1))
     ret x
    |none=>do my (.ref I) 2 .none;raiseNew (<-newExc (.type "StopIteration") [])
   else do
    let aa places <-seqItems? first|unsupported "internal:set_iterator"
    match places[(i:Int).toNat]? with
    |some (.int d _)=>do
     let x <-setNextDrawn a d.toNat (g:Int).toNat
     my (.ref I) 1 (eM ((i:Int)+1))
     ret x
    |some _=>unsupported "internal:set_iterator"
    |none=>do my (.ref I) 0 (eM 0);my (.ref I) 2 .none;raiseNew (<-newExc (.type "StopIteration") []))
   (λc b=>∃r,c=.done (.ret r)/\Q (aa r) b) (λe b=>aq (ar P w) A (do if <-isInstance e (.type "StopIteration")then pure ae else throw e) Q E b) s) :
  aq (ar P w) A (pyNext (.ref I)) Q E s:=by
 have j:s.TypeIs (.ref I) "set_iterator":=⟨_,l,rfl⟩
 unfold pyNext;refine aw (wpAny_attempt (wpAny_callSpecial?_slot (name:=Str.ofString "__next__") j C7 (t8 C7 j KL ?_ (LY _))));unfold Builtin.«set_iterator.__next__» slotArgs;refine aw (aK ?_);refine aw (wpAny_fieldsOf l rfl ?_);show aq _ _ (setEntries a >>= _) _ _ s;refine aw (wpAny_setEntries_of n rfl m ?_);have u:(((f.size:Nat):Int) != ((f.size:Nat):Int))=ak:=by simp
 rw[u];simp only[pt,if_false];refine fH ?_ (λc b q=>?_) (λe b q=>q) (Q:=λc b=>∃r,c=.done (.ret r)/\Q (aa r) b) (E:=λe b=>aq (ar P w) A (do if <-isInstance e (.type "StopIteration")then pure ae else throw e) Q E b)
 .exact h
 .obtain⟨r,p,o⟩:=q;exact⟨r,p,aK o⟩
end
theorem z5{a:Type}:∀{l:List a}{i:Nat} (h:i<l.length),(l[i]::l.eraseIdx i).Perm l
 |[],i,h=>by simp at h
 |x::r,0,h=>by simp
 |x::r,i+1,h=>by have q:=z5 (l:=r) (i:=i) (by simpa using h);simp only[List.getElem_cons_succ,AR];exact(List.Perm.swap x _ _).trans (List.Perm.cons x q)
theorem Dv{f:Type}(next:Nat->Nat):∀(c k:Nat) (a:List f) (b:Array f),c=a.length->(pickOrder.go next c k a b).toList.Perm (b.toList++a)
 |0,k,a,b,h=>by have:a=[]:=pq h.symm;subst this;simp[pickOrder.go]
 |c+1,k,a,b,h=>by
  have d:next k % a.length<a.length:=Nat.mod_lt _ ∅
  unfold pickOrder.go;rw[gK d];dsimp only;have g:=Dv next c (k+1) (a.eraseIdx (next k % a.length)) (b.push a[next k % a.length]) (by rw[List.length_eraseIdx,if_pos d];lia)
  refine g.trans ?_;rw[ud,gq];exact xF _ (z5 d)
theorem Dj{b:Type}(next:Nat->Nat)(a:Array b):(ue next a).toList.Perm a.toList:=by
 have:=Dv next a.size 0 a.toList #[] (by simp)
 simpa[ue]using this
section
variable{P:aS}{w:aG}{A:aX}{E:ai->ao->Prop}{s:ao}
theorem M7{a:Source}{n:Nat}{Q:Nat->ao->Prop}(b:n≠0)(h:∀k d,k<n->Q k {s with drawn:=d}):aq (ar P w) A (choose a n) Q E s:=λc p hΓ=>by unfold choose;rw[Sem.wp_choose];refine⟨b,?_⟩;exact h _ _ (Nat.mod_lt _ (Nat.pos_of_ne_zero b))
theorem Dp{f:Type}:∀(n:Nat) (a:List f) (s:ao) (Q:List f->ao->Prop),n=a.length->(∀b d,b.Perm a->Q b {s with drawn:=d})->aq (ar P w) A (drawOrder n a) Q E s
 |0,[],s,Q,_,h=>by unfold drawOrder;exact aK (h [] s.drawn (pr _))
 |0,x::a,s,Q,hn,h=>by simp at hn
 |n+1,[],s,Q,hn,h=>by simp at hn
 |n+1,x::a,s,Q,hn,h=>by unfold drawOrder;refine aw (M7 (by simp) λk d c=>?_);rw[gK c];dsimp only;refine aw (Dp n ((x::a).eraseIdx k) _ _ (by rw[List.length_eraseIdx,if_pos c];lia) λb i g=>?_);refine aK (h _ i ?_);exact(List.Perm.cons _ g).trans (z5 c)
theorem vz{Q:Option ai->ao->Prop}{R:Fin->ao->Prop}(f:A.handled=ae)(g:∀c,(∀b o,s.heap.get? b=aa o->c.get? b=aa o)->Q ae {s with heap:=c}):aq (ar P w) A.in1 (do raiseNew (<-newExc (.type "StopIteration") [])) R (λe d=>aq (ar P w) A (do if <-isInstance e (.type "StopIteration")then pure ae else throw e) Q E d) s:=by
 refine aw ?_;simp only[newExc,newTuple];refine aw (mr ?_ (by size_fits));refine aw (m:=firstArgMember _ _) (wpAny_of_eq (a:=Value.none) (by first|rfl | (simp only[firstArgMember];rfl)) ?_);refine mr ?_ (by size_fits);simp only[raiseNew];refine aw (wpAny_handled ?_);rw[show A.in1.handled=ae from f];refine aw (aK (wpAny_throw ?_));refine aw (wpAny_isInstance (T:="StopIteration") (b:=ah) ⟨_,cE _ rfl,rfl⟩ isSubtype_stop ?_);exact aK (g _ λb o e=>bx _ (bx _ e))
theorem zD{I a:ag}{first d:ai}{i n f:Nat}{Q:Unit->ao->Prop}(c:s.heap.get? I=aa (iF first i a n f))(h:∀b,kL I s.heap b->b.get? I=aa (iF d i a n f)->Q () {s with heap:=b}):aq (ar P w) A (my (.ref I) 0 d) Q E s:=by refine uf c rfl (by simp[iF]) (h _ (xD ..) ?_);rw[pf _ c (by rfl)];rfl
theorem yQ{I a:ag}{first:ai}{i n d:Nat}{Q:Unit->ao->Prop}(c:s.heap.get? I=aa (iF first i a n d))(h:∀b,kL I s.heap b->b.get? I=aa (iF first (i+1) a n d)->Q () {s with heap:=b}):aq (ar P w) A (my (.ref I) 1 (eM ((i:Int)+1))) Q E s:=by refine uf c rfl (by simp[iF]) (h _ (xD ..) ?_);rw[pf _ c (by rfl)];rfl
theorem v7{I a:ag}{first:ai}{i n d:Nat}{Q:Unit->ao->Prop}(c:s.heap.get? I=aa (iF first i a n d))(h:∀b,kL I s.heap b->(∃o,b.get? I=aa o)->Q () {s with heap:=b}):aq (ar P w) A (my (.ref I) 2 .none) Q E s:=by refine uf c rfl (by simp[iF]) (h _ (xD ..) ⟨_,pf _ c (by rfl)⟩)
abbrev oJ(a:Array (Int×ai))(b:Nat)(t:jN):Obj:={cls:=.type "set",dict:=ae,data:=.set a b t}
theorem MO{I a:ag}{d:Array (Int×ai)}{g:Nat}{t:jN}(x:a≠I)(n:t.fits d.size=ah)(f:cx w=ah)(C:A.handled=ae):Walks P w A I [I,a] [I] d.size (λi v=>((ue (w.params.setOrder a g) d).toList.map (·.2))[i]?=aa v) (λi h=>h.get? I=aa (iF (eM 0) i a d.size g)/\h.get? a=aa (oJ d g t)):=by
 have hsz:(ue (w.params.setOrder a g) d).size=d.size:=by have:=(Dj (w.params.setOrder a g) d).length_eq;simpa using this
 have j:∀(s:ao) (i:Nat) (Q:Option (ai×Nat)->ao->Prop) (E:ai->ao->Prop),s.heap.get? a=aa (oJ d g t) ->
   Q (((ue (w.params.setOrder a g) d)[i]?).map λe=>(e.2,0)) s->aq (ar P w) A.in1 (mx a (0:Int).toNat (i:Int).toNat (g:Int).toNat) Q E s:=λs i Q E u B=>by
  unfold mx;refine aw (rA u rfl n ?_);unfold xG;refine aw (aw (rF (aK ?_)));show aq _ _ (if cx w=ah then _ else _) _ _ s;rw[if_pos f];simp only[nI,bne_self_eq_false,pt,if_false];unfold setWalk;refine aw (aw (rA u rfl n ?_));unfold xG;refine aw (aw (rF (aK ?_)));show aq _ _ (if cx w=ah then _ else _) _ _ s;rw[if_pos f];refine aw (rF (aK (aK ?_)));exact B
 refine⟨λb f=>by simp at f;simp[f],λi h H c k=>⟨k I (by simp) _ c.1,k a (by simp) _ c.2⟩,λi s Q E G c l=>?_,λs Q E c l=>?_,λi s Q E c l=>vi c.1 l⟩
 .refine ou c.2 n c.1 ?_;refine aw (j s i _ _ c.2 ?_);have y:i<(ue (w.params.setOrder a g) d).size:=∅
  rw[AS y];dsimp only[pA];refine aw (zD c.1 λq m F=>?_);refine aw (yQ (s:={s with heap:=q}) F λp r D=>?_);refine aK ⟨_,rfl,l _ p s.toks ?_ ⟨D,?_⟩ λb o f e=>?_⟩
  .rw[jJ];simp[AS y]
  .exact(r.2 a x).trans ((m.2 a x).trans c.2)
  .exact(r.2 b (by simpa using f)).trans ((m.2 b (by simpa using f)).trans e)
 .refine ou c.2 n c.1 ?_;refine aw (j s d.size _ _ c.2 ?_);rw[Array.getElem?_eq_none ∅];dsimp only[Option.map_none];refine aw (v7 c.1 λq m _=>?_);exact vz (s:={s with heap:=q}) C λp z=>l p s.toks λb o f e=>z b o ((m.2 b (by simpa using f)).trans e)
theorem PU{I a T:ag}{f:Array (Int×ai)}{J:Nat}{t:jN}{c:List Nat}(cy:a≠I)(Z:T≠I)(C:t.fits f.size=ah)(G:c.Perm (df f.size))(Y:A.handled=ae):Walks P w A I [I,a,T] [I] f.size (λi v=>(c.filterMap λj=>(f[j]?).map (·.2))[i]?=aa v) (λi h=>h.get? I=aa (iF (.ref T) i a f.size J)/\h.get? a=aa (oJ f J t)/\h.get? T=aa {cls:=.type "tuple",data:=.seq (c.map λ(k:Nat)=>eM k).toArray}):=by
 have L:c.length=f.size:=by simpa using G.length_eq
 have p:∀j∈c,j<f.size:=λj B=>by simpa using G.mem_iff.mp B
 have fm:∀(l:List Nat),(∀j∈l,j<f.size)->∀(i j:Nat),l[i]?=aa j->∃e:Int×ai,f[j]?=aa e/\(l.filterMap λj=>(f[j]?).map (·.2))[i]?=aa e.2:=by
  intro l
  induction l with
  |nil=>intro _ i j h;simp at h
  |cons x r N=>
   intro H i j h;have S:x<f.size:=H x (kK ..);have F:f[x]?=aa f[x]:=AS S;cases i with
   |zero=>simp at h;subst h;exact⟨_,F,by rw[t6,F];rfl⟩
   |succ i=>obtain⟨e,z,y⟩:=N (λj B=>H j (iN _ B)) i j (by simpa using h);exact⟨e,z,by rw[t6,F];simpa using y⟩
 have g:∀(s:ao) (Q:Option (Array ai)->ao->Prop) (E:ai->ao->Prop),s.heap.get? T=aa {cls:=.type "tuple",data:=.seq (c.map λ(k:Nat)=>eM k).toArray}->Q (aa (c.map λ(k:Nat)=>eM k).toArray) s->aq (ar P w) A.in1 (seqItems? (.ref T)) Q E s:=λs Q E W X=>by exact wpAny_seqItems W rfl X
 refine⟨λb m=>by simp at m;simp[m],λi h h' d k=>⟨k I (by simp) _ d.1,k a (by simp) _ d.2.1,k T (by simp) _ d.2.2⟩,λi s Q E hi d q=>?_,λs Q E d q=>?_,λi s Q E d q=>vi d.1 q⟩
 .refine ou d.2.1 C d.1 ?_;refine aw (g s _ _ d.2.2 ?_);have K:i<c.length:=∅
  have u:((c.map λ(k:Nat)=>eM k).toArray)[(i:Int).toNat]?=aa (eM (c[i]:Nat)):=by simp[K]
  dsimp only;rw[u];obtain⟨e,z,y⟩:=fm c p i c[i] (gK K);show aq _ _ (setNextDrawn a _ _ >>= _) _ _ s;refine aw ?_;unfold setNextDrawn;refine aw (rA d.2.1 rfl C ?_);simp only[nI,bne_self_eq_false,pt,if_false];rw[z];refine aK ?_;refine aw (yQ d.1 λD n e2=>?_);refine aK ⟨_,rfl,q _ D s.toks y ⟨e2,(n.2 a cy).trans d.2.1,(n.2 T Z).trans d.2.2⟩ λb o m e=>(n.2 b (by simpa using m)).trans e⟩
 .refine ou d.2.1 C d.1 ?_;refine aw (g s _ _ d.2.2 ?_);have u:((c.map λ(k:Nat)=>eM k).toArray)[(f.size:Int).toNat]?=ae:=by simp[L]
  dsimp only;rw[u];refine aw (zD d.1 λh1 O u=>?_);refine aw (v7 (s:={s with heap:=h1}) u λD n _=>?_);exact vz (s:={s with heap:=D}) Y λh3 M=>q h3 s.toks λb o m e=>M b o ((n.2 b (by simpa using m)).trans ((O.2 b (by simpa using m)).trans e))
theorem Ih(j k:Nat):Qb #[j] k=if j<k then 1 else 0:=by
 unfold Qb;simp only[cb,cS,jL];unfold GA;simp;split
 .rename_i h;unfold GA;simp
 .unfold GA;simp
theorem Iz{I a:ag}{g:Array (Int×ai)}{n:Nat}{t:jN}(K:a≠I)(u:t.fits g.size=ah)(f:cx w=ak)(M:t.led=ah)(m:g.size=1)(S:A.handled=ae):Walks P w A I [I,a] [I] 1 (λi v=>(g.toList.map (·.2))[i]?=aa v) (λi h=>h.get? I=aa (iF (eM (if i=0 then 0 else((t.place.getD 0 0:Nat):Int)+1)) i a g.size n)/\h.get? a=aa (oJ g n t)):=by
 have y:t.place.size=1:=by simp only[SetTable.fits,iA,beq_iff_eq]at u;lia
 obtain⟨j,G⟩:=Array.size_eq_one_iff.mp y;have J:((t.place.getD 0 0:Nat):Int)=(j:Int):=by rw[G];rfl
 obtain⟨e,H⟩:=Array.size_eq_one_iff.mp m;have l:∀(s:ao) (d:Nat) (i:Nat) (Q:Option (ai×Nat)->ao->Prop) (E:ai->ao->Prop),s.heap.get? a=aa (oJ g n t) ->
   Q (if j<d then ae else aa (e.2,j+1)) s->aq (ar P w) A.in1 (mx a d i n) Q E s:=λs d i Q E T r=>by
  unfold mx;refine aw (rA T rfl u ?_);unfold xG;refine aw (aw (rF (aK ?_)));show aq _ _ (if cx w=ah then _ else _) _ _ s;rw[if_neg (by rw[f];decide)];refine xH (λz=>absurd (show(!t.plain&&decide (g.size > 1))=ah from z) (by rw[m];simp)) (λ_=>?_);refine aw ?_;refine fH (Q:=λ_ D=>D=s) (E:=E) ?_ (λ_ D N=>?_) (λ_ _ x=>x)
  .refine xH (λz=>absurd (show(!t.led&&!g.isEmpty)=ah from z) (by rw[M];simp)) (λ_=>aK rfl)
  .subst N;rw[G,Ih,H];by_cases L:j<d
   .rw[if_pos L]at r ⊢;exact aK r
   .rw[if_neg L]at r ⊢;exact aK r
 refine⟨λb f=>by simp at f;simp[f],λi h Y c k=>⟨k I (by simp) _ c.1,k a (by simp) _ c.2⟩,λi s Q E X c p=>?_,λs Q E c p=>?_,λi s Q E c p=>vi c.1 p⟩
 .obtain rfl:i=0:=∅
  refine ou c.2 u c.1 ?_;show aq _ _ (mx a (0:Int).toNat ((0:Nat):Int).toNat (n:Int).toNat >>= _) _ _ s;simp only[nI,Int.toNat_zero];refine aw (l s 0 0 _ _ c.2 ?_);rw[if_neg (Nat.not_lt_zero j)];dsimp only;refine aw (zD c.1 λm q C=>?_);refine aw (yQ (s:={s with heap:=m}) C λB F W=>?_);refine aK ⟨_,rfl,p _ B s.toks ?_ ⟨?_,?_⟩ λb o f e=>?_⟩
  .rw[H];rfl
  .rw[W,if_neg (by decide),J];rfl
  .exact(F.2 a K).trans ((q.2 a K).trans c.2)
  .exact(F.2 b (by simpa using f)).trans ((q.2 b (by simpa using f)).trans e)
 .refine ou c.2 u c.1 ?_;rw[if_neg (by decide),J];show aq _ _ (mx a ((j:Int)+1).toNat ((1:Nat):Int).toNat (n:Int).toNat >>= _) _ _ s;have C:((j:Int)+1).toNat=j+1:=∅
  rw[C,nI,nI];refine aw (l s (j+1) 1 _ _ c.2 ?_);rw[if_pos (lA j)];dsimp only;refine aw (v7 c.1 λm q _=>?_);exact vz (s:={s with heap:=m}) S λB O=>p B s.toks λb o f e=>O b o ((q.2 b (by simpa using f)).trans e)
theorem tm:∀{a:List ai}{b:List Str} (i:Nat) (v:ai),dH a b->a[i]?=aa v->∃t,v=.str (b.getD i fZ) t
 |_,_,i,v,.nil,h=>by simp at h
 |_,_,0,v,.cons y t _,h=>by simp at h;exact⟨t,by rw[<-h];rfl⟩
 |_,_,i+1,v,.cons y t hr,h=>by simp only[List.getElem?_cons_succ]at h;obtain⟨c,e⟩:=tm i v hr h;exact⟨c,by rw[e];rfl⟩
set_option maxRecDepth 100000 in
theorem PF{l:ag}{a:Array ai}{Q:ai->ao->Prop}(hh:A.handled=ae)(hl:s.heap.IsList l a){J:Nat->az->Prop}(hJ:∀i h d,J i h->(∀b o,b<=s.heap.objs.size->h.get? b=aa o->d.get? b=aa o)->J i d) (K:J 0 (s.heap.push {cls:=.type "set",dict:=ae,data:=.set #[] 0 (.fresh 0 0 (!cx w))}))(eO:∀(i:Nat) (v:ai) (f:ao) (E:ai->ao->Prop) (Q:Bool->ao->Prop),i<a.size->a[i]?=aa v->J i f.heap->(∀d m b,f.toks<=m->kL s.heap.objs.size f.heap d->J (i+1) d->Q b {f with heap:=d,toks:=m})->aq (ar P w) A.in1.in1.in1 (setAdd s.heap.objs.size v) Q E f)(h:∀(d:az) (m:Nat),J a.size d->(∀b o,b<s.heap.objs.size->s.heap.get? b=aa o->d.get? b=aa o)->Q (.ref s.heap.objs.size) {s with heap:=d,toks:=m}):aq (ar P w) A (call (.type "set") [.ref l]) Q E s:=by
 obtain⟨c,tl,hmro⟩:=F.called_set.mro;have Ql:=F.called_set.made;have fK:=F.called_set.sub;refine wpAny_call (codeAny_of_tree ?_);show aq _ _ (callAny (.type "set") _) _ _ _;refine aK ⟨Code.quiet_builtin _ (by decide +kernel),rE F.entry_type_call ?_⟩;rw[Around.under_plain (weight_type_call_type "set" [.ref l] []) rfl];have h1:=F.called_set.notType;have h2:=F.called_set.canCreate;have hct:=PySem.F.typeCall_set_1 (.ref l)
 repeat any_goals (first|assumption|wp_step)
 refine q8 (DB (P:=P) (w:=w) (.ref l) (E:=E) (Q:=λp f=>p=.ref s.heap.objs.size/\f={s with heap:=s.heap.push {cls:=.type "set",dict:=ae,data:=.set #[] 0 (.fresh 0 0 (!cx w))}}/\True) λS0=>⟨rfl,rfl,trivial⟩) λr f D=>?_;cases r with
 |error e=>exact D
 |ok fl=>
  cases fl with
  |ret p=>
   obtain⟨rfl,rfl,S0⟩:=D;have hS:=cE (h:=s.heap) (o:=({cls:=.type "set",dict:=ae,data:=.set #[] 0 (.fresh 0 0 (!cx w))}:Obj));have uP:(s.heap.push {cls:=.type "set",dict:=ae,data:=.set #[] 0 (.fresh 0 0 (!cx w))}).get? s.heap.objs.size=aa {cls:=.type "set",dict:=ae,data:=.set #[] 0 (.fresh 0 0 (!cx w))}:=cE _ rfl;have hT:Shared.TypeIs {s with heap:=s.heap.push {cls:=.type "set",dict:=ae,data:=.set #[] 0 (.fresh 0 0 (!cx w))}} (.ref s.heap.objs.size) "set":=⟨_,uP,rfl⟩
   have hli:=F.called_set.init.lookup;have hbi:=F.called_set.init.bind (.ref s.heap.objs.size)
   repeat any_goals (first|assumption|wp_step)
   refine q8 (codeAny_call_builtin (R:=wants (λr N=>r=.none/\∃d m,N={s with heap:=d,toks:=m}/\J a.size d /\ (∀b o,b<s.heap.objs.size->s.heap.get? b=aa o->d.get? b=aa o)) E) F.called_set.init.plain F.entry_set_init (check_set_init_1 hT ?_)) λr2 N B=>?_
   .obtain⟨⟨T,n,z,g⟩,S,Y,W,O⟩:=hl;simp only at Y O;subst Y;subst O;have Br:(s.heap.push {cls:=.type "set",dict:=ae,data:=.set #[] 0 (.fresh 0 0 (!cx w))}).get? l=aa {cls:=.type "list",dict:=n,data:=.seq a W,slots:=g}:=bx _ S;have Z:=PySem.F.sub_list_set;have hslf:=PySem.F.sub_list_frozenset;have cy:(Value.type "list" == Value.type "dict")=ak:=by decide
    have X:(s.heap.push {cls:=.type "set",dict:=ae,data:=.set #[] 0 (.fresh 0 0 (!cx w))}).IsList l a:=⟨_,Br,rfl,W,rfl⟩
    unfold Builtin.«set.__init__» noKeywords Builtin.Frozenset.updateFrom;generalize I:mo=PI
    wp_walk
    subst I;refine Gw X (aw (wpAny_runValue ?_));have M:l<s.heap.objs.size:=bC S;have H:A.in1.in1.in1.handled=ae:=by simp[hh]
    have j:(s.heap.push {cls:=.type "set",dict:=ae,data:=.set #[] 0 (.fresh 0 0 (!cx w))}).objs.size=s.heap.objs.size+1:=xz ..;have Bs:l≠(s.heap.push {cls:=.type "set",dict:=ae,data:=.set #[] 0 (.fresh 0 0 (!cx w))}).objs.size:=by rw[j];exact cF (jO M)
    have rQ:s.heap.objs.size∉[(s.heap.push {cls:=.type "set",dict:=ae,data:=.set #[] 0 (.fresh 0 0 (!cx w))}).objs.size,l]:=by rw[j];simp only[bw,eN,kj,or_false,not_or];exact⟨cF (lA _),o6 M⟩
    refine Dk ((Walks.list H _ l Bs a).toS) s.heap.objs.size rQ (λi h d G k=>hJ i h d G λb o u e=>k b o (by rw[j];simp only[eN];exact cF (Nat.lt_succ_of_le u)) e) (λi v f E Q hi hv G hq=>eO i v f E Q hi hv G hq) (a.size-0) 0 _ ∅ (jM _)
     ⟨⟨_,cE _ rfl,rfl,rfl⟩,(X.push _)⟩ (hJ 0 _ _ K λb o _ e=>bx _ e) ?_
    intro s' q C;obtain⟨d,g',d',x,y⟩:=s';obtain rfl:g'=s.gens:=q.gens;obtain rfl:d'=s.drawn:=q.drawn;obtain rfl:y=s.os:=q.os;show aq _ _ _ _ _ _;refine aK ?_;show aq _ _ (ret Value.none) _ _ _;refine aK ⟨rfl,d,x,rfl,C,λb o u e=>q.heap b o ?_ (bx _ (bx _ e))⟩;rw[j];simp only[bw,eN,kj,or_false,not_or];exact⟨cF u,cF (jO u)⟩
   .cases r2 with
    |error e=>exact B
    |ok L=>
     cases L with
     |ret r=>
      obtain⟨rfl,d,m,rfl,C,mG⟩:=B
      repeat any_goals (first|assumption|wp_step)
      exact h _ _ C mG
     |_=>exact B.elim
  |_=>exact D.elim
theorem Ln{l:ag}{a:Array ai}{c:List Str}{Q:ai->ao->Prop}(x:A.handled=ae)(r:s.heap.IsList l a)(u:dH a.toList c)(z:(met (λi=>c.getD i fZ) a.size).length<4000)(h:∀(d:az) (j:Nat),iK P w d s.heap.objs.size (met (λi=>c.getD i fZ) a.size)->(∀b o,b<s.heap.objs.size->s.heap.get? b=aa o->d.get? b=aa o)->Q (.ref s.heap.objs.size) {s with heap:=d,toks:=j}):aq (ar P w) A (call (.type "set") [.ref l]) Q E s:=by
 refine PF x r (J:=λi h=>iK P w h s.heap.objs.size (met (λi=>c.getD i fZ) i)) (λi h d S k=>S.at λo e=>k _ o (aT _) e)
  ⟨#[],0,_,[],cE _ rfl,.nil,pr _,λe y=>by simp at y,by decide,rfl,rfl,λh=>absurd rfl h⟩ (λi v f E Q m p S q=>?_) h
 obtain⟨t,rfl⟩:=tm i v u (by rw[ua];exact p);unfold setAdd;refine kM ?_;have B:(iR P w).is (c.getD i fZ) (.str (c.getD i fZ) t)=ah:=by show oZ _ (.str _ t)=ah;simp[oZ]
 refine aw ((iR P w).pyHash (k:=c.getD i fZ) B ?_);refine Cr (s:={f with toks:=f.toks+1}) S (ub (y0 _ (kc m)) z) λd b n g=>?_;rw[<-zH (λi=>c.getD i fZ)]at g;exact q d _ b (t_ _) n g
end
theorem FA{n:Nat}(h:n<=4096):n<a8:=ub h (by decide)
theorem Ny:typeLookup (.type "set") "__len__"=pure (aa (.builtin "set.__len__")):=F.slot_set_len.lookup
section
variable{P:aS}{w:aG}{A:aX}{E:ai->ao->Prop}{s:ao}
def sK(w:aG)(h:az)(a:ag)(b:Array (Int×ai)):Prop:=∃(c:Nat) (t:jN),h.get? a=aa {cls:=.type "set",dict:=ae,data:=.set b c t}/\b.size<4090/\t.fits b.size=ah/\t.led=(!cx w)/\(b.size≠0->t.plain=ak)
theorem sK.at{w:aG}{h h':az}{a:ag}{es:Array (Int×ai)}(S:sK w h a es)(k:∀o,h.get? a=aa o->h'.get? a=aa o):sK w h' a es:=by obtain⟨b,t,e,r⟩:=S;exact⟨b,t,k _ e,r⟩
theorem iK.e{h:az}{a:ag}{ks:List Str}(S:iK P w h a ks):∃es ss,sK w h a es/\dH (es.toList.map (·.2)) ss/\ss.Perm ks:=by
 obtain⟨es,l,t,ss,f,c,b,i,hsz,g,d,n⟩:=S.ex;refine⟨es,ss,⟨l,t,f,hsz,g,d,λj=>n λz=>j ?_⟩,c,b⟩;have m:=b.length_eq;have o:ss.length=es.size:=by rw[<-c.strs];simp
 rw[z,jL]at m;lia
structure EE(P:aS)(w:aG)(s s':ao)(a I:ag)(es:Array (Int×ai))(fp:List ag)(n:Nat)(Pv:Nat->ai->Prop)(St:Nat->az->Prop):Prop where
 wk:∀A:aX,A.handled=ae->Walks P w A I fp [I] n Pv St
 st:St 0 s'.heap
 old:∀b o,s.heap.get? b=aa o->s'.heap.get? b=aa o
 new:s.heap.objs.size<=I
 lt:∀b∈fp,b<s'.heap.objs.size
 rest:s'={s with heap:=s'.heap,drawn:=s'.drawn}
 ord:∀aY:Array ai,ItemsOf Pv aY n->aY.toList.Perm (es.toList.map (·.2))
 len:n<4090
 fps:∀b∈fp,b=a\/s.heap.objs.size<=b
theorem wt{l:List ai}{a:Array ai}{n:Nat}(c:l.length=n)(h:ItemsOf (λi v=>l[i]?=aa v) a n):a.toList=l:=by
 refine ug λi=>?_;by_cases b:i<n
 .have:i<a.size:=by rw[h.1];exact b
  have q:=h.2 i a[i] (AS this);rw[q];simp[this]
 .rw[uh (by rw[mn,h.1];lia),uh ∅]
theorem IZ{I a:ag}{d:Array (Int×ai)}{j:Nat}{t:jN}(L:a≠I)(r:t.fits d.size=ah)(g:cx w=ak)(n:d.size=0)(F:A.handled=ae):Walks P w A I [I,a] [I] 0 (λi v=>(d.toList.map (·.2))[i]?=aa v) (λi h=>h.get? I=aa (iF (eM 0) 0 a d.size j)/\h.get? a=aa (oJ d j t)):=by
 have u:d=#[]:=Array.eq_empty_of_size_eq_zero n;have l:∀(s:ao) (f:Nat) (i:Nat) (Q:Option (ai×Nat)->ao->Prop) (E:ai->ao->Prop),s.heap.get? a=aa (oJ d j t) ->
   Q ae s->aq (ar P w) A.in1 (mx a f i j) Q E s:=λs f i Q E G C=>by
  unfold mx;refine aw (rA G rfl r ?_);unfold xG;refine aw (aw (rF (aK ?_)));show aq _ _ (if cx w=ah then _ else _) _ _ s;rw[if_neg (by rw[g];decide)];refine xH (λp=>absurd (show(!t.plain&&decide (d.size > 1))=ah from p) (by rw[n];simp)) (λ_=>?_);refine aw ?_;refine fH (Q:=λ_ q=>q=s) (E:=E) ?_ (λ_ q y=>?_) (λ_ _ x=>x)
  .refine xH (λp=>absurd (show(!t.led&&!d.isEmpty)=ah from p) (by rw[u];simp)) (λ_=>aK rfl)
  .subst y;rw[u];have J:∀k:Nat,(#[]:Array (Int×ai))[k]?=ae:=λk=>by simp
   dsimp only;rw[J];exact aK C
 refine⟨λb g=>by simp at g;simp[g],λi h K c k=>⟨k I (by simp) _ c.1,k a (by simp) _ c.2⟩,λi s Q E D c m=>absurd D (Nat.not_lt_zero i),λs Q E c m=>?_,λi s Q E c m=>vi c.1 m⟩;refine ou c.2 r c.1 ?_;show aq _ _ (mx a (0:Int).toNat ((0:Nat):Int).toNat (j:Int).toNat >>= _) _ _ s;simp only[nI,Int.toNat_zero];refine aw (l s 0 0 _ _ c.2 ?_);dsimp only;refine aw (v7 c.1 λn B _=>?_);exact vz (s:={s with heap:=n}) F λH z=>m H s.toks λb o g e=>z b o ((B.2 b (by simpa using g)).trans e)
theorem K3{a:ag}{g:Array (Int×ai)}{Q:ai->ao->Prop}(S:sK w s.heap a g)(h:∀x I C n D St,EE P w s x a I g C n D St->Q (.ref I) x):aq (ar P w) A (mo (.ref a)) Q E s:=by
 obtain⟨M,t,l,hsz,p,pE,c7⟩:=S;have Y:s.TypeIs (.ref a) "set":=⟨_,l,rfl⟩
 have jZ:=bC l;refine wpAny_pyIter_slot Y F.slot_set_iter (t8 F.slot_set_iter Y Ht ?_ (F.args_set_iter_1 _));unfold Builtin.«frozenset.__iter__» Builtin.Frozenset.slot0 slotArgs Builtin.Frozenset.addrOf Builtin.Frozenset.sizeOf;refine aw (aK ?_);refine aw (aw (wpAny_setEntries_of l rfl p (aK ?_)));unfold setDrawn;refine aw (aw (rA l rfl p ?_));unfold xG;refine aw (aw (rF (aK ?_)));refine aK ?_;have i:∀(first:ai) (u:ao) (C:List ag) (n:Nat) (D:Nat->ai->Prop) (St:Nat->az->Prop),u.heap.get? a=aa {cls:=.type "set",dict:=ae,data:=.set g M t} ->
   EE P w s {u with heap:=u.heap.push (iF first 0 a g.size M)} a u.heap.objs.size g C n D St ->
   aq (ar P w) A.in1 (do
    let e <-setEpoch a
    let f <-newFields "set_iterator" [first,eM 0,Value.ref a,eM (g.size:Nat),eM (e:Nat)]
    ret f) (λi x=>∃v,i=Fin.done (Flow.ret v)/\∃Z r,x.TypeIs v Z/\typeLookup (Value.type Z) (Str.ofString "__next__")=pure (aa r)/\Q v x) E u:=λfirst u C n D St ha W=>by
  refine aw (wpAny_setEpoch_of ha rfl p ?_);refine aw (mr ?_);exact aK ⟨_,rfl,"set_iterator",_,⟨_,cE _ rfl,rfl⟩,C7.lookup,h _ _ C n D St W⟩
 refine xH (λK=>?_) (λK=>?_)
 .have H:(!cx w&&(!t.plain&&decide (g.size > 1)))=ah:=K;refine aw (Dp g.size (df g.size) s _ (by simp) λG d J=>?_);refine aw (wpAny_newTuple ?_ (hsz:=by rw[cM,J.length_eq,Gx];exact kc (FA ∅)));refine i _ _ _ _ _ _ (bx _ l) ⟨λO q=>PU (T:=s.heap.objs.size) (cF (by rw[jo];exact jO jZ)) (cF (by rw[jo];exact lA _)) p J q,⟨cE _ rfl,?_,?_⟩,?_,?_,?_,rfl,?_,hsz,?_⟩
  .exact bx _ (bx _ l)
  .exact bx _ (cE _ rfl)
  .exact λb o e=>bx _ (bx _ e)
  .rw[jo];exact t_ _
  .intro b c;simp only[bw,kj,or_false]at c;rw[jo,jo];rcases c with rfl|rfl|rfl
   .rw[jo];exact lA _
   .exact jO (jO jZ)
   .exact jO (lA _)
  .intro N m;have e0:(G.filterMap λj=>(g[j]?).map (·.2))=(G.filterMap λj=>g[j]?).map (·.2):=by rw[List.map_filterMap]
   have y:(G.filterMap λj=>g[j]?).Perm g.toList:=by have:=J.filterMap λj=>g[j]?;rwa[filterMap_getElem?_range]at this
   rw[e0]at m;rw[wt (by rw[cM,y.length_eq];simp) m];exact y.map _
  .intro b c;simp only[bw,kj,or_false]at c;rcases c with rfl|rfl|rfl
   .rw[jo];exact .inr (t_ _)
   .exact .inl rfl
   .exact .inr (aT _)
 .have H:¬(!cx w&&(!t.plain&&decide (g.size > 1)))=ah:=K;refine aw (aK ?_);cases c:cx w with
  |true=>
   refine i _ _ _ _ _ _ l ⟨λO q=>MO (cF jZ) p c q,⟨cE _ rfl,bx _ l⟩,λb o e=>bx _ e,aT _,?_,rfl,?_,hsz,λb c=>?_⟩
   .intro b c;simp only[bw,kj,or_false]at c;rw[jo];rcases c with rfl|rfl
    .exact lA _
    .exact jO jZ
   .intro N m;have y:=Dj (w.params.setOrder a M) g;rw[wt (by rw[cM,y.length_eq];simp) m];exact y.map _
   .simp only[bw,kj,or_false]at c;exact c.elim (λz=>.inr (mw z.symm)) .inl
  |false=>
   have L:g.size=1\/g.size=0:=by
    by_cases X:g.size=0
    .exact .inr X
    .rw[c,c7 X]at H;simp at H;lia
   rcases L with B|B
   .refine i _ _ _ _ _ _ l ⟨λO q=>Iz (cF jZ) p c (by rw[pE,c];rfl) B q,⟨cE _ rfl,bx _ l⟩,λb o e=>bx _ e,aT _,?_,rfl,?_,by decide,λb c=>?_⟩
    .intro b c;simp only[bw,kj,or_false]at c;rw[jo];rcases c with rfl|rfl
     .exact lA _
     .exact jO jZ
    .intro N m;rw[wt (by simp[B]) m]
    .simp only[bw,kj,or_false]at c;exact c.elim (λz=>.inr (mw z.symm)) .inl
   .refine i _ _ _ _ _ _ l ⟨λO q=>IZ (cF jZ) p c B q,⟨cE _ rfl,bx _ l⟩,λb o e=>bx _ e,aT _,?_,rfl,?_,by decide,λb c=>?_⟩
    .intro b c;simp only[bw,kj,or_false]at c;rw[jo];rcases c with rfl|rfl
     .exact lA _
     .exact jO jZ
    .intro N m;rw[wt (by simp[B]) m]
    .simp only[bw,kj,or_false]at c;exact c.elim (λz=>.inr (mw z.symm)) .inl
theorem HL{a:ag}{m:Array (Int×ai)}{Q:List ai->ao->Prop}(H:A.handled=ae)(S:sK w s.heap a m)(h:∀(d:ao) (B:List ai),B.Perm (m.toList.map (·.2))->(∀b o,s.heap.get? b=aa o->d.heap.get? b=aa o)->d.gens=s.gens->d.os=s.os->Q B d):aq (ar P w) A (collect (.ref a)) Q E s:=by
 obtain⟨J,t,G,N,_⟩:=id S;have jZ:=bC G;unfold collect;refine aw (wpAny_runValue (rE F.entry_proto_collect ?_));rw[xE F.plain_proto_collect _];show aq _ A.in1 (newList [] >>= λl=>again (.builtin "list.__iadd__" ⟨[l,.ref a],[]⟩)) _ _ s;refine aw (mr ?_);refine aK ⟨AQ F.plain_list_iadd _,rE F.entry_list_iadd ?_⟩;rw[xE F.plain_list_iadd _];show aq _ A.in1 (Builtin.List.listExtendWith (.ref s.heap.objs.size) (.ref a) (.ref s.heap.objs.size)) _ _ _;unfold Builtin.List.listExtendWith;have j:∀u:ao,u.heap.get? a=aa {cls:=.type "set",dict:=ae,data:=.set m J t}->u.TypeIs (.ref a) "set":=λu e=>⟨_,e,rfl⟩
 have C:(s.heap.push {cls:=.type "list",data:=.seq ([]:List ai).toArray}).get? a=aa {cls:=.type "set",dict:=ae,data:=.set m J t}:=bx _ G;refine aw (wpAny_typeOf (j _ C) ?_);have X:Builtin.List.listSameRef (.ref s.heap.objs.size) (.ref a)=ak:=by have:¬(s.heap.objs.size=a):=o6 jZ;simp[Builtin.List.listSameRef,this]
 rw[if_neg (by rw[X];decide)];refine aw (K3 (S.at λo e=>bx _ e) λr I Y n Pv St W=>?_);have v:=W.old a _ C;refine aw (kM ?_);unfold Builtin.List.listLengthHint;refine aw (wpAny_specialOf (j _ v) Ny ?_)
 wp_delta
 refine aw (wpAny_isInstance (T:="set") (b:=ah) (j _ v) (by rw[isSubtype_type];kernel_rfl) ?_);show aq _ A.in1 (typeOf (Value.ref a) >>= _) _ _ _;refine aw (wpAny_typeOf (T:="set") (j _ v) ?_);refine aK ?_;rw[if_pos (by decide)];refine aw (nM ?_);have O:(s.heap.push {cls:=.type "list",data:=.seq ([]:List ai).toArray}).get? s.heap.objs.size=aa {cls:=.type "list",data:=.seq ([]:List ai).toArray}:=cE _ rfl;have i:=W.old _ _ O;unfold Builtin.List.listTouch;refine aw (aw (AT i rfl ?_ (by decide) (by show 1<=a8+1;decide)));have g:=get?_update_seq i (λa:Array ai=>a.push Value.none);refine AT g rfl ?_ (by show 1<=a8;decide) (by show 0<=a8+1;decide);have y:=get?_update_seq g (λa:Array ai=>a.pop);have K:s.heap.objs.size∉Y:=λz=>by
  rcases W.fps _ z with q|q
  .exact absurd jZ (by rw[<-q];exact eL _)
  .rw[jo]at q;exact absurd (lA _) (Nat.not_lt.mpr q)
 have D:∀b o,b≠s.heap.objs.size->r.heap.get? b=aa o->(((r.heap.update s.heap.objs.size (jn λa=>a.push Value.none)).update s.heap.objs.size (jn λa=>a.pop))).get? b=aa o:=λb o f e=>by rw[GC _ _ _ _ f,GC _ _ _ _ f];exact e
 have Z:St 0 (((r.heap.update s.heap.objs.size (jn λa=>a.push Value.none)).update s.heap.objs.size (jn λa=>a.pop))):=(W.wk A.in1 H).frame 0 _ _ W.st λb f o e=>D b o (λz=>K (z ▸ f)) e;refine aK ⟨AQ F.plain_extend_loop _,codeAny_extend_loopS (W.wk A.in1 H).toS (kc (FA (by have:=W.len;lia))) _ K _ n 0 _ _ _ rfl (jM _) Z y (ItemsOf.nil _) λd c c' x L M=>?_⟩;show aq _ A (load s.heap.objs.size >>= _) _ _ d;refine aw (wpAny_load L ?_);refine aK (h d c.toList (W.ord c M) (λb o e=>?_) ?_ ?_)
 .have p:=bC e;refine x.heap b o (λf=>?_) (D b o (cF p) (W.old b o (bx _ e)));rcases bw.mp f with z|z
  .exact absurd p (by rw[z];exact eL _)
  .rw[eN.mp z]at p;have:=W.new;rw[jo]at this;exact absurd p (Nat.not_lt.mpr (Nat.le_of_succ_le this))
 .rw[x.gens,W.rest]
 .rw[x.os,W.rest]
theorem Lm{a:ag}{ks:List Str}{Q:List ai->ao->Prop}(p:A.handled=ae)(S:iK P w s.heap a ks)(h:∀(c:ao) (d:List ai) (ss:List Str),dH d ss->ss.Perm ks->d.length<4090->(∀b o,s.heap.get? b=aa o->c.heap.get? b=aa o)->c.gens=s.gens->c.os=s.os->Q d c):aq (ar P w) A (collect (.ref a)) Q E s:=by
 obtain⟨r,ss,S,q,n⟩:=S.e;have m:r.size<4090:=by obtain⟨_,_,_,z,_⟩:=S;exact z
 refine HL p S λc d pv l j i=>?_;obtain⟨u,g,f⟩:=yP pv q;exact h c d u g (f.trans n) (by have:=pv.length_eq;simp at this;lia) l j i
end
def bJ(a:List Tx):List Tx:=a.foldl (λks x=>if x∈ks then ks else ks++[x]) []
theorem vG(b:List Tx):met (λi=>(b.map tS).getD i fZ) b.length=(bJ b).map tS:=by
 have d:∀(l:List Tx) (a:List Tx),(l.map tS).foldl jE (a.map tS)=(l.foldl (λks x=>if x∈ks then ks else ks++[x]) a).map tS:=by
  intro l
  induction l with
  |nil=>intro a;rfl
  |cons x r g=>
   intro a;rw[bZ,lz,lz];have:jE (a.map tS) (tS x)=(if x∈a then a else a++[x]).map tS:=by
    unfold jE;have f:tS x∈a.map tS↔x∈a:=by rw[bV];exact⟨λ⟨y,j,e⟩=>by rw[<-qp e];exact j,λh=>⟨x,h,rfl⟩⟩
    by_cases h:x∈a
    .rw[if_pos h,if_pos (f.mpr h)]
    .rw[if_neg h,if_neg (λz=>h (f.mp z)),ph];rfl
   rw[this,g]
 have e:(df b.length).map (λi=>(b.map tS).getD i fZ)=b.map tS:=by
  refine ug λi=>?_;rw[jJ];by_cases c:i<b.length
  .rw[List.getElem?_range c];simp[c]
  .rw[uh (by simpa using c),uh (by simpa using c)];rfl
 unfold met;rw[e];exact d b []
theorem Et(l c:List Tx):(c.Nodup->(l.foldl (λks x=>if x∈ks then ks else ks++[x]) c).Nodup)/\∀x,x∈l.foldl (λks x=>if x∈ks then ks else ks++[x]) c↔x∈c\/x∈l:=by
 induction l generalizing c with
 |nil=>exact⟨λh=>h,λx=>by simp⟩
 |cons y r g=>
  rw[lz];obtain⟨m,j⟩:=g (if y∈c then c else c++[y]);refine⟨λh=>m ?_,λx=>?_⟩
  .split
   .exact h
   .rename_i d;rw[xI];exact⟨h,by simp,λa i b f=>by simp at f;subst f;exact λe=>d (e ▸ i)⟩
  .rw[j x,bw];split
   .rename_i d;constructor
    .rintro(h|h)
     .exact .inl h
     .exact .inr (.inr h)
    .rintro(h|rfl|h)
     .exact .inl h
     .exact .inl d
     .exact .inr h
   .rw[fY,eN,or_assoc]
theorem Pf(l:List Tx):(bJ l).Nodup:=(Et l []).1 List.nodup_nil
theorem lX(l:List Tx)(x:Tx):x∈bJ l↔x∈l:=by rw[bJ,(Et l []).2 x];simp
theorem EU(l:List Tx):(bJ l).length<=l.length:=by
 have b:∀(l a:List Tx),(l.foldl (λks x=>if x∈ks then ks else ks++[x]) a).length<=a.length+l.length:=by
  intro l
  induction l with
  |nil=>intro a;simp
  |cons x r c=>intro a;rw[lz];refine cH (c _) ?_;split <;> simp <;> lia
 simpa[bJ]using b l []
section
variable{X:Cx}
def kn(X:Cx)(a:ag)(b:List Tx):HO:=.ext λh=>iK X.prog X.w h a (b.map tS)
theorem J_(A:X.calm=ah):eG X (.type "set") (λg H Q=>∃(p:ag) (c:List Tx),g=[.ref p]/\b9 X.K H p (bU c)/\(bJ c).length<4000/\∀a,H a=ae->Q (.ref a) (upd H a (kn X a (bJ c)))):=by
 intro M s C H g D Q I r h;obtain⟨p,c,rfl,y,f,q⟩:=h;obtain⟨u,rfl,m⟩:=vals1 r;cases m;obtain⟨d,i,x,F⟩:=I.list y;have z:=i.length;rw[wN]at z;refine Ln (P:=X.prog) (w:=X.w) (I.ok.hd A) x.isList (by simpa using sh i) (by rw[cb,show d.length=c.length by lia,vG,cM];exact f) λB l S k=>?_;have j:iK X.prog X.w B s.heap.objs.size ((bJ c).map tS):=by
  have e:d.toArray.size=c.length:=by rw[cb];lia
  rw[e,vG]at S;exact S
 refine⟨.ref s.heap.objs.size,_,I.laid (t':=l) (o:=kn X s.heap.objs.size (bJ c)) (λb o e=>k b o (bC e) e) (aT _) ?_,rfl,q _ I.fresh⟩;obtain⟨K,L,t,E,e,_⟩:=j.ex;exact⟨j,⟨_,e⟩,λJ G v n=>v.at n⟩
end
structure dq(K:ax)(mg:Str->Option ai)(x:Str)(st:bf):Prop where
 ex:∃f fd,mg x=aa (.ref f)/\ol K x x st f fd
theorem EM{H:Hp}{p:ag}{o:HO}(h:H p=ae):Same H (upd H p o):=λb u q=>by rw[bv (ql q h)];exact q
theorem tu{a:Type}{xs:List a}{k:Int}(b:0<=k)(h:k.toNat<xs.length):fq xs k=aa xs[k.toNat]:=by
 have e:((k.toNat:Nat):Int)=k:=∅
 have q:=ND (xs:=xs) (j:=k.toNat) (v:=xs[k.toNat]) (by simp[h]);rwa[e]at q
def Da(N:List Str)(d a:d8)(x:Str)(c:List Str)(b:List Nat):Bool :=
 decide (a.kind=.function)&&a.names.all (λy=>(decide (y.2≠.cell)||decide (a.names.lookup y.1=aa .cell))&&(decide (y.2≠.local)||decide (a.names.lookup y.1=aa .local))&&(decide (y.2≠.free)||decide (d.names.lookup y.1=aa .cell)||decide (d.names.lookup y.1=aa .free)))
 && (decide (a.names.lookup x=aa .local)||decide (a.names.lookup x=aa .cell))&&decide c.Nodup&&decide (c.head?=aa x)&&decide (c.length=b.length+1)&&(b.zip c.tail).all λp=>(decide (N[p.1]?=aa p.2)&&decide (a.names.lookup p.2=aa .free))||(decide (N.length<=p.1)&&decide (a.names.lookup p.2=aa .local))
theorem io.of{X:Cx}{a:d8}{x:Str}{N':List Str}{cap:List Nat}(N:List Str)(f:d8)(l:X.N=N)(c:X.env.scope=f)(h:Da N f a x N' cap=ah):io X a x N' cap:=by
 subst l c;simp only[Da,iA,decide_eq_true_eq,nN,AN]at h;obtain⟨⟨⟨⟨⟨⟨r,d⟩,q⟩,p⟩,o⟩,n⟩,m⟩:=h;refine⟨r,λy b e=>(d y b).1.1.elim (λz=>absurd e z) λz=>z,λy b e=>?_,q,λy b e=>?_,p,o,n,λi j y u s=>?_⟩
 .rcases(d y b).1.2 with z|z
  .exact absurd e z
  .exact z
 .rcases(d y b).2 with(z|z)|z
  .exact absurd e z
  .exact .inl z
  .exact .inr z
 .have g:(j,y)∈cap.zip N'.tail:=by
   refine List.mem_iff_getElem?.mpr ⟨i,?_⟩;rw[List.getElem?_zip_eq_some];refine⟨s,?_⟩;rw[<-List.drop_one,AU,Nat.add_comm];exact u
  exact m _ g
theorem Ac(a b:Tx):fS (tV a) (tV b)=decide (a=b):=by show(tS a == tS b)=_;rw[ke];simp only[beq_iff_eq,decide_eq_true_eq];exact⟨qp,λh=>by rw[h]⟩
theorem I_(a:List Tx)(x:Tx):((bU a).countP λz=>fS z (tV x))=a.count x:=by unfold bU List.count;rw[List.countP_map];refine List.countP_congr λy _=>?_;simp only[Function.comp_apply,Ac,decide_eq_true_eq,beq_iff_eq]
end L2
namespace Pu
open L2
abbrev St:=L2.St
inductive PV where
 |non|bl (b:Bool)|int (i:Int)|str (x:Tx)|tup (xs:List PV)|lst (xs:List PV)|raw (v:V)|exc (c:ai)
def Kd(a:ag)(c:ai):HO:=.ext λh=>∃o b,h.get? a=aa o/\o.cls=c/\o.data=.fields b/\o.dict=ae
def bQ:Nat:=1000000
theorem lm:bQ<=a8:=by rw[q0];decide
def eu:HO->Prop
 |.lst _=>True
 |.dK _=>True
 |.dT _=>True
 |.dN _=>True
 |.ins _ _ _=>True
 |.own _=>True
 |_=>False
mutual
def aO(K:ax)(H:Hp)(F:ag->Prop):PV->V->Prop
 |.non,v=>v=.non
 |.bl b,v=>v=.bl b
 |.int i,v=>v=.int i
 |.str x,v=>v=tV x/\x.length<=bQ
 |.tup f,v=>∃a d,v=.ref a/\H a=aa (.tup d)/\ba K H F f d
 |.lst f,v=>∃a d,v=.ref a/\Rd H a (.lst d)/\F a/\ba K H F f d
 |.raw u,v=>v=u
 |.exc c,v=>∃a,v=.ref a/\H a=aa (Kd a c)
def ba(K:ax)(H:Hp)(F:ag->Prop):List PV->List V->Prop
 |[],a=>a=[]
 |x::b,a=>∃v r,a=v::r/\aO K H F x v/\ba K H F b r
end
section
variable{K:ax}{H b:Hp}{F c:ag->Prop}
mutual
theorem aO.mono(j:∀a,F a->c a)(i:∀a d,F a->Rd H a (.lst d)->Rd b a (.lst d))(g:∀a o,H a=aa o->¬eu o->b a=aa o):∀(x:PV) (v:V),aO K H F x v->aO K b c x v
 |.non,_,h=>h
 |.bl _,_,h=>h
 |.int _,_,h=>h
 |.str _,_,h=>h
 |.raw _,_,h=>h
 |.exc _,_,⟨a,e,h⟩=>⟨a,e,g a _ h id⟩
 |.tup d,_,⟨a,f,e,m,l⟩=>⟨a,f,e,g a _ m id,ba.mono j i g d f l⟩
 |.lst d,_,⟨a,f,e,m,n,l⟩=>⟨a,f,e,i a f n m,j a n,ba.mono j i g d f l⟩
theorem ba.mono(j:∀a,F a->c a)(i:∀a d,F a->Rd H a (.lst d)->Rd b a (.lst d))(g:∀a o,H a=aa o->¬eu o->b a=aa o):∀(d:List PV) (f:List V),ba K H F d f->ba K b c d f
 |[],_,h=>h
 |x::d,_,⟨v,r,e,m,l⟩=>⟨v,r,e,aO.mono j i g x v m,ba.mono j i g d r l⟩
end
theorem ba.len:∀{a:List PV}{b:List V},ba K H F a b->b.length=a.length
 |[],_,h=>by rw[show _=[] from h];rfl
 |_::_,_,⟨_,_,e,_,c⟩=>by rw[e,cS,cS,ba.len c]
theorem ba.get:∀{c:List PV}{d:List V}{i:Nat}{x:PV},ba K H F c d->c[i]?=aa x->∃v,d[i]?=aa v/\aO K H F x v
 |[],_,_,_,_,e=>by simp at e
 |x::c,_,0,y,⟨v,r,e,h1,_⟩,q=>by simp at q;subst q;subst e;exact⟨v,rfl,h1⟩
 |x::c,_,i+1,y,⟨v,r,e,_,h2⟩,q=>by obtain⟨w,a,b⟩:=ba.get (i:=i) (x:=y) h2 (by simpa using q);subst e;exact⟨w,by simpa using a,b⟩
theorem ba.back:∀{c:List PV}{d:List V}{i:Nat}{v:V},ba K H F c d->d[i]?=aa v->∃x,c[i]?=aa x/\aO K H F x v
 |[],_,_,_,h,e=>by rw[show _=[] from h]at e;simp at e
 |x::c,_,0,y,⟨v,r,e,h1,_⟩,q=>by subst e;simp at q;subst q;exact⟨x,rfl,h1⟩
 |x::c,_,i+1,y,⟨v,r,e,_,h2⟩,q=>by subst e;obtain⟨w,a,b⟩:=ba.back (i:=i) (v:=y) h2 (by simpa using q);exact⟨w,by simpa using a,b⟩
theorem ba.app:∀{a b:List PV}{d c:List V},ba K H F a d->ba K H F b c->ba K H F (a++b) (d++c)
 |[],_,_,_,h,g=>by rw[show _=[] from h];exact g
 |x::a,_,_,_,⟨v,r,e,i,f⟩,g=>by subst e;exact⟨v,_,rfl,i,ba.app f g⟩
theorem ba.one{x:PV}{v:V}(h:aO K H F x v):ba K H F [x] [v]:=⟨v,[],rfl,h,rfl⟩
theorem ba.drop:∀(n:Nat) {a:List PV}{b:List V},ba K H F a b->ba K H F (a.drop n) (b.drop n)
 |0,_,_,h=>h
 |_+1,[],_,h=>by rw[show _=[] from h];rfl
 |n+1,_::_,_,⟨_,_,e,_,h2⟩=>by subst e;exact ba.drop n h2
theorem ba.take:∀(n:Nat) {a:List PV}{b:List V},ba K H F a b->ba K H F (a.take n) (b.take n)
 |0,_,_,_=>by rw[AV,AV];rfl
 |_+1,[],_,h=>by rw[show _=[] from h];rfl
 |n+1,_::_,_,⟨v,_,e,h1,h2⟩=>by subst e;exact⟨v,_,rfl,h1,ba.take n h2⟩
theorem ba.set{x:PV}{v:V}(c:aO K H F x v):∀(n:Nat) {a:List PV}{b:List V},ba K H F a b->ba K H F (a.set n x) (b.set n v)
 |_,[],_,h=>by rw[show _=[] from h];rfl
 |0,_::_,_,⟨_,r,e,_,h2⟩=>by subst e;exact⟨v,r,rfl,c,h2⟩
 |n+1,_::_,_,⟨w,_,e,h1,h2⟩=>by subst e;exact⟨w,_,rfl,h1,ba.set c n h2⟩
end
structure bt(O O' F F':ag->Prop)(H H':Hp):Prop where
 fro:∀a,F a->F' a
 keep:∀b o,H b=aa o->¬O b->H' b=aa o
 there:∀b o,H b=aa o->∃o',H' b=aa o'
 fnew:∀a,F' a->F a\/H a=ae\/O a
 onew:∀a,O' a->O a\/H a=ae
theorem bt.refl(O F:ag->Prop)(H:Hp):bt O O F F H H:=⟨λ_ h=>h,λ_ _ h _=>h,λ_ o h=>⟨o,h⟩,λ_ h=>.inl h,λ_ h=>.inl h⟩
theorem bt.trans{O i f F m l:ag->Prop}{H d j:Hp}(g:bt O i F m H d)(k:bt i f m l d j):bt O f F l H j where
 fro:=λa h=>k.fro a (g.fro a h)
 keep:=λb o h n=>k.keep b o (g.keep b o h n) λz=>(g.onew b z).elim n λq=>by rw[q]at h;cases h
 there:=λb o h=>let ⟨o',c⟩:=g.there b o h;k.there b o' c
 fnew:=λa h=>by
  have back:d a=ae->H a=ae\/O a:=λz=>by
   cases q:H a with
   |none=>exact .inl rfl
   |some o=>obtain⟨o',c⟩:=g.there a o q;rw[z]at c;cases c
  rcases k.fnew a h with z|z|z
  .exact g.fnew a z
  .exact .inr (back z)
  .exact .inr ((g.onew a z).symm)
 onew:=λa h=>by
  rcases k.onew a h with z|z
  .exact g.onew a z
  .cases q:H a with
   |none=>exact .inr rfl
   |some o=>obtain⟨o',c⟩:=g.there a o q;rw[z]at c;cases c
def Fit(O F:ag->Prop)(H:Hp):Prop:=∀b,O b->¬F b/\∃o,H b=aa o/\eu o
section
variable{K:ax}{O d F c:ag->Prop}{H b:Hp}
theorem bt.imm(g:bt O d F c H b)(f:Fit O F H){a:ag}{o:HO}(h:H a=aa o)(n:¬eu o):b a=aa o :=
 g.keep _ _ h λz=>by
  obtain⟨_,l,i,j⟩:=f a z;rw[h]at i;cases i;exact n j
theorem bt.lst(g:bt O d F c H b)(f:Fit O F H){a:ag}{xs:List V}(i:F a)(h:Rd H a (.lst xs)):Rd b a (.lst xs):=by
 have no:¬O a:=λz=>(f a z).1 i;rcases h with h|⟨o,h⟩
 .exact .inl (g.keep _ _ h no)
 .exact .inr ⟨o,g.keep _ _ h no⟩
theorem aO.grow(g:bt O d F c H b)(f:Fit O F H){x:PV}{v:V}(h:aO K H F x v):aO K b c x v:=aO.mono g.fro (λ_ _ a q=>g.lst f a q) (λ_ _ q n=>g.imm f q n) x v h
theorem ba.grow(g:bt O d F c H b)(f:Fit O F H){x:List PV}{v:List V}(h:ba K H F x v):ba K b c x v:=ba.mono g.fro (λ_ _ a q=>g.lst f a q) (λ_ _ q n=>g.imm f q n) x v h
end
theorem _root_.L2.Same.rd{H b:Hp}{a:ag}{u:HO}(e:Same H b)(h:Rd H a u):Rd b a u:=h.elim (λz=>.inl (e _ _ z)) λ⟨o,z⟩=>.inr ⟨o,e _ _ z⟩
structure Al(F F':ag->Prop)(H H':Hp):Prop where
 fro:∀a,F a->F' a
 same:Same H H'
 fnew:∀a,F' a->F a\/(H a=ae/\∃o,H' a=aa o)
theorem Al.refl(F:ag->Prop)(H:Hp):Al F F H H:=⟨λ_ h=>h,Same.refl H,λ_ h=>.inl h⟩
theorem Al.grow{F d O:ag->Prop}{H c:Hp}(a:Al F d H c):bt O O F d H c :=⟨a.fro,λb o h _=>a.same b o h,λb o h=>⟨o,a.same b o h⟩,λb h=>(a.fnew b h).imp id λz=>.inl z.1,λ_ h=>.inl h⟩
theorem Al.rep{K:ax}{F c:ag->Prop}{H b:Hp}(a:Al F c H b){x:PV}{v:V}(h:aO K H F x v):aO K b c x v:=aO.mono a.fro (λ_ _ _ q=>a.same.rd q) (λ_ _ q _=>a.same _ _ q) x v h
theorem Al.reps{K:ax}{F c:ag->Prop}{H b:Hp}(a:Al F c H b){x:List PV}{v:List V}(h:ba K H F x v):ba K b c x v:=ba.mono a.fro (λ_ _ _ q=>a.same.rd q) (λ_ _ q _=>a.same _ _ q) x v h
theorem Al.trans{F i g:ag->Prop}{H f d:Hp}(a:Al F i H f)(b:Al i g f d):Al F g H d :=
 ⟨λc h=>b.fro c (a.fro c h),a.same.trans b.same,λc h=>by
  rcases b.fnew c h with z|⟨z,w⟩
  .rcases a.fnew c z with y|⟨y,o,q⟩
   .exact .inl y
   .exact .inr ⟨y,o,b.same _ _ q⟩
  .exact .inr ⟨a.same.free z,w⟩⟩
theorem Al.new{F:ag->Prop}{H:Hp}{l:ag}{o:HO}(h:H l=ae):Al F (λa=>F a\/a=l) H (upd H l o) :=⟨λ_ h=>.inl h,EM h,λa z=>z.imp id λe=>by subst e;exact⟨h,o,upd_same⟩⟩
theorem Al.new0{F:ag->Prop}{H:Hp}{l:ag}{o:HO}(h:H l=ae):Al F F H (upd H l o):=⟨λ_ h=>h,EM h,λa z=>.inl z⟩
inductive PO where
 |lst (xs:List PV)|dK (kvs:List (aA×PV))|lls (js:List (List PV))|ins (C:ag) (fs:List (Str×PV))|dT (kvs:List (List aA×PV))|dN (kvs:List ((Tx×List Tx)×PV))|inl (C:ag) (fs:List (Str×PV)) (y:Str) (xs:List PV)
def fW:PO->Bool
 |.lls _=>ak
 |.inl ..=>ak
 |_=>ah
inductive Slot where
 |none|val (v:PV)|own (o:PO)
abbrev aj:=List Slot
def gH(K:ax)(H:Hp)(F:ag->Prop)(a:List (aA×PV))(b:List (aA×V)):Prop:=ka (λ(p:aA×PV) (q:aA×V)=>p.1=q.1/\aO K H F p.2 q.2) a b
def sP(K:ax)(H:Hp)(F:ag->Prop)(fs:List (Str×PV))(a:List (Str×V)):Prop:=ka (λ(p:Str×PV) (q:Str×V)=>p.1=q.1/\aO K H F p.2 q.2) fs a
def je(K:ax)(H:Hp)(F:ag->Prop)(a:List (List aA×PV))(b:List (List aA×V)):Prop:=ka (λ(p:List aA×PV) (q:List aA×V)=>p.1=q.1/\aO K H F p.2 q.2) a b
def nS(k:Tx×List Tx):Str×List Str:=(tS k.1,k.2.map tS)
def wB(K:ax)(H:Hp)(F:ag->Prop)(a:List ((Tx×List Tx)×PV))(b:List ((Str×List Str)×V)):Prop:=ka (λ(p:(Tx×List Tx)×PV) (q:(Str×List Str)×V)=>nS p.1=q.1/\aO K H F p.2 q.2) a b
def xk(K:ax)(H:Hp)(F:ag->Prop)(d:List (List PV))(f:List ag):Prop:=ka (λ(c:List PV) (b:ag)=>∃a,H b=aa (.lst a)/\ba K H F c a) d f
def eT(K:ax)(H:Hp)(F:ag->Prop)(l:PO)(a:ag)(S:ag->Prop):Prop :=
 match l with
 |.lst i=>(∃g,H a=aa (.lst g)/\ba K H F i g)/\∀b,S b↔b=a
 |.dK f=>(∃d,H a=aa (.dK d)/\gH K H F f d)/\∀b,S b↔b=a
 |.lls m=>∃h,H a=aa (.lst (h.map .ref))/\xk K H F m h/\h.Nodup/\a∉h/\∀b,S b↔b=a\/b∈h
 |.ins C fs=>(∃j d,H a=aa (.ins C j d)/\sP K H F fs d)/\∀b,S b↔b=a
 |.dT f=>(∃d,H a=aa (.dT d)/\je K H F f d)/\∀b,S b↔b=a
 |.dN f=>(∃d,H a=aa (.dN d)/\wB K H F f d)/\∀b,S b↔b=a
 |.inl C fs y i=>∃j d b g,H a=aa (.ins C j (d++[(y,.ref b)]))/\sP K H F fs d/\fs.lookup y=ae/\H b=aa (.lst g)/\ba K H F i g/\a≠b/\∀c,S c↔c=a\/c=b
structure aN(K:ax)(F:ag->Prop)(S:Nat->ag->Prop)(ε:aj)(σ:St)(H:Hp):Prop where
 len:ε.length=σ.length
 ex:∀a,F a->∃o,H a=aa o
 val:∀(i:Nat) (pv:PV),ε[i]?=aa (.val pv)->∃v,σ[i]?=aa (aa v)/\aO K H F pv v
 own:∀(i:Nat) (po:PO),ε[i]?=aa (.own po)->∃a,σ[i]?=aa (aa (.ref a))/\eT K H F po a (S i)
 foot:∀(i:Nat) (b:ag),S i b->(∃po,ε[i]?=aa (.own po))/\¬F b/\∃o,H b=aa o/\eu o
 dist:∀(i j:Nat) (b:ag),S i b->S j b->i=j
def U(S:Nat->ag->Prop)(b:ag):Prop:=∃i,S i b
section
variable{K:ax}{F f:ag->Prop}{S:Nat->ag->Prop}{j:aj}{g:St}{H d:Hp}
theorem aN.fit(r:aN K F S j g H):Fit (U S) F H:=λb ⟨i,h⟩=>(r.foot i b h).2
theorem gH.mono{a:List (aA×PV)}{b:List (aA×V)}(i:∀x v,aO K H F x v->aO K d f x v)(h:gH K H F a b):gH K d f a b:=by
 unfold gH at h ⊢
 induction h with
 |nil=>exact .nil
 |cons r _ c=>exact .cons ⟨r.1,i _ _ r.2⟩ c
theorem sP.mono{fs:List (Str×PV)}{a:List (Str×V)}(c:∀x v,aO K H F x v->aO K d f x v)(h:sP K H F fs a):sP K d f fs a:=by
 unfold sP at h ⊢
 induction h with
 |nil=>exact .nil
 |cons r _ b=>exact .cons ⟨r.1,c _ _ r.2⟩ b
theorem je.mono{a:List (List aA×PV)}{b:List (List aA×V)}(i:∀x v,aO K H F x v->aO K d f x v)(h:je K H F a b):je K d f a b:=by
 unfold je at h ⊢
 induction h with
 |nil=>exact .nil
 |cons r _ c=>exact .cons ⟨r.1,i _ _ r.2⟩ c
theorem wB.mono{a:List ((Tx×List Tx)×PV)}{b:List ((Str×List Str)×V)}(i:∀x v,aO K H F x v->aO K d f x v)(h:wB K H F a b):wB K d f a b:=by
 unfold wB at h ⊢
 induction h with
 |nil=>exact .nil
 |cons r _ c=>exact .cons ⟨r.1,i _ _ r.2⟩ c
theorem xk.mono{c:List (List PV)}{a:List ag}(m:∀x v,ba K H F x v->ba K d f x v)(i:∀b o,b∈a->H b=aa o->d b=aa o)(h:xk K H F c a):xk K d f c a:=by
 unfold xk at h ⊢
 induction h with
 |nil=>exact .nil
 |cons r _ n=>obtain⟨l,s,q⟩:=r;exact .cons ⟨l,i _ _ (by simp) s,m _ _ q⟩ (n λb o p=>i b o (by simp[p]))
theorem eT.mono{s:PO}{a:ag}{z:ag->Prop}(m:∀x v,aO K H F x v->aO K d f x v)(r:∀x v,ba K H F x v->ba K d f x v)(i:∀b o,z b->H b=aa o->d b=aa o)(h:eT K H F s a z):eT K d f s a z:=by
 cases s with
 |lst A=>obtain⟨⟨p,e,q⟩,w⟩:=h;exact⟨⟨p,i a _ ((w a).mpr rfl) e,r _ _ q⟩,w⟩
 |dK l=>obtain⟨⟨c,e,q⟩,w⟩:=h;exact⟨⟨c,i a _ ((w a).mpr rfl) e,q.mono m⟩,w⟩
 |lls M=>obtain⟨L,e,q,G,E,w⟩:=h;exact⟨L,i a _ ((w a).mpr (.inl rfl)) e,q.mono r λb o I=>i b o ((w b).mpr (.inr I)),G,E,w⟩
 |ins C fs=>obtain⟨⟨u,c,e,q⟩,w⟩:=h;exact⟨⟨u,c,i a _ ((w a).mpr rfl) e,q.mono m⟩,w⟩
 |dT l=>obtain⟨⟨c,e,q⟩,w⟩:=h;exact⟨⟨c,i a _ ((w a).mpr rfl) e,q.mono m⟩,w⟩
 |dN l=>obtain⟨⟨c,e,q⟩,w⟩:=h;exact⟨⟨c,i a _ ((w a).mpr rfl) e,q.mono m⟩,w⟩
 |inl C fs y A=>obtain⟨u,c,b,p,e,q,n,J,B,D,w⟩:=h;exact⟨u,c,b,p,i a _ ((w a).mpr (.inl rfl)) e,q.mono m,n,i b _ ((w b).mpr (.inr rfl)) J,r _ _ B,D,w⟩
theorem aN.al(r:aN K F S j g H)(a:Al F f H d):aN K f S j g d where
 len:=r.len
 ex:=λb h=>(a.fnew b h).elim (λz=>let ⟨o,q⟩:=r.ex b z;⟨o,a.same _ _ q⟩) λz=>z.2
 val:=λi pv e=>let ⟨v,m,l⟩:=r.val i pv e;⟨v,m,a.rep l⟩
 own:=λi p e=>let ⟨b,m,l⟩:=r.own i p e;⟨b,m,l.mono (λ_ _ q=>a.rep q) (λ_ _ q=>a.reps q) λc o _ q=>a.same _ _ q⟩
 foot:=λi b h=>by
  obtain⟨m,l,o,n,s⟩:=r.foot i b h;refine⟨m,λz=>?_,o,a.same _ _ n,s⟩;rcases a.fnew b z with y|⟨y,_⟩
  .exact l y
  .rw[n]at y;cases y
 dist:=r.dist
end
inductive R(α:Type) where
 |ok (a:α) (ε:aj)|er (c:ai) (ε:aj)|no
def R.bind{d b:Type}(r:R d)(k:d->aj->R b):R b:=match r with
 |.ok a ε=>k a ε
 |.er c ε=>.er c ε
 |.no=>.no
def aB{b:Type}(o:Option b)(ε:aj):R b:=match o with
 |some a=>.ok a ε
 |none=>.no
@[simp] theorem R.bind_ok{b c:Type}(a:b)(ε:aj)(k:b->aj->R c):(R.ok a ε).bind k=k a ε:=rfl
@[simp] theorem R.bind_er{b d:Type}(c:ai)(a:aj)(k:b->aj->R d):(R.er c a:R b).bind k=.er c a:=rfl
@[simp] theorem R.bind_no{a b:Type}(k:a->aj->R b):(R.no:R a).bind k=.no:=rfl
@[simp] theorem bP{b:Type}(a:b)(ε:aj):aB (aa a) ε=.ok a ε:=rfl
@[simp] theorem QK{b:Type}(a:aj):aB (ae:Option b) a=.no:=rfl
def Ok(K:ax)(E:XK)(h:St)(F:ag->Prop)(S:Nat->ag->Prop)(H:Hp){i:Type}(r:R i)(C:i->aj->(ag->Prop)->(Nat->ag->Prop)->Hp->Prop):Prop:=match r with
 |.ok a b=>∀g f d,aN K g f b h d->bt (U S) (U f) F g H d->C a b g f d
 |.er c b=>∀x g f d,aN K g f b h d->bt (U S) (U f) F g H d->E c x d
 |.no=>False
section
variable{K:ax}{E:XK}{b:St}{F:ag->Prop}{S:Nat->ag->Prop}{H:Hp}{d i:Type}{C C':d->aj->(ag->Prop)->(Nat->ag->Prop)->Hp->Prop}{D:i->aj->(ag->Prop)->(Nat->ag->Prop)->Hp->Prop}
theorem Ok.imp{r:R d}(h:Ok K E b F S H r C)(f:∀a j n l m,aN K n l j b m->bt (U S) (U l) F n H m->C a j n l m->C' a j n l m):Ok K E b F S H r C':=by
 cases r with
 |ok a j=>exact λn l m r g=>f a j n l m r g (h n l m r g)
 |er c j=>exact h
 |no=>exact h
theorem Ok.from{r:R i}{q:ag->Prop}{o:Nat->ag->Prop}{p:Hp}(h:Ok K E b F S H r D)(g:bt (U S) (U o) F q H p):Ok K E b q o p r D:=by
 cases r with
 |ok a f=>exact λn l m j g'=>h n l m j (g.trans g')
 |er c f=>exact λx n l m j g'=>h x n l m j (g.trans g')
 |no=>exact h
theorem Ok.bind{r:R d}{k:d->aj->R i}(h:Ok K E b F S H (r.bind k) D):Ok K E b F S H r (λa ε1 m j l=>Ok K E b m j l (k a ε1) D):=by
 cases r with
 |ok a f=>exact λp n o r g=>Ok.from h g
 |er c f=>exact h
 |no=>exact h
end
structure Bx(p:Prop):Prop where
 run:p
def gA(X:Cx)(e:ay):TE:=λa H Q=>Bx (∀b s,Inv X b a H s->aq (ar X.prog X.w) X.A (aM e X.env) (EP X b a Q) X.xe s)
def yj(X:Cx)(e:ay):TT:=λa H Q=>Bx (∀b s,Inv X b a H s->aq (ar X.prog X.w) X.A (ml e X.env (aM e X.env)) (TP X b a Q) X.xe s)
def wpS(X:Cx)(c:bf):TS:=λD b H=>Bx (∀a s,Inv X a b H s->aq (ar X.prog X.w) X.A (exec c X.env) (SP X a D) X.xe s)
def oy(X:Cx)(c:List bf):TS:=λD b H=>Bx (∀a s,Inv X a b H s->aq (ar X.prog X.w) X.A (execs c X.env) (SP X a D) X.xe s)
section
variable{X:Cx}{e:ay}{b:bf}{a:List bf}
theorem bB:PE X e (gA X e):=λc s _ _ _ I h=>h.run c s I
theorem l5:PT X e (yj X e):=λc s _ _ _ I h=>h.run c s I
theorem Dd:PS X b (wpS X b):=λc s _ _ _ I h=>h.run c s I
theorem oN:kG X a (oy X a):=λc s _ _ _ I h=>h.run c s I
theorem b8{t:TE}(h:PE X e t){c:St}{H:Hp}{Q:VK}(q:t c H Q):gA X e c H Q:=⟨λd s I=>h d s c H Q I q⟩
theorem ny{t:TT}(h:PT X e t){c:St}{H:Hp}{Q:Bool->Hp->Prop}(q:t c H Q):yj X e c H Q:=⟨λd s I=>h d s c H Q I q⟩
theorem gf{t:TS}(h:PS X b t){c:St}{H:Hp}{D:j0}(q:t D c H):wpS X b D c H:=⟨λd s I=>h d s c H D I q⟩
theorem zN{t:TS}(h:kG X a t){c:St}{H:Hp}{D:j0}(q:t D c H):oy X a D c H:=⟨λd s I=>h d s c H D I q⟩
end
def DE(X:Cx)(E:XK)(e:ay)(d:aj->R PV):Prop :=
 ∀F S ε a H Q,aN X.K F S ε a H->Ok X.K E a F S H (d ε) (λpv _ c _ b=>∀v,aO X.K b c pv v->Q v b)->gA X e a H Q
def DN(X:Cx)(E:XK)(e:ay)(d:aj->R PO):Prop :=
 ∀F S g c H Q,aN X.K F S g c H->Ok X.K E c F S H (d g) (λj _ i l f=>∀a h,eT X.K f i j a h->(∀b,h b->H b=ae/\¬i b/\¬U l b/\∃o,f b=aa o/\eu o)->Q (.ref a) f)->gA X e c H Q
def DT(X:Cx)(E:XK)(e:ay)(d:aj->R Bool):Prop :=
 ∀F S ε a H Q,aN X.K F S ε a H->Ok X.K E a F S H (d ε) (λb _ _ _ c=>Q b c)->yj X e a H Q
end Pu
namespace Pu
open L2
section
variable{X:Cx}{E:XK}{a b c:ay}{m db o:aj->R PV}{pos:Pos}
def dC(pv:PV):aj->R PV:=λε=>.ok pv ε
theorem aR{i j pos}:DE X E (.Constant (.int i) j pos) (dC (.int i)):=λF S f d H Q r h=>b8 z_ (h F S H r (bt.refl ..) _ rfl)
theorem oC{i j pos}:DE X E (.Constant (.bool i) j pos) (dC (.bl i)):=λF S f d H Q r h=>b8 Mz (h F S H r (bt.refl ..) _ rfl)
theorem wT(l:Tx){x:Str}{j pos}(d:x=tS l:=by decide +kernel)(f:l.length<=bQ:=by decide):DE X E (.Constant (.str x) j pos) (dC (.str l)):=λF S i g H Q r h=>b8 Ll (h F S H r (bt.refl ..) _ (by rw[d];exact⟨rfl,f⟩))
def dV(i:Nat):aj->R PV:=λε=>match ε[i]? with
 |some (.val pv)=>.ok pv ε
 |_=>.no
theorem ap(i:Nat){x:Str}{pos:Pos}(g:X.N[i]?=aa x:=by rfl)(d:dA X.env.scope x:=by eq_refl)(f:(x==("__debug__":Str))=ak:=by decide)(n:(x==("__classdict__":Str))=ak:=by decide):DE X E (.Name x pos) (dV i):=λF S s q H Q r h=>by
 unfold dV at h;split at h
 .rename_i p e;obtain⟨v,l,j⟩:=r.val i p e;exact b8 (eI g d f n) ⟨v,l,h F S H r (bt.refl ..) v j⟩
 .exact h.elim
theorem Fs{x:Str}{i:Int}{pos:Pos}(h:∃t,X.mg x=aa (.int i t))(d:Gl X x:=by rfl)(f:(x==("__debug__":Str))=ak:=by decide):DE X E (.Name x pos) (dC (.int i)):=λF S j g H Q r q=>by obtain⟨t,e⟩:=h;exact b8 (EH (v:=.int i) d e ⟨t,rfl⟩ f) (q F S H r (bt.refl ..) _ rfl)
theorem FC{x:Str}{l:Tx}{pos:Pos}(h:∃t,X.mg x=aa (.str (tS l) t))(f:Gl X x:=by rfl)(d:l.length<=bQ:=by decide)(g:(x==("__debug__":Str))=ak:=by decide):DE X E (.Name x pos) (dC (.str l)):=λF S j i H Q r q=>by obtain⟨t,e⟩:=h;exact b8 (EH (v:=tV l) f e ⟨t,rfl⟩ g) (q F S H r (bt.refl ..) _ ⟨rfl,d⟩)
def P2(K:ax)(r:R2)(f:PV->PV->Option PV):Prop:=∀(F:ag->Prop) (H:Hp) (x y:PV) (v u:V) (Q:VK) (pv:PV),aO K H F x v->aO K H F y u->f x y=aa pv->(∀w g d,Al F g H d->aO K d g pv w->Q w d)->r v u H Q
def d2(f:PV->PV->Option PV)(m db:aj->R PV):aj->R PV:=λε=>(m ε).bind λx ε1=>(db ε1).bind λy d=>aB (f x y) d
theorem wW{r:R2}{f:PV->PV->Option PV}(I:P2 X.K r f)(K:DE X E a m)(J:DE X E b db){F:ag->Prop}{S:Nat->ag->Prop}{l:aj}{d:St}{H:Hp}{Q:VK}(D:aN X.K F S l d H)(h:Ok X.K E d F S H (d2 f m db l) (λpv _ s _ i=>∀v,aO X.K i s pv v->Q v i)):gA X a d H λx q=>gA X b d q λy p=>r x y p Q:=by
 refine K F S l d H _ D ((Ok.bind h).imp λx j T O q z W L v B=>?_);refine J T O j d q _ z ((Ok.bind L).imp λy A P N p G M g u C=>?_);cases e:f x y with
 |none=>rw[e]at g;exact g.elim
 |some pv=>rw[e]at g;exact I P p x y v u Q pv (B.grow M z.fit) C e λw s i al n=>g s N i (G.al al) al.grow w n
theorem cm{d:Operator}{r:R2}{f:PV->PV->Option PV}(j:bX X (jI d) r)(i:P2 X.K r f)(n:DE X E a m)(l:DE X E b db):DE X E (.BinOp a d b pos) (d2 f m db):=λF S q p H Q g h=>b8 (Hf j bB bB) (wW i n l g h)
theorem oR{d:CmpOp}{r:R2}{f:PV->PV->Option PV}(j:bX X (dw d) r)(i:P2 X.K r f)(p:DE X E a m)(n:DE X E b db)(l:lr d b=ak):DE X E (.Compare a [d] [b] pos) (d2 f m db):=λF S s q H Q g h=>b8 (NI j bB bB l) (wW i p n g h)
def km:PV->Option Bool
 |.bl b=>aa b
 |_=>ae
def dB(d:aj->R PV):aj->R Bool:=λε=>(d ε).bind λx ε1=>aB (km x) ε1
theorem FG{K:ax}{H:Hp}{F:ag->Prop}{x:PV}{v:V}{k:Bool}(h:aO K H F x v)(e:km x=aa k):v=.bl k:=by
 cases x <;> simp[km]at e;subst e;exact h
theorem mU{F:ag->Prop}{S:Nat->ag->Prop}{j:aj}{i:St}{H:Hp}{Q:Bool->Hp->Prop}{d:aj->R PV}(h:Ok X.K E i F S H (dB d j) (λk _ _ _ g=>Q k g)):Ok X.K E i F S H (d j) (λpv _ u _ g=>∀v,aO X.K g u pv v->∃k,v=.bl k/\Q k g):=by
 refine(Ok.bind h).imp λx l s q r p w f v n=>?_;cases e:km x with
 |none=>rw[e]at f;exact f.elim
 |some k=>rw[e]at f;exact⟨k,FG n e,f s q r p (bt.refl ..)⟩
theorem iD{d:CmpOp}{r:R2}{f:PV->PV->Option PV}(j:bX X (dw d) r)(i:P2 X.K r f)(p:DE X E a m)(n:DE X E b db)(l:lr d b=ak):DT X E (.Compare a [d] [b] pos) (dB (d2 f m db)):=λF S u s H Q g h=>ny (Dt j bB bB l) (wW (Q:=λx q=>∃k,x=.bl k/\Q k q) i p n g (mU h))
theorem qW{e:ay}{d:aj->R PV}(n:DE X E e d)(l:∀f,ml e X.env f=(do let v <-f;standAt e.pos;nG [v] (truthy v)):=by intro _;rfl):DT X E e (dB d):=λF S i g H Q j h=>ny (NR bB l) (n F S i g H _ j (mU h))
def qy(f g:PV->PV->Option PV)(m db o:aj->R PV):aj->R PV:=λj=>(m j).bind λx i=>(db i).bind λy d=>(aB ((f x y).bind km) d).bind λk d=>
 match k with
 |true=>(o d).bind λz h=>aB (g y z) h
 |false=>.ok (.bl ak) d
theorem Fv{r O:R2}{f g:PV->PV->Option PV}(hp:P2 X.K r f)(eX:P2 X.K O g)(ha:DE X E a m)(hb:DE X E b db)(hc:DE X E c o){F:ag->Prop}{S:Nat->ag->Prop}{B:aj}{j:St}{H:Hp}{Q:VK}(rl:aN X.K F S B j H)(h:Ok X.K E j F S H (qy f g m db o B) (λpv _ l _ i=>∀v,aO X.K i l pv v->Q v i)):yE r O (gA X a) (gA X b) (gA X c) j H Q:=by
 refine ha F S B j H _ rl ((Ok.bind h).imp λx A F1 S1 H1 N g1 h1 v rv=>?_);refine hb F1 S1 A j H1 _ N ((Ok.bind h1).imp λy n T L P r2 g2 d u M=>?_);cases e:f x y with
 |none=>rw[e]at d;exact d.elim
 |some pv=>
  rw[e]at d;refine hp T P x y v u _ pv (rv.grow g2 N.fit) M e λw l i al D=>?_;cases K:km pv with
  |none=>rw[jP,K]at d;exact d.elim
  |some k=>
   rw[jP,K]at d;refine⟨k,FG D K,?_⟩;have I:=r2.al al;cases k with
   |false=>exact mY (Ok.from d al.grow l L i I (bt.refl ..) _ rfl)
   |true=>
    have h3:Ok X.K E j T L P ((o n).bind λz s=>aB (g y z) s) (λpv _ l _ i=>∀v,aO X.K i l pv v->Q v i):=d;refine nj (hc l L n j i _ I ((Ok.bind (Ok.from h3 al.grow)).imp λz W F4 S4 H4 r4 g4 q Z G=>?_));cases J:g y z with
    |none=>rw[J]at q;exact q.elim
    |some pz=>rw[J]at q;exact eX F4 H4 y z u Z Q pz ((al.rep M).grow g4 I.fit) G J λY F5 H5 p C=>q F5 S4 H5 (r4.al p) p.grow Y C
theorem Pb{i d:CmpOp}{r j:R2}{f g:PV->PV->Option PV}(p:bX X (dw i) r)(w:bX X (dw d) j)(n:P2 X.K r f)(x:P2 X.K j g)(v:DE X E a m)(u:DE X E b db)(s:DE X E c o)(q:lastMarks [i,d] [b,c]=ak:=by with_unfolding_all rfl):DE X E (.Compare a [i,d] [b,c] pos) (qy f g m db o):=λF S z y H Q l h=>b8 (MJ p w bB bB bB q) (Fv n x v u s l h)
theorem IN{i d:CmpOp}{r j:R2}{f g:PV->PV->Option PV}(p:bX X (dw i) r)(w:bX X (dw d) j)(n:P2 X.K r f)(y:P2 X.K j g)(v:DE X E a m)(u:DE X E b db)(s:DE X E c o)(q:lastMarks [i,d] [b,c]=ak:=by with_unfolding_all rfl):DT X E (.Compare a [i,d] [b,c] pos) (dB (qy f g m db o)):=λF S B A H Q l h=>ny (Nb p w bB bB bB q) (Fv (Q:=λx z=>∃k,x=.bl k/\Q k z) n y v u s l (mU h))
variable{n A:aj->R Bool}{rest:List ay}
def DW(X:Cx)(E:XK)(e:ay)(d:aj->R Bool):Prop:=∀F S g f H Q,aN X.K F S g f H->Ok X.K E f F S H (d g) (λb _ _ _ i=>Q b i)->∀(h:Sem ai) af s,Inv X af f H s->aq (ar X.prog X.w) X.A (ml e X.env h) (TP X af f Q) X.xe s
def Jy(X:Cx)(e:ay):TT:=λd H Q=>∀(f:Sem ai) af s,Inv X af d H s->aq (ar X.prog X.w) X.A (ml e X.env f) (TP X af d Q) X.xe s
theorem Fx{e:ay}:PW X e (Jy X e):=λd f s _ _ _ I h=>h d f s I
theorem DW.dt{e:ay}{d:aj->R Bool}(h:DW X E e d):DT X E e d:=λF S ε f H Q g q=>⟨λi s I=>h F S ε f H Q g q _ i s I⟩
def sA(n A:aj->R Bool):aj->R Bool:=λf=>(n f).bind λk d=>match k with
 |true=>A d
 |false=>.ok ak d
def mP(n A:aj->R Bool):aj->R Bool:=λε=>(n ε).bind λk d=>match k with
 |true=>.ok ah d
 |false=>A d
def mT(n:aj->R Bool):aj->R Bool:=λf=>(n f).bind λk d=>.ok (!k) d
theorem HB(h:DT X E a n):DW X E (.BoolOp .And [a] pos) n:=λF S f d H Q g q i j s I=>My l5 i j s d H Q I (h F S f d H Q g q)
theorem yu(h:DT X E a n):DW X E (.BoolOp .Or [a] pos) n:=λF S f d H Q g q i j s I=>K4 l5 i j s d H Q I (h F S f d H Q g q)
theorem Kv(v:DT X E a n)(u:DW X E (.BoolOp .And (b::rest) pos) A):DW X E (.BoolOp .And (a::b::rest) pos) (sA n A):=λF S p d H Q r q w x s I=>by
 refine KR l5 Fx w x s d H Q I (v F S p d H _ r ((Ok.bind q).imp λk f l i j g y h=>?_));cases k with
 |true=>exact nj (u l i f d j Q g h)
 |false=>exact mY (h l i j g (bt.refl ..))
theorem yw(v:DT X E a n)(u:DW X E (.BoolOp .Or (b::rest) pos) A):DW X E (.BoolOp .Or (a::b::rest) pos) (mP n A):=λF S p d H Q r q w x s I=>by
 refine MI l5 Fx w x s d H Q I (v F S p d H _ r ((Ok.bind q).imp λk f l i j g y h=>?_));cases k with
 |true=>exact nj (h l i j g (bt.refl ..))
 |false=>exact mY (u l i f d j Q g h)
theorem qh(j:DT X E a n):DT X E (.UnaryOp .Not a pos) (mT n):=λF S g d H Q h q=>ny (Jh l5) (j F S g d H _ h ((Ok.bind q).imp λk f s p r i u l=>l s p r i (bt.refl ..)))
def n6(m db:aj->R PV):aj->R PV:=λf=>(dB m f).bind λk d=>match k with
 |true=>db d
 |false=>.ok (.bl ak) d
def MA(m db:aj->R PV):aj->R PV:=λf=>(dB m f).bind λk d=>match k with
 |true=>.ok (.bl ah) d
 |false=>db d
def zX(m:aj->R PV):aj->R PV:=λf=>(dB m f).bind λk d=>.ok (.bl (!k)) d
theorem Fw{d:aj->R PV}{r:Type}{D:r->aj->(ag->Prop)->(Nat->ag->Prop)->Hp->Prop}{k:Bool->aj->R r}{F:ag->Prop}{S:Nat->ag->Prop}{q:aj}{p:St}{H:Hp}{P:Bool->Hp->Prop}(h:Ok X.K E p F S H ((dB d q).bind k) D) (f:∀c g l j i,aN X.K l j g p i->bt (U S) (U j) F l H i->Ok X.K E p l j i (k c g) D->P c i):Ok X.K E p F S H (d q) (λpv _ z _ s=>∀v,aO X.K s z pv v->∃c,v=.bl c/\P c s):=by have w:=(Ok.bind h).imp (C':=λc g l j i=>P c i) λc g l j i u y x=>f c g l j i u y x;exact mU w
theorem vm{op}{d:aj->R PV}(h:DE X E a d):DE X E (.BoolOp op [a] pos) d:=λF S g f H Q i q=>b8 (J0 bB) (h F S g f H Q i q)
theorem tD(u:DE X E a m)(s:DE X E (.BoolOp .And (b::rest) pos) db):DE X E (.BoolOp .And (a::b::rest) pos) (n6 m db):=λF S p f H Q r q=>by
 refine b8 (Hs bB bB) (u F S p f H _ r (Fw q λk d l i j g v h=>?_));cases k with
 |true=>exact nj (s l i d f j Q g h)
 |false=>exact mY (h l i j g (bt.refl ..) _ rfl)
theorem NL(j:DE X E a m):DE X E (.UnaryOp .Not a pos) (zX m):=λF S g d H Q h q=>b8 (Oc bB) (j F S g d H _ h (Fw q λk f s p r i u l=>l s p r i (bt.refl ..) _ rfl))
def b_{d:Type}(t:aj->R Bool)(m db:aj->R d):aj->R d:=λf=>(t f).bind λk ε1=>match k with
 |true=>m ε1
 |false=>db ε1
theorem Mr(s:DT X E c n)(v:DE X E a m)(u:DE X E b db):DE X E (.IfExp c a b pos) (b_ n m db):=λF S p f H Q r q=>by
 refine b8 (KY l5 bB bB) (s F S p f H _ r ((Ok.bind q).imp λk d l i j g w h=>?_));cases k with
 |true=>exact nj (v l i d f j Q g h)
 |false=>exact mY (u l i d f j Q g h)
def P1(K:ax)(r:V->Hp->VK->Prop)(f:PV->Option PV):Prop:=∀(F:ag->Prop) (H:Hp) (x:PV) (v:V) (Q:VK) (pv:PV),aO K H F x v->f x=aa pv->(∀w g d,Al F g H d->aO K d g pv w->Q w d)->r v H Q
def d1(f:PV->Option PV)(m:aj->R PV):aj->R PV:=λε=>(m ε).bind λx ε1=>aB (f x) ε1
theorem MX{r:V->Hp->VK->Prop}{f:PV->Option PV}(B:P1 X.K r f)(C:DE X E a m){F:ag->Prop}{S:Nat->ag->Prop}{j:aj}{d:St}{H:Hp}{Q:VK}(y:aN X.K F S j d H)(h:Ok X.K E d F S H (d1 f m j) (λpv _ q _ i=>∀v,aO X.K i q pv v->Q v i)):gA X a d H λx p=>r x p Q:=by
 refine C F S j d H _ y ((Ok.bind h).imp λx s G D p z I g v u=>?_);cases e:f x with
 |none=>rw[e]at g;exact g.elim
 |some pv=>rw[e]at g;exact B G p x v Q pv u e λw q i al l=>g q D i (z.al al) al.grow w l
theorem ni{d:UnaryOp}{r:V->Hp->VK->Prop}{f:PV->Option PV}(j:xo X (unaryOp d) r)(i:P1 X.K r f)(l:DE X E a m):DE X E (.UnaryOp d a pos) (d1 f m):=λF S q p H Q g h=>b8 (N4 j bB) (MX i l g h)
end
def n5(X:Cx)(d:List ay):TA:=λb H Q=>Bx (∀a c s,Inv X c b H s->aq (ar X.prog X.w) X.A (spliced (cY a (aQ d X.env))) (AP X c b Q) X.xe s)
def DA(X:Cx)(E:XK)(h:List ay)(d:aj->R (List PV)):Prop :=
 ∀F S c a H Q,aN X.K F S c a H->Ok X.K E a F S H (d c) (λb _ i _ g=>∀f,ba X.K g i b f->Q f g)->n5 X h a H Q
section
variable{X:Cx}{E:XK}{a b c e:ay}{es:List ay}{B db D d:aj->R PV}{j:aj->R (List PV)}{pos:Pos}
theorem ir{es:List ay}:PA X es (n5 X es):=λpos f s _ _ _ I h=>h.run pos f s I
theorem oj{t:TA}(h:PA X es t){f:St}{H:Hp}{Q:List V->Hp->Prop}(q:t f H Q):n5 X es f H Q:=⟨λpos g s I=>h pos g s f H Q I q⟩
def aU:aj->R (List PV):=λε=>.ok [] ε
def aI(d:aj->R PV)(j:aj->R (List PV)):aj->R (List PV):=λε=>(d ε).bind λx ε1=>(j ε1).bind λxs f=>.ok (x::xs) f
theorem bK:DA X E [] aU:=λF S i g H Q f h=>oj i8 (h F S H f (bt.refl ..) _ rfl)
theorem Lk(w:DE X E e d)(u:DA X E es j)(s:aQ (e::es) X.env=(ak,aM e X.env)::aQ es X.env:=by rfl):DA X E (e::es) (aI d j):=λF S m g H Q p h=>by refine oj (gZ bB ir s) (w F S m g H _ p ((Ok.bind h).imp λx f L G J i N z v o=>?_));refine u L G f g J _ i ((Ok.bind z).imp λM l K C I q A y n r=>?_);exact y K C I q (bt.refl ..) _ ⟨v,n,rfl,o.grow A i.fit,r⟩
theorem aN.more{K:ax}{F N:ag->Prop}{S:Nat->ag->Prop}{n:aj}{m:St}{H:Hp}(r:aN K F S n m H)(p:∀b,N b->¬U S b/\∃o,H b=aa o):aN K (λb=>F b\/N b) S n m H:=by
 have mono:∀x v,aO K H F x v->aO K H (λb=>F b\/N b) x v:=aO.mono (λ_ h=>.inl h) (λ_ _ _ q=>q) (λ_ _ q _=>q);have f:∀x v,ba K H F x v->ba K H (λb=>F b\/N b) x v:=ba.mono (λ_ h=>.inl h) (λ_ _ _ q=>q) (λ_ _ q _=>q);refine⟨r.len,λb h=>h.elim (r.ex b) λz=>(p b z).2,λi pv e=>?_,λi s e=>?_,λi b h=>?_,r.dist⟩
 .obtain⟨v,l,g⟩:=r.val i pv e;exact⟨v,l,mono _ _ g⟩
 .obtain⟨v,l,g⟩:=r.own i s e;exact⟨v,l,g.mono mono f λ_ _ _ z=>z⟩
 .obtain⟨l,g,u⟩:=r.foot i b h;exact⟨l,λz=>z.elim g λw=>(p b w).1 ⟨i,h⟩,u⟩
def qi:PO->Option PV
 |.lst f=>aa (.lst f)
 |_=>ae
def dF(d:aj->R PO):aj->R PV:=λε=>(d ε).bind λf ε1=>aB (qi f) ε1
theorem DN.de{d:aj->R PO}(h:DN X E e d):DE X E e (dF d):=λF S ε r H Q v q=>by
 unfold dF at q;refine h F S ε r H Q v ?_;cases i:d ε with
 |no=>rw[i]at q;exact q.elim
 |er c s=>rw[i]at q;exact q
 |ok A ε1=>
  rw[i]at q;intro N l m x g a p G n;cases A with
  |dK f=>exact q.elim
  |lls O=>exact q.elim
  |ins C fs=>exact q.elim
  |dT f=>exact q.elim
  |dN f=>exact q.elim
  |inl C fs y xs=>exact q.elim
  |lst xs=>
   have L:∀b,p b->¬U l b/\∃o,m b=aa o:=λb z=>let ⟨_,_,x3,o,x4,_⟩:=n b z;⟨x3,o,x4⟩
   obtain⟨⟨u,J,I⟩,K⟩:=G;have M:bt (U S) (U l) F (λb=>N b\/p b) H m:=⟨λb z=>.inl (g.fro b z),g.keep,g.there,λb z=>z.elim (g.fnew b) λw=>.inr (.inl (n b w).1),g.onew⟩
   exact q _ l m (x.more L) M _ ⟨a,u,rfl,.inl J,.inr ((K a).mpr rfl),ba.mono (λ_ z=>.inl z) (λ_ _ _ z=>z) (λ_ _ z _=>z) _ _ I⟩
def g8(xs:List PV):Option PV:=if xs.length<=1000 then aa (.tup xs)else ae
def jX(f:List PV):Option PO:=if f.length<=1000 then aa (.lst f)else ae
def dL{g:Type}(f:List PV->Option g)(j:aj->R (List PV)):aj->R g:=λε=>(j ε).bind λxs ε1=>aB (f xs) ε1
def PL(K:ax)(r:List V->Hp->VK->Prop)(f:List PV->Option PV):Prop:=∀(F:ag->Prop) (H:Hp) (h:List PV) (i:List V) (Q:VK) (pv:PV),ba K H F h i->f h=aa pv->(∀w l g,Al F l H g->aO K g l pv w->Q w g)->r i H Q
def kr(K:ax)(r:List V->Hp->VK->Prop)(f:List PV->Option PO):Prop:=∀(F:ag->Prop) (H:Hp) (i:List PV) (l:List V) (Q:VK) (m:PO),(∀a,F a->∃o,H a=aa o)->ba K H F i l->f i=aa m ->
 (∀a h g n,Al F h H g->eT K g h m a n->(∀b,n b->H b=ae/\¬h b/\∃o,g b=aa o/\eu o)->Q (.ref a) g)->r l H Q
theorem zz{r:List V->Hp->VK->Prop}{f:List PV->Option PV}(A:PL X.K r f)(C:DA X E es j){F:ag->Prop}{S:Nat->ag->Prop}{n:aj}{g:St}{H:Hp}{Q:VK}(x:aN X.K F S n g H)(h:Ok X.K E g F S H (dL f j n) (λpv _ q _ m=>∀v,aO X.K m q pv v->Q v m)):n5 X es g H λi p=>r i p Q:=by
 refine C F S n g H _ x ((Ok.bind h).imp λi s I G p y J l u z=>?_);cases e:f i with
 |none=>rw[e]at l;exact l.elim
 |some pv=>rw[e]at l;exact A I p i u Q pv z e λw q m al o=>l q G m (y.al al) al.grow w o
theorem og{O i F l:ag->Prop}{H f:Hp}(g:bt O i F l H f){b:ag}(h:f b=ae):H b=ae:=by
 cases q:H b with
 |none=>rfl
 |some o=>obtain⟨o',e⟩:=g.there b o q;rw[h]at e;cases e
theorem sW{r:List V->Hp->VK->Prop}{f:List PV->Option PO}(O:kr X.K r f)(P:DA X E es j){F:ag->Prop}{S:Nat->ag->Prop}{s:aj}{l:St}{H:Hp}{Q:VK}(L:aN X.K F S s l H)(h:Ok X.K E l F S H (dL f j s) (λv _ q Z g=>∀a p,eT X.K g q v a p->(∀b,p b->H b=ae/\¬q b/\¬U Z b/\∃o,g b=aa o/\eu o)->Q (.ref a) g)):n5 X es l H λm x=>r m x Q:=by
 refine P F S s l H _ L ((Ok.bind h).imp λm C F1 Y x u T n K N=>?_);cases e:f m with
 |none=>rw[e]at n;exact n.elim
 |some v=>
  rw[e]at n;refine O F1 x m K Q v u.ex N e λa q g p al M W=>n q Y g (u.al al) al.grow a p M λb z=>?_;obtain⟨y,J,o,I,G⟩:=W b z;refine⟨og T y,J,λ⟨i,w⟩=>?_,o,I,G⟩;obtain⟨_,_,o',A,_⟩:=u.foot i b w;rw[y]at A;cases A
theorem yX{n:Nat}(h:n<=1000):n<=a8:=kc (Nx h)
theorem Kj{K:ax}:PL K (λf H Q=>f.length<=a8/\∀p,H p=ae->Q (.ref p) (upd H p (.tup f))) g8:=λF H f i Q pv g e q=>by
 unfold g8 at e;split at e
 .cases e;refine⟨by rw[g.len];exact yX (by assumption),λp h=>q _ F _ (Al.new0 h) ⟨p,i,rfl,upd_same,(Al.new0 h).reps g⟩⟩
 .cases e
theorem vY{K:ax}{F:ag->Prop}{H:Hp}{l:ag}{g:List PV}{f:List V}(i:H l=ae)(h:ba K H F g f):eT K (upd H l (.lst f)) F (.lst g) l (λb=>b=l):=⟨⟨f,upd_same,(Al.new0 i).reps h⟩,λb=>nO⟩
theorem wd{F:ag->Prop}{H:Hp}{l:ag}{o:HO}(g:H l=ae)(i:∀a,F a->∃o,H a=aa o)(h:eu o):∀b,b=l->H b=ae/\¬F b/\∃f,(upd H l o) b=aa f/\eu f:=λb z=>by
 subst z;exact⟨g,(λw=>by obtain⟨o,q⟩:=i b w;rw[g]at q;cases q),o,upd_same,h⟩
theorem Ow{K:ax}:kr K (λf H Q=>f.length<=a8/\∀p,H p=ae->Q (.ref p) (upd H p (.lst f))) jX:=λF H f l Q m i h e q=>by
 unfold jX at e;split at e
 .cases e;exact⟨by rw[h.len];exact yX (by assumption),λp g=>q p F _ _ (Al.new0 g) (vY g h) (wd g i trivial)⟩
 .cases e
theorem vQ{x1}(h:DA X E es j):DE X E (.Tuple es x1 pos) (dL g8 j):=λF S i g H Q f q=>b8 (Ja ir) (zz Kj h f q)
theorem vR(h:DA X E es j):DN X E (.List es pos) (dL jX j):=λF S i g H Q f q=>b8 (OS ir) (sW Ow h f q)
theorem zJ(h:DA X E es j):DE X E (.List es pos) (dF (dL jX j)):=(vR h).de
variable{x:Str}{p:Pos}{m T:String}{r:List V->Hp->VK->Prop}{f:List PV->Option PV}{A:List PV->Option PO}
theorem eK(u:eG X (.builtin m) r)(i:PL X.K r f)(n:X.mg x=ae)(h:d7 x=aa (.builtin m))(v:DA X E (e::es) j)(o:Gl X x:=by rfl)(l:x≠"__name__":=by decide)(w:(x==("__debug__":Str))=ak:=by decide)(s:aQ (e::es) X.env=(ak,aM e X.env)::aQ es X.env:=by rfl) (y:(cY pos (aQ es X.env)).any (·.1)=ak:=by rfl):DE X E (.Call (.Name x p) (e::es) [] pos) (dL f j):=λF S C z H Q g q=>b8 (nz u o n h ir l w s y) (zz i v g q)
theorem yB(u:eG X (.builtin m) r)(i:kr X.K r A)(n:X.mg x=ae)(h:d7 x=aa (.builtin m))(v:DA X E (e::es) j)(o:Gl X x:=by rfl)(l:x≠"__name__":=by decide)(w:(x==("__debug__":Str))=ak:=by decide)(s:aQ (e::es) X.env=(ak,aM e X.env)::aQ es X.env:=by rfl) (y:(cY pos (aQ es X.env)).any (·.1)=ak:=by rfl):DN X E (.Call (.Name x p) (e::es) [] pos) (dL A j):=λF S C z H Q g q=>b8 (nz u o n h ir l w s y) (sW i v g q)
theorem xm(u:eG X (.type T) r)(i:PL X.K r f)(n:X.mg x=ae)(h:d7 x=aa (.type T))(v:DA X E (e::es) j)(o:Gl X x:=by rfl)(l:x≠"__name__":=by decide)(w:(x==("__debug__":Str))=ak:=by decide)(s:aQ (e::es) X.env=(ak,aM e X.env)::aQ es X.env:=by rfl) (y:(cY pos (aQ es X.env)).any (·.1)=ak:=by rfl):DE X E (.Call (.Name x p) (e::es) [] pos) (dL f j):=λF S C z H Q g q=>b8 (tF u o n h ir l w s y) (zz i v g q)
theorem y4(u:eG X (.type T) r)(i:kr X.K r A)(n:X.mg x=ae)(h:d7 x=aa (.type T))(v:DA X E (e::es) j)(o:Gl X x:=by rfl)(l:x≠"__name__":=by decide)(w:(x==("__debug__":Str))=ak:=by decide)(s:aQ (e::es) X.env=(ak,aM e X.env)::aQ es X.env:=by rfl) (y:(cY pos (aQ es X.env)).any (·.1)=ak:=by rfl):DN X E (.Call (.Name x p) (e::es) [] pos) (dL A j):=λF S C z H Q g q=>b8 (tF u o n h ir l w s y) (sW i v g q)
theorem gS{r:R2}{f:PV->PV->Option PV}(l:lR X r)(n:P2 X.K r f)(q:DE X E a B)(o:DE X E b db)(i:Ez b:=by exact λ_ _=>rfl):DE X E (.Subscript a b pos) (d2 f B db):=λF S u s H Q g h=>b8 (KH l bB bB i) (wW n q o g h)
def zw(X:Cx)(e:Option ay):TO:=λg H Q=>Bx (∀h s,Inv X h g H s->aq (ar X.prog X.w) X.A (evalPart e X.env) (λu l=>∃o i,Inv X h g i l/\mq u o/\Q o i) X.xe s)
theorem BZ{o:Option ay}:L2.PO X o (zw X o):=λg s _ _ _ I h=>h.run g s I
theorem FQ{o:Option ay}{t:TO}(h:L2.PO X o t){g:St}{H:Hp}{Q:Option Int->Hp->Prop}(q:t g H Q):zw X o g H Q:=⟨λi s I=>h i s g H Q I q⟩
def DO(X:Cx)(E:XK)(e:Option ay)(d:aj->R (Option Int)):Prop:=∀F S ε g H Q,aN X.K F S ε g H->Ok X.K E g F S H (d ε) (λo _ _ _ h=>Q o h)->zw X e g H Q
def cz:aj->R (Option Int):=λε=>.ok ae ε
def oP:PV->Option Int
 |.int i=>aa i
 |_=>ae
def ca(d:aj->R PV):aj->R (Option Int):=λε=>(d ε).bind λx ε1=>aB ((oP x).map aa) ε1
theorem jB:DO X E ae cz:=λF S l i H Q g h=>FQ Kt (h F S H g (bt.refl ..))
theorem iC(w:DE X E e d):DO X E (aa e) (ca d):=λF S o l H Q s h=>by
 refine FQ (Mq bB) (w F S o l H _ s ((Ok.bind h).imp λx n C y z u G g v q=>?_));cases x <;> first|exact(show False from g).elim|skip
 rename_i i;exact⟨i,q,g C y z u (bt.refl ..)⟩
def cg{i:Type}(f:PV->Option Int->Option Int->Option i)(d:aj->R PV)(o n:aj->R (Option Int)):aj->R i:=λε=>(d ε).bind λx ε1=>(o ε1).bind λl h=>(n h).bind λu g=>aB (f x l u) g
def Ej(K:ax)(r:V->Option Int->Option Int->Hp->VK->Prop)(f:PV->Option Int->Option Int->Option PV):Prop:=∀(F:ag->Prop) (H:Hp) (x:PV) (h i:Option Int) (v:V) (Q:VK) (pv:PV),aO K H F x v->f x h i=aa pv->(∀w l g,Al F l H g->aO K g l pv w->Q w g)->r v h i H Q
theorem jd{r:V->Option Int->Option Int->Hp->VK->Prop}{f:PV->Option Int->Option Int->Option PV}{C G:Option ay}{J I:aj->R (Option Int)}{P:Pos}(Y:lW X r)(Z:Ej X.K r f)(he:DE X E e d)(hl:DO X E C J)(W:DO X E G I):DE X E (.Subscript e (.Slice C G ae P) pos) (cg f d J I):=λF S L i H Q N h=>by
 refine b8 (Ly Y bB BZ BZ) (he F S L i H _ N ((Ok.bind h).imp λx o F1 S1 H1 z g1 h1 v M=>?_));refine hl F1 S1 o i H1 _ z ((Ok.bind h1).imp λl n F2 S2 H2 y g2 h2=>?_);refine W F2 S2 n i H2 _ y ((Ok.bind h2).imp λu K F3 S3 H3 O g3 g=>?_);cases s:f x l u with
 |none=>rw[s]at g;exact g.elim
 |some pv=>rw[s]at g;exact Z F3 H3 x l u v Q pv ((M.grow g2 z.fit).grow g3 y.fit) s λw F' H' al q=>g F' S3 H' (O.al al) al.grow w q
end
inductive aF where
 |next|ret (s:Slot)|brk|cont
def qK(K:ax)(H:Hp)(F:ag->Prop)(s:Slot)(v:V)(c:ag->Prop):Prop:=match s with
 |.val pv=>aO K H F pv v/\∀b,¬c b
 |.own d=>∃a,v=.ref a/\eT K H F d a c
 |.none=>False
def jw(b:List Nat)(c a:St):Prop:=∀i∈b,a[i]?=c[i]?
theorem jw.refl(a:List Nat)(b:St):jw a b b:=λ_ _=>rfl
theorem jw.trans{c:List Nat}{g f d:St}(a:jw c g f)(b:jw c f d):jw c g d:=λi h=>(b i h).trans (a i h)
theorem jw.set{a:List Nat}{b:St}{i:Nat}{x:Option V}(h:i∉a):jw a b (b.set i x):=λj c=>by rw[ff (by rintro rfl;exact h c)]
def wY(f:ag->Prop)(c:Nat->ag->Prop)(d:Hp)(a:ag->Prop):Prop:=∀b,a b->¬f b/\¬U c b/\∃o,d b=aa o/\eu o
def gG(K:ax)(E:XK)(i:List Nat)(j:St)(F:ag->Prop)(S:Nat->ag->Prop)(H:Hp)(r:R aF)(D:j0):Prop:=match r with
 |.ok .next f=>∀g h a d,aN K g h f a d->bt (U S) (U h) F g H d->jw i j a->D.nx a d
 |.ok .brk f=>∀g h a d,aN K g h f a d->bt (U S) (U h) F g H d->jw i j a->D.bk a d
 |.ok .cont f=>∀g h a d,aN K g h f a d->bt (U S) (U h) F g H d->jw i j a->D.ct a d
 |.ok (.ret s) f=>∀v g h a d l,aN K g h f a d->bt (U S) (λb=>U h b\/l b) F g H d->jw i j a->qK K d g s v l->wY g h d l->D.rt v d
 |.er c f=>∀x g h a d,aN K g h f a d->bt (U S) (U h) F g H d->jw i j a->E c x d
 |.no=>False
def DS(X:Cx)(E:XK)(b:List Nat)(f:bf)(d:aj->R aF):Prop:=∀F S c a H D,aN X.K F S c a H->gG X.K E b a F S H (d c) D->wpS X f D a H
def ij(X:Cx)(E:XK)(b:List Nat)(f:List bf)(d:aj->R aF):Prop:=∀F S c a H D,aN X.K F S c a H->gG X.K E b a F S H (d c) D->oy X f D a H
section
variable{K:ax}{E:XK}{b:List Nat}{d i:St}{F m:ag->Prop}{S j:Nat->ag->Prop}{H l:Hp}{D:j0}
theorem gG.from{r:R aF}(h:gG K E b d F S H r D)(g:bt (U S) (U j) F m H l)(p:jw b d i):gG K E b i m j l r D:=by
 cases r with
 |no=>exact h
 |er c y=>exact λx w q a u n g' o=>h x w q a u n (g.trans g') (p.trans o)
 |ok f y=>
  cases f with
  |next=>exact λw q a u n g' o=>h w q a u n (g.trans g') (p.trans o)
  |brk=>exact λw q a u n g' o=>h w q a u n (g.trans g') (p.trans o)
  |cont=>exact λw q a u n g' o=>h w q a u n (g.trans g') (p.trans o)
  |ret s=>exact λv w q a u z n g' o=>h v w q a u z n (g.trans g') (p.trans o)
theorem gG.bindE{o:Type}{r:R o}{k:o->aj->R aF}(h:gG K E b d F S H (r.bind k) D):Ok K E d F S H r (λa f m j l=>gG K E b d m j l (k a f) D):=by
 cases r with
 |no=>exact h
 |er c g=>exact λx u q s p n=>h x u q d s p n (jw.refl _ _)
 |ok a g=>exact λu q s p n=>h.from n (jw.refl _ _)
end
section
variable{X:Cx}{E:XK}{pin:List Nat}{l:bf}{rest:List bf}{d d1 d2:aj->R aF}{e:ay}{de:aj->R PV}{pos:Pos}
def cX:aj->R aF:=λa=>.ok .next a
theorem il:ij X E pin [] cX:=λF S c a H D b h=>zN IJ (h F S a H b (bt.refl ..) (jw.refl _ _))
def aD(d1 d2:aj->R aF):aj->R aF:=λε=>match d1 ε with
 |.ok .next ε1=>d2 ε1
 |r=>r
theorem bh(u:DS X E pin l d1)(q:ij X E pin rest d2):ij X E pin (l::rest) (aD d1 d2):=λF S i m H D n h=>by
 refine zN (Hz Dd oN) (u F S i m H {D with nx:=oy X rest D} n ?_);unfold aD at h;split at h
 .rename_i g w;rw[w];exact λz x b y o v p=>q z x g b y D o (h.from v p)
 .rename_i r j;generalize d1 i=r1 at h j;cases r1 with
  |no=>exact h
  |er c a=>exact h
  |ok f a=>
   cases f with
   |next=>exact absurd rfl (j a)
   |brk=>exact h
   |cont=>exact h
   |ret s=>exact h
theorem bz(f:DS X E pin l d1):ij X E pin [l] d1:=λF S b a H D c h=>zN (IG Dd) (f F S b a H D c h)
def Ab(f:aF):aj->R aF:=λa=>.ok f a
def OG(d:aj->R PV):aj->R aF:=λb=>(d b).bind λ_ a=>.ok .next a
def cC(d:aj->R PV):aj->R aF:=λε=>(d ε).bind λx ε1=>.ok (.ret (.val x)) ε1
theorem bt.cup{O c F i:ag->Prop}{H f:Hp}(g:bt O c F i H f):bt O (λb=>c b\/False) F i H f:=⟨g.fro,g.keep,g.there,g.fnew,λa h=>h.elim (g.onew a) lv⟩
theorem dY(j:DE X E e de):DS X E pin (.Return (aa e) pos) (cC de):=λF S c a H D g h=>gf (yF bB) (j F S c a H _ g (h.bindE.imp λx b p n o i q m v f=>m v p n a o (λ_=>False) i (bt.refl ..).cup (jw.refl _ _) ⟨f,λ_ z=>z⟩ λ_ z=>z.elim))
theorem OU:DS X E pin (.Return ae pos) (Ab (.ret (.val .non))):=λF S c a H D b h=>gf Pm (h _ F S a H (λ_=>False) b (bt.refl ..).cup (jw.refl _ _) ⟨rfl,λ_ z=>z⟩ λ_ z=>z.elim)
def j5(i:Nat):aj->R aF:=λa=>match a[i]? with
 |some (.own b)=>.ok (.ret (.own b)) (a.set i .none)
 |_=>.no
theorem aN.drop{K:ax}{F:ag->Prop}{S:Nat->ag->Prop}{ε:aj}{n:St}{H:Hp}(r:aN K F S ε n H)(i:Nat):aN K F (λj b=>S j b/\j≠i) (ε.set i .none) n H:=by
 have no:∀{j s},(ε.set i .none)[j]?=aa s->s≠.none->j≠i/\ε[j]?=aa s:=λ{j s} e q=>by
  by_cases c:i=j
  .subst c;by_cases u:i<ε.length
   .rw[h_ u]at e;exact absurd (dP e).symm q
   .rw[uh (by rw[iP];lia)]at e;cases e
  .rw[ff c]at e;exact⟨eD c,e⟩
 refine⟨by rw[iP];exact r.len,r.ex,λj pv e=>r.val j pv (no e (by intro z;cases z)).2,λj f e=>?_,λj b h=>?_,λj k b m g=>r.dist j k b m.1 g.1⟩
 .obtain⟨c,e⟩:=no e (by intro z;cases z);obtain⟨a,m,g⟩:=r.own j f e;have v:(λb=>S j b/\j≠i)=S j:=by funext b;simp[c]
  exact⟨a,m,by rw[v];exact g⟩
 .obtain⟨⟨f,p⟩,o⟩:=r.foot j b h.1;exact⟨⟨f,by rw[ff (eD h.2)];exact p⟩,o⟩
theorem ww(i:Nat){x:Str}{p:Pos}(s:X.N[i]?=aa x:=by rfl)(n:dA X.env.scope x:=by eq_refl)(r:(x==("__debug__":Str))=ak:=by decide)(v:(x==("__classdict__":Str))=ak:=by decide):DS X E pin (.Return (aa (.Name x p)) pos) (j5 i):=λF S y f H D c h=>by
 unfold j5 at h;split at h
 .rename_i g e;obtain⟨a,u,m⟩:=c.own i g e;refine gf (yF (eI s n r v)) ⟨_,u,h _ F (λj b=>S j b/\j≠i) f H (S i) (c.drop i) ⟨λ_ z=>z,λ_ _ z _=>z,λ_ o z=>⟨o,z⟩,λ_ z=>.inl z,λb z=>?_⟩ (jw.refl _ _) ⟨a,rfl,m⟩ λb z=>?_⟩
  .rcases z with⟨j,z,_⟩|z
   .exact .inl ⟨j,z⟩
   .exact .inl ⟨i,z⟩
  .exact⟨(c.foot i b z).2.1,λ⟨j,w,q⟩=>q (c.dist j i b w z),(c.foot i b z).2.2⟩
 .exact h.elim
theorem aN.set{K:ax}{F:ag->Prop}{S:Nat->ag->Prop}{f:aj}{m:St}{H:Hp}{i:Nat}{pv:PV}{v:V}(r:aN K F S f m H)(h:aO K H F pv v):aN K F (λj b=>S j b/\j≠i) (f.set i (.val pv)) (m.set i (aa v)) H:=by
 have s:=r.drop i;have len:(f.set i (.val pv)).length=(m.set i (aa v)).length:=by rw[iP,iP];exact r.len
 refine⟨len,r.ex,λj p e=>?_,λj n e=>?_,λj b h=>?_,s.dist⟩
 .by_cases c:i=j
  .subst c;have g:i<f.length:=by have:=(dG.mp e).1;rw[iP]at this;exact this
   rw[h_ g]at e;cases e;exact⟨v,h_ (by rw[<-r.len];exact g),h⟩
  .rw[ff c]at e;obtain⟨w,q,o⟩:=r.val j p e;exact⟨w,by rw[ff c];exact q,o⟩
 .have c:i≠j:=by
   rintro rfl;have g:i<f.length:=by have:=(dG.mp e).1;rw[iP]at this;exact this
   rw[h_ g]at e;cases e
  rw[ff c]at e;obtain⟨a,q,o⟩:=r.own j n e;have y:(λb=>S j b/\j≠i)=S j:=by funext b;simp[eD c]
  exact⟨a,by rw[ff c];exact q,by rw[y];exact o⟩
 .obtain⟨⟨n,u⟩,x⟩:=s.foot j b h;refine⟨⟨n,?_⟩,x⟩;rw[ff (eD h.2)]at u ⊢;exact u
theorem bt.less{S:Nat->ag->Prop}{F:ag->Prop}{H:Hp}(i:Nat):bt (U S) (U λj b=>S j b/\j≠i) F F H H:=⟨λ_ z=>z,λ_ _ z _=>z,λ_ o z=>⟨o,z⟩,λ_ z=>.inl z,λb ⟨j,z⟩=>.inl ⟨j,z.1⟩⟩
theorem aN.setOwn{K:ax}{F:ag->Prop}{S:Nat->ag->Prop}{q:aj}{x:St}{H:Hp}{i:Nat}{s:PO}{a:ag}{n:ag->Prop}(r:aN K F S q x H)(o:i<q.length)(h:eT K H F s a n)(u:wY F S H n):aN K F (λj b=>(S j b/\j≠i)\/(j=i/\n b)) (q.set i (.own s)) (x.set i (aa (.ref a))) H:=by
 have B:=r.drop i;refine⟨by rw[iP,iP];exact r.len,r.ex,λj p e=>?_,λj g e=>?_,λj b h=>?_,λj k b f c=>?_⟩
 .have m:i≠j:=by rintro rfl;rw[h_ o]at e;cases e
  rw[ff m]at e;obtain⟨w,f,c⟩:=r.val j p e;exact⟨w,by rw[ff m];exact f,c⟩
 .by_cases m:i=j
  .subst m;rw[h_ o]at e;cases e;have v:(λb=>(S i b/\i≠i)\/(i=i/\n b))=n:=by funext b;simp
   exact⟨a,h_ (by rw[<-r.len];exact o),by rw[v];exact h⟩
  .rw[ff m]at e;obtain⟨D,f,c⟩:=r.own j g e;have v:(λb=>(S j b/\j≠i)\/(j=i/\n b))=S j:=by funext b;simp[eD m]
   exact⟨D,by rw[ff m];exact f,by rw[v];exact c⟩
 .rcases h with h|⟨rfl,h⟩
  .obtain⟨⟨g,y⟩,C⟩:=B.foot j b h;refine⟨⟨g,?_⟩,C⟩;rw[ff (eD h.2)]at y ⊢;exact y
  .obtain⟨A,G,z⟩:=u b h;exact⟨⟨s,h_ o⟩,A,z⟩
 .rcases f with f|⟨rfl,f⟩ <;> rcases c with c|⟨rfl,c⟩
  .exact r.dist j k b f.1 c.1
  .exact absurd ⟨j,f.1⟩ (u b c).2.1
  .exact absurd ⟨k,c.1⟩ (u b f).2.1
  .rfl
def br(i:Nat)(d:aj->R PV):aj->R aF:=λa=>(d a).bind λx ε1=>.ok .next (ε1.set i (.val x))
theorem dQ(i:Nat){x:Str}{p:Pos}(u:X.N.Nodup)(s:DE X E e de)(o:i∉pin:=by decide)(q:X.N[i]?=aa x:=by rfl)(m:Loc X.env.scope x:=by first|exact Or.inl rfl|exact Or.inr rfl)(n:jj e (aa (.Name x p)) pos.line X.env=pure ak:=by rfl)(r:X.fn x=ah\/X.env.scope.names.lookup x=aa .local:=by first|exact .inl rfl|exact .inr rfl):DS X E pin (.Assign [.Name x p] e pos) (br i de):=λF S c a H D g h=>gf (FK u q m bB n r) (s F S c a H _ g (h.bindE.imp λx b z B y j A w v f=>w z _ _ y (j.set f) (bt.less i) (jw.set o)))
def dS(i:Nat)(d:aj->R PO):aj->R aF:=λε=>(d ε).bind λx ε1=>if i<ε1.length then .ok .next (ε1.set i (.own x))else .no
theorem lp(i:Nat){x:Str}{p:Pos}{dn:aj->R PO}(K:X.N.Nodup)(J:DN X E e dn)(C:i∉pin:=by decide)(G:X.N[i]?=aa x:=by rfl)(A:Loc X.env.scope x:=by first|exact Or.inl rfl|exact Or.inr rfl)(B:jj e (aa (.Name x p)) pos.line X.env=pure ak:=by rfl)(I:X.fn x=ah\/X.env.scope.names.lookup x=aa .local:=by first|exact .inl rfl|exact .inr rfl):DS X E pin (.Assign [.Name x p] e pos) (dS i dn):=λF S q o H D u h=>by
 refine gf (FK K G A bB B I) (J F S q o H _ u ?_);unfold dS at h;cases n:dn q with
 |no=>rw[n]at h;exact h.elim
 |er c s=>rw[n]at h;exact λx Q M O w L=>h x Q M o O w L (jw.refl _ _)
 |ok T g=>
  rw[n]at h;simp only[R.bind_ok]at h;intro P Y N v f a W y r;by_cases m:i<g.length
  .rw[if_pos m]at h;refine h P _ _ N (v.setOwn m y λb z=>(r b z).2) ⟨f.fro,f.keep,f.there,f.fnew,λb ⟨j,z⟩=>?_⟩ (jw.set C);rcases z with z|⟨_,z⟩
   .exact f.onew b ⟨j,z.1⟩
   .exact .inr (r b z).1
  .rw[if_neg m]at h;exact h.elim
theorem ip{c:ay}{a b:List bf}{t:aj->R Bool}(r:DT X E c t)(u:ij X E pin a d1)(s:ij X E pin b d2):DS X E pin (.If c a b pos) (b_ t d1 d2):=λF S p g H D q h=>by
 refine gf (O5 l5 oN oN) (r F S p g H _ q (h.bindE.imp λk f o m n i v j=>?_));cases k with
 |true=>exact nj (u o m f g n D i j)
 |false=>exact mY (s o m f g n D i j)
def yZ:aj->R aF:=λ_=>.no
theorem FJ{a:List bf}:ij X E pin a yZ:=λ_ _ _ _ _ _ _ h=>h.elim
def cV(r:R aF):R aF:=match r with
 |.er _ _=>.no
 |r=>r
theorem lg(h:DS X.nox E0 pin l d):DS X E pin l (λa=>cV (d a)):=λF S a b H D i q=>Bx.mk λm s I=>by
 have q:gG X.K E pin b F S H (cV (d a)) D:=q;have j:gG X.K E0 pin b F S H (d a) D:=by
  cases e:d a with
  |no=>rw[e]at q;exact q
  |er c g=>rw[e]at q;exact q.elim
  |ok f g=>rw[e]at q;cases f <;> exact q
 exact fH ((h F S a b H D i j).run m s (I.wish _)) (λ_ _ z=>z.unwish) λ_ _ z=>z.elim
def oV(X:Cx)(f a:ay):TI:=λb H h=>Bx (∀c s,Inv X c b H s->aq (ar X.prog X.w) X.A (aM a X.env) (λv g=>aq (ar X.prog X.w) X.A (mo v) (vF X c b f h) X.xe g) X.xe s)
theorem tZ{b a:ay}:PI X b a (oV X b a):=λc s _ _ _ I h=>h.run c s I
theorem JQ{f a:ay}{t:TI}(h:PI X f a t){b:St}{H:Hp}{c:It->Hp->Prop}(q:t b H c):oV X f a b H c:=⟨λg s I=>h g s b H c I q⟩
def DI(X:Cx)(E:XK)(p a:ay)(d:aj->R (List PV)):Prop:=∀F S ε c H m,aN X.K F S ε c H ->
 Ok X.K E c F S H (d ε) (λg _ o q i=>∀J f n,ba X.K i o g f->f.length<=a8->Walk J f n->(∀h j b,bt (U q) (U h) o j i b->n b)->m J i)->oV X p a c H m
def hZ(i:Nat)(c:aj->R aF):List PV->aj->R aF
 |[],b=>.ok .next b
 |x::f,b=>match c (b.set i (.val x))with
  |.ok .next a=>hZ i c f a
  |.ok .cont a=>hZ i c f a
  |.ok .brk a=>.ok .next a
  |r=>r
def eU(i:Nat)(c:aj->R (List PV))(db:aj->R aF):aj->R aF:=λε=>(c ε).bind λb a=>hZ i db b a
theorem m_(i:Nat){x:Str}{p:Pos}{o:ay}{r:List bf}{di:aj->R (List PV)}{G:aj->R aF}(uS:xu (ar X.prog X.w) X.A X.env X.xe)(hc:X.calm=ah)(hN:X.N.Nodup)(hi:DI X E (.Name x p) o di)(hb:ij X E pin r G)(hp:i∉pin:=by decide) (B:X.N[i]?=aa x:=by rfl) (P:Loc X.env.scope x:=by first|exact Or.inl rfl|exact Or.inr rfl) (hs:∀x,kN o X.env x=pure x:=by intro _;rfl)(hf:X.fn x=ah\/X.env.scope.names.lookup x=aa .local:=by first|exact .inl rfl|exact .inr rfl):DS X E pin (.For (.Name x p) o r [] pos) (eU i di G):=λF S ε σ H D rl h=>by
 refine gf (Eg uS hc tZ (xq hN B P hf) oN hs) (hi F S ε σ H _ rl (h.bindE.imp λz K F1 S1 H1 Z g1 h1 J vs RR Y hz hw keep=>?_));refine EV hw (λk a n=>∃u w m,aN X.K u w m a n/\bt (U S1) (U w) F1 u H1 n/\gG X.K E pin a u w n (hZ i G (z.drop k) m) D) ⟨F1,S1,K,Z,bt.refl ..,h1⟩ (λk a n _ ⟨u,w,m,_,g,_⟩=>keep w u n g) ?_ ?_
 .rintro k v a n hv ⟨u,w,m,N,C,q⟩;obtain⟨x,B,rx⟩:=Y.back hv;have hk:k<z.length:=(dG.mp B).1;have ed:z.drop k=x::z.drop (k+1):=by rw[ui hk];congr 1;exact(dG.mp B).2
  rw[ed]at q;have L:=rx.grow C Z.fit;have r2:=N.set (i:=i) L;have Q:bt (U w) (U λj b=>w j b/\j≠i) u u n n:=bt.less i;show oy X r _ (a.set i (aa v)) n;refine hb u _ _ _ n _ r2 ?_;unfold hZ at q;have q:=q.from Q (jw.set (x:=aa v) hp);cases e:G (m.set i (.val x))with
  |no=>rw[e]at q;exact q
  |er c y=>rw[e]at q;exact q
  |ok f y=>
   rw[e]at q;cases f with
   |next=>exact λW T I H3 M A O=>⟨W,T,y,M,(C.trans Q).trans A,q.from A O⟩
   |cont=>exact λW T I H3 M A O=>⟨W,T,y,M,(C.trans Q).trans A,q.from A O⟩
   |brk=>exact q
   |ret s=>exact q
 .rintro a n ⟨u,w,m,N,C,q⟩;have P:vs.length=z.length:=Y.len;rw[P,GD]at q;exact q u w a n N (bt.refl ..) (jw.refl _ _)
def dZ(t:aj->R Bool)(b:aj->R aF):Nat->aj->R aF
 |0,_=>.no
 |n+1,ε=>(t ε).bind λk ε1=>match k with
  |false=>.ok .next ε1
  |true=>match b ε1 with
   |.ok .next a=>dZ t b n a
   |.ok .cont a=>dZ t b n a
   |.ok .brk a=>.ok .next a
   |r=>r
theorem zb{c:ay}{n:List bf}{t:aj->R Bool}{j:aj->R aF}(O:aj->Nat)(P:xu (ar X.prog X.w) X.A X.env X.xe)(W:DT X E c t)(Y:ij X E pin n j):DS X E pin (.While c n [] pos) (λv=>dZ t j (O v) v):=λF S v σ H D Q h=>by
 refine gf (Ox P l5 oN) ⟨λm b u=>∃y x a,aN X.K y x a b u/\gG X.K E pin b y x u (dZ t j m a) D,⟨O v,F,S,v,Q,h⟩,?_⟩;rintro m i H1 ⟨F1,Z,A,T,q⟩;cases m with
 |zero=>exact q.elim
 |succ m=>
  refine W F1 Z A i H1 _ T (q.bindE.imp λk p M J K N g2 g=>?_);cases k with
  |false=>exact mY (g M J i K N (bt.refl ..) (jw.refl _ _))
  |true=>
   refine nj ⟨λb u=>∃y x a,aN X.K y x a b u/\gG X.K E pin b y x u (dZ t j m a) D,λb u w=>⟨m,lA m,w⟩,Y M J p i K _ N ?_⟩;have g:gG X.K E pin i M J K (match j p with
    |.ok .next a=>dZ t j m a
    |.ok .cont a=>dZ t j m a
    |.ok .brk a=>.ok .next a
    |r=>r) D:=g
   cases e:j p with
   |no=>rw[e]at g;exact g
   |er c o=>rw[e]at g;exact g
   |ok f o=>
    rw[e]at g;cases f with
    |next=>exact λL I z H3 B G C=>⟨L,I,o,B,g.from G C⟩
    |cont=>exact λL I z H3 B G C=>⟨L,I,o,B,g.from G C⟩
    |brk=>exact g
    |ret s=>exact g
end
def wQ(K:ax)(E:XK)(i:List V)(F:ag->Prop)(S:Nat->ag->Prop)(H:Hp)(r:R Slot)(Q:VK):Prop:=match r with
 |.ok s h=>∀v d f a g,aN K d f h (i.map aa) a->bt (U S) (λb=>U f b\/g b) F d H a->qK K a d s v g->wY d f a g->(∀b,g b->H b=ae)->Q v a
 |.er c h=>∀x d f a,aN K d f h (i.map aa) a->bt (U S) (U f) F d H a->E c x a
 |.no=>False
def cp(K:ax)(g:aj->R Slot):Sp:=λa H Q E=>∃F S b,aN K F S b (a.map aa) H/\wQ K E a F S H (g b) Q
structure dr(CX:gy)(P:aS)(w:aG)(K:ax)(mg:Str->Option ai)(base:az)(x:Str)(k:Nat)(ps:List Str)(sp:Sp):Prop where
 ex:∃f fd,mg x=aa (.ref f)/\kt P w K mg base CX k f fd ps sp/\Binds K fd ps []/\t7 K (.ref f)=ah
def back:aj->aj->Option aj
 |[],_=>aa []
 |.own _::a,.own c::b=>(back a b).map (.own c::·)
 |.own _::_,_=>ae
 |s::a,_::b=>(back a b).map (s::·)
 |_::_,[]=>ae
theorem wc:∀{a c b:aj},back a c=aa b->b.length=a.length/\∀(i:Nat) (s:Slot),b[i]?=aa s->(∃g f,a[i]?=aa (.own g)/\c[i]?=aa (.own f)/\s=.own f)\/(a[i]?=aa s/\∀g,s≠.own g)
 |[],_,b,h=>by cases h;exact⟨rfl,λi s e=>by simp at e⟩
 |.own g::a,.own f::c,b,h=>by
  unfold back at h;cases e:back a c with
  |none=>rw[e]at h;cases h
  |some r=>
   rw[e]at h;cases h;obtain⟨l,q⟩:=wc e;refine⟨by simp[l],λi s d=>?_⟩;cases i with
   |zero=>simp at d;subst d;exact .inl ⟨g,f,rfl,rfl,rfl⟩
   |succ i=>simpa using q i s (by simpa using d)
 |.own g::a,.none::c,b,h=>by cases h
 |.own g::a,.val _::c,b,h=>by cases h
 |.own g::a,[],b,h=>by cases h
 |.none::a,[],b,h=>by cases h
 |.val _::a,[],b,h=>by cases h
 |.none::a,x::c,b,h=>by
  have h:(back a c).map (Slot.none::·)=aa b:=by unfold back at h;cases x <;> exact h
  cases e:back a c with
  |none=>rw[e]at h;cases h
  |some r=>
   rw[e]at h;cases h;obtain⟨l,q⟩:=wc e;refine⟨by simp[l],λi s d=>?_⟩;cases i with
   |zero=>simp at d;subst d;exact .inr ⟨rfl,λ_ z=>by cases z⟩
   |succ i=>simpa using q i s (by simpa using d)
 |.val pv::a,x::c,b,h=>by
  have h:(back a c).map (Slot.val pv::·)=aa b:=by unfold back at h;cases x <;> exact h
  cases e:back a c with
  |none=>rw[e]at h;cases h
  |some r=>
   rw[e]at h;cases h;obtain⟨l,q⟩:=wc e;refine⟨by simp[l],λi s d=>?_⟩;cases i with
   |zero=>simp at d;subst d;exact .inr ⟨rfl,λ_ z=>by cases z⟩
   |succ i=>simpa using q i s (by simpa using d)
def bF(n:Nat)(d:aj->R aF):aj->R Slot:=λf=>match d (f++dy n .none)with
 |.ok (.ret r) a=>(aB (back f a) []).bind λb _=>.ok r b
 |.ok .next a=>(aB (back f a) []).bind λb _=>.ok (.val .non) b
 |.er c a=>(aB (back f a) []).bind λb _=>.er c b
 |_=>.no
section
variable{K:ax}{F x:ag->Prop}{S o:Nat->ag->Prop}{c l m:aj}{f:St}{H u:Hp}{d:List V}
theorem aN.start(r:aN K F S c (d.map aa) H)(n:Nat):aN K F S (c++dy n .none) (d.map aa++dy n ae) H:=by
 have A:c.length=(d.map aa).length:=r.len;have no:∀{j:Nat}{s:Slot},(c++dy n Slot.none)[j]?=aa s->s≠.none->c[j]?=aa s:=λ{j s} e y=>by
  by_cases B:j<c.length
  .rw[iO B]at e;exact e
  .rw[pc ∅,List.getElem?_replicate]at e;split at e
   .exact absurd (dP e).symm y
   .cases e
 have p:∀{j:Nat}{v:Option V},(d.map aa)[j]?=aa v->(d.map aa++dy n ae)[j]?=aa v:=λ{j v} e=>by rw[iO (dG.mp e).1];exact e
 refine⟨by simp[A],r.ex,λj pv e=>?_,λj a e=>?_,λj b h=>?_,r.dist⟩
 .obtain⟨v,i,g⟩:=r.val j pv (no e (by intro z;cases z));exact⟨v,p i,g⟩
 .obtain⟨v,i,g⟩:=r.own j a (no e (by intro z;cases z));exact⟨v,p i,g⟩
 .obtain⟨⟨a,q⟩,w⟩:=r.foot j b h;exact⟨⟨a,by rw[iO (dG.mp q).1];exact q⟩,w⟩
theorem Dg{i:PO}{a:ag}{n:ag->Prop}(h:eT K H F i a n)(j:fW i=ah):∀b,n b↔b=a:=by
 cases i with
 |lst p=>exact h.2
 |dK g=>exact h.2
 |lls q=>cases j
 |ins C fs=>exact h.2
 |dT g=>exact h.2
 |dN g=>exact h.2
 |inl C fs y p=>cases j
theorem Kw{g:PO}{a:ag}{i:ag->Prop}(h:eT K H F g a i):i a:=by
 cases g with
 |lst j=>exact(h.2 a).mpr rfl
 |dK b=>exact(h.2 a).mpr rfl
 |lls n=>obtain⟨p,_,_,_,_,w⟩:=h;exact(w a).mpr (.inl rfl)
 |ins C fs=>exact(h.2 a).mpr rfl
 |dT b=>exact(h.2 a).mpr rfl
 |dN b=>exact(h.2 a).mpr rfl
 |inl C fs y j=>obtain⟨_,_,_,_,_,_,_,_,_,_,w⟩:=h;exact(w a).mpr (.inl rfl)
theorem aN.back{Y:ag->Prop}{D:List Nat}{n:Nat}(C:aN K F S c (d.map aa) H)(r:aN K x o l f u)(g:bt (U S) Y F x H u)(p:jw D (d.map aa++dy n ae) f)(Q:∀(i:Nat) (s:PO),c[i]?=aa (.own s)->i∈D)(T:back c l=aa m):∃B,aN K x B m (d.map aa) u/\(∀b,U B b->U o b)/\((∀(i:Nat) (s:PO),c[i]?=aa (.own s)->fW s=ah)->∀b,U S b->U B b):=by
 obtain⟨M,G⟩:=wc T;have inj:∀(i:Nat) (s:PO),c[i]?=aa (.own s)->∃a,(d.map aa)[i]?=aa (aa (.ref a))/\f[i]?=aa (aa (.ref a))/\eT K H F s a (S i):=λi s e=>by obtain⟨a,y,A⟩:=C.own i s e;refine⟨a,y,?_,A⟩;rw[p i (Q i s e),iO (dG.mp y).1];exact y
 have bk:∀(i:Nat) (s:PO),c[i]?=aa (.own s)->∃w,m[i]?=aa (.own w)/\l[i]?=aa (.own w):=λi s e=>by
  have N:i<m.length:=by rw[M];exact(dG.mp e).1
  rcases G i m[i] (by simp[N])with⟨p1,p2,q1,q2,q3⟩|⟨q1,q2⟩
  .exact⟨p2,by rw[gK N,q3],q2⟩
  .rw[e]at q1;exact absurd (dP q1).symm (q2 s)
 refine⟨λi b=>o i b/\∃s,c[i]?=aa (.own s),⟨by rw[M];exact C.len,r.ex,λi pv e=>?_,λi s e=>?_,λi b h=>?_,λi j b y A=>r.dist i j b y.1 A.1⟩,λb ⟨i,h⟩=>⟨i,h.1⟩,λP b ⟨i,h⟩=>?_⟩
 .rcases G i _ e with⟨_,_,_,_,z⟩|⟨q1,_⟩
  .cases z
  .obtain⟨v,y,A⟩:=C.val i pv q1;exact⟨v,y,A.grow g C.fit⟩
 .rcases G i _ e with⟨p1,p2,q1,q2,q3⟩|⟨_,q2⟩
  .cases q3;obtain⟨a,y,A,O⟩:=inj i p1 q1;obtain⟨X,E,I⟩:=r.own i s q2;rw[A]at E;cases E;refine⟨a,y,?_⟩;have W:(λb=>o i b/\∃s,c[i]?=aa (.own s))=o i:=by funext b;exact propext ⟨λz=>z.1,λz=>⟨z,p1,q1⟩⟩
   rw[W];exact I
  .exact absurd rfl (q2 s)
 .obtain⟨s,q⟩:=h.2;obtain⟨w,L,J⟩:=bk i s q;exact⟨⟨w,L⟩,(r.foot i b h.1).2⟩
 .obtain⟨⟨s,q⟩,_⟩:=C.foot i b h;obtain⟨a,y,A,O⟩:=inj i s q;obtain⟨w,L,J⟩:=bk i s q;obtain⟨X,E,I⟩:=r.own i w J;rw[A]at E;cases E;have e:b=a:=(Dg O (P i s q) b).mp h;exact⟨i,e ▸ Kw I,s,q⟩
end
theorem wL{K:ax}{E:XK}{a:List V}{F:ag->Prop}{S:Nat->ag->Prop}{H:Hp}{r:R Slot}{Q:VK}(h:wQ K E a F S H r Q):r≠.no:=λz=>by rw[z]at h;exact h
theorem Ij{K:ax}{g:aj->R Slot}{m:Nat}(f:∀a,g a≠.no->a.length=m):∀b H Q E,cp K g b H Q E->b.length=m:=λb H Q E ⟨F,S,a,c,ok⟩=>by have:=f a (wL ok);have d:=c.len;rw[cM]at d;lia
theorem Ph{X:Cx}{E:XK}{u:List bf}{N P:List Str}{s:List V}{H:Hp}{Q:VK}{n:Nat}{g:aj->R Slot}{d:aj->R aF}{A:List Nat}(hn:N.length=P.length+n)(a_:∀a,g a≠.no->a.length=P.length) (lE:∀a,g a≠.no->∀(i:Nat) po,a[i]?=aa (.own po)->i∈A) (Z:∀a p m,g a=.ok p m->(∃pv,p=.val pv)\/∀(i:Nat) po,a[i]?=aa (.own po)->fW po=ah) (hg:∀a,g a≠.no->bF n d a=g a)(hb:ij X E A u d) (lG:cp X.K g s H Q E):oy X u {nx:=λ_ l=>Q .non l,rt:=Q} (L2.start N s) H:=by
 obtain⟨F,S,a,L,ok⟩:=lG;have hl:=a_ a (wL ok);have h2:=L.len;rw[cM]at h2;have es:L2.start N s=s.map aa++dy n ae:=by unfold L2.start;rw[show N.length-s.length=n by lia]
 rw[es];refine hb F S _ _ H _ (L.start n) ?_;have W:=lE a (wL ok);have kY:=hg a (wL ok);have K:=Z a;rw[<-kY]at ok K;unfold bF at ok K;generalize d (a++dy n .none)=r at ok K ⊢;cases r with
 |no=>exact ok
 |er c h=>
  intro x q C j l D f G;have ok:wQ X.K E s F S H ((aB (back a h) []).bind λm _=>.er c m) Q:=ok;cases e:back a h with
  |none=>rw[e]at ok;exact ok.elim
  |some m=>rw[e]at ok;obtain⟨B,y,o,_⟩:=L.back D f G W e;exact ok x q B l y ⟨f.fro,f.keep,f.there,f.fnew,λb z=>f.onew b (o b z)⟩
 |ok fl h=>
  have I:∀(p:Slot),(∀m,back a h=aa m->(∃pv,p=.val pv)\/∀(i:Nat) po,a[i]?=aa (.own po)->fW po=ah)->wQ X.K E s F S H ((aB (back a h) []).bind λm _=>.ok p m) Q->∀(v:V) q C j l J,aN X.K q C h j l->bt (U S) (λb=>U C b\/J b) F q H l->jw A (s.map aa++dy n ae) j->qK X.K l q p v J->wY q C l J->Q v l:=by
   intro p O ok v q C j l J D f G T M;cases e:back a h with
   |none=>rw[e]at ok;exact ok.elim
   |some m=>
    rw[e]at ok;obtain⟨B,y,o,Y⟩:=L.back D f G W e;refine ok v q B l J y ⟨f.fro,f.keep,f.there,f.fnew,λb z=>f.onew b (z.imp (o b) id)⟩ T (λb z=>⟨(M b z).1,λw=>(M b z).2.1 (o b w),(M b z).2.2⟩) λb z=>?_;rcases O m e with⟨pv,rfl⟩|hf
    .exact absurd z (T.2 b)
    rcases f.onew b (.inr z)with w|w
    .exact absurd (o b (Y hf b w)) (M b z).2.1
    .exact w
  cases fl with
  |brk=>exact ok.elim
  |cont=>exact ok.elim
  |ret p=>exact I p (λm e=>K p m (by show(aB (back a h) []).bind _=_;rw[e];rfl)) ok
  |next=>exact λq C j l D f G=>I (.val .non) (λ_ _=>.inl ⟨_,rfl⟩) ok .non q C j l (λ_=>False) D ⟨f.fro,f.keep,f.there,f.fnew,λb z=>z.elim (f.onew b) lv⟩ G ⟨rfl,λ_ z=>z⟩ λ_ z=>z.elim
theorem HX{f:ag}{p:iz}{D:gy}{P:aS}{w:aG}{K:ax}{v:Str->Option ai}{j:az}{x b:Str}{h:bf}{N l:List Str}{k n:Nat}{g:aj->R Slot}{d:aj->R aF}{m:List Nat}(Z:ol K x b h f p)(Y:cO N l (bg h))(S:N.length=l.length+n)(hb:∀(kV o u:ai) (z:Option ag) (C y:ai) (q:List ai),q.length=l.length->gJ (kg x b (ku h) (iw h) (bg h) .none kV o u z C y) ⟨q,[]⟩=pure (l.zip q))(B:∀c,g c≠.no->c.length=l.length) (L:∀c,g c≠.no->∀(i:Nat) po,c[i]?=aa (.own po)->i∈m) (I:∀c r X,g c=.ok r X->(∃pv,r=.val pv)\/∀(i:Nat) po,c[i]?=aa (.own po)->fW po=ah) (T:∀c,g c≠.no->bF n d c=g c)(M:∀(A:aX) (a:List Env) (s:ao) (H:Hp) (E:XK),gc k (A.deeper (kf b (bg h) s.heap.objs.size f p.code))->ij (jA D P w K v j N b (bg h) f p.code A a s H E) E m (iw h) d):kt P w K v j D (k+1) f p l (cp K g):=by obtain⟨oc,od,kV,o,u,z,C,y,F,rfl,G,W⟩:=Z.ex;exact Hu G W Y (Ij B) λA a s H vs Q E O J=>⟨_,oN,Ph S B L I T (M A a s H E O) J⟩
theorem Ei{f:ag}{u:iz}{B:gy}{P:aS}{w:aG}{K:ax}{y:Str->Option ai}{l:az}{x b:Str}{j:bf}{N m:List Str}{k n:Nat}{g:aj->R Slot}{d:aj->R aF}{p:List Nat}(Q:ol K x b j f u)(O:cO N m (bg j))(F:N.length=m.length+n)(I:∀(kV v C:ai) (L:Option ag) (q J:ai) (r:List ai),r.length=m.length->gJ (kg x b (ku j) (iw j) (bg j) .none kV v C L q J) ⟨r,[]⟩=pure (m.zip r))(M:∀c,g c≠.no->c.length=m.length) (z:∀c,g c≠.no->∀(i:Nat) o,c[i]?=aa (.own o)->i∈p/\fW o=ah) (G:∀c,g c≠.no->bF n d c=g c)(D:∀(f:ag) (q:ai) (A:aX) (a:List Env) (s:ao) (H:Hp) (E:XK),gc k (A.deeper (kf b (bg j) s.heap.objs.size f q))->ij (jA B P w K y l N b (bg j) f q A a s H E) E p (iw j) d):kt P w K y l B (k+1) f u m (cp K g):=HX Q O F I M (λc h i o e=>(z c h i o e).1) (λc S T h=>.inr λi o e=>(z c (by rw[h];exact nofun) i o e).2) G λA a s H E=>D f u.code A a s H E
theorem PJ{v:gy}{P:aS}{w:aG}{K:ax}{p:Str->Option ai}{c:az}{x:Str}{b:bf}{N j:List Str}{k n:Nat}{g:aj->R Slot}{d:aj->R aF}{l:List Nat}(D:dq K p x b)(O:cO N j (bg b))(C:N.length=j.length+n)(u:∀(kV q y:ai) (L:Option ag) (m J:ai) (o:List ai),o.length=j.length->gJ (kg x x (ku b) (iw b) (bg b) .none kV q y L m J) ⟨o,[]⟩=pure (j.zip o))(M:∀a,g a≠.no->a.length=j.length) (z:∀a,g a≠.no->∀(i:Nat) po,a[i]?=aa (.own po)->i∈l/\fW po=ah) (G:∀a,g a≠.no->bF n d a=g a)(B:∀(f:ag) (m:ai) (A:aX) (h:List Env) (s:ao) (H:Hp) (E:XK),gc k (A.deeper (kf x (bg b) s.heap.objs.size f m))->ij (jA v P w K p c N x (bg b) f m A h s H E) E l (iw b) d):dr v P w K p c x (k+1) j (cp K g):=by obtain⟨f,I,F,r⟩:=D.ex;exact⟨f,I,F,Ei r O C u M z G B,r.binds u,r.kp⟩
abbrev cn:=Sum PV Nat
def i5(K:ax)(b:St)(F:ag->Prop)(H:Hp):List cn->List V->Prop
 |[],a=>a=[]
 |.inl pv::c,a=>∃v r,a=v::r/\aO K H F pv v/\i5 K b F H c r
 |.inr i::c,a=>∃v r,a=v::r/\b[i]?=aa (aa v)/\i5 K b F H c r
def DG(X:Cx)(E:XK)(g:List ay)(d:aj->R (List cn)):Prop :=
 ∀F S b a H Q,aN X.K F S b a H->Ok X.K E a F S H (d b) (λh _ i _ f=>∀c,i5 X.K a i f h c->Q c f)->n5 X g a H Q
section
variable{X:Cx}{E:XK}{e:ay}{b:List ay}{de:aj->R PV}{c:aj->R (List cn)}{f:Pos}
def bN:aj->R (List cn):=λε=>.ok [] ε
def gV(d:aj->R PV)(c:aj->R (List cn)):aj->R (List cn):=λε=>(d ε).bind λx ε1=>(c ε1).bind λxs a=>.ok (.inl x::xs) a
def gO(i:Nat)(c:aj->R (List cn)):aj->R (List cn):=λd=>match d[i]? with
 |some (.own _)=>(c d).bind λg a=>.ok (.inr i::g) a
 |_=>.no
theorem bT:DG X E [] bN:=λF S g d H Q a h=>oj i8 (h F S H a (bt.refl ..) _ rfl)
theorem IP(s:DE X E e de)(r:DG X E b c)(q:aQ (e::b) X.env=(ak,aM e X.env)::aQ b X.env:=by rfl):DG X E (e::b) (gV de c):=λF S j d H Q n h=>by refine oj (gZ bB ir q) (s F S j d H _ n ((Ok.bind h).imp λx a G A C g J w v m=>?_));refine r G A a d C _ g ((Ok.bind w).imp λI i D z B o y u l p=>?_);exact u D z B o (bt.refl ..) _ ⟨v,l,rfl,m.grow y g.fit,p⟩
theorem fQ(i:Nat){x:Str}{p:Pos}(v:DG X E b c)(y:X.N[i]?=aa x:=by rfl)(s:dA X.env.scope x:=by eq_refl)(w:(x==("__debug__":Str))=ak:=by decide)(A:(x==("__classdict__":Str))=ak:=by decide) (u:aQ (.Name x p::b) X.env=(ak,aM (.Name x p) X.env)::aQ b X.env:=by rfl):DG X E (.Name x p::b) (gO i c):=λF S m j H Q d h=>by
 unfold gO at h;split at h
 .rename_i q e;obtain⟨a,g,_⟩:=d.own i q e;refine oj (gZ (eI y s w A) ir u) ⟨_,g,v F S m j H _ d ((Ok.bind h).imp λG l D B C o I z n r=>?_)⟩;exact z D B C o (bt.refl ..) _ ⟨_,n,rfl,g,r⟩
 .exact h.elim
end
def fe(a:aj):List cn->Option aj
 |[]=>aa []
 |.inl pv::b=>(fe a b).map (.val pv::·)
 |.inr i::b=>match a[i]? with
  |some (.own c)=>(fe a b).map (.own c::·)
  |_=>ae
def fP:aj->List cn->aj->aj
 |a,.inl _::c,_::b=>fP a c b
 |a,.inr i::c,s::b=>fP (a.set i s) c b
 |a,_,_=>a
def cN:List cn->List Nat
 |[]=>[]
 |.inl _::as=>cN as
 |.inr i::as=>i::cN as
theorem DV:∀{as:List cn}{i:Nat},i∈cN as↔∃k:Nat,as[k]?=aa (.inr i)
 |[],i=>by simp[cN]
 |.inl _::as,i=>by
  unfold cN;rw[DV];constructor
  .rintro⟨k,h⟩;exact⟨k+1,by simpa using h⟩
  .rintro⟨k,h⟩;cases k with
   |zero=>simp at h
   |succ k=>exact⟨k,by simpa using h⟩
 |.inr j::as,i=>by
  unfold cN;rw[bw,DV];constructor
  .rintro(rfl|⟨k,h⟩)
   .exact⟨0,rfl⟩
   .exact⟨k+1,by simpa using h⟩
  .rintro⟨k,h⟩;cases k with
   |zero=>simp at h;exact .inl h.symm
   |succ k=>exact .inr ⟨k,by simpa using h⟩
theorem wC{d:aj}:∀{a:List cn}{c:aj},fe d a=aa c->c.length=a.length/\∀(k:Nat) (s:Slot),c[k]?=aa s->(∃pv,a[k]?=aa (.inl pv)/\s=.val pv)\/∃i f,a[k]?=aa (.inr i)/\d[i]?=aa (.own f)/\s=.own f
 |[],c,h=>by cases h;exact⟨rfl,λk s e=>by simp at e⟩
 |.inl pv::a,c,h=>by
  unfold fe at h;cases e:fe d a with
  |none=>rw[e]at h;cases h
  |some r=>
   rw[e]at h;cases h;obtain⟨l,q⟩:=wC e;refine⟨by simp[l],λk s b=>?_⟩;cases k with
   |zero=>simp at b;exact .inl ⟨pv,rfl,b.symm⟩
   |succ k=>simpa using q k s (by simpa using b)
 |.inr i::a,c,h=>by
  unfold fe at h;split at h
  .rename_i f g;cases e:fe d a with
   |none=>rw[e]at h;cases h
   |some r=>
    rw[e]at h;cases h;obtain⟨l,q⟩:=wC e;refine⟨by simp[l],λk s b=>?_⟩;cases k with
    |zero=>simp at b;exact .inr ⟨i,f,rfl,g,b.symm⟩
    |succ k=>simpa using q k s (by simpa using b)
  .cases h
theorem vO:∀(c:List cn) (a b:aj),(fP a c b).length=a.length
 |[],a,b=>by cases b <;> rfl
 |.inl _::c,a,[]=>rfl
 |.inr _::c,a,[]=>rfl
 |.inl _::c,a,s::b=>vO c a b
 |.inr i::c,a,s::b=>by show(fP (a.set i s) c b).length=_;rw[vO,iP]
theorem qR:∀(a:List cn) (b c:aj) (j:Nat),j∉cN a->(fP b a c)[j]?=b[j]?
 |[],b,c,j,_=>by cases c <;> rfl
 |.inl _::a,b,[],j,_=>rfl
 |.inr _::a,b,[],j,_=>rfl
 |.inl _::a,b,s::c,j,h=>qR a b c j h
 |.inr i::a,b,s::c,j,h=>by
  have d:¬(j=i\/j∈cN a):=by simpa[cN]using h
  show(fP (b.set i s) a c)[j]?=_;rw[qR a _ c j λz=>d (.inr z),ff λz=>d (.inl z.symm)]
theorem r_:∀(a:List cn) (b c:aj) (j k:Nat) (s:Slot),(cN a).Nodup->j<b.length->a[k]?=aa (.inr j)->c[k]?=aa s->(fP b a c)[j]?=aa s
 |[],b,c,j,k,s,_,_,h,_=>by simp at h
 |_::a,b,[],j,k,s,_,_,_,h=>by simp at h
 |.inl _::a,b,t::c,j,0,s,_,_,h,_=>by simp at h
 |.inl _::a,b,t::c,j,k+1,s,nd,hj,h,g=>r_ a b c j k s nd hj (by simpa using h) (by simpa using g)
 |.inr i::a,b,t::c,j,0,s,nd,hj,h,g=>by simp at h g;subst h g;have d:i∉cN a:=(jm.mp nd).1;show(fP (b.set i t) a c)[i]?=_;rw[qR a _ c i d,h_ hj]
 |.inr i::a,b,t::c,j,k+1,s,nd,hj,h,g=>r_ a (b.set i t) c j k s (jm.mp nd).2 (by rw[iP];exact hj) (by simpa using h) (by simpa using g)
theorem i5.len{K:ax}{c:St}{F:ag->Prop}{H:Hp}:∀{a:List cn}{b:List V},i5 K c F H a b->b.length=a.length
 |[],_,h=>by rw[show _=[] from h];rfl
 |.inl _::a,_,⟨v,r,e,_,h⟩=>by rw[e,cS,cS,i5.len h]
 |.inr _::a,_,⟨v,r,e,_,h⟩=>by rw[e,cS,cS,i5.len h]
theorem i5.val{K:ax}{d:St}{F:ag->Prop}{H:Hp}:∀{as:List cn}{c:List V}{k:Nat}{pv:PV},i5 K d F H as c->as[k]?=aa (.inl pv)->∃v,c[k]?=aa v/\aO K H F pv v
 |[],_,k,_,_,e=>by simp at e
 |.inl x::as,_,0,pv,⟨v,r,e,h,_⟩,q=>by simp at q;subst q e;exact⟨v,rfl,h⟩
 |.inr _::as,_,0,pv,_,q=>by simp at q
 |.inl x::as,_,k+1,pv,⟨v,r,e,_,h⟩,q=>by obtain⟨w,a,b⟩:=i5.val (k:=k) h (by simpa using q);subst e;exact⟨w,by simpa using a,b⟩
 |.inr x::as,_,k+1,pv,⟨v,r,e,_,h⟩,q=>by obtain⟨w,a,b⟩:=i5.val (k:=k) h (by simpa using q);subst e;exact⟨w,by simpa using a,b⟩
theorem i5.own{K:ax}{c:St}{F:ag->Prop}{H:Hp}:∀{as:List cn}{d:List V}{k i:Nat},i5 K c F H as d->as[k]?=aa (.inr i)->∃v,d[k]?=aa v/\c[i]?=aa (aa v)
 |[],_,k,_,_,e=>by simp at e
 |.inr x::as,_,0,pv,⟨v,r,e,h,_⟩,q=>by simp at q;subst q e;exact⟨v,rfl,h⟩
 |.inl _::as,_,0,pv,_,q=>by simp at q
 |.inl x::as,_,k+1,pv,⟨v,r,e,_,h⟩,q=>by obtain⟨w,a,b⟩:=i5.own (k:=k) h (by simpa using q);subst e;exact⟨w,by simpa using a,b⟩
 |.inr x::as,_,k+1,pv,⟨v,r,e,_,h⟩,q=>by obtain⟨w,a,b⟩:=i5.own (k:=k) h (by simpa using q);subst e;exact⟨w,by simpa using a,b⟩
section
variable{K:ax}{F A:ag->Prop}{S m:Nat->ag->Prop}{c s f:aj}{u:St}{H y:Hp}{as:List cn}{d:List V}
def l6(as:List cn)(S:Nat->ag->Prop)(k:Nat)(b:ag):Prop:=∃i,as[k]?=aa (.inr i)/\S i b
theorem wg(b:ag)(h:U (l6 as S) b):U S b:=let ⟨_,i,_,h⟩:=h;⟨i,h⟩
theorem xn:∀{as:List cn}{i k l:Nat},(cN as).Nodup->as[k]?=aa (.inr i)->as[l]?=aa (.inr i)->k=l
 |[],_,_,_,_,h,_=>by simp at h
 |.inl _::as,i,0,_,_,h,_=>by simp at h
 |.inl _::as,i,_,0,_,_,h=>by simp at h
 |.inl _::as,i,k+1,l+1,nd,h1,h2=>by rw[xn (as:=as) (i:=i) (k:=k) (l:=l) nd (by simpa using h1) (by simpa using h2)]
 |.inr j::as,i,0,0,_,_,_=>rfl
 |.inr j::as,i,0,l+1,nd,h1,h2=>by simp at h1;subst h1;exact absurd (DV.mpr ⟨l,by simpa using h2⟩) (jm.mp nd).1
 |.inr j::as,i,k+1,0,nd,h1,h2=>by simp at h2;subst h2;exact absurd (DV.mpr ⟨k,by simpa using h1⟩) (jm.mp nd).1
 |.inr j::as,i,k+1,l+1,nd,h1,h2=>by rw[xn (as:=as) (i:=i) (k:=k) (l:=l) (jm.mp nd).2 (by simpa using h1) (by simpa using h2)]
theorem aN.cal(r:aN K F S c u H)(C:i5 K u F H as d)(L:fe c as=aa s)(J:(cN as).Nodup):aN K F (l6 as S) s (d.map aa) H:=by
 obtain⟨G,B⟩:=wC L;have D:∀{k:Nat}{v:V},d[k]?=aa v->(d.map aa)[k]?=aa (aa v):=λ{k v} e=>by rw[jJ,e];rfl
 refine⟨by rw[G,cM,C.len],r.ex,λk pv e=>?_,λk E e=>?_,λk b h=>?_,λk l b g o=>?_⟩
 .rcases B k _ e with⟨p,q1,n⟩|⟨_,_,_,_,z⟩
  .cases n;obtain⟨v,x,w⟩:=C.val q1;exact⟨v,D x,w⟩
  .cases z
 .rcases B k _ e with⟨_,_,z⟩|⟨i,p,q1,n,q3⟩
  .cases z
  .cases q3;obtain⟨v,x,w⟩:=C.own q1;obtain⟨a,b1,b2⟩:=r.own i E n;rw[w]at b1;cases b1;have M:l6 as S k=S i:=by
    funext b;exact propext ⟨λ⟨j,g,o⟩=>by rw[q1]at g;cases g;exact o,λh=>⟨i,q1,h⟩⟩
   exact⟨a,D x,by rw[M];exact b2⟩
 .obtain⟨i,g,o⟩:=h;obtain⟨⟨E,q⟩,n⟩:=r.foot i b o;have I:k<s.length:=by rw[G];exact(dG.mp g).1
  refine⟨?_,n⟩;rcases B k s[k] (by simp[I])with⟨_,z,_⟩|⟨j,p,z1,z2,z3⟩
  .rw[g]at z;cases z
  .exact⟨p,by rw[gK I,z3]⟩
 .obtain⟨i,x,w⟩:=g;obtain⟨j,b1,b2⟩:=o;have:=r.dist i j b w b2;subst this;exact xn J x b1
theorem aN.called{O':ag->Prop}(r:aN K F S c u H)(ha:i5 K u F H as d)(hs:fe c as=aa s)(P:(cN as).Nodup)(N:aN K A m f (d.map aa) y)(g:bt (U (l6 as S)) O' F A H y)(hO:∀b,U m b->O' b)(nY:∀(k:Nat) i,as[k]?=aa (.inr i)->∃D,f[k]?=aa (.own D)):∃Y,aN K A Y (fP c as f) u y/\bt (U S) (U Y) F A H y/\∀b,U Y b->U m b\/U S b:=by
 have up:∀{k:Nat}{v:V},(d.map aa)[k]?=aa (aa v)->d[k]?=aa v:=λ{k v} e=>by
  rw[jJ]at e;cases q:d[k]? with
  |none=>rw[q]at e;cases e
  |some x=>rw[q]at e;cases e;rfl
 have fit:Fit (U (l6 as S)) F H:=λb h=>r.fit b (wg b h);have L:∀i D,c[i]?=aa (.own D)->i<c.length:=λi D e=>(dG.mp e).1;have lt:∀(k:Nat) i,as[k]?=aa (.inr i)->i<c.length:=λk i e=>by
  obtain⟨hl,hg⟩:=wC hs;have E:k<s.length:=by rw[hl];exact(dG.mp e).1
  rcases hg k s[k] (by simp[E])with⟨_,z,_⟩|⟨j,p,z1,z2,z3⟩
  .rw[e]at z;cases z
  .rw[e]at z1;cases z1;exact L _ _ z2
 refine⟨λj b=>(∃k:Nat,as[k]?=aa (.inr j)/\m k b)\/(j∉cN as/\S j b),⟨by rw[vO];exact r.len,N.ex,λj pv e=>?_,λj D e=>?_,λj b h=>?_,λi j b B C=>?_⟩,⟨g.fro,λb o e n=>g.keep b o e λz=>n (wg b z),g.there,λa z=>(g.fnew a z).imp id λw=>w.imp id (wg a),λb ⟨j,z⟩=>?_⟩,λb ⟨j,z⟩=>?_⟩
 .by_cases I:j∈cN as
  .obtain⟨k,E⟩:=DV.mp I;obtain⟨D,q⟩:=nY k j E;rw[r_ as c f j k _ P (lt k j E) E q]at e;cases e
  .rw[qR as c f j I]at e;obtain⟨v,B,C⟩:=r.val j pv e;exact⟨v,B,C.grow g fit⟩
 .by_cases I:j∈cN as
  .obtain⟨k,E⟩:=DV.mp I;obtain⟨po',q⟩:=nY k j E;rw[r_ as c f j k _ P (lt k j E) E q]at e;cases e;obtain⟨a,B,C⟩:=N.own k D q;obtain⟨v,Q,X⟩:=ha.own E;rw[up B]at Q;cases Q;have W:(λb=>(∃k:Nat,as[k]?=aa (.inr j)/\m k b)\/(j∉cN as/\S j b))=m k:=by
    funext b;refine propext ⟨λz=>?_,λz=>.inl ⟨k,E,z⟩⟩;rcases z with⟨l,z1,z2⟩|⟨z,_⟩
    .rw[xn P E z1];exact z2
    .exact absurd I z
   exact⟨a,X,by rw[W];exact C⟩
  .rw[qR as c f j I]at e;obtain⟨a,B,C⟩:=r.own j D e;have W:(λb=>(∃k:Nat,as[k]?=aa (.inr j)/\m k b)\/(j∉cN as/\S j b))=S j:=by
    funext b;refine propext ⟨λz=>?_,λz=>.inr ⟨I,z⟩⟩;rcases z with⟨l,z1,z2⟩|⟨_,z⟩
    .exact absurd (DV.mpr ⟨l,z1⟩) I
    .exact z
   have h3:eT K y A D a (S j):=by refine C.mono (λ_ _ q=>q.grow g fit) (λ_ _ q=>q.grow g fit) λb o z q=>g.keep b o q λ⟨l,i,M,J⟩=>?_;have:=r.dist i j b J z;subst this;exact I (DV.mpr ⟨l,M⟩)
   exact⟨a,B,by rw[W];exact h3⟩
 .rcases h with⟨k,B,C⟩|⟨B,C⟩
  .obtain⟨⟨D,q⟩,T⟩:=N.foot k b C;exact⟨⟨D,r_ as c f j k _ P (lt k j B) B q⟩,T⟩
  .obtain⟨⟨D,q⟩,T,o,O,q4⟩:=r.foot j b C;have no:¬U (l6 as S) b:=λ⟨l,i,M,J⟩=>by have:=r.dist i j b J C;subst this;exact B (DV.mpr ⟨l,M⟩)
   refine⟨⟨D,by rw[qR as c f j B];exact q⟩,λz=>?_,o,g.keep b o O no,q4⟩;rcases g.fnew b z with w|w|w
   .exact T w
   .rw[O]at w;cases w
   .exact no w
 .have G:∀{i j:Nat}{b:ag},(∃k:Nat,as[k]?=aa (.inr i)/\m k b)->(j∉cN as/\S j b)->False:=λ{i j b} ⟨k,M,J⟩ ⟨w3,Z⟩=>by
   obtain⟨_,_,o,O,_⟩:=r.foot j b Z;rcases g.onew b (hO b ⟨k,J⟩)with⟨l,i',z1,z2⟩|z
   .have:=r.dist i' j b z2 Z;subst this;exact w3 (DV.mpr ⟨l,z1⟩)
   .rw[O]at z;cases z
  rcases B with B|B <;> rcases C with C|C
  .obtain⟨k,Q,X⟩:=B;obtain⟨l,b1,b2⟩:=C;have:=N.dist k l b X b2;subst this;rw[Q]at b1;cases b1;rfl
  .exact(G B C).elim
  .exact(G C B).elim
  .exact r.dist i j b B.2 C.2
 .rcases z with⟨k,_,z⟩|⟨_,z⟩
  .rcases g.onew b (hO b ⟨k,z⟩)with w|w
   .exact .inl (wg b w)
   .exact .inr w
  .exact .inl ⟨j,z⟩
 .rcases z with⟨k,_,z⟩|⟨_,z⟩
  .exact .inl ⟨k,z⟩
  .exact .inr ⟨j,z⟩
end
def DR(X:Cx)(E:XK)(e:ay)(d:aj->R Slot):Prop :=
 ∀F S f a H Q,aN X.K F S f a H->Ok X.K E a F S H (d f) (λs _ h i c=>∀v g,qK X.K c h s v g->(∀b,g b->H b=ae/\¬h b/\¬U i b/\∃o,c b=aa o/\eu o)->Q v c)->gA X e a H Q
def gh:List cn->aj->Bool
 |[],_=>ah
 |.inl _::as,_::ss=>gh as ss
 |.inr _::as,.own _::ss=>gh as ss
 |_,_=>ak
theorem oz:∀{as:List cn}{ss:aj},gh as ss=ah->∀(k:Nat) i,as[k]?=aa (.inr i)->∃a,ss[k]?=aa (.own a)
 |[],_,_,k,i,h=>by simp at h
 |.inl _::as,s::ss,q,0,i,h=>by simp at h
 |.inl _::as,s::ss,q,k+1,i,h=>by simpa using oz (as:=as) (ss:=ss) (by unfold gh at q;exact q) k i (by simpa using h)
 |.inr _::as,.own a::ss,q,0,i,h=>⟨a,rfl⟩
 |.inr _::as,.own a::ss,q,k+1,i,h=>by simpa using oz (as:=as) (ss:=ss) (by unfold gh at q;exact q) k i (by simpa using h)
 |.inr _::as,.val _::ss,q,k,i,h=>by cases q
 |.inr _::as,.none::ss,q,k,i,h=>by cases q
 |.inl _::as,[],q,k,i,h=>by cases q
 |.inr _::as,[],q,k,i,h=>by cases q
def ii{f:Type}(d:aj)(b:List cn)(r:R f):R f:=match r with
 |.ok s a=>if gh b a then .ok s (fP d b a)else .no
 |.er c a=>if gh b a then .er c (fP d b a)else .no
 |.no=>.no
def aV(g:aj->R Slot)(c:aj->R (List cn)):aj->R Slot:=λε=>(c ε).bind λa ε1=>(aB (if(cN a).Nodup then fe ε1 a else ae) ε1).bind λb ε1=>ii ε1 a (g b)
section
variable{l:gy}{X:Cx}{E:XK}{pin:List Nat}{e:ay}{es:List ay}{j:aj->R (List cn)}{pos:Pos}{x:Str}{k:Nat}{m:List Str}{g:aj->R Slot}{p:Pos}{d:aj->R Slot}
theorem NG{K:ax}{F0 r:ag->Prop}{S0 C:Nat->ag->Prop}{a:aj}{G:St}{H n:Hp}{c:List cn}{Z:List V}{Q:VK}(A:aN K r C a G n)(g1:bt (U S0) (U C) F0 r H n)(P:i5 K G r n c Z)(q:Ok K E G r C n ((aB (if(cN c).Nodup then fe a c else ae) a).bind λD a=>ii a c (g D)) λs _ u W h=>∀v F,qK K h u s v F->(∀b,F b->H b=ae/\¬u b/\¬U W b/\∃o,h b=aa o/\eu o)->Q v h):cp K g Z n Q E:=by
 have q:=Ok.bind q;by_cases B:(cN c).Nodup
 .rw[if_pos B]at q;cases es:fe a c with
  |none=>rw[es]at q;exact q.elim
  |some D=>
   rw[es]at q;have q:=q r C n A (bt.refl ..);dsimp only at q;refine⟨r,l6 c C,D,A.cal P es B,?_⟩;cases O:g D with
   |no=>rw[O]at q;exact q.elim
   |er cv S=>
    rw[O]at q;intro y u W h J N;unfold ii at q;dsimp only at q;by_cases f:gh c S=ah
    .rw[if_pos f]at q;obtain⟨T,I,M,_⟩:=A.called P es B J N (λ_ z=>z) (oz f);exact q y u T h I M
    .rw[if_neg f]at q;exact q.elim
   |ok s S=>
    rw[O]at q;intro v u W h F J N rv L fr;unfold ii at q;dsimp only at q;by_cases f:gh c S=ah
    .rw[if_pos f]at q;obtain⟨T,I,M,u2⟩:=A.called P es B J N (λ_ z=>.inl z) (oz f);refine q u T h I M v F rv λb z=>⟨og g1 (fr b z),(L b z).1,λw=>?_,(L b z).2.2⟩
     rcases u2 b w with w|⟨i,w⟩
     .exact(L b z).2.1 w
     .obtain⟨_,_,o,Y,_⟩:=A.foot i b w;rw[fr b z]at Y;cases Y
    .rw[if_neg f]at q;exact q.elim
 .rw[if_neg B]at q;exact q.elim
theorem bY(c:dr l X.prog X.w X.K X.mg X.base x k m (cp X.K g))(s:gc k X.A)(r:qF l X E)(A:DG X E (e::es) j)(w:Gl X x:=by rfl)(y:(x==("__debug__":Str))=ak:=by decide) (C:aQ (e::es) X.env=(ak,aM e X.env)::aQ es X.env:=by rfl) (B:(cY pos (aQ es X.env)).any (·.1)=ak:=by rfl):DR X E (.Call (.Name x p) (e::es) [] pos) (aV g j):=λF S i a H Q n h=>by obtain⟨f,K,u,I,z,v⟩:=c.ex;refine b8 (CY I s w u v z .nil r ir y C B) (A F S i a H _ n ((Ok.bind h).imp λL b O M N o D q J G=>?_));rw[ie];exact NG o D G q
def tQ:Slot->Option PV
 |.val pv=>aa pv
 |.own (.lst a)=>aa (.lst a)
 |_=>ae
def bd(d:aj->R Slot):aj->R PV:=λε=>(d ε).bind λs ε1=>aB (tQ s) ε1
def zA:Slot->Option PO
 |.own a=>aa a
 |_=>ae
def kx(d:aj->R Slot):aj->R PO:=λb=>(d b).bind λs a=>aB (zA s) a
theorem DR.dn(h:DR X E e d):DN X E e (kx d):=λF S f i H Q u q=>by
 unfold kx at q;refine h F S f i H Q u ?_;cases b:d f with
 |no=>rw[b]at q;exact q.elim
 |er c o=>rw[b]at q;exact q
 |ok s n=>
  rw[b]at q;cases s with
  |none=>exact q.elim
  |val pv=>exact q.elim
  |own I=>intro G C D w z v B r A;obtain⟨a,rfl,y⟩:=r;exact q G C D w z a B y A
theorem DR.de(h:DR X E e d):DE X E e (bd d):=λF S ε f H Q i q=>by
 unfold bd at q;cases b:d ε with
 |no=>rw[b]at q;exact q.elim
 |er c n=>refine h F S ε f H Q i ?_;rw[b]at q ⊢;exact q
 |ok s ε1=>
  cases s with
  |none=>rw[b]at q;exact q.elim
  |val pv=>refine h F S ε f H Q i ?_;rw[b]at q ⊢;exact λB z A r w v I o G=>q B z A r w v o.1
  |own u=>
   refine h.dn.de F S ε f H Q i ?_;unfold dF kx;rw[b]at q ⊢;cases u with
   |lst xs=>exact q
   |dK a=>exact q
   |lls D=>exact q
   |ins C fs=>exact q
   |dT a=>exact q
   |dN a=>exact q
   |inl C fs y xs=>exact q
def sy(d:aj->R Slot):aj->R aF:=λb=>(d b).bind λs a=>.ok (.ret s) a
theorem BR(C:DR X E e d):DS X E pin (.Return (aa e) pos) (sy d):=λF S n f H D y h=>by
 refine gf (yF bB) (C F S n f H _ y ?_);unfold sy at h;cases i:d n with
 |no=>rw[i]at h;exact h.elim
 |er c r=>rw[i]at h;exact λx O K M B G=>h x O K f M B G (jw.refl _ _)
 |ok s q=>rw[i]at h;intro N J L A a v I u o;exact h v N J f L I A ⟨a.fro,a.keep,a.there,a.fnew,λb z=>z.elim (a.onew b) λw=>.inr (o b w).1⟩ (jw.refl _ _) u λb z=>(o b z).2
def nA(d:aj->R Slot):aj->R aF:=λb=>(d b).bind λ_ a=>.ok .next a
theorem vp(o:DR X E e d)(n:jj e ae pos.line X.env=pure ak:=by rfl):DS X E pin (.Expr e pos) (nA d):=λF S c a H D f h=>gf (wq bB n) (o F S c a H _ f (h.bindE.imp λx b u r s i y q v A w z=>q u r a s i (bt.refl ..) (jw.refl _ _)))
end
end Pu
namespace L2
section
variable{X:Cx}{l:List (ag×Obj)}{i:St}{H:Hp}{s:ao}{d:d8}{x:Str}{j:List Str}{g:List Nat}
theorem Li{E m O:ay}{y:Str}{py J F:Pos}{G k:Nat}{N:V->Hp->St->Prop}{A:List ay}{wi:TI}{ts:TT}{te:TE}(B:io X d x j g)(hk:k<=g.length)(hc:X.calm=ah)(hi:PI X O m wi)(fh:∀C r w Y P,PG (bW X d j C r w Y P) O λv M H Q=>∃vs,vs.length=k+1/\M.length=j.length/\N v H vs/\Q (vs++M.drop (k+1)) H)(ht:∀C r w Y P,oH (bW X d j C r w Y P) A ts) (he:∀C r w Y P,PE (bW X d j C r w Y P) E te) (hN:X.N.Nodup) (pL:X.N[G]?=aa y) (hxy:Loc X.env.scope y) (pM:jj (.ListComp E [⟨O,m,A,0⟩] d J) (aa (.Name y py)) F.line X.env=pure ah) (hf:X.fn y=ah\/X.env.scope.names.lookup y=aa .local) (hs:∀x,kN m X.env x=pure x):PS X (.Assign [.Name y py] (.ListComp E [⟨O,m,A,0⟩] d J) F) (λD i H=>Am wi N k ts te g i H λv H'=>D.nx (i.set G (aa v)) H'):=by
 intro l s i H D I h;rw[exec_Assign_Name_used _ _ _ _ pM];refine aw (wpAny_standAt (aw ?_));show aq _ X.A (do let _ <-comprehension (.ListComp E [⟨O,m,A,0⟩] d J) d X.env _ (newList []) ak (aM m X.env) (aa (nH (.Name y py) X.env))) _ _ s;refine aw (fH (?_:aq _ X.A _ (λ_ s'=>SP X l D .next s') X.xe s) (λ_ s' hq=>aK (aK hq)) λ_ _ e=>e);refine Fb (use:=aa (nH (.Name y py) X.env)) B hk hc hi fh ht he hs I h λ{K s6 H3 H5 fp σ5 a f} Z f3 I6 q=>?_;obtain⟨mm,hn6,_⟩:=I6.loc;have J6:Inv X l i _ _:=Z.unblock f3 I6 (Heap.SameBut.refl _ _);have S:K.heap.objs.size≠X.env.locals:=λe=>absurd Z.lt (by rw[<-e];exact eL _);have T:∀z c,X.env.cells.lookup z=aa c->c≠K.heap.objs.size:=λz c e e2=>by obtain⟨vv,oo,ho,_⟩:=Z.cell z c e;exact absurd (bC ho) (by rw[e2];exact eL _)
 refine wpAny_assign_Name (E3 (v:=.ref a) J6 hN pL hxy rfl (λs7 I7 ⟨a7,sb7,ha7⟩=>?_) hf);have na7:K.heap.objs.size≠a7:=by
  rcases ha7 with z|z
  .rw[z];exact S
  .exact(T _ _ z).symm
 refine⟨mm,hn6.sameBut sb7 na7,λlI sb=>⟨_,_,?_,q⟩⟩;have W:H5 K.heap.objs.size=ae:=I6.free;refine I7.call' (s':={s7 with heap:=lI}) (ch:=[K.heap.objs.size]) rfl ⟨λb o e n hb L=>?_,λb o e n hb L=>?_,λb o e n L=>n,λb o e L=>?_,λb xs e=>e,λb o u e=>e,λb ps e=>e⟩ ?_ I7.bare λb hb=>?_
 .exact(sb.2 b (by simpa using L)).trans e
 .exact⟨o.slots,(sb.2 b (by simpa using L)).trans (by simpa using e)⟩
 .exact⟨o,(sb.2 b (by simpa using L)).trans e⟩
 .intro b u e;refine(I7.hok b u e).stay (λc v hc q=>(sb.2 c ?_).trans q) (λ_ q=>q) λ_ _ q=>q;rintro rfl;rcases hc with z|z
  .rw[<-z,W]at e;cases e
  .rw[W]at z;cases z
 .have e:b=K.heap.objs.size:=by simpa using hb
  subst e;refine⟨.inr Z.sz,S,T,λp hp e2=>?_⟩;obtain⟨e3,_⟩:=Z.pin p hp;exact absurd (bC e3) (by rw[e2];exact eL _)
theorem FL{n a:ay}{y:Str}{p w o f:Pos}{h:Nat}{m:List ay}{wi:TI}{ts:TT}{te:TE}(B:io X d x j g)(K:X.calm=ah)(G:PI X (.Name x p) a wi)(E:∀C b c u q,oH (bW X d j C b c u q) m ts) (J:∀C b c u q,PE (bW X d j C b c u q) n te) (L:X.N.Nodup) (A:X.N[h]?=aa y) (r:Loc X.env.scope y) (z:jj (.ListComp n [⟨.Name x p,a,m,0⟩] d o) (aa (.Name y w)) f.line X.env=pure ah) (I:X.fn y=ah\/X.env.scope.names.lookup y=aa .local) (F:∀x,kN a X.env x=pure x):PS X (.Assign [.Name y w] (.ListComp n [⟨.Name x p,a,m,0⟩] d o) f) (λD i H=>Ak wi ts te g i H λv M=>D.nx (i.set h (aa v)) M):=Li B (jM _) K G (B5 B) E J L A r z I F
end
end L2
namespace Pu
open L2
def e_(ε:aj):List Nat->Option (List cn)
 |[]=>aa []
 |j::cap=>match ε[j]? with
  |some (.val pv)=>(e_ ε cap).map (.inl pv::·)
  |some (.own _)=>(e_ ε cap).map (.inr j::·)
  |_=>ae
def eJ{b:Type}(cap:List Nat)(d:aj->R b)(x:PV):aj->R b:=λε=>(aB (e_ ε cap) ε).bind λa _=>(aB (if(cN a).Nodup then fe ε (.inl x::a)else ae) ε).bind λc _=>ii ε (.inl x::a) (d c)
def dX{a:Type}(r:R a):R a:=match r with
 |.er _ _=>.no
 |r=>r
def i9(cap:List Nat)(dt:aj->R Bool)(de:aj->R PV):List PV->List PV->aj->R (List PV)
 |[],a,ε=>.ok a ε
 |x::c,a,ε=>(dX (eJ cap dt x ε)).bind λk ε1=>match k with
  |true=>(dX (eJ cap de x ε1)).bind λy b=>i9 cap dt de c (a++[y]) b
  |false=>i9 cap dt de c a ε1
def cR(cap:List Nat)(d:aj->R (List PV))(dt:aj->R Bool)(de:aj->R PV):aj->R PO:=λε=>(d ε).bind λc ε1=>(i9 cap dt de c [] ε1).bind λb a=>.ok (.lst b) a
theorem yh{K:ax}{F:ag->Prop}{S:Nat->ag->Prop}{f:aj}{d:St}{H:Hp}(r:aN K F S f d H):∀{b:List Nat}{i:List cn},e_ f b=aa i->∃c,i5 K d F H i c/\gb d b=c.map aa
 |[],i,h=>by cases h;exact⟨[],rfl,rfl⟩
 |j::b,i,h=>by
  unfold e_ at h;split at h
  .rename_i pv e;cases q:e_ f b with
   |none=>rw[q]at h;cases h
   |some bs=>
    rw[q]at h;cases h;obtain⟨c,m,l⟩:=yh r q;obtain⟨v,g,n⟩:=r.val j pv e;refine⟨v::c,⟨v,c,rfl,n,m⟩,?_⟩;show(d[j]?).join::gb d b=_;rw[g,l];rfl
  .rename_i o e;cases q:e_ f b with
   |none=>rw[q]at h;cases h
   |some bs=>
    rw[q]at h;cases h;obtain⟨c,m,l⟩:=yh r q;obtain⟨a,g,n⟩:=r.own j o e;refine⟨.ref a::c,⟨_,c,rfl,g,m⟩,?_⟩;show(d[j]?).join::gb d b=_;rw[g,l];rfl
  .cases h
theorem Ce{K:ax}{E:XK}{F:ag->Prop}{S:Nat->ag->Prop}{s:aj}{f:St}{H:Hp}{I:Type}{b:List Nat}{d:aj->R I}{x:PV}{v:V}{C:I->aj->(ag->Prop)->(Nat->ag->Prop)->Hp->Prop}(r:aN K F S s f H) (O:aO K H F x v) (h:Ok K E f F S H (dX (eJ b d x s)) C):∃M l,aN K F M l (aa v::gb f b) H/\Ok K E0 (aa v::gb f b) F M H (d l) (λa _ q _ p=>∃j w,aN K q w j f p/\bt (U S) (U w) F q H p/\C a j q w p):=by
 unfold eJ at h;cases D:e_ s b with
 |none=>rw[D]at h;exact h.elim
 |some g=>
  rw[D]at h;simp only[bP,R.bind_ok]at h;by_cases A:(cN g).Nodup
  .rw[if_pos A]at h;cases u:fe s (.inl x::g)with
   |none=>rw[u]at h;exact h.elim
   |some l=>
    rw[u]at h;simp only[bP,R.bind_ok]at h;obtain⟨y,W,T⟩:=yh r D;have o:i5 K f F H (.inl x::g) (v::y):=⟨v,y,rfl,O,W⟩
    have n:aa v::gb f b=(v::y).map aa:=by rw[T];rfl
    have m:(cN (.inl x::g)).Nodup:=A;refine⟨l6 (.inl x::g) S,l,by rw[n];exact r.cal o u m,?_⟩;rw[n];cases B:d l with
    |no=>rw[B]at h;exact h.elim
    |er c G=>
     rw[B]at h;unfold ii at h;dsimp only at h;by_cases i:gh (.inl x::g) G=ah
     .rw[if_pos i]at h;exact h.elim
     .rw[if_neg i]at h;exact h.elim
    |ok a G=>
     rw[B]at h;intro q w p P Q;unfold ii at h;dsimp only at h;by_cases i:gh (.inl x::g) G=ah
     .rw[if_pos i]at h;obtain⟨N,J,L,_⟩:=r.called o u m P Q (λ_ z=>z) (oz i);exact⟨_,N,J,L,h q N p J L⟩
     .rw[if_neg i]at h;exact h.elim
  .rw[if_neg A]at h;exact h.elim
def s_(X:Cx)(a:List ay):TT:=λb H Q=>Bx (∀d s,Inv X d b H s->aq (ar X.prog X.w) X.A (forIn a ah λc r=>if r=ah then do let ok <-ml c X.env (aM c X.env);pure (ForInStep.yield ok)else pure (ForInStep.yield r)) (TP X d b Q) X.xe s)
def DF(X:Cx)(E:XK)(c:List ay)(d:aj->R Bool):Prop:=∀F S f a H Q,aN X.K F S f a H->Ok X.K E a F S H (d f) (λb _ _ _ g=>Q b g)->s_ X c a H Q
def dYes:aj->R Bool:=λε=>.ok ah ε
theorem qg{X:Cx}{E:XK}:DF X E [] dYes:=λF S d a H Q b h=>⟨λc s I=>Kh c s a H Q I (h F S H b (bt.refl ..))⟩
theorem wj{X:Cx}{E:XK}{c:ay}{d:aj->R Bool}(h:DT X E c d):DF X E [c] d:=λF S b a H Q f q=>⟨λg s I=>Ga l5 g s a H Q I (h F S b a H Q f q)⟩
theorem Ok.bindB{K:ax}{E:XK}{b:St}{F s:ag->Prop}{S n:Nat->ag->Prop}{H p:Hp}{j i:Type}{D:i->aj->(ag->Prop)->(Nat->ag->Prop)->Hp->Prop}{r:R j}{k:j->aj->R i}(h:Ok K E b F S H (r.bind k) D)(g:bt (U S) (U n) F s H p):Ok K E b s n p r (λa d _ _ _=>Ok K E b F S H (k a d) D):=by
 cases r with
 |no=>exact h
 |er c f=>exact λx u o q l m=>h x u o q l (g.trans m)
 |ok a f=>exact λu o q l m=>h
section
variable{X:Cx}{E:XK}{c:d8}{x:Str}{N':List Str}{cap:List Nat}
theorem bt.stay{O a F d:ag->Prop}{H b:Hp}(g:bt O a F d H b){l:ag}{o:HO}(e:H l=aa o)(n:¬O l)(f:¬F l):b l=aa o/\¬d l/\¬a l :=
 ⟨g.keep l o e n,λz=>(g.fnew l z).elim f λw=>w.elim (λq=>by rw[e]at q;cases q) n,λz=>(g.onew l z).elim n λq=>by rw[e]at q;cases q⟩
theorem aN.lay{K:ax}{F:ag->Prop}{S:Nat->ag->Prop}{i:aj}{h:St}{H:Hp}{l:ag}{o o':HO}(r:aN K F S i h H)(y:H l=aa o)(no:eu o)(v:¬F l)(nS:¬U S l):bt (λb=>U S b\/b=l) (U S) F F H (L2.upd H l o')/\Fit (λb=>U S b\/b=l) F H/\aN K F S i h (L2.upd H l o'):=by
 have f:bt (λb=>U S b\/b=l) (U S) F F H (L2.upd H l o'):=⟨λ_ z=>z,λb o e n=>by rw[bv λz=>n (.inr z)];exact e,λb o e=>by
  by_cases m:b=l
  .subst m;exact⟨_,upd_same⟩
  .exact⟨o,by rw[bv m];exact e⟩,λ_ z=>.inl z,λ_ z=>.inl (.inl z)⟩
 have g:Fit (λb=>U S b\/b=l) F H:=λb z=>by
  rcases z with z|rfl
  .exact r.fit b z
  .exact⟨v,_,y,no⟩
 refine⟨f,g,r.len,λb z=>let ⟨o,q⟩:=r.ex b z;f.there b o q,λj pv e=>?_,λj u e=>?_,λj b z=>?_,r.dist⟩
 .obtain⟨w,d,a⟩:=r.val j pv e;exact⟨w,d,a.grow f g⟩
 .obtain⟨w,d,a⟩:=r.own j u e;refine⟨w,d,a.mono (λ_ _ q=>q.grow f g) (λ_ _ q=>q.grow f g) λb o z q=>?_⟩;rw[bv (by rintro rfl;exact nS ⟨j,z⟩)];exact q
 .obtain⟨d,a,o,s,p⟩:=r.foot j b z;exact⟨d,a,o,by rw[bv (by rintro rfl;exact nS ⟨j,z⟩)];exact s,p⟩
theorem bt.lay{O d F h:ag->Prop}{H f:Hp}{l:ag}{o':HO}(g:bt O d F h H f)(a:H l=ae):bt O d F h H (L2.upd f l o'):=by
 refine⟨g.fro,λb o e n=>?_,λb o e=>?_,g.fnew,g.onew⟩
 .rw[bv (by rintro rfl;rw[a]at e;cases e)];exact g.keep b o e n
 .obtain⟨i,q⟩:=g.there b o e;exact⟨i,by rw[bv (by rintro rfl;rw[a]at e;cases e)];exact q⟩
theorem zc{elt B:ay}{px:Pos}{ifs:List ay}{di:aj->R (List PV)}{dt:aj->R Bool}{de:aj->R PV}(hi:DI X E (.Name x px) B di)(ht:∀C d f r p,DF (bW X c N' C d f r p) E0 ifs dt) (he:∀C d f r p,DE (bW X c N' C d f r p) E0 elt de){F:ag->Prop}{S:Nat->ag->Prop}{ε:aj}{j:St}{H:Hp}{Q:VK} (rl:aN X.K F S ε j H) (h:Ok X.K E j F S H (cR cap di dt de ε) (λpo _ s M g=>∀a Sa,eT X.K g s po a Sa->(∀b,Sa b->H b=ae/\¬s b/\¬U M b/\∃o,g b=aa o/\eu o)->Q (.ref a) g)):Ak (oV X (.Name x px) B) (λj H Q=>∀C d f r p,s_ (bW X c N' C d f r p) ifs j H Q) (λj H Q=>∀C d f r p,gA (bW X c N' C d f r p) elt j H Q) cap j H Q:=by
 refine hi F S ε j H _ rl ((Ok.bind h).imp λA ε1 O S1 H1 r1 g1 h1 J vs RR rs hz hw keep l hl=>?_);have h1:=h1.bind;have hvl:vs.length=A.length:=rs.len;have a0:Al O O H1 (upd H1 l (.lst [])):=Al.new0 hl;have nF1:¬O l:=λz=>by obtain⟨o,q⟩:=r1.ex l z;rw[hl]at q;cases q
 have nS1:¬U S1 l:=λ⟨i,z⟩=>by obtain⟨_,_,o,q,_⟩:=r1.foot i l z;rw[hl]at q;cases q
 have hH:H l=ae:=og g1 hl;refine⟨λi m G g=>m=A.length-i/\i<=A.length/\∃s M Z T,aN X.K s M Z j g/\bt (U S1) (U M) O s H1 g/\g l=aa (.lst G)/\¬s l/\¬U M l/\ba X.K g s T G/\G.length<=i /\ Ok X.K E j O S1 H1 (i9 cap dt de (A.drop i) T Z) (λys' w W S2 N=>Ok X.K E j W S2 N (R.ok (PO.lst ys') w) (λpo _ s M g=>∀a Sa,eT X.K g s po a Sa->(∀b,Sa b->H b=ae/\¬s b/\¬U M b/\∃o,g b=aa o/\eu o)->Q (.ref a) g)),⟨_,rfl,jM _,O,S1,ε1,[],r1.al a0,a0.grow,upd_same,nF1,nS1,rfl,aT _,h1⟩,?_⟩;rintro i m G N ⟨rfl,hi,W,S2,w,T,P,L,el,nF2,nS2,n,hyl,q2⟩;have RH:=keep S2 W N L;by_cases be:i<A.length
 .obtain⟨v,hv⟩:∃v,vs[i]?=aa v:=⟨_,gK ∅⟩
  obtain⟨go,yl⟩:=(hw N RH i).1 v hv;refine .inr ⟨go,λv' g y=>⟨[aa v'],rfl,rfl,?_⟩⟩;obtain⟨e1,e2⟩:=yl v' g y;subst e1 e2;obtain⟨px',hx,rx⟩:=rs.back hv;have ed:A.drop i=px'::A.drop (i+1):=by rw[ui be];congr 1;exact(dG.mp hx).2
  rw[ed]at q2;have rx2:=rx.grow L r1.fit;have q3:=Ok.bindB q2 L;obtain⟨Sb,ss,rb,okb⟩:=Ce P rx2 q3;intro C d f r p;refine ht C d f r p W Sb ss _ g _ rb (okb.imp λb _ F3 _ H3 _ _ ⟨Y,S3,r3,K,q4⟩=>?_);obtain⟨el3,nF3,nS3⟩:=K.stay el nS2 nF2;cases b with
  |false=>exact mY ⟨_,∅,rfl,be,F3,S3,Y,T,r3,L.trans K,el3,nF3,nS3,n.grow K P.fit,∅,q4⟩
  |true=>refine nj ?_;have q5:Ok X.K E j O S1 H1 ((dX (eJ cap de px' Y)).bind λy w=>i9 cap dt de (A.drop (i+1)) (T++[y]) w) _:=q4;obtain⟨Sc,sc,rc,okc⟩:=Ce r3 (rx2.grow K P.fit) (Ok.bindB q5 (L.trans K));intro C d f r p;refine he C d f r p F3 Sc sc _ H3 _ rc (okc.imp λy _ F4 _ H4 _ _ ⟨ε4,S4,r4,g4,q6⟩ u ru=>?_);obtain⟨el4,nF4,nS4⟩:=g4.stay el3 nS3 nF3;have I:=(n.grow K P.fit).grow g4 r3.fit;obtain⟨gl,D,r5⟩:=r4.lay (o':=.lst (G++[u])) el4 trivial nF4 nS4;have g5:=((L.trans K).trans g4).lay (o':=.lst (G++[u])) hl;refine⟨el4,?_,_,∅,rfl,be,F4,S4,ε4,T++[y],r5,g5,upd_same,nF4,nS4,(I.grow gl D).app (.one (ru.grow gl D)),by simp;lia,q6⟩;lia
 .have e:i=A.length:=∅
  subst e;refine .inl ⟨(hw N RH _).2 hvl.symm,?_⟩;rw[GD]at q2;exact q2 W S2 N P L W S2 N P (bt.refl ..) l (λb=>b=l) ⟨⟨G,el,n⟩,λb=>nO⟩ λb z=>by subst z;exact⟨hH,nF2,nS2,_,el,trivial⟩
theorem mO{j d:ay}{m pos:Pos}{i:List ay}{o:aj->R (List PV)}{dt:aj->R Bool}{de:aj->R PV}(B:io X c x N' cap)(w:X.calm=ah)(u:DI X E (.Name x m) d o)(q:∀C a b g f,DF (bW X c N' C a b g f) E0 i dt) (v:∀C a b g f,DE (bW X c N' C a b g f) E0 j de) (r:∀x,kN d X.env x=pure x:=by intro _;rfl):DN X E (.ListComp j [⟨.Name x m,d,i,0⟩] c pos) (cR cap o dt de):=λF S y l H Q p h=>b8 (D7 (wi:=oV X (.Name x m) d) (ts:=λl H Q=>∀C a b g f,s_ (bW X c N' C a b g f) i l H Q) (te:=λl H Q=>∀C a b g f,gA (bW X c N' C a b g f) j l H Q) (pos:=pos) B w tZ (λC a b g f n s l H Q I h=>(h C a b g f).run n s I) (λC a b g f n s l H Q I h=>(h C a b g f).run n s I) r) (zc u q v p h)
end
theorem Ji(x y:Tx):tS x++tS y=tS (x++y):=by
 show(⟨x.toArray++y.toArray⟩:Str)=⟨(x++y).toArray⟩
 simp
def aZ:PV->PV->Option PV
 |.int i,.int j=>aa (.int (i+j))
 |.str x,.str y=>if(x++y).length<=bQ then aa (.str (x++y))else ae
 |.tup xs,.tup a=>if xs≠[]/\a≠[]/\xs.length+a.length<=1000 then aa (.tup (xs++a))else ae
 |.lst xs,.lst a=>if xs.length+a.length<=bQ then aa (.lst (xs++a))else ae
 |_,_=>ae
def jc:PV->PV->Option PV
 |.int i,.int j=>aa (.int (i-j))
 |_,_=>ae
def tR(i:Int):Bool:=decide (-(2^64)<i/\i<2^64)
def kF:PV->PV->Option PV
 |.int i,.int j=>if tR i||tR j then aa (.int (i*j))else ae
 |.str x,.int j=>if 0<=j/\j<=100/\x.length<=100 then aa (.str (dy j.toNat x).flatten)else ae
 |_,_=>ae
def f_:PV->PV->Option PV
 |.int i,.int j=>if 0<j then aa (.int (i % j))else ae
 |_,_=>ae
def sO:PV->PV->Option PV
 |.int i,.int j=>if 0<=j/\j<=1000000/\i.natAbs<2^64 then aa (.int (i^j.toNat))else ae
 |_,_=>ae
def dJ:PV->Option PV
 |.int i=>aa (.int (-i))
 |_=>ae
def Ex:R2:=λx y H Q=>∃l b c a,x=.ref l/\y=.ref b/\Rd H l (.lst c)/\Rd H b (.lst a)/\c.length+a.length<=a8/\∀p,H p=ae->Q (.ref p) (upd H p (.lst (c++a)))
def Dx(K:ax):R2:=λx y H Q=>((k_ λi j=>V.int (i+j)) x y H Q\/∃i j,x=.str i/\y=.str j/\i.length+j.length<=a8/\Q (.str (i++j)) H)\/(C5 K x y H Q\/Ex x y H Q)
def EG:R2:=λx y H Q=>rI zx (λi j=>.int (i*j)) x y H Q\/∃(z:Tx) (n:Nat),x=tV z/\y=.int n/\n<=100/\z.length<=100/\Q (tV (dy n z).flatten) H
section
variable{X:Cx}{K:ax}
theorem sq:P2 K (k_ λi j=>.int (i-j)) jc:=λF H x y v u Q pv b a e q=>by
 unfold jc at e;split at e
 .cases e;exact⟨_,_,b,a,q _ F H (Al.refl ..) rfl⟩
 .cases e
theorem qV:P2 K (rI (λ_ j=>0<j) λi j=>.int (i % j)) f_:=λF H x y v u Q pv b a e q=>by
 unfold f_ at e;split at e
 .split at e
  .cases e;exact⟨_,_,b,a,by assumption,q _ F H (Al.refl ..) rfl⟩
  .cases e
 .cases e
theorem PZ:P2 K (rI Dr λi j=>.int (i^j.toNat)) sO:=λF H x y v u Q pv b a e q=>by
 unfold sO at e;split at e
 .split at e
  .cases e;exact⟨_,_,b,a,by assumption,q _ F H (Al.refl ..) rfl⟩
  .cases e
 .cases e
theorem nv:P1 K (rU λi=>.int (-i)) dJ:=λF H x v Q pv a e q=>by
 unfold dJ at e;split at e
 .cases e;exact⟨_,a,q _ F H (Al.refl ..) rfl⟩
 .cases e
theorem zO{d:List (ag×Obj)}{c:St}{H:Hp}{s:ao}{l:ag}{b:List V}(I:Inv X d c H s)(h:Rd H l (.lst b)):∃(a:List ai) (n:Nat),bq b a/\s.heap.get? l=aa {cls:=.type "list",data:=.seq a.toArray n}/\b.length<=a8:=by obtain⟨z,a,n,r,e⟩:=h.ok I.hok;exact⟨a,n,r,e,z⟩
theorem JT:bX X (jI .Add) Ex:=by
 intro D s p H x y v u Q I i g h;obtain⟨l,b,z,w,rfl,rfl,f,j,B,q⟩:=h;cases i;cases g;obtain⟨c,n,r,e,_⟩:=zO I f;obtain⟨a,A,d,o,_⟩:=zO I j;have f:=r.length;have C:=d.length;refine PySem.P.add_list e o ?_ (by rw[cb,cb];lia);have m:c.toArray++a.toArray=(c++a).toArray:=by simp
 rw[m];exact⟨.ref _,_,I.lnew (t':=s.toks) (r.append d) (by rw[cZ];lia),rfl,q _ I.fresh⟩
theorem eC:bX X (jI .Add) (Dx X.K):=(QJ.or JI).or (QD.or JT)
theorem d_:P2 K (Dx K) aZ:=λF H x y v u Q pv l j e q=>by
 unfold aZ at e;split at e
 .cases e;exact .inl (.inl ⟨_,_,l,j,q _ F H (Al.refl ..) rfl⟩)
 .rename_i x y;split at e
  .rename_i c;cases e;refine .inl (.inr ⟨_,_,l.1,j.1,?_,?_⟩)
   .rw[lj,lj];rw[cZ]at c;exact cH c lm
   .exact q _ F H (Al.refl ..) ⟨by rw[Ji];rfl,c⟩
  .cases e
 .rename_i w s;split at e
  .rename_i c;cases e;obtain⟨a,n,rfl,r,f⟩:=l;obtain⟨b,m,rfl,o,d⟩:=j;have h:=f.len;have g:=d.len;refine .inr (.inl ⟨a,b,n,m,rfl,rfl,cL.of r,cL.of o,λz=>c.1 (by rw[z]at h;exact pq h.symm),by rw[h,g];exact yX c.2.2,λz=>absurd (by rw[z]at g;exact pq g.symm) c.2.1,λ_ p i=>?_⟩);exact q _ F _ (Al.new0 i) ⟨p,_,rfl,upd_same,(Al.new0 i).reps (f.app d)⟩
  .cases e
 .rename_i w s;split at e
  .rename_i c;cases e;obtain⟨a,n,rfl,r,B,f⟩:=l;obtain⟨b,m,rfl,o,A,d⟩:=j;have h:=f.len;have g:=d.len;refine .inr (.inr ⟨a,b,n,m,rfl,rfl,r,o,by rw[h,g];exact cH c lm,λp i=>?_⟩);exact q _ _ _ (Al.new i) ⟨p,_,rfl,.inl upd_same,.inr rfl,(Al.new i).reps (f.app d)⟩
  .cases e
 .cases e
theorem zd:bX X (jI .Mult) EG:=Qx.or MH
theorem yR:P2 K EG kF:=λF H x y v u Q pv b a e q=>by
 unfold kF at e;split at e
 .rename_i i j;split at e
  .rename_i h;cases e;refine .inl ⟨_,_,b,a,?_,q _ F H (Al.refl ..) rfl⟩;rw[AN]at h;exact h.imp of_decide_eq_true of_decide_eq_true
  .cases e
 .rename_i x j;split at e
  .rename_i h;cases e;refine .inr ⟨x,j.toNat,b.1,?_,∅,h.2.2,q _ F H (Al.refl ..) ⟨rfl,?_⟩⟩
   .rw[show u=V.int j from a];congr 1;lia
   .rw[LC];have c:j.toNat<=100:=∅
    exact cH (Nat.mul_le_mul c h.2.2) (by decide)
  .cases e
 .cases e
def dR(f:Int->Int->Bool):PV->PV->Option PV
 |.int i,.int j=>aa (.bl (f i j))
 |_,_=>ae
theorem jF{f:Int->Int->Bool}:P2 K (k_ λi j=>.bl (f i j)) (dR f):=λF H x y v u Q pv b a e q=>by
 unfold dR at e;split at e
 .cases e;exact⟨_,_,b,a,q _ F H (Al.refl ..) rfl⟩
 .cases e
def dD:PV->Option V
 |.non=>aa .non
 |.bl b=>aa (.bl b)
 |.int i=>aa (.int i)
 |.str x=>aa (tV x)
 |_=>ae
theorem jW{H:Hp}{F:ag->Prop}{x:PV}{v w:V}(r:aO K H F x v)(e:dD x=aa w):v=w:=by
 cases x <;> simp[dD]at e <;> subst e
 .exact r
 .exact r
 .exact r
 .exact r.1
theorem vk{x:PV}{w:V}(e:dD x=aa w):iq w=ah:=by
 cases x <;> simp[dD]at e <;> subst e <;> rfl
mutual
def cW:PV->PV->Option Bool
 |.tup c,y=>match y with
  |.tup a=>gE c a
  |_=>ae
 |.lst c,y=>match y with
  |.lst a=>gE c a
  |_=>ae
 |.non,y=>(dD y).map (fS .non)
 |.bl b,y=>(dD y).map (fS (.bl b))
 |.int i,y=>(dD y).map (fS (.int i))
 |.str x,y=>(dD y).map (fS (tV x))
 |.raw _,_=>ae
 |.exc _,_=>ae
def gE:List PV->List PV->Option Bool
 |[],c=>aa c.isEmpty
 |x::d,c=>match c with
  |[]=>aa ak
  |y::c=>(cW x y).bind λa=>(gE d c).map λb=>a&&b
end
mutual
def jb:PV->Nat
 |.tup a=>iy a+1
 |.lst a=>iy a+1
 |_=>0
def iy:List PV->Nat
 |[]=>0
 |x::a=>max (jb x) (iy a)
end
theorem F9{H:Hp}{d a:Nat}{x y:V}{k:Bool}(h:im K H d x y k)(l:d<=a):im K H a x y k:=λX g i b s u v A I f c j=>h X g i b s u v A I f c ∅
theorem wp{H:Hp}{F:ag->Prop}{w:V}{y:PV}{u:V}{k:Bool}{d:Nat}(b:iq w=ah)(e:(dD y).map (fS w)=aa k)(a:aO K H F y u):im K H d w u k:=by
 cases q:dD y with
 |none=>rw[q]at e;cases e
 |some z=>
  rw[q]at e;cases e;rw[jW a q];exact IE b (vk q)
theorem Ib{H:Hp}{a:ag}{c b:List V}(h:Rd H a (.lst c))(g:Rd H a (.lst b)):c=b:=by
 rcases h with h|⟨o,h⟩ <;> rcases g with g|⟨d,g⟩ <;> rw[h]at g <;> cases g <;> rfl
theorem Pt{a:Bool}{e:Nat->Bool}{n m:Nat}:fV (λj=>if j=0 then a else e (j-1)) (n+1) (m+1)=(a&&fV e n m):=by
 unfold fV;rw[show min (n+1) (m+1)=min n m+1 by lia,AK,rf,xA,if_pos rfl,Bool.and_assoc];congr 1;congr 1
 .simp
mutual
theorem yV{H:Hp}{F:ag->Prop}:∀(x y:PV) {v:V}{k:Bool},cW x y=aa k->aO K H F x v->aO K H F y v->k=ah
 |.tup h,y,v,k,e,d,c=>by
  unfold cW at e;split at e
  .obtain⟨a,n,rfl,j,f⟩:=d;obtain⟨b,m,l,g,i⟩:=c;cases l;rw[j]at g;cases g;exact zG h _ e f i
  .cases e
 |.lst h,y,v,k,e,d,c=>by
  unfold cW at e;split at e
  .obtain⟨a,n,rfl,j,_,f⟩:=d;obtain⟨b,m,l,g,_,i⟩:=c;cases l;rw[Ib j g]at f;exact zG h _ e f i
  .cases e
 |.non,y,v,k,e,d,c=>by
  unfold cW at e;cases q:dD y with
  |none=>rw[q]at e;cases e
  |some z=>rw[q]at e;cases e;rw[<-jW c q,show v=V.non from d];rfl
 |.bl b,y,v,k,e,d,c=>by
  unfold cW at e;cases q:dD y with
  |none=>rw[q]at e;cases e
  |some z=>rw[q]at e;cases e;rw[<-jW c q,show v=V.bl b from d];exact beq_self_eq_true b
 |.int b,y,v,k,e,d,c=>by
  unfold cW at e;cases q:dD y with
  |none=>rw[q]at e;cases e
  |some z=>rw[q]at e;cases e;rw[<-jW c q,show v=V.int b from d];exact beq_self_eq_true b
 |.str b,y,v,k,e,d,c=>by
  unfold cW at e;cases q:dD y with
  |none=>rw[q]at e;cases e
  |some z=>rw[q]at e;cases e;rw[<-jW c q,show v=tV b from d.1];exact beq_self_eq_true (tS b)
 |.raw _,_,_,_,e,_,_=>by unfold cW at e;cases e
 |.exc _,_,_,_,e,_,_=>by unfold cW at e;cases e
theorem zG{H:Hp}{F:ag->Prop}:∀(d c:List PV) {f:List V}{k:Bool},gE d c=aa k->ba K H F d f->ba K H F c f->k=ah
 |[],c,f,k,e,i,g=>by
  unfold gE at e;rw[show f=[] from i]at g;have:=g.len;cases c with
  |nil=>cases e;rfl
  |cons=>simp at this
 |x::d,c,f,k,e,i,g=>by
  unfold gE at e;obtain⟨v,r,rfl,m,l⟩:=i;cases c with
  |nil=>have:=g.len;simp at this
  |cons y c=>
   obtain⟨q,s,p,o,n⟩:=g;cases p;simp only at e;cases h:cW x y with
   |none=>rw[h]at e;cases e
   |some a=>
    cases j:gE d c with
    |none=>rw[h,j]at e;cases e
    |some b=>
     rw[h,j]at e;cases e;rw[yV x y h m o,zG d c j l n];rfl
end
mutual
theorem P5{H:Hp}{F:ag->Prop}:∀(x y:PV) {v u:V}{k:Bool},cW x y=aa k->aO K H F x v->aO K H F y u->im K H (jb x) v u k
 |.tup i,y,v,u,k,e,d,c=>by
  have p:=e;unfold cW at e;split at e
  .rename_i h;obtain⟨a,r,rfl,o,l⟩:=id d;obtain⟨b,q,rfl,n,j⟩:=id c;by_cases g:a=b
   .subst g;rw[yV _ _ p d c];exact Ca
   .obtain⟨f,m,rfl⟩:=tj i h e l j;unfold jb;exact Jw (cL.of o) (cL.of n) g m
  .cases e
 |.lst i,y,v,u,k,e,d,c=>by
  have p:=e;unfold cW at e;split at e
  .rename_i h;obtain⟨a,r,rfl,o,_,l⟩:=id d;obtain⟨b,q,rfl,n,_,j⟩:=id c;by_cases g:a=b
   .subst g;rw[yV _ _ p d c];exact Ca
   .obtain⟨f,m,rfl⟩:=tj i h e l j;unfold jb;exact Hr (.inl o) (.inl n) g m
  .cases e
 |.non,y,v,u,k,e,d,c=>by unfold cW at e;rw[show v=V.non from d];exact wp rfl e c
 |.bl b,y,v,u,k,e,d,c=>by unfold cW at e;rw[show v=V.bl b from d];exact wp rfl e c
 |.int b,y,v,u,k,e,d,c=>by unfold cW at e;rw[show v=V.int b from d];exact wp rfl e c
 |.str b,y,v,u,k,e,d,c=>by unfold cW at e;rw[show v=tV b from d.1];exact wp rfl e c
 |.raw _,_,_,_,_,e,_,_=>by unfold cW at e;cases e
 |.exc _,_,_,_,_,e,_,_=>by unfold cW at e;cases e
theorem tj{H:Hp}{F:ag->Prop}:∀(d c:List PV) {g i:List V}{k:Bool},gE d c=aa k->ba K H F d g->ba K H F c i -> ∃f:Nat->Bool,(∀(j:Nat) x y,g[j]?=aa x->i[j]?=aa y->im K H (iy d) x y (f j))/\k=fV f g.length i.length
 |[],c,g,i,k,e,n,l=>by
  unfold gE at e;rw[show g=[] from n];refine⟨λ_=>ah,λj x y h=>by simp at h,?_⟩;have:=l.len;cases e;unfold fV;cases c with
  |nil=>simp at this;simp[this]
  |cons=>rw[this];simp
 |x::d,c,g,i,k,e,n,l=>by
  unfold gE at e;obtain⟨v,r,rfl,B,A⟩:=n;cases c with
  |nil=>
   cases e;rw[show i=[] from l];exact⟨λ_=>ah,λj x y _ h=>by simp at h,by simp[fV]⟩
  |cons y c=>
   obtain⟨u,E,rfl,D,C⟩:=l;simp only at e;cases m:cW x y with
   |none=>rw[m]at e;cases e
   |some a=>
    cases o:gE d c with
    |none=>rw[m,o]at e;cases e
    |some b=>
     rw[m,o]at e;cases e;obtain⟨f,z,rfl⟩:=tj d c o A C;refine⟨λj=>if j=0 then a else f (j-1),λj p q w s=>?_,by rw[cS,cS,Pt]⟩;cases j with
     |zero=>simp at w s;subst w s;show im K H _ _ _ (if(0:Nat)=0 then a else f (0-1));rw[if_pos rfl];exact F9 (P5 x y m B D) (by unfold iy;exact Nat.le_max_left _ _)
     |succ j=>show im K H _ _ _ (if j+1=0 then a else f (j+1-1));rw[if_neg ∅];exact F9 (z j p q (by simpa using w) (by simpa using s)) (show iy d<=max (jb x) (iy d)from Nat.le_max_right _ _)
end
def eqT(neg:Bool)(x y:PV):Option PV:=match dD x,dD y with
 |some v,aa u=>if tt v u then aa (.bl (neg^^decide (v=u)))else ae
 |none,ae=>if jb x<=8 then(cW x y).map λk=>.bl (neg^^k)else ae
 |_,_=>ae
def Ft(K:ax):R2:=λx y H Q=>EA x y H Q\/sG K ak x y H Q
def B6(K:ax):R2:=λx y H Q=>Dz x y H Q\/sG K ah x y H Q
theorem nt(a:X.A.units+64<cLine):bX X (dw .Eq) (Ft X.K):=QF.or (HF a)
theorem vL(a:X.A.units+64<cLine):bX X (dw .NotEq) (B6 X.K):=QQ.or (Na a)
theorem Fu{H:Hp}{F:ag->Prop}{x y:PV}{v u:V}{k:Bool}{Q:VK}{neg:Bool}(h:dD x=ae)(e:cW x y=aa k)(B:jb x<=8)(A:aO K H F x v)(w:aO K H F y u)(q:Q (.bl (neg^^k)) H):sG K neg v u H Q:=by
 have d:∀{g:Bool},k=g->Q (.bl (if neg=ah then !g else g)) H:=λ{g} z=>by subst z;cases neg <;> simpa using q
 cases x with
 |tup c=>
  unfold cW at e;split at e
  .rename_i i;obtain⟨a,l,rfl,r,n⟩:=A;obtain⟨b,j,rfl,p,m⟩:=w;obtain⟨f,o,s⟩:=tj c i e n m;unfold jb at B;exact⟨a,b,l,j,iy c,f,rfl,rfl,.inr ⟨cL.of r,cL.of p⟩,∅,o,d s⟩
  .cases e
 |lst c=>
  unfold cW at e;split at e
  .rename_i i;obtain⟨a,l,rfl,r,_,n⟩:=A;obtain⟨b,j,rfl,p,_,m⟩:=w;obtain⟨f,o,s⟩:=tj c i e n m;unfold jb at B;exact⟨a,b,l,j,iy c,f,rfl,rfl,.inl ⟨.inl r,.inl p⟩,∅,o,d s⟩
  .cases e
 |raw _=>unfold cW at e;cases e
 |exc _=>unfold cW at e;cases e
 |non=>cases h
 |bl _=>cases h
 |int _=>cases h
 |str _=>cases h
theorem mZ:P2 K (Ft K) (eqT ak):=λF H x y v u Q pv g f e q=>by
 unfold eqT at e;split at e
 .rename_i a b d h;split at e
  .rename_i i;cases e;rw[jW g d,jW f h];refine .inl ⟨i,?_⟩;have:=q (.bl (decide (a=b))) F H (Al.refl ..) (by simp[aO]);exact this
  .cases e
 .rename_i d h;split at e
  .rename_i j;cases c:cW x y with
   |none=>rw[c]at e;cases e
   |some k=>
    rw[c]at e;cases e;exact .inr (Fu (neg:=ak) d c j g f (q _ F H (Al.refl ..) rfl))
  .cases e
 .cases e
theorem wA:P2 K (B6 K) (eqT ah):=λF H x y v u Q pv g f e q=>by
 unfold eqT at e;split at e
 .rename_i a b d h;split at e
  .rename_i i;cases e;rw[jW g d,jW f h];refine .inl ⟨i,?_⟩;have:=q (.bl (!decide (a=b))) F H (Al.refl ..) (by simp[aO]);exact this
  .cases e
 .rename_i d h;split at e
  .rename_i j;cases c:cW x y with
   |none=>rw[c]at e;cases e
   |some k=>
    rw[c]at e;cases e;exact .inr (Fu (neg:=ah) d c j g f (q _ F H (Al.refl ..) rfl))
  .cases e
 .cases e
end
end Pu
namespace Pu
open L2
section
variable{X:Cx}{K:ax}
def vj(i j:Tx):Bool:=!(Gg (tS j) (tS i) 0 (tS j).length 1).isEmpty
def i_:List PV->Option (List V)
 |[]=>aa []
 |x::a=>(dD x).bind λv=>(i_ a).map λr=>v::r
theorem yq{H:Hp}{F:ag->Prop}:∀{a:List PV}{d b:List V},ba K H F a d->i_ a=aa b->d=b/\b.all iq=ah
 |[],_,_,r,e=>by cases e;exact⟨r,rfl⟩
 |x::a,_,b,⟨v,r,rfl,g,f⟩,e=>by
  unfold i_ at e;cases q:dD x with
  |none=>rw[q]at e;cases e
  |some w=>
   cases c:i_ a with
   |none=>rw[q,c]at e;cases e
   |some j=>
    rw[q,c]at e;cases e;obtain⟨i,h⟩:=yq f c;exact⟨by rw[jW g q,i],by rw[rf,vk q,h];rfl⟩
def kq(neg:Bool):PV->PV->Option PV
 |.str x,.str y=>aa (.bl (neg^^vj x y))
 |x,.lst a=>(dD x).bind λv=>(i_ a).map λb=>.bl (neg^^nc v b)
 |x,.tup a=>(dD x).bind λv=>(i_ a).map λb=>.bl (neg^^nc v b)
 |_,_=>ae
def FO(K:ax):R2:=λx y H Q=>(∃i j,x=.str i/\y=.str j/\Q (.bl (!(Gg j i 0 j.length 1).isEmpty)) H)\/za K ak x y H Q
theorem Fk:bX X (dw .In) (FO X.K):=QB.or Oh
theorem C6{H:Hp}{F:ag->Prop}{x:PV}{c:List PV}{v:V}{p:ag}{b:List V}{Q:VK}{neg:Bool}{pv:PV}(g:aO K H F x v)(i:b9 K H p b\/cL K H p b)(h:ba K H F c b)(e:((dD x).bind λv=>(i_ c).map λf=>PV.bl (neg^^nc v f))=aa pv) (q:∀w,aO K H F pv w->Q w H):za K neg v (.ref p) H Q:=by
 cases a:dD x with
 |none=>rw[a]at e;cases e
 |some w=>
  cases d:i_ c with
  |none=>rw[a,d]at e;cases e
  |some f=>
   rw[a,d]at e;cases e;obtain⟨rfl,j⟩:=yq h d;rw[jW g a];refine⟨p,b,rfl,i,vk a,j,?_⟩;have:=q _ rfl;cases neg <;> simpa using this
theorem BM:P2 K (FO K) (kq ak):=λF H x y v u Q pv d c e q=>by
 unfold kq at e;split at e
 .cases e;exact .inl ⟨_,_,d.1,c.1,by have:=q _ F H (Al.refl ..) rfl;simpa[vj]using this⟩
 .obtain⟨a,h,rfl,g,_,f⟩:=c;exact .inr (C6 (neg:=ak) d (.inl (.inl g)) f e λw b=>q w F H (Al.refl ..) b)
 .obtain⟨a,h,rfl,g,f⟩:=c;exact .inr (C6 (neg:=ak) d (.inr (cL.of g)) f e λw b=>q w F H (Al.refl ..) b)
 .cases e
def bS:List PV->Option PV
 |[.str x]=>aa (.int x.length)
 |[.lst a]=>aa (.int a.length)
 |[.tup a]=>aa (.int a.length)
 |_=>ae
theorem gC{H:Hp}{F:ag->Prop}{x:PV}{a:List V}(r:ba K H F [x] a):∃v,a=[v]/\aO K H F x v:=by obtain⟨v,b,rfl,d,c⟩:=r;rw[show b=[] from c];exact⟨v,rfl,d⟩
theorem ji:PL K (λg H Q=>∃x n,g=[x]/\CN K x H n/\Q (.int n) H) bS:=λF H g i Q pv c e q=>by
 unfold bS at e;split at e
 .cases e;obtain⟨v,rfl,h⟩:=gC c;rw[h.1];exact⟨_,_,rfl,⟨by rw[lj];exact cH h.2 lm,rfl⟩,by rw[lj];exact q _ F H (Al.refl ..) rfl⟩
 .cases e;obtain⟨v,rfl,a,b,rfl,f,_,d⟩:=gC c;exact⟨_,_,rfl,.inl ⟨b,.inl f,rfl⟩,by rw[d.len];exact q _ F H (Al.refl ..) rfl⟩
 .cases e;obtain⟨v,rfl,a,b,rfl,f,d⟩:=gC c;exact⟨_,_,rfl,.inr ⟨b,cL.of f,rfl⟩,by rw[d.len];exact q _ F H (Al.refl ..) rfl⟩
 .cases e
def l8:List PV->Option PO
 |[.lst xs]=>aa (.lst xs)
 |[.tup xs]=>aa (.lst xs)
 |_=>ae
theorem zq:kr K (λh H Q=>∃p c,h=[.ref p]/\(b9 K H p c\/cL K H p c)/\∀l,H l=ae->Q (.ref l) (upd H l (.lst c))) l8:=λF H h m Q n j i e q=>by
 unfold l8 at e;split at e
 .cases e;obtain⟨v,rfl,a,d,rfl,g,_,f⟩:=gC i;exact⟨a,d,rfl,.inl (.inl g),λl b=>q l F _ _ (Al.new0 b) (vY b f) (wd b j trivial)⟩
 .cases e;obtain⟨v,rfl,a,d,rfl,g,f⟩:=gC i;exact⟨a,d,rfl,.inr (cL.of g),λl b=>q l F _ _ (Al.new0 b) (vY b f) (wd b j trivial)⟩
 .cases e
def gY:List PV->Option PV
 |[.lst xs]=>aa (.tup xs)
 |[.tup xs]=>aa (.tup xs)
 |_=>ae
theorem tO:PL K (λg H Q=>∃p d,g=[.ref p]/\((b9 K H p d/\∀l,H l=ae->Q (.ref l) (upd H l (.tup d)))\/(cL K H p d/\Q (.ref p) H))) gY:=λF H g j Q pv h e q=>by
 unfold gY at e;split at e
 .cases e;obtain⟨v,rfl,a,b,rfl,c,_,f⟩:=gC h;exact⟨a,b,rfl,.inl ⟨.inl c,λl i=>q _ F _ (Al.new0 i) ⟨l,b,rfl,upd_same,(Al.new0 i).reps f⟩⟩⟩
 .cases e;obtain⟨v,rfl,a,b,rfl,c,f⟩:=gC h;exact⟨a,b,rfl,.inr ⟨cL.of c,q _ F H (Al.refl ..) ⟨a,b,rfl,c,f⟩⟩⟩
 .cases e
def fG:List PV->Option (List Tx)
 |[]=>aa []
 |.str x::a=>(fG a).map (x::·)
 |_=>ae
def am(ls:List Tx):List PV:=ls.map .str
theorem n9(a:List Tx):fG (am a)=aa a:=by
 induction a with
 |nil=>rfl
 |cons x a b=>show(fG (am a)).map (x::·)=_;rw[b];rfl
theorem qc:∀{a:List PV}{b:List Tx},fG a=aa b->a=am b
 |[],b,e=>by cases e;rfl
 |.str x::a,b,e=>by
  unfold fG at e;cases q:fG a with
  |none=>rw[q]at e;cases e
  |some r=>rw[q]at e;cases e;rw[qc q];rfl
 |.non::_,_,e=>by cases e
 |.bl _::_,_,e=>by cases e
 |.int _::_,_,e=>by cases e
 |.tup _::_,_,e=>by cases e
 |.lst _::_,_,e=>by cases e
 |.raw _::_,_,e=>by cases e
 |.exc _::_,_,e=>by cases e
theorem Qy{H:Hp}{F:ag->Prop}:∀{a:List Tx}{b:List V},ba K H F (am a) b↔b=bU a/\∀x∈a,x.length<=bQ
 |[],b=>by simp[am,ba,bU]
 |x::a,b=>by
  show(∃v r,b=v::r/\(v=tV x/\x.length<=bQ)/\ba K H F (am a) r)↔_;constructor
  .rintro⟨v,r,rfl,⟨rfl,f⟩,h2⟩;obtain⟨rfl,d⟩:=Qy.mp h2;exact⟨rfl,λy c=>by
    rcases bw.mp c with rfl|c
    .exact f
    .exact d y c⟩
  .rintro⟨rfl,h⟩;exact⟨tV x,bU a,rfl,⟨rfl,h x (by simp)⟩,Qy.mpr ⟨rfl,λy c=>h y (by simp[c])⟩⟩
def lS:List PV->Option (List Bool)
 |[]=>aa []
 |.bl b::a=>(lS a).map (b::·)
 |_=>ae
theorem Ec{H:Hp}{F:ag->Prop}:∀{a:List PV}{c:List V}{bs:List Bool},ba K H F a c->lS a=aa bs->c=bs.map V.bl
 |[],_,_,r,e=>by cases e;exact r
 |.bl b::a,_,bs,⟨v,r,rfl,f,d⟩,e=>by
  unfold lS at e;cases q:lS a with
  |none=>rw[q]at e;cases e
  |some g=>rw[q]at e;cases e;rw[Ec d q,show v=V.bl b from f];rfl
 |.non::_,_,_,_,e=>by cases e
 |.str _::_,_,_,_,e=>by cases e
 |.int _::_,_,_,_,e=>by cases e
 |.tup _::_,_,_,_,e=>by cases e
 |.lst _::_,_,_,_,e=>by cases e
 |.raw _::_,_,_,_,e=>by cases e
 |.exc _::_,_,_,_,e=>by cases e
def qJ:List PV->Option PV
 |[.lst a]=>(lS a).map λbs=>.bl (bs.all id)
 |_=>ae
theorem Aq:PL K (λc H Q=>∃(p:ag) (bs:List Bool),c=[.ref p]/\b9 K H p (bs.map V.bl)/\Q (.bl (bs.all id)) H) qJ:=λF H c i Q pv g e q=>by
 unfold qJ at e;split at e
 .rename_i f;cases b:lS f with
  |none=>rw[b]at e;cases e
  |some bs=>
   rw[b]at e;cases e;obtain⟨v,rfl,a,j,rfl,d,_,h⟩:=gC g;rw[Ec h b]at d;exact⟨a,bs,rfl,.inl d,q _ F H (Al.refl ..) rfl⟩
 .cases e
def tW:PV->Option String
 |.non=>aa "NoneType"
 |.bl _=>aa "bool"
 |.int _=>aa "int"
 |.str _=>aa "str"
 |.tup _=>aa "tuple"
 |.lst _=>aa "list"
 |_=>ae
def jg:List PV->Option PV
 |[x,.raw (.ty T)]=>(tW x).bind λt=>(jk [] (.type t) (.type T)).map λb=>.bl b
 |_=>ae
theorem sv:eG X (.builtin "isinstance") (λa H Q=>∃x t T b,a=[x,.ty T]/\iM X.K H x (.type t)/\jk X.K (.type t) (.type T)=aa b/\Q (.bl b) H):=by
 intro m s i H a j Q I r h;obtain⟨x,t,T,b,rfl,ty,e,q⟩:=h;cases r with
 |cons g f=>
  cases f with
  |cons d c=>
   cases c;cases d;exact Kc I g ty e λl=>⟨.bl b,H,I.tok _,rfl,q⟩
theorem K1{H:Hp}{F:ag->Prop}{x:PV}{v:V}{t:String}(r:aO K H F x v)(e:tW x=aa t):iM K H v (.type t):=by
 cases x with
 |non=>cases e;rw[show v=V.non from r];exact .non
 |bl b=>cases e;rw[show v=V.bl b from r];exact .bl b
 |int b=>cases e;rw[show v=V.int b from r];exact .int b
 |str b=>cases e;rw[show v=tV b from r.1];exact .str _
 |tup d=>cases e;obtain⟨a,f,rfl,c,_⟩:=r;exact .tup c
 |lst d=>
  cases e;obtain⟨a,f,rfl,c,_⟩:=r;rcases c with c|⟨o,c⟩
  .exact .lst c
  .exact .frz c
 |raw _=>cases e
 |exc _=>cases e
theorem sT:PL K (λd H Q=>∃x t T b,d=[x,.ty T]/\iM K H x (.type t)/\jk K (.type t) (.type T)=aa b/\Q (.bl b) H) jg:=λF H d j Q pv f e q=>by
 unfold jg at e;split at e
 .rename_i x T;cases a:tW x with
  |none=>rw[a]at e;cases e
  |some t=>
   cases c:jk [] (.type t) (.type T)with
   |none=>rw[a,jP,c]at e;cases e
   |some b=>
    rw[a,jP,c]at e;cases e;obtain⟨v,l,rfl,i,h⟩:=f;obtain⟨u,rfl,g⟩:=gC h;rw[show u=V.ty T from g];exact⟨v,t,T,b,rfl,K1 i a,c,q _ F H (Al.refl ..) rfl⟩
 .cases e
theorem sC{E:XK}{x:Str}{T:String}{f:Pos}(c:X.mg x=ae)(a:d7 x=aa (.type T))(d:Gl X x:=by rfl)(b:x≠"__name__":=by decide)(g:(x==("__debug__":Str))=ak:=by decide):DE X E (.Name x f) (dC (.raw (.ty T))):=λF S i h H Q r q=>b8 (KQ (v:=.ty T) d c a rfl b g) (q F S H r (bt.refl ..) _ rfl)
def bL:PV->PV->Option PV
 |.lst a,.int i=>fq a i
 |.tup a,.int i=>fq a i
 |.str x,.int i=>(fq x i).map λc=>.str [c]
 |_,_=>ae
theorem Ci{H:Hp}{F:ag->Prop}{a:List PV}{b:List V}{i:Int}{x:PV}(r:ba K H F a b)(e:fq a i=aa x):∃v,fq b i=aa v/\aO K H F x v:=by
 unfold fq at e ⊢;rw[r.len];cases q:jY a.length i with
 |none=>rw[q]at e;cases e
 |some j=>rw[q]at e;exact r.get e
theorem hU:P2 K (Fh K) bL:=λF H x y v u Q pv b f e q=>by
 unfold bL at e;split at e
 .rename_i n i;obtain⟨a,d,rfl,j,_,g⟩:=b;obtain⟨w,m,l⟩:=Ci g e;exact .inl ⟨a,d,i,w,rfl,f,.inl j,m,q _ F H (Al.refl ..) l⟩
 .rename_i n i;obtain⟨a,d,rfl,j,g⟩:=b;obtain⟨w,m,l⟩:=Ci g e;exact .inr (.inl ⟨a,d,i,w,rfl,f,cL.of j,m,q _ F H (Al.refl ..) l⟩)
 .rename_i x i;cases h:fq x i with
  |none=>rw[h]at e;cases e
  |some c=>
   rw[h]at e;cases e;rw[b.1];exact .inr (.inr ⟨_,i,c,rfl,f,by rw[lj];exact cH b.2 lm,by rw[kC];exact h,q _ F H (Al.refl ..) ⟨rfl,by show 1<=bQ;decide⟩⟩)
 .cases e
def fX{b:Type}(a:List b)(c d:Option Int):List b:=(a.drop (HT.sIx a.length 0 c)).take (HT.sIx a.length a.length d-HT.sIx a.length 0 c)
theorem Mf{b:Type}(a:List b)(c d:Option Int):(fX a c d).length<=a.length:=by unfold fX;rw[lw,lx];lia
def cu:PV->Option Int->Option Int->Option PV
 |.str x,b,c=>aa (.str (fX x b c))
 |.lst a,b,c=>aa (.lst (fX a b c))
 |.tup a,b,c=>if HT.sIx a.length 0 b=0/\HT.sIx a.length a.length c=a.length then ae else aa (.tup (fX a b c))
 |_,_,_=>ae
def DU(K:ax):V->Option Int->Option Int->Hp->VK->Prop:=λx a b H Q=>Ef x a b H Q\/(DC K x a b H Q\/EW K x a b H Q)
theorem jh:lW X (DU X.K):=Qw.or (Qz.or J8)
theorem CG{H:Hp}{F:ag->Prop}{a:List PV}{b:List V}(r:ba K H F a b)(c d:Option Int):ba K H F (fX a c d) (mX b c d):=by unfold fX mX;rw[r.len];exact(r.drop _).take _
theorem jf:Ej K (DU K) cu:=λF H x h i v Q pv b e q=>by
 unfold cu at e;split at e
 .cases e;rw[b.1];refine .inl ⟨_,rfl,by rw[lj];exact cH b.2 lm,?_⟩;refine q _ F H (Al.refl ..) ⟨?_,cH (Mf ..) b.2⟩;unfold lh fX;rw[lj,kC];rfl
 .cases e;obtain⟨a,f,rfl,g,_,d⟩:=b;exact .inr (.inl ⟨a,f,rfl,.inl g,λp c=>q _ _ _ (Al.new c) ⟨p,_,rfl,.inl upd_same,.inr rfl,(Al.new c).reps (CG d h i)⟩⟩)
 .split at e
  .cases e
  .rename_i j;cases e;obtain⟨a,f,rfl,g,d⟩:=b;exact .inr (.inr ⟨a,f,rfl,cL.of g,by rw[d.len];exact j,λp c=>q _ _ _ (Al.new0 c) ⟨p,_,rfl,upd_same,(Al.new0 c).reps (CG d h i)⟩⟩)
 .cases e
variable{E:XK}{g l a b:ay}{d:aj->R PV}{m:aj->R (List PV)}{p f:Pos}
def gg:PV->Option (List PV)
 |.lst xs=>aa xs
 |.tup xs=>aa xs
 |.str x=>aa (x.map λc=>.str [c])
 |_=>ae
def bI(d:aj->R PV):aj->R (List PV):=λε=>(d ε).bind λx ε1=>aB (gg x) ε1
theorem Dq{H:Hp}{F:ag->Prop}:∀(x:Tx),ba K H F (x.map λc=>PV.str [c]) (x.map sg)
 |[]=>rfl
 |c::x=>⟨sg c,x.map sg,rfl,⟨rfl,by show 1<=bQ;decide⟩,Dq x⟩
theorem iL(he:DE X E l d):DI X E g l (bI d):=λF S ε Z H Rr rl h=>Bx.mk λaf s I=>by
 have w:=he F S ε Z H (λv r=>∃B D u x,aN X.K B D u Z r/\aO X.K r B x v/\Ok X.K E Z B D r (aB (gg x) u) (λpvs _ F' S' H'=>∀J L RR,ba X.K H' F' pvs L->L.length<=a8->Walk J L RR->(∀S'' F'' Y,bt (U S') (U S'') F' F'' H' Y->RR Y)->Rr J H')) rl
  ((Ok.bind h).imp λx u B D r G g1 q v N=>⟨B,D,u,x,G,N,q⟩)
 refine aH (w.run af s I) λv c ⟨x,r,y,rx,B,D,u,pv,G,N,q⟩=>?_;cases pv with
 |lst xs=>
  obtain⟨a,M,rfl,C,hF,ra⟩:=N;cases rx;obtain⟨O,rr,pp,P⟩:=y.list (.inl C);refine Gw pp.isList ?_;refine⟨c.heap.objs.size,[c.heap.objs.size],_,_,r,rfl,y.kept (t':=c.toks) λb o e=>bx _ e,L0 a _,⟨_,cE _ rfl,rfl,rfl⟩,λb T=>?_,q B D r G (bt.refl ..) (yx X.K a) M (λH=>b9 X.K H a M) ra P Mc λS2 F2 H2 g2=>.inl (g2.lst G.fit hF C)⟩;have e:b=c.heap.objs.size:=by simpa using T
  subst e;exact y.fpOk (aT _) (y.hok.fresh (aT _))
 |tup xs=>
  obtain⟨a,M,rfl,C,ra⟩:=N;cases rx;obtain⟨O,rr,pp,P⟩:=y.tuple (cL.of C);refine wpAny_pyIter_tuple (show c.heap.IsTuple a O.toArray from pp) ?_;refine⟨c.heap.objs.size,[c.heap.objs.size],_,_,r,rfl,y.kept (t':=c.toks) λb o e=>bx _ e,Oe a _,⟨_,cE _ rfl,rfl,rfl⟩,λb T=>?_,q B D r G (bt.refl ..) (zB X.K a) M (λH=>cL X.K H a M) ra P HK λS2 F2 H2 g2=>cL.of (g2.imm G.fit C id)⟩;have e:b=c.heap.objs.size:=by simpa using T
  subst e;exact y.fpOk (aT _) (y.hok.fresh (aT _))
 |str z=>
  obtain⟨rfl,P⟩:=N;obtain⟨t,rfl⟩:=rx;have qq:Rr (tU (tS z)) r:=q B D r G (bt.refl ..) (tU (tS z)) (z.map sg) (λ_=>True) (Dq z) (by rw[cM];exact cH P lm) (by have:=MY (z:=tS z);rw[kC]at this;exact this) λ_ _ _ _=>trivial;have W:∀(n:String) (j:Nat->az->Prop),(∀i h,j i h->∃o n L,h.get? c.heap.objs.size=aa o/\o.cls=.type n/\o.data=.fields L /\ ["enumerate","zip","dict_itemiterator","dict_reverseitemiterator","odict_iterator","itertools.zip_longest","itertools.pairwise"].contains n=ak) ->
    (∀(A:aX) (i:Nat) (s:ao) (Q:ai->ao->Prop) (E:ai->ao->Prop),j i s.heap->Q (.ref c.heap.objs.size) s->aq (ar X.prog X.w) A (mo (.ref c.heap.objs.size)) Q E s) ->
    (∀A:aX,A.handled=ae->Walks X.prog X.w A c.heap.objs.size [c.heap.objs.size] [c.heap.objs.size] (tS z).cps.size (SignAt (tS z)) j) ->
    j 0 (c.heap.push {cls:=.type n,data:=.fields #[.str (tS z) t,.int 0 0]}) ->
    vF X af Z g Rr (.ref c.heap.objs.size) {c with heap:=c.heap.push {cls:=.type n,data:=.fields #[.str (tS z) t,.int 0 0]}}:=λn j q h2 h3 h4=>by
   refine⟨c.heap.objs.size,[c.heap.objs.size],j,tU (tS z),r,rfl,y.kept (t':=c.toks) λb o e=>bx _ e,N2 q h2 h3,h4,λb T=>?_,qq⟩;have e:b=c.heap.objs.size:=by simpa using T
   subst e;exact y.fpOk (aT _) (y.hok.fresh (aT _))
  cases C:(tS z).cps.all (· < 128)
  .refine wpAny_pyIter_wide C (W "str_iterator" (λi h=>h.IsStrIter c.heap.objs.size "str_iterator" (tS z) t i) (λi h ⟨o,e1,e2,e3⟩=>⟨o,_,_,e1,e2,e3,by decide⟩) (λA i s Q E st h=>wpAny_pyIter_striter_wide st h) (λA' hA=>Walks.strWide hA _ (tS z) t) ⟨_,cE _ rfl,rfl,rfl⟩)
  .refine wpAny_pyIter_ascii C (W "str_ascii_iterator" (λi h=>h.IsStrIter c.heap.objs.size "str_ascii_iterator" (tS z) t i) (λi h ⟨o,e1,e2,e3⟩=>⟨o,_,_,e1,e2,e3,by decide⟩) (λA i s Q E st h=>wpAny_pyIter_striter_ascii st h) (λA' hA=>Walks.strAscii hA _ (tS z) t) ⟨_,cE _ rfl,rfl,rfl⟩)
 |non=>exact(show False from q).elim
 |bl _=>exact(show False from q).elim
 |int _=>exact(show False from q).elim
 |raw _=>exact(show False from q).elim
 |exc _=>exact(show False from q).elim
def eQ(c:Int)(n:Nat):List PV:=(df n).map λi=>PV.int (c+(i:Nat))
theorem IB{H:Hp}{F:ag->Prop}(c:Int)(n:Nat):ba K H F (eQ c n) (qu c n):=by
 unfold eQ qu
 induction (df n)with
 |nil=>rfl
 |cons x i h=>exact⟨_,_,rfl,rfl,h⟩
def jD:List PV->Option (List PV)
 |[.int j]=>if j<=1000000/\-1000000<=j then aa (eQ 0 j.toNat)else ae
 |_=>ae
theorem vJ(x:X.mg "range"=ae)(z:DA X E [a] m)(y:Gl X "range":=by rfl)(w:aQ [a] X.env=[(ak,aM a X.env)]:=by rfl):DI X E g (.Call (.Name "range" p) [a] [] f) (dL jD m):=λF S o i H L r h=>by
 refine JQ (Pp y x ir w) (z F S o i H _ r ((Ok.bind h).imp λD n C A B s J c G u=>?_));unfold jD at c;split at c
 .rename_i j;split at c
  .rename_i I;obtain⟨v,rfl,q⟩:=gC u;refine⟨j,by rw[show v=V.int j from q],∅,∅,c C A B s (bt.refl ..) _ _ _ (IB 0 j.toNat) (by rw[yM,q0];lia) Kl λ_ _ _ _=>trivial⟩
  .exact c.elim
 .exact c.elim
end
section
variable{K:ax}{F:ag->Prop}{S:Nat->ag->Prop}{f:aj}{l:St}{H:Hp}{i:Nat}{p m:List PV}{d:List V}{a:ag}
theorem aN.lstAt(r:aN K F S f l H)(e:f[i]?=aa (.own (.lst p))):∃a c,l[i]?=aa (aa (.ref a))/\H a=aa (.lst c)/\ba K H F p c/\S i a/\∀b,S i b->b=a:=by obtain⟨a,o,⟨c,n,j⟩,g⟩:=r.own i _ e;exact⟨a,c,o,n,j,(g a).mpr rfl,λb h=>(g b).mp h⟩
theorem aN.upd(r:aN K F S f l H)(e:f[i]?=aa (.own (.lst p)))(E:l[i]?=aa (aa (.ref a)))(h:ba K H F m d):aN K F S (f.set i (.own (.lst m))) l (upd H a (.lst d))/\bt (U S) (U S) F F H (upd H a (.lst d)):=by
 obtain⟨O,L,G,N,M,y,C⟩:=r.lstAt e;rw[E]at G;cases G;have B:i<f.length:=(dG.mp e).1;have g:bt (U S) (U S) F F H (L2.upd H a (.lst d)):=⟨λ_ z=>z,λb o q n=>by rw[bv (by rintro rfl;exact n ⟨i,y⟩)];exact q,λb o q=>by
  by_cases D:b=a
  .subst D;exact⟨_,upd_same⟩
  .exact⟨o,by rw[bv D];exact q⟩,λ_ z=>.inl z,λ_ z=>.inl z⟩
 refine⟨⟨by rw[iP];exact r.len,λb z=>let ⟨o,q⟩:=r.ex b z;g.there b o q,λj pv q=>?_,λj A q=>?_,λj b z=>?_,r.dist⟩,g⟩
 .have s:i≠j:=by rintro rfl;rw[h_ B]at q;cases q
  rw[ff s]at q;obtain⟨v,x,u⟩:=r.val j pv q;exact⟨v,x,u.grow g r.fit⟩
 .by_cases s:i=j
  .subst s;rw[h_ B]at q;cases q;exact⟨a,E,⟨d,upd_same,h.grow g r.fit⟩,λb=>⟨C b,λz=>by rw[z];exact y⟩⟩
  .rw[ff s]at q;obtain⟨c,x,u⟩:=r.own j A q;refine⟨c,x,u.mono (λ_ _ z=>z.grow g r.fit) (λ_ _ z=>z.grow g r.fit) λb o z w=>?_⟩;rw[bv (by rintro rfl;exact s (r.dist i j b y z))];exact w
 .obtain⟨⟨A,x⟩,u,o,J,I⟩:=r.foot j b z;by_cases s:i=j
  .subst s;rw[C b z];exact⟨⟨_,h_ B⟩,by rw[<-C b z];exact u,_,upd_same,trivial⟩
  .exact⟨⟨A,by rw[ff s];exact x⟩,u,o,by rw[bv (by rintro rfl;exact s (r.dist i j b y z))];exact J,I⟩
end
section
variable{X:Cx}{E:XK}{pin:List Nat}{e b:ay}{de db:aj->R PV}{d:Pos}
def dm(a:aj)(i:Nat):Option (List PV):=match a[i]? with
 |some (.own (.lst xs))=>aa xs
 |_=>ae
theorem gF{a:aj}{i:Nat}{c:List PV}(h:dm a i=aa c):a[i]?=aa (.own (.lst c)):=by
 unfold dm at h;split at h
 .cases h;assumption
 .cases h
def lZ(i:Nat)(de:aj->R PV):aj->R aF:=λa=>(aB (dm a i) a).bind λ_ a=>(de a).bind λy ε1=>(aB (dm ε1 i) ε1).bind λxs ε1=>if xs.length<bQ then .ok .next (ε1.set i (.own (.lst (xs++[y]))))else .no
theorem zm(i:Nat){x:Str}{p f c:Pos}(N:DE X E e de)(Q:X.N[i]?=aa x:=by rfl)(K:dA X.env.scope x:=by eq_refl)(O:(x==("__debug__":Str))=ak:=by decide)(bn:(x==("__classdict__":Str))=ak:=by decide) (Z:jK (.Name x p) "append" X.env (aM (.Name x p) X.env)=aM (.Name x p) X.env:=by rfl)(Y:((cY c (aQ [e] X.env)).all (λx=>!x.1)&&(o8 c (o9 [] X.env)).all (λx=>x.1.isSome)&&decide ([e].length+([]:List jl).length+(if([]:List jl).isEmpty then 0 else 1)<30))=ah:=by rfl)(W:(f.endLine == c.line)=ah:=by rfl) (z:aQ [e] X.env=(ak,aM e X.env)::aQ [] X.env:=by rfl) (T:(cY c (aQ [] X.env)).any (·.1)=ak:=by rfl)(L:jj (.Call (.Attribute (.Name x p) "append" f) [e] [] c) ae d.line X.env=pure ak:=by rfl):DS X E pin (.Expr (.Call (.Attribute (.Name x p) "append" f) [e] [] c) d) (lZ i de):=λF S r o H D s h=>by
 unfold lZ at h;cases n:dm r i with
 |none=>rw[n]at h;exact h.elim
 |some A=>
  rw[n]at h;simp only[bP,R.bind_ok]at h;obtain⟨a,B,m,P,_,_,_⟩:=s.lstAt (gF n);refine gf (wq (wS AW PySem.F.slot_list_append PySem.F.type_list_append Ev (eI Q K O bn) (gZ bB i8 z) Z Y W z T) L) ⟨.ref a,m,.inl ⟨rfl,_,b9.of P⟩,?_⟩;refine N F S r o H _ s (h.bindE.imp λy l F1 S1 H1 w g1 q v G=>?_);cases j:dm l i with
  |none=>rw[j]at q;exact q.elim
  |some xs=>
   rw[j]at q;simp only[bP,R.bind_ok]at q;obtain⟨a',C,g,J,u,_,_⟩:=w.lstAt (gF j);rw[m]at g;cases g;split at q
   .rename_i M;obtain⟨I,g2⟩:=w.upd (gF j) m (u.app (.one G));exact⟨a,C,v,rfl,rfl,J,by rw[u.len];exact h8 M lm,q F1 S1 o _ I g2 (jw.refl _ _)⟩
   .exact q.elim
def LV:V->List V->Hp->VK->Prop:=λx f H Q=>∃l b c a,x=.ref l/\f=[.ref b]/\H l=aa (.lst c)/\Rd H b (.lst a)/\c.length+a.length<=a8/\Q .non (L2.upd H l (.lst (c++a)))
theorem Mt:t4 X "list.extend" LV:=by
 intro N s B H x G v J Q I j m h;obtain⟨l,b,D,C,rfl,rfl,i,w,K,q⟩:=h;cases j;obtain⟨u,rfl,o⟩:=m.one;cases o;obtain⟨z,c,n,r,L,e⟩:=I.lstM i;obtain⟨a,p,g,y,_⟩:=zO I w;have M:=g.length;have f:c.toArray.size+a.toArray.size<=a8:=by rw[cb,cb];lia
 have A:¬(!c.toArray.isEmpty&&Gp (c.toArray.size+a.toArray.size))=ah:=by rw[NQ f,Bool.and_false];exact fg
 refine xx F.slot_list_extend ⟨_,e,rfl⟩ F.entry_list_extend (F.args_list_extend_2 _ _)
  (AutoSeq1.list_extend_list_list_0 l c.toArray n b a.toArray p A (by rw[cb];lia) ∅) ⟨e,y,?_⟩
 refine⟨.non,_,I.lset (its':=c++a) i e (by simp) (r.append g) ?_,rfl,q⟩;rw[cZ];lia
def tq(i:Nat)(de:aj->R PV):aj->R aF:=λa=>(aB (dm a i) a).bind λ_ a=>(de a).bind λy ε1=>(aB (dm ε1 i) ε1).bind λxs ε1=>match y with
 |.lst c=>if xs.length+c.length<=bQ then .ok .next (ε1.set i (.own (.lst (xs++c))))else .no
 |_=>.no
theorem KO(i:Nat){x:Str}{p g f:Pos}(Q:DE X E e de)(Z:X.N[i]?=aa x:=by rfl)(N:dA X.env.scope x:=by eq_refl)(T:(x==("__debug__":Str))=ak:=by decide)(bn:(x==("__classdict__":Str))=ak:=by decide) (h1:jK (.Name x p) "extend" X.env (aM (.Name x p) X.env)=aM (.Name x p) X.env:=by rfl)(h2:((cY f (aQ [e] X.env)).all (λx=>!x.1)&&(o8 f (o9 [] X.env)).all (λx=>x.1.isSome)&&decide ([e].length+([]:List jl).length+(if([]:List jl).isEmpty then 0 else 1)<30))=ah:=by rfl)(h3:(g.endLine == f.line)=ah:=by rfl) (B:aQ [e] X.env=(ak,aM e X.env)::aQ [] X.env:=by rfl) (h5:(cY f (aQ [] X.env)).any (·.1)=ak:=by rfl)(O:jj (.Call (.Attribute (.Name x p) "extend" g) [e] [] f) ae d.line X.env=pure ak:=by rfl):DS X E pin (.Expr (.Call (.Attribute (.Name x p) "extend" g) [e] [] f) d) (tq i de):=λF S s r H D u h=>by
 unfold tq at h;cases o:dm s i with
 |none=>rw[o]at h;exact h.elim
 |some C=>
  rw[o]at h;simp only[bP,R.bind_ok]at h;obtain⟨a,G,n,Y,_,_,_⟩:=u.lstAt (gF o);refine gf (wq (wS AW PySem.F.slot_list_extend PySem.F.type_list_extend Mt (eI Z N T bn) (gZ bB i8 B) h1 h2 h3 B h5) O) ⟨.ref a,n,.inl ⟨rfl,_,b9.of Y⟩,?_⟩;refine Q F S s r H _ u (h.bindE.imp λy m F1 S1 H1 A g1 q v K=>?_);cases l:dm m i with
  |none=>rw[l]at q;exact q.elim
  |some xs=>
   rw[l]at q;simp only[bP,R.bind_ok]at q;obtain⟨a',I,j,M,z,_,_⟩:=A.lstAt (gF l);rw[n]at j;cases j;split at q
   .rename_i ys;split at q
    .rename_i P;obtain⟨c,J,rfl,W,_,w⟩:=K;obtain⟨L,g2⟩:=A.upd (gF l) n (z.app w);exact⟨a,c,I,J,rfl,rfl,M,W,by rw[z.len,w.len];exact cH P lm,q F1 S1 r _ L g2 (jw.refl _ _)⟩
    .exact q.elim
   .exact q.elim
def w_(i:Nat)(db de:aj->R PV):aj->R aF:=λg=>(de g).bind λy c=>(aB (dm c i) c).bind λ_ c=>(db c).bind λk a=>(aB (dm a i) a).bind λf a=>match k with
 |.int k=>match jY f.length k with
  |some j=>.ok .next (a.set i (.own (.lst (f.set j y))))
  |none=>.no
 |_=>.no
theorem MU(i:Nat){x:Str}{p c:Pos}(Z:DE X E b db)(W:DE X E e de)(hN:X.N[i]?=aa x:=by rfl)(P:dA X.env.scope x:=by eq_refl)(Y:(x==("__debug__":Str))=ak:=by decide)(bn:(x==("__classdict__":Str))=ak:=by decide) (ha:∀v,nH (.Subscript (.Name x p) b c) X.env v=(do
   let ov <-nG [v] (aM (.Name x p) X.env)
   let iv <-nG [v,ov] (aM b X.env)
   standAt c
   nG [v,ov,iv] (setItem ov iv v)
   release [v,ov,iv] []):=by intro _;rfl) (Q:swapsWithSole [.Subscript (.Name x p) b c] e d.line X.env=pure ak:=by rfl) (O:swappedStores [.Subscript (.Name x p) b c] e X.env=pure ae:=by rfl)
  (h1:(qY [.Subscript (.Name x p) b c] X.env).map (·.2)=[nH (.Subscript (.Name x p) b c) X.env]:=by rfl):DS X E pin (.Assign [.Subscript (.Name x p) b c] e d) (w_ i db de):=λF S B n H D L h=>by
 refine gf (KS bB (Ha (eI hN P Y bn) bB O9 ha) Q O h1) (W F S B n H _ L (h.bindE.imp λy g F1 S1 H1 r g1 q v J=>?_));cases w:dm g i with
 |none=>rw[w]at q;exact q.elim
 |some C=>
  rw[w]at q;simp only[bP,R.bind_ok]at q;obtain⟨a,G,s,ha0,_,_,_⟩:=r.lstAt (gF w);refine⟨.ref a,s,Z F1 S1 g n H1 _ r (q.bindE.imp λk o F2 S2 H2 A g2 f u K=>?_)⟩;cases m:dm o i with
  |none=>rw[m]at f;exact f.elim
  |some xs=>
   rw[m]at f;simp only[bP,R.bind_ok]at f;obtain⟨a',I,l,N,z,_,_⟩:=A.lstAt (gF m);rw[s]at l;cases l;split at f
   .rename_i k;split at f
    .rename_i j T;obtain⟨M,g3⟩:=A.upd (gF m) s (z.set (J.grow g2 r.fit) j);exact⟨a,I,k,j,rfl,K,N,by rw[z.len];exact T,f F2 S2 n _ M g3 (jw.refl _ _)⟩
    .exact f.elim
   .exact f.elim
end
mutual
def imm:PV->Bool
 |.lst _=>ak
 |.tup xs=>iG xs
 |_=>ah
def iG:List PV->Bool
 |[]=>ah
 |x::a=>imm x&&iG a
end
mutual
theorem aO.imm{K:ax}{H:Hp}{F g:ag->Prop}:∀(x:PV) {v:V},imm x=ah->aO K H F x v->aO K H g x v
 |.non,_,_,h=>h
 |.bl _,_,_,h=>h
 |.int _,_,_,h=>h
 |.str _,_,_,h=>h
 |.raw _,_,_,h=>h
 |.exc _,_,_,h=>h
 |.lst _,_,e,_=>by simp[Pu.imm]at e
 |.tup xs,_,e,⟨a,b,f,d,c⟩=>⟨a,b,f,d,ba.imm xs (by simpa[Pu.imm]using e) c⟩
theorem ba.imm{K:ax}{H:Hp}{F g:ag->Prop}:∀(xs:List PV) {a:List V},iG xs=ah->ba K H F xs a->ba K H g xs a
 |[],_,_,h=>h
 |x::xs,_,e,⟨v,r,f,d,c⟩=>by
  have b:imm x=ah/\iG xs=ah:=by simpa[iG]using e
  exact⟨v,r,f,aO.imm x b.1 d,ba.imm xs b.2 c⟩
end
section
variable{K:ax}{F:ag->Prop}{S:Nat->ag->Prop}{d:aj}{c:St}{H:Hp}{i:Nat}{f:List PV}
theorem aN.look(r:aN K F S d c H)(e:d[i]?=aa (.own (.lst f))):∃a,c[i]?=aa (aa (.ref a))/\¬F a/\aO K H (λb=>F b\/b=a) (.lst f) (.ref a)/\(∀b,F b\/b=a->∃o,H b=aa o) /\ (∀{h g},Al (λb=>F b\/b=a) h H g->Al F (λb=>h b/\b≠a) H g):=by
 obtain⟨a,m,q,l,p,n,s⟩:=r.lstAt e;have j:¬F a:=(r.foot i a n).2.1;refine⟨a,q,j,⟨a,m,rfl,.inl l,.inr rfl,ba.mono (λ_ z=>.inl z) (λ_ _ _ z=>z) (λ_ _ z _=>z) _ _ p⟩,λb z=>z.elim (r.ex b) λz=>by rw[z];exact⟨_,l⟩,λ{h g} al=>⟨λb z=>⟨al.fro b (.inl z),by rintro rfl;exact j z⟩,al.same,λb z=>?_⟩⟩;rcases al.fnew b z.1 with(w|w)|w
 .exact .inl w
 .exact absurd w z.2
 .exact .inr w
end
section
variable{X:Cx}{E:XK}{e b:ay}{de db:aj->R PV}{d p:Pos}{x y:Str}{l T:String}{r:List V->Hp->VK->Prop}{f:List PV->Option PV}{g:List PV->Option PO}
def iE(o:Option PV):Option PV:=o.bind λv=>if imm v then aa v else ae
theorem BN{o:Option PV}{v:PV}(h:iE o=aa v):o=aa v/\imm v=ah:=by
 cases o with
 |none=>cases h
 |some w=>
  have h:(if imm w then aa w else ae)=aa v:=h;split at h
  .cases h;exact⟨rfl,by assumption⟩
  .cases h
def E8:PO->Bool
 |.lst a=>iG a
 |_=>ak
def fF{a:Type}(f:List PV->Option a)(i:Nat):aj->R a:=λε=>(aB (dm ε i) ε).bind λxs ε=>aB (f [.lst xs]) ε
theorem FX{F:ag->Prop}{S:Nat->ag->Prop}{n:aj}{m:St}{H:Hp}{Q:VK}{i:Nat}(C:PL X.K r f)(u:aN X.K F S n m H)(h:Ok X.K E m F S H (fF (λc=>iE (f c)) i n) (λpv _ A _ j=>∀v,aO X.K j A pv v->Q v j)):∃a,m[i]?=aa (aa (.ref a))/\r [.ref a] H Q:=by
 unfold fF at h;cases s:dm n i with
 |none=>rw[s]at h;exact h.elim
 |some c=>
  rw[s]at h;simp only[bP,R.bind_ok]at h;obtain⟨a,D,K,B,J,z⟩:=u.look (gF s);refine⟨a,D,?_⟩;cases q:iE (f [.lst c])with
  |none=>rw[q]at h;exact h.elim
  |some pv=>rw[q]at h;obtain⟨I,G⟩:=BN q;exact C _ H [.lst c] [.ref a] Q pv (.one B) I λw A j al o=>h _ S j (u.al (z al)) (z al).grow w (aO.imm pv G o)
theorem ET(i:Nat)(A:eG X (.builtin l) r)(s:PL X.K r f)(v:X.mg x=ae)(n:d7 x=aa (.builtin l))(B:X.N[i]?=aa y:=by rfl)(G:dA X.env.scope y:=by eq_refl)(z:(y==("__debug__":Str))=ak:=by decide) (J:(y==("__classdict__":Str))=ak:=by decide) (w:Gl X x:=by rfl) (u:x≠"__name__":=by decide) (C:(x==("__debug__":Str))=ak:=by decide) {c:Pos}(h:aQ [.Name y c] X.env=(ak,aM (.Name y c) X.env)::aQ [] X.env:=by rfl) (I:(cY d (aQ [] X.env)).any (·.1)=ak:=by rfl):DE X E (.Call (.Name x p) [.Name y c] [] d) (fF (λj=>iE (f j)) i):=λF S L K H Q m q=>by obtain⟨a,D,o⟩:=FX s m q;exact b8 (nz A w v n (gZ (eI B G z J) i8 h) u C h I) ⟨_,D,o⟩
theorem LU(i:Nat)(A:eG X (.type T) r)(s:PL X.K r f)(v:X.mg x=ae)(n:d7 x=aa (.type T))(B:X.N[i]?=aa y:=by rfl)(G:dA X.env.scope y:=by eq_refl)(z:(y==("__debug__":Str))=ak:=by decide) (J:(y==("__classdict__":Str))=ak:=by decide) (w:Gl X x:=by rfl) (u:x≠"__name__":=by decide) (C:(x==("__debug__":Str))=ak:=by decide) {c:Pos}(h:aQ [.Name y c] X.env=(ak,aM (.Name y c) X.env)::aQ [] X.env:=by rfl) (I:(cY d (aQ [] X.env)).any (·.1)=ak:=by rfl):DE X E (.Call (.Name x p) [.Name y c] [] d) (fF (λj=>iE (f j)) i):=λF S L K H Q m q=>by obtain⟨a,D,o⟩:=FX s m q;exact b8 (tF A w v n (gZ (eI B G z J) i8 h) u C h I) ⟨_,D,o⟩
def nr(o:Option PO):Option PO:=o.bind λv=>if E8 v then aa v else ae
theorem N7{F:ag->Prop}{S:Nat->ag->Prop}{u:aj}{s:St}{H:Hp}{Q:VK}{i:Nat}(hp:kr X.K r g)(B:aN X.K F S u s H)(h:Ok X.K E s F S H (fF (λm=>nr (g m)) i u) (λD _ J S' q=>∀a v,eT X.K q J D a v->(∀b,v b->H b=ae/\¬J b/\¬U S' b/\∃o,q b=aa o/\eu o)->Q (.ref a) q)):∃a,s[i]?=aa (aa (.ref a))/\r [.ref a] H Q:=by
 unfold fF at h;cases I:dm u i with
 |none=>rw[I]at h;exact h.elim
 |some m=>
  rw[I]at h;simp only[bP,R.bind_ok]at h;obtain⟨a,ea,nF,Z,Y,M⟩:=B.look (gF I);refine⟨a,ea,?_⟩;cases G:g [.lst m]with
  |none=>rw[G]at h;exact h.elim
  |some D=>
   rw[G]at h;cases D with
   |dK n=>exact h.elim
   |lls js=>exact h.elim
   |ins C fs=>exact h.elim
   |dT n=>exact h.elim
   |dN n=>exact h.elim
   |inl C fs y m=>exact h.elim
   |lst A=>
    have h:Ok X.K E s F S H (aB (if iG A then aa (PO.lst A)else ae) u) _:=h;split at h
    .rename_i hi;refine hp _ H [.lst m] [.ref a] Q _ Y (.one Z) G λc J q v al ow fr=>h _ S q (B.al (M al)) (M al).grow c v ?_ λb z=>?_
     .obtain⟨⟨W,o1,o2⟩,o3⟩:=ow;exact⟨⟨W,o1,ba.imm A hi o2⟩,o3⟩
     .obtain⟨K,P,o,O,N⟩:=fr b z;refine⟨K,λw=>P w.1,λ⟨j,w⟩=>?_,o,O,N⟩;obtain⟨_,_,o',L,_⟩:=B.foot j b w;rw[K]at L;cases L
    .exact h.elim
theorem EJ(i:Nat)(A:eG X (.builtin l) r)(s:kr X.K r g)(v:X.mg x=ae)(n:d7 x=aa (.builtin l))(B:X.N[i]?=aa y:=by rfl)(G:dA X.env.scope y:=by eq_refl)(z:(y==("__debug__":Str))=ak:=by decide) (J:(y==("__classdict__":Str))=ak:=by decide) (w:Gl X x:=by rfl) (u:x≠"__name__":=by decide) (C:(x==("__debug__":Str))=ak:=by decide) {c:Pos}(h:aQ [.Name y c] X.env=(ak,aM (.Name y c) X.env)::aQ [] X.env:=by rfl) (I:(cY d (aQ [] X.env)).any (·.1)=ak:=by rfl):DN X E (.Call (.Name x p) [.Name y c] [] d) (fF (λj=>nr (g j)) i):=λF S L K H Q m q=>by obtain⟨a,D,o⟩:=N7 s m q;exact b8 (nz A w v n (gZ (eI B G z J) i8 h) u C h I) ⟨_,D,o⟩
def p_(f:PV->PV->Option PV)(i:Nat)(db:aj->R PV):aj->R PV:=λc=>(aB (dm c i) c).bind λ_ c=>(db c).bind λk a=>(aB (dm a i) a).bind λh a=>aB (iE (f (.lst h) k)) a
theorem Ot{F:ag->Prop}{S:Nat->ag->Prop}{m:aj}{c:St}{H:Hp}{Q:VK}{i:Nat}{r:R2}{f:PV->PV->Option PV}(W:P2 X.K r f)(Y:DE X E b db)(I:aN X.K F S m c H)(h:Ok X.K E c F S H (p_ f i db m) (λpv _ M _ n=>∀v,aO X.K n M pv v->Q v n)):∃a,c[i]?=aa (aa (.ref a))/\gA X b c H λu D=>r (.ref a) u D Q:=by
 unfold p_ at h;cases C:dm m i with
 |none=>rw[C]at h;exact h.elim
 |some N=>
  rw[C]at h;simp only[bP,R.bind_ok]at h;obtain⟨a,vs,L,_⟩:=I.lstAt (gF C);refine⟨a,L,Y F S m c H _ I ((Ok.bind h).imp λk o F1 S1 D J g1 q u O=>?_)⟩;cases B:dm o i with
  |none=>rw[B]at q;exact q.elim
  |some G=>
   rw[B]at q;simp only[bP,R.bind_ok]at q;obtain⟨a',j,nF,P,uT,K⟩:=J.look (gF B);rw[L]at j;cases j;cases A:iE (f (.lst G) k)with
   |none=>rw[A]at q;exact q.elim
   |some pv=>rw[A]at q;obtain⟨e3,Z⟩:=BN A;exact W _ D (.lst G) k (.ref a) u Q pv P (aO.mono (λ_ z=>.inl z) (λ_ _ _ z=>z) (λ_ _ z _=>z) _ _ O) e3 λw M n al s=>q _ S1 n (J.al (K al)) (K al).grow w (aO.imm pv Z s)
end
end Pu
namespace Pu
open L2
def oB(h:az)(e T:ag)(c g:ai):Prop:=∃a b f d,h.get? e=aa a/\a.cls=c/\(a.data=.fields b/\a.dict=ae)/\b[1]?=aa (.ref T)/\T≠e/\h.get? T=aa f/\f.data=.fields d/\d[3]?=aa g
def Made(h:az)(e:ag)(c:ai):Prop:=∃a b,h.get? e=aa a/\a.cls=c/\(a.data=.fields b/\a.dict=ae)/\b[1]?=aa .none
structure Kp(fs:List ag)(X:ag->Prop)(h h':az):Prop where
 keep:∀b o,h.get? b=aa o->b∉fs->¬X b->h'.get? b=aa o
 slot:∀b o,h.get? b=aa o->b∈fs->¬X b->∃sl,h'.get? b=aa {o with slots:=sl}
 there:∀b o,h.get? b=aa o->∃o',h'.get? b=aa o'
theorem Kp.trans{fs:List ag}{X Y:ag->Prop}{h g f:az}(a:Kp fs X h g)(b:Kp fs Y g f):Kp fs (λc=>X c\/Y c) h f where
 keep:=λc o e n x=>b.keep c o (a.keep c o e n λz=>x (.inl z)) n λz=>x (.inr z)
 slot:=λc o e n x=>by obtain⟨j,e1⟩:=a.slot c o e n λz=>x (.inl z);obtain⟨d,i⟩:=b.slot c _ e1 n λz=>x (.inr z);exact⟨d,i⟩
 there:=λc o e=>let ⟨o',e'⟩:=a.there c o e;b.there c o' e'
theorem Kp.imp{fs d:List ag}{X Y:ag->Prop}{h j:az}(a:Kp fs X h j)(f:∀b,b∈fs->b∈d)(g:∀b o,h.get? b=aa o->X b->Y b):Kp d Y h j where
 keep:=λc o e n x=>a.keep c o e (λz=>n (f c z)) λz=>x (g c o e z)
 slot:=λc o e n x=>by
  by_cases i:c∈fs
  .exact a.slot c o e i λz=>x (g c o e z)
  .exact⟨o.slots,a.keep c o e i λz=>x (g c o e z)⟩
 there:=a.there
theorem Kb(f:Array ai->Array ai)(o:Obj):(pB f o).dict=o.dict:=by
 obtain⟨c,d,dt,a⟩:=o;cases dt <;> rfl
section
variable{M:Model}{A:aX}{E:ai->ao->Prop}{s:ao}
theorem Dh{z:az}{l:Env}{g:List Env}{L e:ag}{w:Obj}{G:Array ai}{B:ai}{Qd:Bool}{Q:Unit->ao->Prop}(lH:A.frames=aa (l::g)) (P:s.heap.FunFrames z (l::g)) (hf:l.frame=aa L) (S:s.heap.get? e=aa w) (I:w.data=.fields G) (Y:w.dict=ae) (v:1<G.size)(h:∀K T,Kp (fR (l::g)) (λb=>b=e) s.heap K->oB K e T w.cls .none->s.heap.objs.size<=T->Q () {s with heap:=K}):aq M A (do let a <-frameOf l;let r <-entryPlaceOf L Qd;let b <-EntryCells.newEntry B a .none (eM L) .none r;my (.ref e) 1 b) (λ_ Z=>aq M A (setFlight (.ref e) ae) Q E Z) E s:=by
 have y:e∉(l::g).filterMap (·.frame):=λhm=>by obtain⟨_,o,F,X⟩:=P.mem hm;rw[S]at F;injection F with F;subst F;exact X G I
 refine aw (wpAny_frameOf_fun lH P hf λc d=>?_);refine aw (wpAny_entryPlaceOf λr W=>?_);unfold EntryCells.newEntry newFields;refine aw (mr ?_ (W.sizeOk5 _ _ _ _ _));have n:c.get? e=aa w:=(d.2.1 e y).trans S;have m:=bx (h:=c) {cls:=.type "traceback",dict:=ae,data:=.fields ([B,.ref L,.none,eM L,.none]++(if r.isEmpty then dy 6 Value.none else r)).toArray} n;refine uf m I v ?_;have C:c.objs.size≠e:=o6 (bC n);have j:=AX I (·.setIfInBounds 1 (Value.ref c.objs.size));have i:=pf (pB (·.setIfInBounds 1 (Value.ref c.objs.size))) m (GE j);have p:=(nJ (c.push {cls:=.type "traceback",dict:=ae,data:=.fields ([B,.ref L,.none,eM L,.none]++(if r.isEmpty then dy 6 Value.none else r)).toArray}) (pB (·.setIfInBounds 1 (Value.ref c.objs.size))) (eD C)).trans (cE c rfl);unfold setFlight;refine aw (q_ i j (x:=.ref c.objs.size) (by simp[v]) ?_);rw[if_pos (show(Value.ref c.objs.size != Value.none)=ah from by simp)];refine uf p rfl (by simp only[cb,cZ,cS,jL] <;> lia) (h _ c.objs.size ?_ ?_ ?_)
 .have keep:∀b o,b≠e->c.get? b=aa o ->
    (((c.push {cls:=.type "traceback",dict:=ae,data:=.fields ([B,.ref L,.none,eM L,.none]++(if r.isEmpty then dy 6 Value.none else r)).toArray}).update e (pB (·.setIfInBounds 1 (Value.ref c.objs.size)))).update c.objs.size (pB (·.setIfInBounds 3 ((ae:Option ag).elim Value.none λf=>eM f)))).get? b=aa o:=λb o D u=>by
   have J:c.objs.size≠b:=o6 (bC u);rw[nJ _ _ J,nJ _ _ (eD D)];exact bx _ u
  refine⟨λb o u O H=>keep b o H ((d.2.1 b O).trans u),λb o u O H=>?_,λb o u=>?_⟩
  .obtain⟨N,q⟩:=d.2.2 b o u;exact⟨N,keep b _ H q⟩
  .by_cases D:b=e
   .subst D;exact⟨_,(nJ _ _ C).trans i⟩
   .obtain⟨N,q⟩:=d.2.2 b o u;exact⟨_,keep b _ D q⟩
 .refine⟨_,_,_,_,(nJ _ _ C).trans i,Obj.cls_mapFields _ _,⟨j,by rw[Kb];exact Y⟩,by simp[v],C,pf _ p (GE (AX rfl _)),AX rfl _,by first | (simp;done) | (rcases W with rfl|⟨_,_,_,_,_,_,_,rfl⟩ <;> simp)⟩
 .exact mw d.1.symm
theorem M3{f:az}{d:Env}{a:List Env}{L e:ag}{c:ai}{Q:Unit->ao->Prop}(o:A.frames=aa (d::a))(q:s.heap.FunFrames f (d::a))(i:d.frame=aa L)(p:Made s.heap e c)(h:∀g T,Kp (fR (d::a)) (λb=>b=e) s.heap g->oB g e T c .none->s.heap.objs.size<=T->Q () {s with heap:=g}):aq M A (leaving d (.ref e)) Q E s:=by obtain⟨v,u,j,r,⟨l,n⟩,m⟩:=p;subst r;unfold leaving noteFrame;simp only[i];refine aw (aw (q_ j l m ?_));rw[if_neg (by decide)];exact Dh o q i j l n (rm.mp m).1 h
theorem Mv{n:az}{i:Env}{d:List Env}{L e T:ag}{c:ai}{Q:Unit->ao->Prop}(I:A.frames=aa (i::d))(O:s.heap.FunFrames n (i::d))(w:i.frame=aa L)(K:oB s.heap e T c .none)(h:∀m p,Kp (fR (i::d)) (λb=>b=e\/b=T) s.heap m->oB m e p c .none->s.heap.objs.size<=p->Q () {s with heap:=m}):aq M A (noteFrame (.ref e) i) (λ_ G=>aq M A (setFlight (.ref e) ae) Q E G) E s:=by
 obtain⟨X,v,Y,F,x,W,⟨y,D⟩,C,H,r,j,B⟩:=K;subst W;unfold noteFrame;simp only[w];refine aw (q_ x y C ?_);rw[if_pos (show(Value.ref T != Value.none)=ah from by simp)];refine aw (q_ r j B ?_);rw[if_neg (show ¬((Value.none == eM L)=ah)from by simp[eM])];refine aw (uf r j (rm.mp B).1 ?_);have a:∀b,b≠T->(s.heap.update T (pB (·.setIfInBounds 3 Value.none))).get? b=s.heap.get? b:=λb f=>nJ _ _ (eD f);have g:∀b o,s.heap.get? b=aa o->(∀v,o.data≠.fields v)->b≠T:=λb o f u q=>by rw[q,r]at f;injection f with f;subst f;exact u F j
 refine Dh I (O.of_keeps λb o f u=>⟨o,(a b (g b o f u)).trans f,rfl⟩) w ((a e (eD H)).trans x) y D (rm.mp C).1 λm p k P N=>?_;have J:Kp (fR (i::d)) (λb=>b=T) s.heap (s.heap.update T (pB (·.setIfInBounds 3 Value.none))):=by
  refine⟨λb o f _ l=>(a b l).trans f,λb o f _ l=>⟨o.slots,(a b l).trans f⟩,λb o f=>?_⟩;by_cases l:b=T
  .subst l;exact⟨_,pf _ r (GE (AX j _))⟩
  .exact⟨o,(a b l).trans f⟩
 refine h m p ((J.trans k).imp (λ_ z=>z) λb o _ z=>z.symm) P ?_;have S:(s.heap.update T (pB (·.setIfInBounds 3 Value.none))).objs.size<=p:=N;rwa[GF]at S
theorem Ov{f:az}{d:Env}{a:List Env}{L e T:ag}{c:ai}{Q:Unit->ao->Prop}(j:A.frames=aa (d::a))(m:s.heap.FunFrames f (d::a))(n:d.frame=aa L)(l:oB s.heap e T c .none)(h:∀g i,Kp (fR (d::a)) (λb=>b=e\/b=T) s.heap g->oB g e i c .none->s.heap.objs.size<=i->Q () {s with heap:=g}):aq M A (leaving d (.ref e)) Q E s:=by unfold leaving;exact aw (Mv j m n l h)
end
def cJ(P:aS)(w:aG):gy:=λb H s E e s'=>∃(a T:ag) (c:ai) (d:Hp),e=.ref a/\s'.os=s.os/\mj s'.gens/\Un (fR b) [] H d s.heap s'.heap/\c9 P w d s'.heap/\oB s'.heap a T c .none /\
 (s.heap.get? a=ae/\s.heap.get? T=ae/\d a=ae/\d T=ae)/\E c ae d
theorem Hq{P:aS}{w:aG}{H:Hp}{h:az}{a:ag}{o:HO}(x:b7 P w H h a o):∃u,h.get? a=aa u:=by
 cases o with
 |lst c=>obtain⟨_,_,_,_,e⟩:=x;exact⟨_,e⟩
 |tup c=>obtain⟨_,_,_,⟨o,e,_⟩,_⟩:=x;exact⟨_,e⟩
 |dK b=>obtain⟨_,_,_,_,o,_,_,e,_⟩:=x;exact⟨_,e⟩
 |dT b=>obtain⟨_,_,_,_,o,_,_,e,_⟩:=x;exact⟨_,e⟩
 |dN b=>obtain⟨_,_,_,_,o,_,_,e,_⟩:=x;exact⟨_,e⟩
 |set S n=>obtain⟨o,_,_,_,e,_⟩:=x;exact⟨_,e⟩
 |ins C m fs=>obtain⟨_,_,_,e,_⟩:=x;exact⟨_,e⟩
 |own y=>exact x
 |xd fs=>obtain⟨_,⟨_,_,_,e,_⟩,_⟩:=x;exact⟨_,e⟩
 |rng j l=>obtain⟨_,_,_,e⟩:=x;exact⟨_,e⟩
 |frz i u=>obtain⟨e,_⟩:=x;exact⟨_,e⟩
 |tbl g=>obtain⟨_,e,_⟩:=x;exact⟨_,e⟩
 |met f y=>exact⟨_,x⟩
 |ext d=>obtain⟨_,e,_⟩:=x;exact e
theorem JA{P:aS}{w:aG}{H:Hp}{h:az}{a:ag}(x:c9 P w H h)(e:h.get? a=ae):H a=ae:=by
 cases q:H a with
 |none=>rfl
 |some u=>obtain⟨o,z⟩:=Hq (x a u q);rw[e]at z;cases z
theorem tP{fs:List ag}{H c:Hp}{h b:az}{a:ag}(u:Un fs [] H c h b)(e:b.get? a=ae):h.get? a=ae:=by
 cases q:h.get? a with
 |none=>rfl
 |some o=>obtain⟨d,z⟩:=u.there a o q (by simp);rw[e]at z;cases z
theorem Fg{fs a:List ag}{H p:Hp}{h l j:az}{X:ag->Prop}(u:Un fs [] H p h l)(k:Kp a X l j)(r:∀b o,h.get? b=aa o->b∈a->b∈fs)(g:∀b o,h.get? b=aa o->¬X b):Un fs [] H p h j where
 keep:=λb o e n d c=>k.keep b o (u.keep b o e n d c) (λz=>d (r b o e z)) (g b o e)
 slot:=λb o e n d c=>by
  obtain⟨q,m⟩:=u.slot b o e n d c;by_cases i:b∈a
  .obtain⟨f,s⟩:=k.slot b _ m i (g b o e);exact⟨f,s⟩
  .exact⟨q,k.keep b _ m i (g b o e)⟩
 free:=u.free
 there:=λb o e c=>let ⟨o',e'⟩:=u.there b o e c;k.there b o' e'
 tups:=u.tups
 frzs:=u.frzs
 tbls:=u.tbls
theorem Ea{P:aS}{w:aG}{fs:List ag}{H:Hp}{h d:az}{X:ag->Prop}(x:c9 P w H h)(k:Kp fs X h d)(f:∀b∈fs,H b=ae)(g:∀b,X b->H b=ae):c9 P w H d:=λb u e=>
 (x b u e).stay (λc v a q=>k.keep c v q (λz=>by
   have:=f c z;rcases a with rfl|a
   .rw[e]at this;cases this
   .rw[a]at this;cases this) λz=>by
   have:=g c z;rcases a with rfl|a
   .rw[e]at this;cases this
   .rw[a]at this;cases this) (λ_ q=>q) λ_ _ q=>q
section
variable{P:aS}{w:aG}{K:ax}{n:Str->Option ai}{l:az}{N:List Str}{j:Str}{g:d8}{f:ag}{p:ai}{A:aX}{i:List Env}{d:ao}{m:Hp}{E:XK}
theorem dj:qF (cJ P w) (jA (cJ P w) P w K n l N j g f p A i d m E) E:=λaf Y H s e s' I h=>by
 obtain⟨a,T,c,X,rfl,J,M,un,B,Q,⟨S,W,G,Z⟩,O⟩:=h;have r:=I.call' (s':=s') (ch:=[]) J un B M (λb z=>absurd z (by simp));refine Ov (L:=d.heap.objs.size) I.ok.frames r.stack rfl Q λlI F k C y=>?_;have ox:(jA (cJ P w) P w K n l N j g f p A i d m E).ex=[]:=rfl;have v:d.heap.get? a=ae:=tP I.base S;have D:d.heap.get? T=ae:=tP I.base W;have x:d.heap.get? F=ae:=tP r.base (Gf y);have u:∀b o,d.heap.get? b=aa o->b≠a/\b≠T:=λb o e=>⟨(by rintro rfl;rw[v]at e;cases e),(by rintro rfl;rw[D]at e;cases e)⟩
 refine⟨a,F,c,X,rfl,r.os,r.bare,Fg r.base k (λb o e z=>?_) (λb o e z=>z.elim (u b o e).1 (u b o e).2),Ea r.hok k r.stkFree (λb z=>by rcases z with rfl|rfl <;> assumption),C,⟨v,x,G,r.hok.fresh y⟩,O⟩;rcases bw.mp (I.stkSub b z)with q|q
 .exact absurd (bC e) (by rw[q];exact eL _)
 .exact q
end
section
variable{X:Cx}{E:XK}{pin:List Nat}{e:ay}{de:aj->R PV}{x:Str}{C:ag}{i:List ai}{d f B:String}{l g j:Pos}
def BD(X:Cx)(E:XK):Prop:=∀(n:List (ag×Obj)) (m:St) (H:Hp) (s:ao) (a:ag) (c:ai) (h:az),Inv X n m H s->(∀b o,s.heap.get? b=aa o->h.get? b=aa o)->Made h a c->s.heap.get? a=ae->(E c ae H)->X.xe (.ref a) {s with heap:=h}
def CJ(c:ai)(de:aj->R PV):aj->R aF:=λb=>(de b).bind λ_ a=>.er c a
theorem Mm{h c:az}{e:ag}{a:ai}{b:List ai}(m:Heap.MadeExcOf h c e a b):Made c e a:=by obtain⟨t,n,_,_⟩:=m.there;exact⟨_,_,n,rfl,⟨rfl,rfl⟩,rfl⟩
theorem Mj(hx:BD X E)(hc:X.calm=ah)(O:OwnCls x C i d X.mg X.base)(Q:ExcBaseFacts B d f i)(he:DE X.nox E0 e de)(hg:Gl X x:=by rfl)(hd:(x==("__debug__":Str))=ak:=by decide)(M:aQ [e] X.env=[(ak,aM e X.env)]:=by rfl):DS X E pin (.Raise (aa (.Call (.Name x l) [e] [] g)) ae j) (CJ (.ref C) (λw=>dX (de w))):=λF S w n H D Z q=>Bx.mk λP s I=>by
 obtain⟨W,N,nm,qn,bs,hdct,sn,sub,ab,col,dd,k0,k1,k2,k3,k5,mN,hC,hN,J,T⟩:=O.obj;refine wpAny_Raise_call_subT (C:=C) (nm:=nm) (q:=qn) (N:=N) (bs:=bs) (bm:=W) (hdct:=hdct) (sn:=sn) (sub:=sub) (ab:=ab) (col:=col) (dd:=dd) (k0:=k0) (k1:=k1) (k2:=k2) (k3:=k3) (k5:=k5)
  Q (mN:=mN) (T.hasType Q.hasBase) (I.ok.hd hc) (by rw[M];rfl) J (Ai I hg O.bound ⟨rfl,?_⟩ hd)
 have q2:Ok X.K E0 n F S H (de w) (λ_ b r o p=>gG X.K E pin n r o p (.er (.ref C) b) D):=by
  have q:gG X.K E pin n F S H ((dX (de w)).bind λ_ b=>.er (.ref C) b) D:=q;cases K:de w with
  |no=>rw[K]at q;exact q.elim
  |er c A=>rw[K]at q;exact q.elim
  |ok v A=>rw[K]at q;exact λF' S' H' r' g'=>q.from g' (jw.refl _ _)
 rw[M];refine AD (fH (Au (fH ((he F S w n H (λv p=>∃r o b,aN X.K r o b n p/\gG X.K E pin n r o p (.er (.ref C) b) D) Z (q2.imp λv b r o p L g1 h v' rv=>⟨r,o,b,L,h⟩)).run P s (I.wish _)) (λu Y ⟨v,p,y,L,r,o,b,G,ok⟩=>?_) λ_ _ z=>z.elim)) (λ_ _ z=>z) λ_ _ z=>z);have y:=y.unwish;refine Gi ⟨rfl,(by show 1<=a8;decide),y.bk _ _ hC,hN.keeps y.bk,T.keeps y.bk,λh' a m=>?_⟩;exact hx P n p Y a (.ref C) h' y m.keeps (Mm m) m.new (ok ae r o n p G (bt.refl ..) (jw.refl _ _))
end
section
variable{P:aS}{w:aG}{K:ax}{m:Str->Option ai}{j:az}{N:List Str}{i:Str}{g:d8}{f:ag}{n:ai}{A:aX}{h:List Env}{d:ao}{l:Hp}{E:XK}
theorem Ip:BD (jA (cJ P w) P w K m j N i g f n A h d l E) E:=λM D H s a c B I G F new J=>by
 have p:Inv _ M D H {s with heap:=B}:=I.kept (t':=s.toks) G;refine M3 (s:={s with heap:=B}) (L:=d.heap.objs.size) I.ok.frames p.stack rfl F λO C k x v=>?_;have r:d.heap.get? a=ae:=tP I.base new;have u:d.heap.get? C=ae:=tP p.base (Gf v);have y:H a=ae:=JA I.hok new;refine⟨a,C,c,H,rfl,p.os,p.bare,Fg p.base k (λb o e z=>?_) (λb o e z=>by rw[show b=a from z,r]at e;cases e),Ea p.hok k p.stkFree (λb z=>by rw[show b=a from z];exact y),x,⟨r,u,y,p.hok.fresh v⟩,J⟩;rcases bw.mp (I.stkSub b z)with q|q
 .exact absurd (bC e) (by rw[q];exact eL _)
 .exact q
end
def XP(X:Cx)(g:List (ag×Obj))(d:St)(h:ai->Hp->Prop)(e:ai)(f:ao):Prop:=∃a b,Inv X g d b a/\cJ X.prog X.w X.stack b a (λc _ i=>h c i) e f
def DX(X:Cx)(e:ay)(d:aj->R Slot):Prop :=
 ∀F S h a H Q (i:ai->Hp->Prop),aN X.K F S h a H->Ok X.K (λc _ f=>i c f) a F S H (d h) (λs _ l m f=>∀v j,qK X.K f l s v j->(∀b,j b->H b=ae/\¬l b/\¬U m b/\∃o,f b=aa o/\eu o)->Q v f) ->
  ∀g s,Inv X g a H s->aq (ar X.prog X.w) X.A (aM e X.env) (EP X g a Q) (XP X g a i) s
section
variable{X:Cx}{K:ax}
variable{E:XK}{e:ay}{de:aj->R PV}{a:Pos}{y:Str}
def oq(b:List PV)(y:PV):Option PV:=(dD y).bind λv=>(i_ b).map λc=>.int (c.countP λz=>fS z v)
end
theorem Im(c:Nat)(x:Tx):vj [c] x=x.contains c:=by unfold vj;have:=StrLaws.found_one (tS x) c;rw[kC]at this;rw[show(tS [c])=⟨#[c]⟩from rfl,this];simp[List.contains_eq_mem]
section
variable{X:Cx}{K:ax}
def PM(K:ax)(r:V->List V->Hp->VK->Prop)(f:Tx->List PV->Option PV):Prop:=∀(F:ag->Prop) (H:Hp) (x:Tx) (b:List PV) (c:List V) (Q:VK) (pv:PV),x.length<=bQ->ba K H F b c->f x b=aa pv->(∀w d a,Al F d H a->aO K a d pv w->Q w a)->r (tV x) c H Q
variable{E:XK}{o e:ay}{h:List ay}{d:aj->R PV}{i:aj->R (List PV)}{a:Str}{c b:Pos}{g:String}{r:V->List V->Hp->VK->Prop}{f:Tx->List PV->Option PV}
end
section
variable{X:Cx}{E:XK}{n:d8}{x:Str}{N':List Str}{cap:List Nat}
variable{pin:List Nat}
theorem MW{F:ag->Prop}{S:Nat->ag->Prop}{l:aj}{d:St}{H:Hp}{D:j0}{i:Nat}{dn:aj->R PO}(G:i∉pin)(L:aN X.K F S l d H)(h:gG X.K E pin d F S H (dS i dn l) D):Ok X.K E d F S H (dn l) (λv _ m u g=>∀a s,eT X.K g m v a s->(∀b,s b->H b=ae/\¬m b/\¬U u b/\∃o,g b=aa o/\eu o)->D.nx (d.set i (aa (.ref a))) g):=by
 unfold dS at h;cases r:dn l with
 |no=>rw[r]at h;exact h.elim
 |er c y=>rw[r]at h;exact λx m u g B I=>h x m u d g B I (jw.refl _ _)
 |ok v p=>
  rw[r]at h;simp only[R.bind_ok]at h;intro K M J A f a s C w;by_cases q:i<p.length
  .rw[if_pos q]at h;refine h K _ _ J (A.setOwn q C λb z=>(w b z).2) ⟨f.fro,f.keep,f.there,f.fnew,λb ⟨j,z⟩=>?_⟩ (jw.set G);rcases z with z|⟨_,z⟩
   .exact f.onew b ⟨j,z.1⟩
   .exact .inr (w b z).1
  .rw[if_neg q]at h;exact h.elim
theorem Iw{F:ag->Prop}{S:Nat->ag->Prop}{m:aj}{f:St}{H:Hp}{D:j0}{i:Nat}{dn:aj->R PO}(Q:i∉pin)(rl:aN X.K F S m f H)(h:gG X.K E pin f F S H (br i (dF dn) m) D):Ok X.K E f F S H (dn m) (λr _ q u l=>∀a d,eT X.K l q r a d->(∀b,d b->H b=ae/\¬q b/\¬U u b/\∃o,l b=aa o/\eu o)->D.nx (f.set i (aa (.ref a))) l):=by
 unfold br dF at h;cases s:dn m with
 |no=>rw[s]at h;exact h.elim
 |er c J=>rw[s]at h;exact λx q u l N g'=>h x q u f l N g' (jw.refl _ _)
 |ok r I=>
  rw[s]at h;intro G B p M j a d O A;cases r with
  |dK g=>exact h.elim
  |lls js=>exact h.elim
  |ins C fs=>exact h.elim
  |dT g=>exact h.elim
  |dN g=>exact h.elim
  |inl C fs y v=>exact h.elim
  |lst v=>
   have Y:∀b,d b->¬U B b/\∃o,p b=aa o:=λb z=>let ⟨_,_,x3,o,x4,_⟩:=A b z;⟨x3,o,x4⟩
   obtain⟨⟨K,T,P⟩,W⟩:=O;have Z:bt (U S) (U B) F (λb=>G b\/d b) H p:=⟨λb z=>.inl (j.fro b z),j.keep,j.there,λb z=>z.elim (j.fnew b) λw=>.inr (.inl (A b w).1),j.onew⟩
   have L:aO X.K p (λb=>G b\/d b) (.lst v) (.ref a):=⟨a,K,rfl,.inl T,.inr ((W a).mpr rfl),ba.mono (λ_ z=>.inl z) (λ_ _ _ z=>z) (λ_ _ z _=>z) _ _ P⟩
   exact h _ _ _ p ((M.more Y).set L) (Z.trans (bt.less i)) (jw.set Q)
section
variable{c a:ay}{y:Str}{g j f d:Pos}{l:aj->R (List PV)}{dt:aj->R Bool}{de:aj->R PV}{m:aj->R PO}{b:List ay}
theorem Ps(i:Nat)(T:X.N.Nodup)(B:io X n x N' cap)(P:X.calm=ah)(M:DI X E (.Name x g) a l)(J:∀C o p r q,DF (bW X n N' C o p r q) E0 b dt) (O:∀C o p r q,DE (bW X n N' C o p r q) E0 c de)(L:i∉pin:=by decide) (A:X.N[i]?=aa y:=by rfl) (G:Loc X.env.scope y:=by first|exact Or.inl rfl|exact Or.inr rfl) (z:jj (.ListComp c [⟨.Name x g,a,b,0⟩] n f) (aa (.Name y j)) d.line X.env=pure ah:=by rfl)(N:X.fn y=ah\/X.env.scope.names.lookup y=aa .local:=by first|exact .inl rfl|exact .inr rfl) (K:∀x,kN a X.env x=pure x:=by intro _;rfl):DS X E pin (.Assign [.Name y j] (.ListComp c [⟨.Name x g,a,b,0⟩] n f) d) (dS i (cR cap l dt de)):=λF S W u H D w h=>gf (FL (wi:=oV X (.Name x g) a) (ts:=λu H Q=>∀C o p r q,s_ (bW X n N' C o p r q) b u H Q) (te:=λu H Q=>∀C o p r q,gA (bW X n N' C o p r q) c u H Q) B P tZ (λC o p r q v s u H Q I h=>(h C o p r q).run v s I) (λC o p r q v s u H Q I h=>(h C o p r q).run v s I) T A G z N K) (zc M J O w (MW L w h))
theorem HD(i:Nat)(T:X.N.Nodup)(B:io X n x N' cap)(P:X.calm=ah)(M:DI X E (.Name x g) a l)(J:∀C o p r q,DF (bW X n N' C o p r q) E0 b dt) (O:∀C o p r q,DE (bW X n N' C o p r q) E0 c de)(L:i∉pin:=by decide) (A:X.N[i]?=aa y:=by rfl) (G:Loc X.env.scope y:=by first|exact Or.inl rfl|exact Or.inr rfl) (z:jj (.ListComp c [⟨.Name x g,a,b,0⟩] n f) (aa (.Name y j)) d.line X.env=pure ah:=by rfl)(N:X.fn y=ah\/X.env.scope.names.lookup y=aa .local:=by first|exact .inl rfl|exact .inr rfl) (K:∀x,kN a X.env x=pure x:=by intro _;rfl):DS X E pin (.Assign [.Name y j] (.ListComp c [⟨.Name x g,a,b,0⟩] n f) d) (br i (dF (cR cap l dt de))):=λF S W u H D w h=>gf (FL (wi:=oV X (.Name x g) a) (ts:=λu H Q=>∀C o p r q,s_ (bW X n N' C o p r q) b u H Q) (te:=λu H Q=>∀C o p r q,gA (bW X n N' C o p r q) c u H Q) B P tZ (λC o p r q v s u H Q I h=>(h C o p r q).run v s I) (λC o p r q v s u H Q I h=>(h C o p r q).run v s I) T A G z N K) (zc M J O w (Iw L w h))
end
end
def fz(a:List Nat):Nat->aj->Bool
 |_,[]=>ah
 |i,.own c::b=>a.contains i&&fW c&&fz a (i+1) b
 |i,_::b=>fz a (i+1) b
theorem sE{c:List Nat}:∀{b:aj}{k:Nat},fz c k b=ah->∀(i:Nat) a,b[i]?=aa (.own a)->k+i∈c/\fW a=ah
 |[],_,_,i,a,e=>by simp at e
 |.own q::b,k,h,0,a,e=>by simp only[List.getElem?_cons_zero,Option.some.injEq,Slot.own.injEq]at e;subst e;simp only[fz,iA]at h;exact⟨by simpa using h.1.1,h.1.2⟩
 |.own q::b,k,h,i+1,a,e=>by simp only[fz,iA]at h;have:=sE (k:=k+1) h.2 i a (by simpa using e);rwa[GH,xJ]at this
 |.val q::b,k,h,0,a,e=>by simp at e
 |.none::b,k,h,0,a,e=>by simp at e
 |.val q::b,k,h,i+1,a,e=>by have:=sE (k:=k+1) (by simpa[fz]using h) i a (by simpa using e);rwa[GH,xJ]at this
 |.none::b,k,h,i+1,a,e=>by have:=sE (k:=k+1) (by simpa[fz]using h) i a (by simpa using e);rwa[GH,xJ]at this
def bH(len:Nat)(b:List Nat)(g:aj->R Slot):aj->R Slot:=λa=>if a.length=len/\fz b 0 a=ah then g a else .no
theorem dI{q:gy}{P:aS}{w:aG}{K:ax}{o:Str->Option ai}{g:az}{x:Str}{c:bf}{N b:List Str}{k n:Nat}{d:aj->R aF}{pin:List Nat}(D:dq K o x c)(G:cO N b (bg c))(y:N.length=b.length+n)(B:∀(kV p u:ai) (F:Option ag) (l C:ai) (m:List ai),m.length=b.length->gJ (kg x x (ku c) (iw c) (bg c) .none kV p u F l C) ⟨m,[]⟩=pure (b.zip m))(v:∀(f:ag) (l:ai) (A:aX) (j:List Env) (s:ao) (H:Hp) (E:XK),gc k (A.deeper (kf x (bg c) s.heap.objs.size f l))->ij (jA q P w K o g N x (bg c) f l A j s H E) E pin (iw c) d):dr q P w K o g x (k+1) b (cp K (bH b.length pin (bF n d))):=by
 have no:∀{a},bH b.length pin (bF n d) a≠.no->a.length=b.length/\fz pin 0 a=ah:=λ{a} h=>by
  unfold bH at h;by_cases z:a.length=b.length/\fz pin 0 a=ah
  .exact z
  .rw[if_neg z]at h;exact absurd rfl h
 exact PJ D G y B (λa h=>(no h).1) (λa h i r e=>by have:=sE (no h).2 i r e;rwa[uj]at this) (λa h=>by unfold bH;rw[if_pos (no h)]) v
theorem Ku{f:ag}{r:iz}{u:gy}{P:aS}{w:aG}{K:ax}{q:Str->Option ai}{j:az}{x a:Str}{g:bf}{N c:List Str}{k n:Nat}{d:aj->R aF}{pin:List Nat}(J:ol K x a g f r)(I:cO N c (bg g))(C:N.length=c.length+n)(D:∀(kV p y:ai) (G:Option ag) (m F:ai) (o:List ai),o.length=c.length->gJ (kg x a (ku g) (iw g) (bg g) .none kV p y G m F) ⟨o,[]⟩=pure (c.zip o))(B:∀(f:ag) (m:ai) (A:aX) (l:List Env) (s:ao) (H:Hp) (E:XK),gc k (A.deeper (kf a (bg g) s.heap.objs.size f m))->ij (jA u P w K q j N a (bg g) f m A l s H E) E pin (iw g) d):kt P w K q j u (k+1) f r c (cp K (bH c.length pin (bF n d))):=by
 have no:∀{b},bH c.length pin (bF n d) b≠.no->b.length=c.length/\fz pin 0 b=ah:=λ{b} h=>by
  unfold bH at h;by_cases z:b.length=c.length/\fz pin 0 b=ah
  .exact z
  .rw[if_neg z]at h;exact absurd rfl h
 exact Ei J I C D (λb h=>(no h).1) (λb h i v e=>by have:=sE (no h).2 i v e;rwa[uj]at this) (λb h=>by unfold bH;rw[if_pos (no h)]) B
theorem FD{P:List ai->Prop}(h:∀a,P [a])(c:List ai)(d:c.length=1):P c:=by
 cases c with
 |nil=>cases d
 |cons a r=>cases r with
  |nil=>exact h a
  |cons b r=>cases d
theorem FS{P:List ai->Prop}(h:∀a b,P [a,b])(c:List ai)(d:c.length=2):P c:=by
 cases c with
 |nil=>cases d
 |cons a r=>exact FD (P:=λr=>P (a::r)) (h a) r (AY d)
theorem C3{P:List ai->Prop}(h:∀a b c,P [a,b,c])(d:List ai)(f:d.length=3):P d:=by
 cases d with
 |nil=>cases f
 |cons a r=>exact FS (P:=λr=>P (a::r)) (h a) r (AY f)
theorem OM{P:List ai->Prop}(h:∀a b c d,P [a,b,c,d])(f:List ai)(g:f.length=4):P f:=by
 cases f with
 |nil=>cases g
 |cons a r=>exact C3 (P:=λr=>P (a::r)) (h a) r (AY g)
theorem QH{d:iz}{c:List Str}(h:∀a,gJ d ⟨[a],[]⟩=pure (c.zip [a]))(b:List ai)(f:b.length=1):gJ d ⟨b,[]⟩=pure (c.zip b):=FD (P:=λb=>gJ d ⟨b,[]⟩=pure (c.zip b)) h b f
theorem Qv{f:iz}{d:List Str}(h:∀a b,gJ f ⟨[a,b],[]⟩=pure (d.zip [a,b]))(c:List ai)(g:c.length=2):gJ f ⟨c,[]⟩=pure (d.zip c):=FS (P:=λc=>gJ f ⟨c,[]⟩=pure (d.zip c)) h c g
theorem QE{g:iz}{f:List Str}(h:∀a b c,gJ g ⟨[a,b,c],[]⟩=pure (f.zip [a,b,c]))(d:List ai)(i:d.length=3):gJ g ⟨d,[]⟩=pure (f.zip d):=C3 (P:=λd=>gJ g ⟨d,[]⟩=pure (f.zip d)) h d i
theorem QP{i:iz}{g:List Str}(h:∀a b c d,gJ i ⟨[a,b,c,d],[]⟩=pure (g.zip [a,b,c,d]))(f:List ai)(j:f.length=4):gJ i ⟨f,[]⟩=pure (g.zip f):=OM (P:=λf=>gJ i ⟨f,[]⟩=pure (g.zip f)) h f j
theorem ix{P:aS}{w:aG}{X:Cx}:qF (cJ P w) X E0:=λ_ _ _ _ _ _ _ h=>by obtain⟨a,T,c,b,_,_,_,_,_,_,_,z⟩:=h;exact z.elim
theorem i7:d7 "len"=aa (.builtin "len"):=by decide +kernel
theorem Aj:d7 "all"=aa (.builtin "all"):=by decide +kernel
theorem MF:d7 "any"=aa (.builtin "any"):=by decide +kernel
theorem oD:d7 "sorted"=aa (.builtin "sorted"):=by decide +kernel
theorem tf:d7 "isinstance"=aa (.builtin "isinstance"):=by decide +kernel
theorem MT:d7 "int"=aa (.type "int"):=by decide +kernel
theorem MG:d7 "bool"=aa (.type "bool"):=by decide +kernel
theorem K7:d7 "str"=aa (.type "str"):=by decide +kernel
theorem yI:d7 "list"=aa (.type "list"):=by decide +kernel
theorem om:d7 "tuple"=aa (.type "tuple"):=by decide +kernel
theorem DZ:d7 "set"=aa (.type "set"):=by decide +kernel
def ln:ay->Bool
 |.Starred _ _=>ah
 |_=>ak
theorem ju{e:ay}{es:List ay}{env:Env}(h:ln e=ak):aQ (e::es) env=(ak,aM e env)::aQ es env:=by
 cases e <;> first|rfl|cases h
section
variable{X:Cx}{E:XK}{e:ay}{a:List ay}{d:aj->R PV}{b:aj->R (List PV)}{c:aj->R (List cn)}
theorem bo(g:DE X E e d)(f:DA X E a b)(h:ln e=ak:=by rfl):DA X E (e::a) (aI d b):=Lk g f (ju h)
theorem aP(g:DE X E e d)(f:DG X E a c)(h:ln e=ak:=by rfl):DG X E (e::a) (gV d c):=IP g f (ju h)
end
def wl:List ai:=[.type "ValueError",.type "Exception",.type "BaseException",.type "object"]
theorem Oz{K:ax}{h:az}{C:ag}{B:List ai}{nw:String}(X:K.In h)(q:rG K C B nw=ah):∃i N w p bs E j a G c F D A z y x g,h.get? C=aa (excClassObj w p C N bs i E j a G c F D A z y x nw)/\h.Ns N g/\g "__init__"=ae/\OwnTail h B i:=by
 unfold rG at q;split at q
 case h_2=>cases q
 case h_1 d0 cdata slots look=>
  split at q
  case h_2=>cases q
  case h_1 C2 tl s0 s1 s2 s3 nn s5 em es=>
   rw[iA,iA,iA,iA,iA]at q;obtain⟨⟨⟨⟨⟨v,u⟩,f⟩,s⟩,b⟩,r⟩:=q;have o:=beq_iff_eq.mp v;have n:=beq_iff_eq.mp u;have d:=beq_iff_eq.mp r;subst o n;cases cdata;dsimp only at em f b d;subst em;have m:=GI _ |>.mp f
   subst m;have l:slots=#[s0,s1,s2,s3,aa (.builtin nn),s5]:=by cases slots;exact congrArg Array.mk es
   subst l;exact⟨tl,_,_,_,_,_,_,_,_,_,d0,s0,s1,s2,s3,s5,_,X _ _ look,Heap.Ns.of_isNs (PySem.W.isNs_of_in X b),PySem.W.nsMap_none_of_in X b d,PySem.W.tail_of_in X s⟩
theorem IV{K:ax}{h:az}{a:Str->Option ai}{x:Str}{C:ag}{B:List ai}{nw:String}(X:K.In h)(e:a x=aa (.ref C))(q:rG K C B nw=ah):OwnCls x C B nw a h:=⟨e,Oz X q⟩
def subB(K:ax)(D C:ag):Bool:=match K.lookup C with
 |some ⟨_,_,.cls a,_⟩=>a.mro.contains (.ref D)
 |_=>ak
def El(K:ax)(C:ag):Bool :=
 xv K (.ref C) "__getattribute__" == aa (aa (.builtin "BaseException.__getattribute__"))&&xv K (.ref C) "__getattr__" == aa ae&&xv K (.ref C) "__class__" == aa (aa (.builtin "object.__class__")) &&
 PySem.W.specialIn K (.builtin "object.__class__") "__get__" == aa (aa (.builtin "getset_descriptor.__get__"))&&PySem.W.takesIn K (.builtin "object.__class__") == aa ah&&PySem.W.mroIn K C (.type "object") == aa ah&&PySem.W.mroIn K C (.type "BaseException") == aa ah&&(PySem.W.clsIn K C).isSome
def yb(K:ax):Bool:=K.all λp=>match p.2.cls with
 |.type t=>t != "list"
 |_=>ah
theorem Fd{a:ag}{o:Obj}:∀{K:ax},K.lookup a=aa o->(a,o)∈K
 |[],e=>by cases e
 | (b,u)::K,e=>by
  rw[kh]at e;cases q:a == b with
  |true=>rw[q]at e;cases e;rw[beq_iff_eq.mp q];exact kK ..
  |false=>rw[q]at e;exact iN _ (Fd e)
theorem Ed{K:ax}{H:Hp}{F:ag->Prop}:∀a:List Int,ba K H F (a.map .int) (a.map V.int)
 |[]=>rfl
 |x::a=>⟨.int x,a.map V.int,rfl,rfl,Ed a⟩
theorem N3{K:ax}{H:Hp}{a:ag}{b:List V}(h:yb K=ah)(s:b9 K H a b):Rd H a (.lst b):=by
 rcases s with s|⟨o,d,n,c,f,_⟩
 .exact s
 .have:=nN.mp h _ (Fd c);rw[f]at this;simp at this
theorem OH{K:ax}{g:aj->R Slot}{H:Hp}{a:ag}{c:List Int}{E:XK}(d:Rd H a (.lst (c.map V.int)))(h:g [.val (.lst (c.map .int))]=.ok (.val (.bl ah)) [.val (.lst (c.map .int))]):cp K g [.ref a] H (λv _=>v=.bl ah) E:=by
 refine⟨λb=>b=a,λ_ _=>False,[.val (.lst (c.map .int))],⟨rfl,λb e=>?_,λi pv e=>?_,λi l e=>?_,λi b z=>z.elim,λi j b z=>z.elim⟩,?_⟩
 .subst e;rcases d with d|⟨o,d⟩ <;> exact⟨_,d⟩
 .cases i with
  |zero=>cases e;exact⟨_,rfl,a,_,rfl,d,rfl,Ed c⟩
  |succ i=>simp at e
 .cases i with
  |zero=>cases e
  |succ i=>simp at e
 .rw[h];exact λv q n p m _ _ f _ _=>f.1
theorem QM{K:ax}{x:Str}{i:Int}{t:Tok}(e:eE K cG x=aa (aa (.int i t))):∃t,eE K cG x=aa (aa (.int i t)):=⟨t,e⟩
theorem QI{K:ax}{x:Str}{l:Tx}{t:Tok}(e:eE K cG x=aa (aa (.str (tS l) t))):∃t,eE K cG x=aa (aa (.str (tS l) t)):=⟨t,e⟩
def dE(K:ax)(x:Str)(a:bf):Prop:=∃f oc g kV h d j b i c,eE K cG x=aa (aa (.ref f))/\K.lookup f=aa ⟨oc,g,.func (kg x x (ku a) (iw a) (bg a) .none kV h d j b i),c⟩/\xw K b x=ah/\t7 K (.ref f)=ah
theorem Qu{K:ax}{x:Str}{b:bf}{f:ag}{oc kV j h d m:ai}{i n:Option ag}{g:Array (Option ai)}(a:eE K cG x=aa (aa (.ref f)))(l:K.lookup f=aa ⟨oc,i,.func (kg x x (ku b) (iw b) (bg b) .none kV j h n d m),g⟩)(c:xw K d x=ah) (k:t7 K (.ref f)=ah):dE K x b:=⟨f,oc,i,kV,j,h,n,d,m,g,a,l,c,k⟩
theorem dE.at{K:ax}{h:az}{b:Str->Option ai}{x:Str}{st:bf}(d:dE K x st)(X:K.In h)(G:h.Ns cG b):dq K b x st:=by obtain⟨f,oc,j,kV,m,i,p,o,n,g,a,l,c,k⟩:=d;exact⟨f,_,pC X G a,E7 l c k⟩
def i6(a:List (aA×PV))(k:aA):Option PV:=(a.find? λb=>decide (b.1=k)).map (·.2)
def mW(a:List (aA×PV))(k:aA)(v:PV):List (aA×PV):=if(a.any λb=>decide (b.1=k))=ah then a.map (λb=>if b.1=k then(b.1,v)else b)else a++[(k,v)]
def gB:PV->Option aA
 |.int i=>aa (.inl i)
 |.str x=>aa (.inr (tS x))
 |_=>ae
section
variable{K:ax}{F:ag->Prop}{S:Nat->ag->Prop}{ε:aj}{f:St}{H:Hp}{i:Nat}{d:List (aA×PV)}{ws:List (aA×V)}{a:ag}
theorem qQ{x:PV}{v:V}{k:aA}(r:aO K H F x v)(e:gB x=aa k):v=kV k:=by
 cases x <;> simp[gB]at e
 .subst e;exact r
 .subst e;exact r.1
theorem gH.len(h:gH K H F d ws):ws.length=d.length:=by
 unfold gH at h
 induction h with
 |nil=>rfl
 |cons _ _ b=>simp[b]
theorem gH.val(h:gH K H F d ws)(k:aA):(∃x v,i6 d k=aa x/\gD ws k=aa v/\aO K H F x v)\/(i6 d k=ae/\gD ws k=ae):=by
 unfold gH at h
 induction h with
 |nil=>exact .inr ⟨rfl,rfl⟩
 |@cons p q ps qs r _ ih=>
  by_cases e:p.1=k
  .refine .inl ⟨p.2,q.2,by simp[i6,iQ,e],?_,r.2⟩;rw[tz (by rw[<-r.1];exact e)]
  .have b:¬q.1=k:=by rw[<-r.1];exact e
   rw[sQ b];have:i6 (p::ps) k=i6 ps k:=by simp[i6,iQ,e]
   rw[this];exact ih
theorem gH.any(h:gH K H F d ws)(k:aA):(d.any λb=>decide (b.1=k))=ws.any λb=>decide (b.1=k):=by
 unfold gH at h
 induction h with
 |nil=>rfl
 |cons r _ c=>rw[mv,mv,c,r.1]
theorem gH.put(h:gH K H F d ws)(k:aA){x:PV}{v:V}(r:aO K H F x v):gH K H F (mW d k x) (fc ws k v):=by
 unfold mW fc;rw[h.any k];split
 .rename_i b;clear b;unfold gH at h ⊢
  induction h with
  |nil=>exact .nil
  |@cons p q ps qs r1 _ ih=>
   refine .cons ?_ ih;dsimp only;by_cases e:p.1=k
   .rw[if_pos e,if_pos (by rw[<-r1.1];exact e)];exact⟨r1.1,r⟩
   .rw[if_neg e,if_neg (by rw[<-r1.1];exact e)];exact r1
 .exact AE h ⟨rfl,r⟩
theorem aN.dkAt(r:aN K F S ε f H)(e:ε[i]?=aa (.own (.dK d))):∃a ws,f[i]?=aa (aa (.ref a))/\H a=aa (.dK ws)/\gH K H F d ws/\S i a/\∀b,S i b->b=a:=by obtain⟨a,m,⟨g,l,j⟩,c⟩:=r.own i _ e;exact⟨a,g,m,l,j,(c a).mpr rfl,λb h=>(c b).mp h⟩
theorem aN.updO{m po':PO}{o':HO}(r:aN K F S ε f H)(e:ε[i]?=aa (.own m))(O:fW m=ah)(E:f[i]?=aa (aa (.ref a)))(N:eu o')(h:∀y,(∀x v,aO K H F x v->aO K y F x v)->(∀x v,ba K H F x v->ba K y F x v)->y a=aa o'->∀I:ag->Prop,(∀b,I b↔b=a)->eT K y F po' a I):aN K F S (ε.set i (.own po')) f (L2.upd H a o')/\bt (U S) (U S) F F H (L2.upd H a o'):=by
 obtain⟨P,G,M⟩:=r.own i m e;rw[E]at G;cases G;have p:=Dg M O;have B:S i a:=(p a).mpr rfl;have D:∀b,S i b->b=a:=λb z=>(p b).mp z;have A:i<ε.length:=(dG.mp e).1;have g:bt (U S) (U S) F F H (L2.upd H a o'):=⟨λ_ z=>z,λb o q n=>by rw[bv (by rintro rfl;exact n ⟨i,B⟩)];exact q,λb o q=>by
  by_cases C:b=a
  .subst C;exact⟨_,upd_same⟩
  .exact⟨o,by rw[bv C];exact q⟩,λ_ z=>.inl z,λ_ z=>.inl z⟩
 refine⟨⟨by rw[iP];exact r.len,λb z=>let ⟨o,q⟩:=r.ex b z;g.there b o q,λj pv q=>?_,λj m q=>?_,λj b z=>?_,r.dist⟩,g⟩
 .have l:i≠j:=by rintro rfl;rw[h_ A]at q;cases q
  rw[ff l]at q;obtain⟨v,u,s⟩:=r.val j pv q;exact⟨v,u,s.grow g r.fit⟩
 .by_cases l:i=j
  .subst l;rw[h_ A]at q;cases q;exact⟨a,E,h _ (λ_ _ z=>z.grow g r.fit) (λ_ _ z=>z.grow g r.fit) upd_same _ p⟩
  .rw[ff l]at q;obtain⟨c,u,s⟩:=r.own j m q;refine⟨c,u,s.mono (λ_ _ z=>z.grow g r.fit) (λ_ _ z=>z.grow g r.fit) λb o z w=>?_⟩;rw[bv (by rintro rfl;exact l (r.dist i j b B z))];exact w
 .obtain⟨⟨m,u⟩,s,o,L,J⟩:=r.foot j b z;by_cases l:i=j
  .subst l;rw[D b z];exact⟨⟨_,h_ A⟩,by rw[<-D b z];exact s,_,upd_same,N⟩
  .exact⟨⟨m,by rw[ff l];exact u⟩,s,o,by rw[bv (by rintro rfl;exact l (r.dist i j b B z))];exact L,J⟩
end
def cP(b:aj)(i:Nat):Option (List (aA×PV)):=match b[i]? with
 |some (.own (.dK a))=>aa a
 |_=>ae
theorem kH{b:aj}{i:Nat}{a:List (aA×PV)}(h:cP b i=aa a):b[i]?=aa (.own (.dK a)):=by
 unfold cP at h;split at h
 .cases h;assumption
 .cases h
section
variable{X:Cx}{E:XK}{pin:List Nat}{e b c:ay}{de db f:aj->R PV}{d:Pos}
def qw:aj->R PO:=λa=>.ok (.dK []) a
theorem Cy:DN X E (.Dict [] [] d) qw:=λF S l i H Q g h=>b8 JF λp a=>by
 have al:Al F F H (upd H p (.dK [])):=Al.new0 a;refine h F S _ (g.al al) al.grow p (λb=>b=p) ⟨⟨[],upd_same,.nil⟩,λb=>nO⟩ λb z=>?_;subst z;refine⟨a,λz=>?_,λ⟨j,z⟩=>?_,_,upd_same,trivial⟩
 .obtain⟨o,q⟩:=g.ex b z;rw[a]at q;cases q
 .obtain⟨_,_,o,q,_⟩:=g.foot j b z;rw[a]at q;cases q
def me(i:Nat)(db:aj->R PV):aj->R PV:=λg=>(aB (cP g i) g).bind λ_ g=>(db g).bind λk a=>(aB (cP a i) a).bind λh a=>aB ((gB k).bind λk=>i6 h k) a
theorem DH(i:Nat){y:Str}{A:Pos}(hu:X.A.units+64<cLine)(L:DE X E b db)(N:X.N[i]?=aa y:=by rfl)(O:dA X.env.scope y:=by eq_refl)(K:(y==("__debug__":Str))=ak:=by decide) (P:(y==("__classdict__":Str))=ak:=by decide) (I:we b:=by exact λ_ _=>rfl):DE X E (.Subscript (.Name y A) b d) (me i db):=λF S o z H Q p h=>by
 unfold me at h;cases n:cP o i with
 |none=>rw[n]at h;exact h.elim
 |some s=>
  rw[n]at h;simp only[bP,R.bind_ok]at h;obtain⟨a,B,w,_⟩:=p.dkAt (kH n);refine b8 (BF ∅ (eI N O K P) bB I) ⟨.ref a,w,L F S o z H _ p ((Ok.bind h).imp λk j Y T W r g1 q u C=>?_)⟩;cases m:cP j i with
  |none=>rw[m]at q;exact q.elim
  |some G=>
   rw[m]at q;simp only[bP,R.bind_ok]at q;obtain⟨a',Z,g,M,J,_⟩:=r.dkAt (kH m);rw[w]at g;cases g;cases l:gB k with
   |none=>rw[l]at q;exact q.elim
   |some D=>
    rw[l,jP]at q;rw[qQ C l];rcases J.val D with⟨x,v,h1,h2,h3⟩|⟨h1,h2⟩
    .rw[h1]at q;exact⟨a,v,rfl,by rw[<-h2];exact jz.k M,q Y T W r (bt.refl ..) v h3⟩
    .rw[h1]at q;exact q.elim
def g9(i:Nat)(db f:aj->R PV):aj->R PV:=λg=>(aB (cP g i) g).bind λ_ g=>(db g).bind λk h=>(f h).bind λz a=>(aB (cP a i) a).bind λj a=>aB ((gB k).map λk=>(i6 j k).getD z) a
theorem wI(i:Nat){y:Str}{j g:Pos}(hu:X.A.units+64<cLine)(hb:DE X E b db)(hc:DE X E c f)(hN:X.N[i]?=aa y:=by rfl)(cU:dA X.env.scope y:=by eq_refl)(hd:(y==("__debug__":Str))=ak:=by decide) (bn:(y==("__classdict__":Str))=ak:=by decide)(l:jK (.Name y j) "get" X.env (aM (.Name y j) X.env)=aM (.Name y j) X.env:=by rfl) (B:(g.endLine == d.line)=ah:=by rfl) (s1:ln b=ak:=by rfl) (Z:ln c=ak:=by rfl):DE X E (.Call (.Attribute (.Name y j) "get" g) [b,c] [] d) (g9 i db f):=λF S J I H Q L h=>by
 have K:aQ [b,c] X.env=[(ak,aM b X.env),(ak,aM c X.env)]:=by rw[ju s1,ju Z];rfl
 have m:M2 X (.Name y j) "get" g b c d:=⟨l,by rw[K];rfl,B,by rw[K];rfl⟩
 unfold g9 at h;cases G:cP J i with
 |none=>rw[G]at h;exact h.elim
 |some M=>
  rw[G]at h;simp only[bP,R.bind_ok]at h;obtain⟨a,Y,O,A,_⟩:=L.dkAt (kH G);refine b8 (JL ∅ (eI hN cU hd bn) bB bB m) ⟨.ref a,O,a,rfl,.inl ⟨_,.inl A⟩,hb F S J I H _ L ((Ok.bind h).imp λk p F1 S1 H1 r1 g1 q u ru=>?_)⟩;refine hc F1 S1 p I H1 _ r1 ((Ok.bind q).imp λz o W P T s g2 q w r=>?_);cases D:cP o i with
  |none=>rw[D]at q;exact q.elim
  |some kvs=>
   rw[D]at q;simp only[bP,R.bind_ok]at q;obtain⟨a',ws,n,N,hk,_⟩:=s.dkAt (kH D);rw[O]at n;cases n;cases C:gB k with
   |none=>rw[C]at q;exact q.elim
   |some ky=>
    rw[C,pA]at q;rw[qQ ru C];rcases hk.val ky with⟨x,v,l,h2,B⟩|⟨l,h2⟩
    .rw[l]at q;exact⟨aa v,by rw[<-h2];exact jz.k N,q W P T s (bt.refl ..) v B⟩
    .rw[l]at q;exact⟨ae,by rw[<-h2];exact jz.k N,q W P T s (bt.refl ..) w r⟩
def eZ(i:Nat)(db de:aj->R PV):aj->R aF:=λj=>(de j).bind λy g=>(aB (cP g i) g).bind λ_ g=>(db g).bind λk a=>(aB (cP a i) a).bind λh a=>(aB (gB k) a).bind λk a=>if h.length<bQ then .ok .next (a.set i (.own (.dK (mW h k y))))else .no
theorem oX(i:Nat){y:Str}{G j:Pos}(hu:X.A.units+64<cLine)(hb:DE X E b db)(he:DE X E e de)(hN:X.N[i]?=aa y:=by rfl)(cU:dA X.env.scope y:=by eq_refl)(hd:(y==("__debug__":Str))=ak:=by decide) (bn:(y==("__classdict__":Str))=ak:=by decide) (Y:jj e (aa (.Subscript (.Name y G) b j)) d.line X.env=pure ak:=by rfl):DS X E pin (.Assign [.Subscript (.Name y G) b j] e d) (eZ i db de):=λF S L o H D Q h=>by
 refine gf (Cs ∅ (eI hN cU hd bn) bB bB Y) (he F S L o H _ Q (h.bindE.imp λy l F1 S1 H1 r g1 q v O=>?_));cases C:cP l i with
 |none=>rw[C]at q;exact q.elim
 |some J=>
  rw[C]at q;simp only[bP,R.bind_ok]at q;obtain⟨a,M,A,ha0,_⟩:=r.dkAt (kH C);refine⟨.ref a,A,hb F1 S1 l o H1 _ r (q.bindE.imp λk p F2 S2 H2 I g2 g u P=>?_)⟩;cases n:cP p i with
  |none=>rw[n]at g;exact g.elim
  |some w=>
   rw[n]at g;simp only[bP,R.bind_ok]at g;obtain⟨a',N,m,ha,K,_⟩:=I.dkAt (kH n);rw[A]at m;cases m;cases B:gB k with
   |none=>rw[B]at g;exact g.elim
   |some s=>
    rw[B]at g;simp only[bP,R.bind_ok]at g;split at g
    .rename_i Z;rw[qQ P B];have fj:=K.put s (O.grow g2 r.fit);obtain⟨T,g3⟩:=I.updO (po':=.dK (mW w s y)) (o':=.dK (fc N s v)) (kH n) rfl A trivial λH' W m2 z Sa x=>⟨⟨_,z,fj.mono W⟩,x⟩
     exact⟨a,_,rfl,xt.k ha (by rw[K.len];exact h8 Z lm),g F2 S2 o _ T g3 (jw.refl _ _)⟩
    .exact g.elim
end
section
variable{X:Cx}
def g7(a d:ag):HO:=.ext λh=>h.IsValuesView a d
theorem Ep:xp X "dict.values" (λx c H Q=>∃d b,x=.ref d/\c=[]/\H d=aa (.dK b)/\∀a,H a=ae->Q (.ref a) (upd H a (g7 a d))):=by
 intro B s u H x c v w Q I i j h;obtain⟨d,b,rfl,rfl,r,q⟩:=h;cases i;cases j.zero;obtain⟨z,p,g,l,f⟩:=wy I.hok r;refine call_meetsIn GJ f.typeIs PySem.F.entry_dict_values (PySem.F.args_dict_values_1 _) (meets_dict_values (ge X.prog X.w) d p) ⟨⟨g,f⟩,?_⟩;refine⟨.ref s.heap.objs.size,_,I.laid (a:=s.heap.objs.size) (o:=g7 s.heap.objs.size d) (t':=s.toks) (λ_ _ q=>bx _ q) (aT _) ?_,rfl,q _ I.fresh⟩;exact⟨⟨_,cE _ rfl,rfl,rfl⟩,⟨_,cE _ rfl⟩,λA y ⟨o,n,m⟩ k=>⟨o,k o n,m⟩⟩
theorem KV.at{a:List (aA×V)}{b:List (aA×ai)}(r:KV a b){i:Nat}{k:aA}{u:ai}(h:b[i]?=aa (k,u)):∃v,a[i]?=aa (k,v)/\RelV v u:=by
 unfold KV at r
 induction r generalizing i with
 |nil=>simp at h
 |@cons p q ps qs r1 _ ih=>
  cases i with
  |zero=>simp at h;subst h;exact⟨p.2,by simp[show k=p.1 from r1.1.symm],r1.2⟩
  |succ i=>exact ih (by simpa using h)
def j7(a:List (aA×V)):Option Bool:=match a with
 |[]=>aa ak
 | (_,.int i)::r=>(j7 r).map λb=>(decide (i≠0))||b
 |_=>ae
theorem D4:∀{a:List (aA×V)}{b:Bool},j7 a=aa b->(∀(i:Nat) k v,a[i]?=aa (k,v)->∃n,v=.int n)/\b=(df a.length).any λi=>match a[i]? with|aa (_,.int n)=>decide (n≠0)|_=>ak
 |[],b,h=>by simp[j7]at h;subst h;exact⟨by simp,rfl⟩
 | (k,.int n)::r,b,h=>by
  simp only[j7,ly]at h;obtain⟨l,j,g⟩:=h;obtain⟨f,d⟩:=D4 j;refine⟨λi c v e=>?_,?_⟩
  .cases i with
   |zero=>simp at e;exact⟨n,e.2.symm⟩
   |succ i=>exact f i c v (by simpa using e)
  .rw[cS,AK,mv,AZ,<-g,d];rfl
 | (_,.non)::_,_,h=>by simp[j7]at h
 | (_,.bl _)::_,_,h=>by simp[j7]at h
 | (_,.str _)::_,_,h=>by simp[j7]at h
 | (_,.ref _)::_,_,h=>by simp[j7]at h
 | (_,.ty _)::_,_,h=>by simp[j7]at h
theorem IW(P:X.calm=ah):eG X (.builtin "any") (λA H Q=>∃(p d:ag) (a:List (aA×V)) (b:Bool),A=[.ref p]/\H p=aa (g7 p d)/\H d=aa (.dK a)/\j7 a=aa b/\Q (.bl b) H):=by
 intro af s D H A us Q I r h;obtain⟨p,d,a,b,rfl,m,O,T,q⟩:=h;obtain⟨u,rfl,F⟩:=vals1 r;cases F;obtain⟨l,_,_⟩:=(show b7 X.prog X.w H s.heap p (g7 p d)from I.hok p _ m)
 obtain⟨z,hs,j,g,Z⟩:=wy I.hok O;obtain⟨B,f⟩:=Z.dictAt;obtain⟨M,L⟩:=D4 T;refine call_any_walk (wpAny_pyIter_values l f ?_);refine⟨s.heap.objs.size,_,_,_,_,_,λi=>match a[i]? with|aa (_,.int n)=>decide (n≠0)|_=>ak,rfl,Walks.dictValues (yd (I.ok.hd P)) _ d (cF f.lt_size) j B,⟨⟨_,cE _ rfl,rfl,rfl⟩,f.push _⟩,λi v s' Q' E' l y=>?_,λh' E k=>?_⟩
 .obtain⟨K,N⟩:=l;obtain⟨w,C,Y⟩:=KV.at g N;obtain⟨n,rfl⟩:=M i K w C;obtain⟨t,rfl⟩:=Y;dsimp only at y;rw[C]at y;exact PyProof.Rows.truthy_int (by rw[show(n != 0)=decide (n≠0) by by_cases z:n=0 <;> simp[z]];exact y)
 .have I1:Inv X af D H {s with heap:=s.heap.push {cls:=.type "dict_valueiterator",data:=.fields #[.ref d,.int 0 0,.int j.length 0,.int B 0]},toks:=s.toks}:=I.kept (t':=s.toks) λb o e=>bx _ e;have W:(df j.length).any (λi=>match a[i]? with|aa (_,.int n)=>decide (n≠0)|_=>ak)=b:=by rw[<-g.length];exact L.symm
  rw[W];exact⟨.bl _,H,Inv.turned (t':=E) I1 (it:=s.heap.objs.size) (λb o S e=>k b o (by simpa using S) e) I.fresh (o6 I.lt) (.inr I.sz) (λx c e z=>by obtain⟨v,G⟩:=I.cell x c e;exact absurd G.lt (by rw[z];exact eL _)) (λJ m z=>absurd (bC (I.pin J m).1) (by rw[z];exact eL _)),rfl,q⟩
end
section
variable{X:Cx}{E:XK}{pin:List Nat}{e b c:ay}{de db I:aj->R PV}{A:Pos}
def oK:List (aA×PV)->Option Bool
 |[]=>aa ak
 | (_,.int i)::r=>(oK r).map λb=>(decide (i≠0))||b
 |_=>ae
theorem M5{K:ax}{H:Hp}{F:ag->Prop}{a:List (aA×PV)}{d:List (aA×V)}{k:Bool}(h:gH K H F a d)(e:oK a=aa k):j7 d=aa k:=by
 unfold gH at h
 induction h generalizing k with
 |nil=>exact e
 |@cons p q D qs r _ ih=>
  obtain⟨l,pv⟩:=p;obtain⟨j,g⟩:=q;cases pv <;> simp only[oK,ly]at e <;> try cases e
  obtain⟨i,f⟩:=r;obtain rfl:g=V.int _:=f;rename_i h;simp only[j7,ih h.1,pA];rw[<-h.2]
def sS(i:Nat):aj->R PV:=λa=>(aB (cP a i) a).bind λd a=>aB ((oK d).map .bl) a
theorem L7(i:Nat){y:Str}{g p f d:Pos}(G:X.calm=ah)(z:X.mg "any"=ae)(J:X.N[i]?=aa y:=by rfl)(M:dA X.env.scope y:=by eq_refl)(D:(y==("__debug__":Str))=ak:=by decide) (O:(y==("__classdict__":Str))=ak:=by decide) (C:Gl X "any":=by rfl)(x:jK (.Name y g) "values" X.env (aM (.Name y g) X.env)=aM (.Name y g) X.env:=by rfl) (w:(f.endLine == d.line)=ah:=by rfl)(u:aQ [.Call (.Attribute (.Name y g) "values" f) [] [] d] X.env=(ak,aM (.Call (.Attribute (.Name y g) "values" f) [] [] d) X.env)::aQ [] X.env:=by rfl) (N:(cY A (aQ [] X.env)).any (·.1)=ak:=by rfl):DE X E (.Call (.Name "any" p) [.Call (.Attribute (.Name y g) "values" f) [] [] d] [] A) (sS i):=λF S v P H Q s h=>by
 unfold sS at h;cases o:cP v i with
 |none=>rw[o]at h;exact h.elim
 |some l=>
  rw[o]at h;simp only[bP,R.bind_ok]at h;obtain⟨a,r,K,j,B,T,_⟩:=s.dkAt (kH o);cases n:oK l with
  |none=>rw[n]at h;exact h.elim
  |some k=>
   rw[n,pA]at h;refine b8 (nz (IW G) C z MF (gZ (CQ Gu GJ PySem.F.type_dict_values Ep (eI J M D O) x w) i8 u) (by decide) (by decide) u N) ⟨.ref a,K,.inr (.inr (.inl ⟨rfl,.inl ⟨_,j⟩⟩)),a,r,rfl,rfl,j,λq m=>?_⟩;have al:Al F F H (L2.upd H q (g7 q a)):=Al.new0 m;have L:a≠q:=by rintro rfl;rw[j]at m;cases m
   exact⟨q,a,r,k,rfl,upd_same,by rw[bv L];exact j,M5 B n,h F S _ (s.al al) al.grow _ rfl⟩
def vZ(X:Cx)(E:XK)(m:List ay)(d:aj->R (PO×List cn)):Prop :=
 ∀F S i f H Q,aN X.K F S i f H->Ok X.K E f F S H (d i) (λp _ h n g=>∀a l j,eT X.K g h p.1 a l->(∀b,l b->H b=ae/\¬h b/\¬U n b/\∃o,g b=aa o/\eu o)->i5 X.K (f++[aa (.ref a)]) h g p.2 j->Q j g)->n5 X m f H Q
theorem i5.app{K:ax}{g:St}{F:ag->Prop}{H:Hp}(d:St):∀{l:List cn}{j:List V},i5 K g F H l j->i5 K (g++d) F H l j
 |[],_,h=>h
 |.inl _::_,_,⟨v,r,e,a,f⟩=>⟨v,r,e,a,f.app d⟩
 |.inr i::_,_,⟨v,r,e,a,f⟩=>⟨v,r,e,by rw[iO (dG.mp a).1];exact a,f.app d⟩
theorem eT.stay{K:ax}{O l F i:ag->Prop}{H h:Hp}{j:PO}{a:ag}{d:ag->Prop}(q:eT K H F j a d)(g:bt O l F i H h)(fit:Fit O F H)(f:∀b,d b->¬F b/\¬O b/\∃o,H b=aa o/\eu o):eT K h i j a d/\∀b,d b->¬i b/\¬l b/\∃o,h b=aa o/\eu o:=by refine⟨q.mono (λ_ _ z=>z.grow g fit) (λ_ _ z=>z.grow g fit) λb o z w=>(g.stay w (f b z).2.1 (f b z).1).1,λb z=>?_⟩;obtain⟨v,u,o,s,r⟩:=f b z;obtain⟨p,n,m⟩:=g.stay s u v;exact⟨n,m,o,p,r⟩
variable{m:List ay}{dn:aj->R PO}{C:aj->R (List cn)}{B:aj->R (PO×List cn)}
def gN(dn:aj->R PO)(C:aj->R (List cn)):aj->R (PO×List cn):=λf=>(dn f).bind λg d=>(C d).bind λh a=>.ok (g,.inr a.length::h) a
theorem Dc(w:DN X E e dn)(v:DG X E m C)(u:ln e=ak:=by rfl):vZ X E (e::m) (gN dn C):=λF S q i H Q r h=>by refine oj (gZ bB ir (ju u)) (w F S q i H _ r ((Ok.bind h).imp λT d P L N n W y a J s o=>?_));refine v P L d i N _ n ((Ok.bind y).imp λY p O K M l D x j G=>?_);obtain⟨f,g⟩:=s.stay D n.fit λb z=>(o b z).2;refine x O K M l (bt.refl ..) a J (.ref a::j) f (λb z=>⟨(o b z).1,g b z⟩) ⟨.ref a,j,rfl,?_,G.app _⟩;rw[l.len,pc (aT _),A0];rfl
def kw(d:aj->R PV)(B:aj->R (PO×List cn)):aj->R (PO×List cn):=λg=>(d g).bind λx f=>(B f).bind λp a=>.ok (p.1,.inl x::p.2) a
theorem vC(y:DE X E e de)(w:vZ X E m B)(u:ln e=ak:=by rfl):vZ X E (e::m) (kw de B):=λF S l f H Q q h=>by refine oj (gZ bB ir (ju u)) (y F S l f H _ q ((Ok.bind h).imp λx d Y O T g K G v o=>?_));refine w Y O d f T _ g ((Ok.bind G).imp λp j W N P r J D a M n s i L=>?_);exact D W N P r (bt.refl ..) a M _ s (λb z=>⟨og K (i b z).1,(i b z).2⟩) ⟨v,n,rfl,o.grow J g.fit,L⟩
theorem aN.push{K:ax}{F:ag->Prop}{S:Nat->ag->Prop}{d:aj}{y:St}{H:Hp}{w:PO}{a:ag}{i:ag->Prop}(r:aN K F S d y H)(D:eT K H F w a i)(x:∀b,i b->¬F b/\¬U S b/\∃o,H b=aa o/\eu o):aN K F (λj b=>S j b\/(j=d.length/\i b)) (d++[.own w]) (y++[aa (.ref a)]) H:=by
 have lt:∀j b,S j b->j<d.length:=λj b z=>by obtain⟨⟨p,q⟩,_⟩:=r.foot j b z;exact(dG.mp q).1
 refine⟨by simp[r.len],r.ex,λj pv q=>?_,λj p q=>?_,λj b z=>?_,λj k b g f=>?_⟩
 .by_cases h:j<d.length
  .rw[iO h]at q;obtain⟨v,u,l⟩:=r.val j pv q;exact⟨v,by rw[iO (by rw[<-r.len];exact h)];exact u,l⟩
  .rw[pc ∅]at q;cases s:j-d.length with
   |zero=>rw[s]at q;simp at q
   |succ n=>rw[s]at q;simp at q
 .by_cases h:j<d.length
  .rw[iO h]at q;obtain⟨v,u,l⟩:=r.own j p q;refine⟨v,by rw[iO (by rw[<-r.len];exact h)];exact u,?_⟩;have:(λb=>S j b\/(j=d.length/\i b))=S j:=by funext b;exact propext ⟨λz=>z.elim id λz=>absurd z.1 (cF h),.inl⟩
   rw[this];exact l
  .rw[pc ∅]at q;cases s:j-d.length with
   |zero=>
    rw[s]at q;simp at q;subst q;have L:j=d.length:=∅
    subst L;refine⟨a,by rw[r.len,pc (aT _),A0];rfl,?_⟩;have:(λb=>S d.length b\/(d.length=d.length/\i b))=i:=by funext b;exact propext ⟨λz=>z.elim (λz=>absurd (lt _ _ z) (eL _)) (·.2),λz=>.inr ⟨rfl,z⟩⟩
    rw[this];exact D
   |succ n=>rw[s]at q;simp at q
 .rcases z with z|⟨rfl,z⟩
  .obtain⟨⟨p,q⟩,l⟩:=r.foot j b z;exact⟨⟨p,by rw[iO (lt j b z)];exact q⟩,l⟩
  .obtain⟨J,M,G⟩:=x b z;exact⟨⟨w,by rw[pc (aT _),A0];rfl⟩,J,G⟩
 .rcases g with g|⟨rfl,g⟩ <;> rcases f with f|⟨rfl,f⟩
  .exact r.dist j k b g f
  .exact absurd ⟨j,g⟩ (x b f).2.1
  .exact absurd ⟨k,f⟩ (x b g).2.1
  .rfl
theorem aN.pop{K:ax}{F:ag->Prop}{S:Nat->ag->Prop}{d:aj}{n:Slot}{h:St}{u:Option V}{H:Hp}(r:aN K F S (d++[n]) (h++[u]) H):aN K F (λj b=>S j b/\j<d.length) d h H:=by
 have len:d.length=h.length:=by have:=r.len;simpa using this
 refine⟨len,r.ex,λj pv q=>?_,λj p q=>?_,λj b z=>?_,λj k b l i=>r.dist j k b l.1 i.1⟩
 .have a:=(dG.mp q).1;obtain⟨v,g,f⟩:=r.val j pv (by rw[iO a];exact q);exact⟨v,by rw[iO (by rw[<-len];exact a)]at g;exact g,f⟩
 .have a:=(dG.mp q).1;obtain⟨v,g,f⟩:=r.own j p (by rw[iO a];exact q);refine⟨v,by rw[iO (by rw[<-len];exact a)]at g;exact g,?_⟩;have:(λb=>S j b/\j<d.length)=S j:=by funext b;simp[a]
  rw[this];exact f
 .obtain⟨⟨p,q⟩,f⟩:=r.foot j b z.1;exact⟨⟨p,by rw[iO z.2]at q;exact q⟩,f⟩
def yW{d:Type}:R d->R d
 |.ok s a=>.ok s a.dropLast
 |.er c a=>.er c a.dropLast
 |.no=>.no
def mS(g:aj->R Slot)(B:aj->R (PO×List cn)):aj->R Slot:=λd=>(B d).bind λp a=>(aB (if(cN p.2).Nodup then fe (a++[.own p.1]) p.2 else ae) a).bind λf a=>yW (ii (a++[.own p.1]) p.2 (g f))
theorem BW{a:aj}{n:Nat}(h:a.length=n+1):∃l x,a=l++[x]/\l.length=n:=by
 refine⟨a.dropLast,a.getLast (by intro z;rw[z]at h;cases h),(List.dropLast_concat_getLast _).symm,by rw[A4,h];rfl⟩
theorem bt.pushed{K:ax}{F s:ag->Prop}{S i:Nat->ag->Prop}{f H p:Hp}{n:Nat}{h:ag->Prop}(g:bt (U λj b=>S j b\/(j=n/\h b)) (U i) F s H p){r:ag->Prop}{l:Nat->ag->Prop}(a:bt (U l) (U S) r F f H)(d:∀b,h b->f b=ae):bt (U l) (U λj b=>i j b/\j<n) r s f p where
 fro:=λb z=>g.fro b (a.fro b z)
 keep:=λb o q no=>g.keep b o (a.keep b o q no) λ⟨j,z⟩=>by
  rcases z with z|⟨_,z⟩
  .rcases a.onew b ⟨j,z⟩with w|w
   .exact no w
   .rw[w]at q;cases q
  .rw[d b z]at q;cases q
 there:=λb o q=>let ⟨o',q'⟩:=a.there b o q;g.there b o' q'
 fnew:=λb z=>by
  rcases g.fnew b z with w|w|⟨j,w|⟨_,w⟩⟩
  .exact a.fnew b w
  .exact .inr (.inl (og a w))
  .exact .inr ((a.onew b ⟨j,w⟩).symm)
  .exact .inr (.inl (d b w))
 onew:=λb ⟨j,z,_⟩=>by
  rcases g.onew b ⟨j,z⟩with⟨k,w|⟨_,w⟩⟩|w
  .exact a.onew b ⟨k,w⟩
  .exact .inr (d b w)
  .exact .inr (og a w)
variable{G:gy}{x:Str}{k:Nat}{D:List Str}{g:aj->R Slot}{p:Pos}
theorem E_(c:dr G X.prog X.w X.K X.mg X.base x k D (cp X.K g))(hr:gc k X.A)(hx:qF G X E)(ha:vZ X E (e::m) B)(hg:Gl X x:=by rfl)(hd:(x==("__debug__":Str))=ak:=by decide) (h1:aQ (e::m) X.env=(ak,aM e X.env)::aQ m X.env:=by rfl) (h2:(cY A (aQ m X.env)).any (·.1)=ak:=by rfl):DR X E (.Call (.Name x p) (e::m) [] A) (mS g B):=λF S ε W H Q rl h=>by
 obtain⟨f,fd,hm,Fn,hb,hk⟩:=c.ex;refine b8 (CY Fn hr hg hm hk hb .nil hx ir hd h1 h2) (ha F S ε W H _ rl ?_);unfold mS at h;cases ed:B ε with
 |no=>rw[ed]at h;exact h.elim
 |er cv d=>rw[ed]at h;exact h
 |ok pa d=>
  obtain⟨P,q⟩:=pa;rw[ed]at h;simp only[R.bind_ok]at h;intro F1 S1 H1 r1 g1 a Sa vs ow Z T;dsimp only at h T ow;have O:=r1.push ow λb z=>(Z b z).2;by_cases L:(cN q).Nodup
  .rw[if_pos L]at h;cases m:fe (d++[.own P]) q with
   |none=>rw[m]at h;exact h.elim
   |some ss=>
    rw[m]at h;simp only[bP,R.bind_ok]at h;rw[ie];refine⟨F1,l6 q _,ss,O.cal T m L,?_⟩;have len:∀n,(fP (d++[.own P]) q n).length=d.length+1:=λn=>by rw[vO];simp
    cases eg:g ss with
    |no=>rw[eg]at h;exact h.elim
    |er cv n=>
     rw[eg]at h;intro y F' S' H' Y g';unfold ii at h;dsimp only at h;by_cases u:gh q n=ah
     .rw[if_pos u]at h;obtain⟨S2,J,g2,_⟩:=O.called T m L Y g' (λ_ z=>z) (oz u);obtain⟨l,sl,N,ll⟩:=BW (len n);rw[N]at J;have h:Ok X.K E W F S H (R.er cv (fP (d++[.own P]) q n).dropLast:R Slot) _:=h;rw[N,List.dropLast_concat]at h;have M:=bt.pushed (K:=X.K) g2 g1 λb z=>(Z b z).1;rw[<-ll]at M;exact h y F' _ H' J.pop M
     .rw[if_neg u]at h;exact h.elim
    |ok s n=>
     rw[eg]at h;intro v F' S' H' Sr Y g' rv r fr;unfold ii at h;dsimp only at h;by_cases u:gh q n=ah
     .rw[if_pos u]at h;obtain⟨S2,J,g2,u2⟩:=O.called T m L Y g' (λ_ z=>.inl z) (oz u);obtain⟨l,sl,N,ll⟩:=BW (len n);rw[N]at J;have h:Ok X.K E W F S H (R.ok s (fP (d++[.own P]) q n).dropLast:R Slot) _:=h;rw[N,List.dropLast_concat]at h;have M:=bt.pushed (K:=X.K) g2 g1 λb z=>(Z b z).1;rw[<-ll]at M;refine h F' _ H' J.pop M v Sr rv λb z=>⟨og g1 (fr b z),(r b z).1,λ⟨j,w,_⟩=>?_,(r b z).2.2⟩
      rcases u2 b ⟨j,w⟩with w|⟨i,w⟩
      .exact(r b z).2.1 w
      .obtain⟨_,_,o,y1,_⟩:=O.foot i b w;rw[fr b z]at y1;cases y1
     .rw[if_neg u]at h;exact h.elim
  .rw[if_neg L]at h;exact h.elim
end
section
variable{X:Cx}{E:XK}{pin:List Nat}{e b c o:ay}{de l n d:aj->R PV}{m:aj->R (List PV)}{g p q j:Pos}
def M_(X:Cx)(r:List V->Hp->VK->Prop):List V->Hp->VK->Prop:=λh H Q=>∃(p:ag) (f:List Tx),h=[.ref p]/\b9 X.K H p (bU f)/\(bJ f).length<4000/\∀a,H a=ae->r [.ref a] (upd H a (kn X a (bJ f))) Q
def J7(K:ax)(r:V->List V->Hp->VK->Prop)(i:TE)(t:TA):TE:=λf H Q=>i f H λx h=>(∃p a,x=.ref p/\h p=aa (.tup a))/\t f h λa s=>r x a s Q
theorem HG{i:Str}{y:String}{r:V->List V->Hp->VK->Prop}{C:TE}{t:TA}{u f:Pos}{es:List ay}(w:PySem.Slot "tuple" i y)(nU:typeOf (.builtin y)=pure (.type "method_descriptor"))(hm:xp X y r)(ho:PE X o C)(ha:PA X (e::es) t)(iU:jK o i X.env (aM o X.env)=aM o X.env:=by rfl)(L:((cY f (aQ (e::es) X.env)).all (λx=>!x.1)&&(o8 f (o9 [] X.env)).all (λx=>x.1.isSome)&&decide ((e::es).length+([]:List jl).length+(if([]:List jl).isEmpty then 0 else 1)<30))=ah:=by rfl)(iV:(u.endLine == f.line)=ah:=by rfl) (hs:aQ (e::es) X.env=(ak,aM e X.env)::aQ es X.env:=by rfl) (Bm:(cY f (aQ es X.env)).any (·.1)=ak:=by rfl):PE X (.Call (.Attribute o i u) (e::es) [] f) (J7 X.K r C t):=by
 intro B s A H Q I h;refine wpAny_Call_method_late iU L iV rfl (aH (ho B s A H _ I h) λv D h'=>?_);obtain⟨x,J,G,S,⟨p,K,rfl,hp⟩,W⟩:=h';cases S;obtain⟨_,its,_,⟨Y,e1,e2,_⟩,Z,e3,e4⟩:=(show b7 X.prog X.w J D.heap p (.tup K)from G.hok p _ hp)
 refine⟨"tuple",y,PySem.F.plainAttrs_tuple,w,nU,⟨Y,e1,e2⟩,λa z=>?_,?_⟩
 .cases z;exact⟨Z,e3,e4⟩
 have F:=ha f B D A J _ G W;rw[hs]at F ⊢;refine AA (by show(ak||(cY f (aQ es X.env)).any (·.1))=ak;rw[Bm] <;> rfl) (AD ?_);exact aH F λN O h2=>by obtain⟨M,H2,I2,P,T⟩:=h2;exact hm B O A H2 (.ref p) M (.ref p) N Q I2 rfl P T
def qj(f:List PV->PV->Option PV)(d de:aj->R PV):aj->R PV:=λε=>(d ε).bind λx h=>match x with
 |.tup i=>(de h).bind λk a=>aB (f i k) a
 |_=>.no
theorem Eu{f a:Pos}(Y:DE X E o d)(he:DE X E e de)(W:jK o "count" X.env (aM o X.env)=aM o X.env:=by rfl)(T:(f.endLine == a.line)=ah:=by rfl) (fh:ln e=ak:=by rfl):DE X E (.Call (.Attribute o "count" f) [e] [] a) (qj oq d de):=λF S K C H Q O h=>by
 have A:=ju (es:=[]) (env:=X.env) fh;refine b8 (HG PySem.F.slot_tuple_count PySem.F.type_tuple_count Hh bB (gZ bB i8 A) W (by rw[A];rfl) T A rfl) (Y F S K C H _ O ((Ok.bind h).imp λx r F1 S1 H1 u g1 B v M=>?_));split at B
 .rename_i L;obtain⟨p,D,rfl,G,N⟩:=M;refine⟨⟨p,D,rfl,G⟩,he F1 S1 r C H1 _ u ((Ok.bind B).imp λk J F2 S2 H2 P I q w s=>?_)⟩;unfold oq at q;cases i:dD k with
  |none=>rw[i]at q;exact q.elim
  |some z=>
   cases y:i_ L with
   |none=>rw[i,y]at q;exact q.elim
   |some ws=>rw[i,y]at q;obtain⟨rfl,Z⟩:=yq (N.grow I u.fit) y;rw[jW s i];exact⟨p,D,z,rfl,rfl,cL.of (I.imm u.fit G id),vk i,Z,q F2 S2 H2 P (bt.refl ..) _ rfl⟩
 .exact B.elim
theorem ID(i:Nat){y:Str}{u:Pos}{s:CmpOp}{r:R2}{f:PV->PV->Option PV}(A:bX X (dw s) r)(z:P2 X.K r f)(D:DE X E b l)(B:lr s b=ak)(G:X.N[i]?=aa y:=by rfl)(J:dA X.env.scope y:=by eq_refl)(C:(y==("__debug__":Str))=ak:=by decide) (K:(y==("__classdict__":Str))=ak:=by decide):DT X E (.Compare (.Name y u) [s] [b] g) (dB (p_ f i l)):=λF S N M H Q v h=>by obtain⟨a,I,w⟩:=Ot (Q:=λx L=>∃k,x=.bl k/\Q k L) z D v (mU h);exact ny (Dt A (eI G J C K) bB B) ⟨_,I,w⟩
end
section
variable{X:Cx}
theorem Hb:d7 "min"=aa (.builtin "min"):=by decide +kernel
def EO:List (aA×PV)->Option (List Tx)
 |[]=>aa []
 | (.inr k,_)::r=>(EO r).map (k.cps.toList::·)
 |_=>ae
def Kg(b:List (aA×PV)):Option PO:=(EO b).bind λa=>if a.length<64/\(∀x∈a,x.length<=bQ)then aa (.lst (am (aC a)))else ae
def Pg(i:Nat):aj->R PO:=λa=>(aB (cP a i) a).bind λb a=>aB (Kg b) a
end
end Pu
namespace L2
def wf:Bool->Keyed->Array Keyed->Nat->Nat->Nat->StateT bD Sem (Option Nat):=sortPriv% PySem.Builtin.gallop
def EX:Array Keyed->Array Keyed->StateT bD Sem (Array Keyed):=sortPriv% PySem.Builtin.mergeLo
def EY:Array Keyed->Array Keyed->StateT bD Sem (Array Keyed):=sortPriv% PySem.Builtin.mergeHi
def kO(κ:KeyKind)(p:Keyed):κ.α:=(κ.keyOf p.1).getD κ.dflt
def gz(b:KeyKind)(p:Keyed):Prop:=∃a,b.keyOf p.1=aa a
theorem gz.k{κ:KeyKind}{p:Keyed}(h:gz κ p):κ.keyOf p.1=aa (kO κ p):=by obtain⟨a,e⟩:=h;unfold kO;rw[e];rfl
def hG(κ:KeyKind)(kz:gs)(c:aS)(w:aG)(A:aX)(s:ao):Prop :=
 ∀(E:ai->ao->Prop) (x y:ai) (a b:κ.α) {Q:Bool->ao->Prop},κ.keyOf x=aa a->κ.keyOf y=aa b->Q (κ.blt a b) s->aq (ar c w) A (keyLt' kz x y) Q E s
theorem OneLt.ok{κ:KeyKind}(f:κ.OneLt){prog:aS}{w:aG}{A:aX}{s:ao}:hG κ oneType' prog w A s:=λE x y a b _ d c h=>by rw[keyLt'_oneType];exact f prog w A E s x y a b d c h
structure SB(kz:gs)(st:bD):Prop where
 kind:kindOf st=kz
 failed:failedOf st=ae
section
variable{a:aS}{w:aG}{A:aX}{E:ai->ao->Prop}{s:ao}{d:KeyKind}{f:gs}
theorem tY(j:hG d f a w A s){b:bD}{x y:Keyed}{Q:Option Bool->bD->Prop}(i:SB f b)(g:gz d x)(c:gz d y)(h:Q (aa (d.blt (kO d x) (kO d y))) b):wpS (ar a w) A E s (lt' x y) Q b:=by rw[lt'_eq];refine aE (kQ ?_);rw[i.kind];exact aE (rH (wpAny_attempt (j _ x.1 y.1 _ _ g.k c.k ⟨rfl,aL h⟩)))
theorem eR{c:bD}{b:Array Keyed}{i:Nat}(g:i<b.size){Q:Keyed->bD->Prop}(h:Q b[i] c):wpS (ar a w) A E s (elem' b i) Q c:=by rw[elem'_eq,getElem?_pos b i g];exact aL h
def BO(c:Bool)(g:Keyed)(j:Array Keyed)(h i:Nat):StateT bD Sem (Option Bool) :=elem' j (h+i) >>= λx=>if c=ah then lt' x g else lt' g x >>= λb=>pure (b.map (!·))
def lf(d:KeyKind)(b:Bool)(c x:Keyed):Bool:=if b=ah then d.blt (kO d x) (kO d c)else !d.blt (kO d c) (kO d x)
theorem Kq(p:hG d f a w A s){l:bD}{c:Bool}{j:Keyed}{g:Array Keyed}{b i:Nat}{Q:Option Bool->bD->Prop}(o:SB f l)(n:gz d j)(q:b+i<g.size)(m:gz d g[b+i])(h:Q (aa (lf d c j g[b+i])) l):wpS (ar a w) A E s (BO c j g b i) Q l:=by
 refine aE (eR q ?_);cases c
 .rw[if_neg (by simp)];exact aE (tY p o n m (aL h))
 .rw[if_pos rfl];exact tY p o m n h
theorem E4(hO:hG d f a w A s){K:bD}(hk:SB f K){G:Bool}{L:Keyed}{z:Array Keyed}{u n b:Nat}{Q:Option Nat->bD->Prop}(dz:gz d L)(hn:u+n<=z.size)(hA:∀i (g:i<z.size),gz d z[i]) (B:Nat->Bool) (hB:∀i (g:i<n),B i=lf d G L (z[u+i]'∅))(mono:∀i j,i<=j->j<n->B j=ah->B i=ah) (hh:b<n)(h:∀r,r<=n->(∀i,i<r->B i=ah)->(∀i,r<=i->i<n->B i=ak)->Q (aa r) K):wpS (ar a w) A E s (wf G L z u n b) Q K:=by
 have O:∀{i:Nat}{Q:Option Bool->bD->Prop},i<n->Q (aa (B i)) K->wpS (ar a w) A E s (BO G L z u i) Q K:=λ{i Q} g q=>Kq hO hk dz ∅ (hA _ _) (by rw[<-hB i g];exact q);have dn:∀{i j:Nat},i<=j->j<n->B i=ak->B j=ak:=λ{i j} bE hj hf=>by
  cases e:B j with
  |false=>rfl
  |true=>rw[mono i j bE hj e]at hf;cases hf
 unfold wf;refine aE (O hh ?_);cases hr:B b with
 |true=>
  dsimp only;rw[if_pos rfl];refine aE (gu (gv (I:=λx c m=>m=K/\∃l o,c=(ae,l,o)/\l<o/\x<o/\l<n-b/\B (b+l)=ah) (Q:=λc m=>m=K/\∃l o,c=(ae,l,o)/\l<o/\l<n-b/\B (b+l)=ah/\(n-b<=o\/(o<n-b/\B (b+o)=ak))) ?_ ?_ ?_) ?_)
  .rintro x c m _ P ⟨rfl,l,o,rfl,J,T,H,p⟩;dsimp only;by_cases v:o ≥ n-b
   .rw[if_pos v];exact aL ⟨rfl,l,o,rfl,J,H,p,.inl v⟩
   .rw[if_neg v];refine aE (O ∅ ?_);cases e:B (b+o)with
    |true=>exact aL ⟨rfl,o,2*o+1,rfl,∅,∅,∅,e⟩
    |false=>exact aL ⟨rfl,l,o,rfl,J,H,p,.inr ⟨∅,e⟩⟩
  .rintro c m ⟨rfl,l,o,rfl,J,T,H,p⟩;exact⟨rfl,l,o,rfl,J,H,p,.inl ∅⟩
  .exact⟨rfl,0,1,rfl,∅,∅,∅,hr⟩
  rintro c m ⟨rfl,l,o,rfl,J,H,p,M⟩;dsimp only;have Z:b+l+1<=b+min o (n-b):=∅
  have Y:b+min o (n-b)<=n:=∅
  have X:∀i,i<b+l+1->B i=ah:=λi g=>mono i (b+l) ∅ ∅ p;have W:∀i,b+min o (n-b)<=i->i<n->B i=ak:=by
   intro i g N;rcases M with M|⟨M,S⟩
   .lia
   .exact dn (i:=b+o) ∅ N S
  clear M;generalize b+l+1=lo at *;generalize b+min o (n-b)=g at *;refine aE (gu (gv (I:=λx c y=>y=m/\∃l r,c=(ae,l,r)/\l<=r/\r<=n/\r-l<=n-x/\(∀i,i<l->B i=ah)/\(∀i,r<=i->i<n->B i=ak)) (Q:=λc y=>y=m/\∃l r,c=(ae,l,r)/\r<=n/\(∀i,i<r->B i=ah)/\(∀i,r<=i->i<n->B i=ak)) ?_ ?_ ?_) ?_)
  .rintro x c y _ P ⟨rfl,l,r,rfl,a1,F,a3,D,C⟩;dsimp only;by_cases v:l ≥ r
   .rw[if_pos v];have:l=r:=∅
    subst this;exact aL ⟨rfl,l,l,rfl,F,D,C⟩
   .rw[if_neg v];refine aE (O ∅ ?_);cases e:B (l+(r-l) / 2)with
    |true=>exact aL ⟨rfl,_,r,rfl,∅,F,∅,λi g=>mono _ _ ∅ ∅ e,C⟩
    |false=>exact aL ⟨rfl,l,_,rfl,∅,∅,∅,D,λi g N=>dn (i:=l+(r-l) / 2) g N e⟩
  .rintro c y ⟨rfl,l,r,rfl,a1,F,a3,D,C⟩;have:l=r:=∅
   subst this;exact⟨rfl,l,l,rfl,F,D,C⟩
  .exact⟨rfl,lo,g,rfl,Z,Y,∅,X,W⟩
  .rintro c y ⟨rfl,l,r,rfl,F,D,C⟩;exact aL (h r F D C)
 |false=>
  dsimp only;rw[if_neg (by simp)];refine aE (gu (gv (I:=λx c m=>m=K/\∃l o,c=(ae,l,o)/\l<o/\x<o/\l<=b/\B (b-l)=ak) (Q:=λc m=>m=K/\∃l o,c=(ae,l,o)/\l<o/\l<=b/\B (b-l)=ak/\(b+1<=o\/(o<=b/\B (b-o)=ah))) ?_ ?_ ?_) ?_)
  .rintro x c m _ P ⟨rfl,l,o,rfl,J,T,H,p⟩;dsimp only;by_cases v:o ≥ b+1
   .rw[if_pos v];exact aL ⟨rfl,l,o,rfl,J,H,p,.inl v⟩
   .rw[if_neg v];refine aE (O ∅ ?_);cases e:B (b-o)with
    |false=>exact aL ⟨rfl,o,2*o+1,rfl,∅,∅,∅,e⟩
    |true=>exact aL ⟨rfl,l,o,rfl,J,H,p,.inr ⟨∅,e⟩⟩
  .rintro c m ⟨rfl,l,o,rfl,J,T,H,p⟩;exact⟨rfl,l,o,rfl,J,H,p,.inl ∅⟩
  .exact⟨rfl,0,1,rfl,∅,∅,∅,hr⟩
  rintro c m ⟨rfl,l,o,rfl,J,H,p,M⟩;dsimp only;have Z:b+1-min o (b+1)<=b-l:=∅
  have Y:b-l<=n:=∅
  have X:∀i,i<b+1-min o (b+1)->B i=ah:=by
   intro i g;rcases M with M|⟨M,S⟩
   .lia
   .exact mono i (b-o) ∅ ∅ S
  have W:∀i,b-l<=i->i<n->B i=ak:=λi g N=>dn (i:=b-l) ∅ N p;clear M p;generalize b+1-min o (b+1)=lo at *;generalize b-l=g at *;refine aE (gu (gv (I:=λx c y=>y=m/\∃l r,c=(ae,l,r)/\l<=r/\r<=n/\r-l<=n-x/\(∀i,i<l->B i=ah)/\(∀i,r<=i->i<n->B i=ak)) (Q:=λc y=>y=m/\∃l r,c=(ae,l,r)/\r<=n/\(∀i,i<r->B i=ah)/\(∀i,r<=i->i<n->B i=ak)) ?_ ?_ ?_) ?_)
  .rintro x c y _ P ⟨rfl,l,r,rfl,a1,F,a3,D,C⟩;dsimp only;by_cases v:l ≥ r
   .rw[if_pos v];have:l=r:=∅
    subst this;exact aL ⟨rfl,l,l,rfl,F,D,C⟩
   .rw[if_neg v];refine aE (O ∅ ?_);cases e:B (l+(r-l) / 2)with
    |true=>exact aL ⟨rfl,_,r,rfl,∅,F,∅,λi g=>mono _ _ ∅ ∅ e,C⟩
    |false=>exact aL ⟨rfl,l,_,rfl,∅,∅,∅,D,λi g N=>dn (i:=l+(r-l) / 2) g N e⟩
  .rintro c y ⟨rfl,l,r,rfl,a1,F,a3,D,C⟩;have:l=r:=∅
   subst this;exact⟨rfl,l,l,rfl,F,D,C⟩
  .exact⟨rfl,lo,g,rfl,Z,Y,∅,X,W⟩
  .rintro c y ⟨rfl,l,r,rfl,F,D,C⟩;exact aL (h r F D C)
end
section
variable{κ:KeyKind}{kz:gs}
def bG(κ:KeyKind)(x y:Keyed):Prop:=κ.kle (kO κ x) (kO κ y)
theorem bG.trans{x y z:Keyed}(b:bG κ x y)(a:bG κ y z):bG κ x z:=rJ b a
structure MS(κ:KeyKind)(T o ra rb:List Keyed):Prop where
 perm:(o++(ra++rb)).Perm T
 so:o.Pairwise (bG κ)
 sa:ra.Pairwise (bG κ)
 sb:rb.Pairwise (bG κ)
 oa:∀x∈o,∀y∈ra,bG κ x y
 ob:∀x∈o,∀y∈rb,bG κ x y
theorem MS.stepA{T o x f d:List Keyed}(h:MS κ T o (x++f) d)(i:∀u∈x,∀v∈d,bG κ u v):MS κ T (o++x) f d:=by
 obtain⟨n,m,c,l,g,j⟩:=h;rw[GK]at c;refine⟨by simpa[gq]using n,?_,c.2.1,l,?_,?_⟩
 .rw[GK];exact⟨m,c.1,λu a v b=>g u a v (lq _ b)⟩
 .intro u a v b;rcases fY.mp a with a|a
  .exact g u a v (gm _ b)
  .exact c.2.2 u a v b
 .intro u a v b;rcases fY.mp a with a|a
  .exact j u a v b
  .exact i u a v b
theorem MS.swap{T o b a:List Keyed}(h:MS κ T o b a):MS κ T o a b :=⟨(xF _ A5).trans h.perm,h.so,h.sb,h.sa,h.ob,h.oa⟩
theorem MS.stepB{T o x a b:List Keyed}(h:MS κ T o a (x++b))(c:∀u∈x,∀v∈a,bG κ u v):MS κ T (o++x) a b :=(h.swap.stepA c).swap
def gk(κ:KeyKind)(T:List Keyed)(r:Array Keyed):Prop:=r.toList.Perm T/\r.toList.Pairwise (bG κ)
theorem MS.endA{T o a:List Keyed}{r:Array Keyed}(h:MS κ T o a [])(e:r.toList=o++a):gk κ T r:=by obtain⟨f,d,c,i,b,g⟩:=h;refine⟨by rw[e];simpa using f,?_⟩;rw[e,GK];exact⟨d,c,b⟩
theorem MS.last{T o b a:List Keyed}{r:Array Keyed}(h:MS κ T o b a)(c:∀u∈a,∀v∈b,bG κ u v)(e:r.toList=o++(a++b)):gk κ T r:=by
 have d:MS κ T o b (a++[]):=by simpa using h
 exact(d.stepB c).endA (by rw[e];simp)
theorem kI(a:Array Keyed)(i j:Nat):(a.extract i j).toList=(a.toList.drop i).take (j-i):=by simp[Array.toList_extract,List.extract_eq_take_drop]
theorem qC(a:Array Keyed)(i:Nat):(a.extract i a.size).toList=a.toList.drop i:=by rw[kI,ki];simp
theorem D8{a:Array Keyed}{i:Nat}(h:i<a.size):a.toList.drop i=a[i]::a.toList.drop (i+1):=by rw[ui (by simpa using h)];simp
theorem FZ(a:Array Keyed)(i k:Nat):a.toList.drop i=(a.extract i (i+k)).toList++a.toList.drop (i+k):=by rw[kI,show i+k-i=k by lia,<-List.drop_drop,nL]
theorem qb{a:Array Keyed}{i:Nat}{x:Keyed}(h:x∈a.toList.drop i):∃j,∃d:j<a.size,i<=j/\a[j]=x:=by
 obtain⟨k,c,e⟩:=xK h;rw[A6]at e;have b:i+k<a.size:=by simp at c;lia
 exact⟨i+k,b,∅,by simpa using e⟩
theorem D5{a:Array Keyed}{i k:Nat}{x:Keyed}(h:x∈(a.extract i (i+k)).toList):∃j,∃c:j<a.size,i<=j/\j<i+k/\a[j]=x:=by
 rw[kI]at h;obtain⟨m,b,e⟩:=xK h;rw[A7,A6]at e;refine⟨i+m,?_,∅,?_,by simpa using e⟩
 all_goals simp at b;lia
def sX(κ:KeyKind)(a:Array Keyed):Prop:=∀i j (b:j<a.size) (c:i<=j),bG κ (a[i]'∅) a[j]
theorem sX.pw{a:Array Keyed}(h:sX κ a):a.toList.Pairwise (bG κ):=by rw[GL];intro i j c b d;have:=h i j (by simpa using b) ∅;simpa using this
structure fu(κ:KeyKind)(a b c:Array Keyed)(d f:Nat):Prop where
 ms:MS κ (a.toList++b.toList) c.toList (a.toList.drop d) (b.toList.drop f)
 la:d<=a.size
 lb:f<=b.size
variable{a b c:Array Keyed}{d f:Nat}
theorem fu.pushA(h:fu κ a b c d f)(i:d<a.size)(l:∀j (g:j<b.size),f<=j->bG κ a[d] b[j]):fu κ a b (c.push a[d]) (d+1) f:=by refine⟨?_,i,h.lb⟩;rw[ud];refine MS.stepA (by rw[A8,<-D8 i];exact h.ms) λu n v m=>?_;obtain⟨j,g,o,rfl⟩:=qb m;rw[eN.mp n];exact l j g o
theorem fu.pushB(h:fu κ a b c d f)(i:f<b.size)(l:∀j (g:j<a.size),d<=j->bG κ b[f] a[j]):fu κ a b (c.push b[f]) d (f+1):=by refine⟨?_,h.la,i⟩;rw[ud];refine MS.stepB (by rw[A8,<-D8 i];exact h.ms) λu n v m=>?_;obtain⟨j,g,o,rfl⟩:=qb m;rw[eN.mp n];exact l j g o
theorem fu.extA{k:Nat}(h:fu κ a b c d f)(p:d+k<=a.size)(m:∀i (l:i<a.size),d<=i->i<d+k->∀j (g:j<b.size),f<=j->bG κ a[i] b[j]):fu κ a b (c++a.extract d (d+k)) (d+k) f:=by refine⟨?_,p,h.lb⟩;rw[iS];refine MS.stepA (by rw[<-FZ];exact h.ms) λu o v n=>?_;obtain⟨j,g,s,rfl⟩:=qb n;obtain⟨i,l,r,q,rfl⟩:=D5 o;exact m i l r q j g s
theorem fu.extB{k:Nat}(h:fu κ a b c d f)(p:f+k<=b.size)(m:∀i (l:i<b.size),f<=i->i<f+k->∀j (g:j<a.size),d<=j->bG κ b[i] a[j]):fu κ a b (c++b.extract f (f+k)) d (f+k):=by refine⟨?_,h.la,p⟩;rw[iS];refine MS.stepB (by rw[<-FZ];exact h.ms) λu o v n=>?_;obtain⟨j,g,s,rfl⟩:=qb n;obtain⟨i,l,r,q,rfl⟩:=D5 o;exact m i l r q j g s
theorem fu.doneA(h:fu κ a b c d f)(e:f=b.size):gk κ (a.toList++b.toList) (c++a.extract d a.size++b.extract f b.size):=by have:=h.ms;rw[show b.toList.drop f=[] by rw[A9];simp[e]]at this;refine this.endA ?_;rw[iS,iS,qC,qC,show b.toList.drop f=[] by rw[A9];simp[e],ie]
theorem fu.doneB(h:fu κ a b c d f)(e:d=a.size):gk κ (a.toList++b.toList) (c++a.extract d a.size++b.extract f b.size):=by have:=h.ms;rw[show a.toList.drop d=[] by rw[A9];simp[e]]at this;refine this.swap.endA ?_;rw[iS,iS,qC,qC,show a.toList.drop d=[] by rw[A9];simp[e],ie]
theorem fu.last(h:fu κ a b c d f)(e:d+1=a.size)(n:∀j (g:j<b.size),bG κ b[j] (a[d]'∅)):gk κ (a.toList++b.toList) (c++b.extract f b.size++a.extract d a.size):=by
 refine h.ms.last (λu m v l=>?_) (by rw[iS,iS,qC,qC,gq]);obtain⟨j,g,q,rfl⟩:=qb m;obtain⟨i,o,p,rfl⟩:=qb l;have:i=d:=∅
 subst this;exact n j g
end
section
variable{b:aS}{w:aG}{A:aX}{E:ai->ao->Prop}{s:ao}{a:KeyKind}{c:gs}
theorem zL(y:hG a c b w A s){l:bD}(u:SB c l){f:Keyed}{d:Array Keyed}{base n hint:Nat}{Q:Option Nat->bD->Prop}(D:gz a f)(q:base+n<=d.size)(z:∀i (g:i<d.size),gz a d[i]) (o:∀i j (G:i<=j) (m:j<base+n),base<=i->bG a (d[i]'∅) (d[j]'∅)) (v:hint<n)(h:∀r,r<=n->(∀i (g:i<d.size),base<=i->i<base+r->bG a d[i] f)->(∀i (g:i<d.size),base+r<=i->i<base+n->a.klt (kO a f) (kO a d[i]))->Q (aa r) l):wpS (ar b w) A E s (wf ak f d base n hint) Q l:=by
 refine E4 y u D q z (λi=>if g:i<n then lf a ak f (d[base+i]'∅)else ak) (λi g=>by rw[dif_pos g]) ?_ v ?_
 .intro i j G m e;rw[dif_pos m]at e;rw[dif_pos ∅];simp only[lf,pt,if_false,GI]at e ⊢;exact rJ (o (base+i) (base+j) ∅ ∅ ∅) e
 .intro r p C B;refine h r p (λi g x F=>?_) (λi g x F=>?_)
  .have:=C (i-base) ∅;rw[dif_pos ∅]at this;simp only[lf,pt,if_false,GI,show base+(i-base)=i by lia]at this;exact this
  .have:=B (i-base) ∅ ∅;rw[dif_pos ∅]at this;simp only[lf,pt,if_false,Bool.not_eq_false',show base+(i-base)=i by lia]at this;exact this
theorem zk(y:hG a c b w A s){l:bD}(u:SB c l){f:Keyed}{d:Array Keyed}{base n hint:Nat}{Q:Option Nat->bD->Prop}(D:gz a f)(q:base+n<=d.size)(z:∀i (g:i<d.size),gz a d[i]) (o:∀i j (G:i<=j) (m:j<base+n),base<=i->bG a (d[i]'∅) (d[j]'∅)) (v:hint<n)(h:∀r,r<=n->(∀i (g:i<d.size),base<=i->i<base+r->a.klt (kO a d[i]) (kO a f))->(∀i (g:i<d.size),base+r<=i->i<base+n->bG a f d[i])->Q (aa r) l):wpS (ar b w) A E s (wf ah f d base n hint) Q l:=by
 refine E4 y u D q z (λi=>if g:i<n then lf a ah f (d[base+i]'∅)else ak) (λi g=>by rw[dif_pos g]) ?_ v ?_
 .intro i j G m e;rw[dif_pos m]at e;rw[dif_pos ∅];simp only[lf,if_true]at e ⊢;exact KeyOrd.klt_of_kle_of_klt (o (base+i) (base+j) ∅ ∅ ∅) e
 .intro r p C B;refine h r p (λi g x F=>?_) (λi g x F=>?_)
  .have:=C (i-base) ∅;rw[dif_pos ∅]at this;simp only[lf,if_true,show base+(i-base)=i by lia]at this;exact this
  .have:=B (i-base) ∅ ∅;rw[dif_pos ∅]at this;simp only[lf,if_true,show base+(i-base)=i by lia]at this;exact this
end
structure gi(st au:bD):Prop where
 kind:kindOf au=kindOf st
 arr:arrOf au=arrOf st
 pend:bj au=bj st
 failed:failedOf au=failedOf st
theorem gi.rfl{st:bD}:gi st st:=⟨_root_.rfl,_root_.rfl,_root_.rfl,_root_.rfl⟩
theorem gi.sb{b:gs}{a c:bD}(h:gi a c)(k:SB b a):SB b c:=⟨h.kind.trans k.kind,h.failed.trans k.failed⟩
section
variable{d:aS}{w:aG}{A:aX}{E:ai->ao->Prop}{s:ao}{κ:KeyKind}{kz:gs}
theorem cD{a f:Type}{M:Model}{c:Prop}[Decidable c]{t e:StateT a Sem f}{Q:f->a->Prop}{b:a}(h:c->wpS M A E s t Q b)(g:¬c->wpS M A E s e Q b):wpS M A E s (if c then t else e) Q b:=by
 split
 .exact h ‹_›
 .exact g ‹_›
def Mh:Nat->StateT bD Sem Unit:=sortPriv% PySem.Builtin.setMinGallop
theorem gi.trans{a b c:bD}(g:gi a b)(f:gi b c):gi a c:=⟨f.kind.trans g.kind,f.arr.trans g.arr,f.pend.trans g.pend,f.failed.trans g.failed⟩
theorem yS{a b:bD}{g:Nat}{Q:Unit->bD->Prop}(f:gi b a)(h:∀c,gi b c->Q () c):wpS (ar d w) A E s (Mh g) Q a :=mz (h _ (f.trans ⟨rfl,rfl,rfl,rfl⟩))
theorem Nr(hO:hG κ kz d w A s){M:bD}(hk:SB kz M){a b:Array Keyed}{Q:Array Keyed->bD->Prop}(ha:0<a.size)(hb:0<b.size)(hA:∀i (P:i<a.size),gz κ a[i]) (hB:∀i (P:i<b.size),gz κ b[i]) (sa:sX κ a) (sb:sX κ b)(h0:bG κ b[0] a[0]) (hl:∀j (q:j<b.size),bG κ b[j] a[a.size-1])(h:∀r G,gi M G->gk κ (a.toList++b.toList) r->Q r G):wpS (ar d w) A E s (EX a b) Q M:=by
 have fk:∀{i:Nat} (P:i<a.size),i+1=a.size->∀j (q:j<b.size),bG κ b[j] a[i]:=λ{i} P e j q=>by
  have:i=a.size-1:=∅
  subst this;exact hl j q
 have I0:fu κ a b #[b[0]] 0 1:=by
  have B:fu κ a b #[] 0 0:=⟨⟨by simp,by simp,by simpa using sa.pw,by simpa using sb.pw,by simp,by simp⟩,∅,∅⟩
  exact B.pushB hb λj q _=>h0.trans (sa 0 j q ∅)
 unfold EX;refine aE (rH (nM ⟨rfl,?_⟩));refine aE (eR hb ?_);by_cases e1:1=b.size
 .rw[if_pos (by simp[<-e1])];exact aL (h _ _ .rfl (I0.doneA e1))
 rw[if_neg (by simpa using e1)];by_cases e2:0+1=a.size
 .rw[if_pos (by simp[<-e2])];exact aL (h _ _ .rfl (I0.last e2 (fk ∅ ∅)))
 rw[if_neg (by simpa using e2)];refine aE (kQ ?_);refine aE (gu (gv (I:=λx c G=>gi M G/\∃f l p K,c=(ae,f,l,p,K)/\fu κ a b f l p/\l+1<a.size/\p<b.size/\x+1<=l+p) (Q:=λc G=>gi M G/\∃r,c.1=aa r/\gk κ (a.toList++b.toList) r) ?_ ?_ ?_) ?_);rotate_left
 .rintro c G ⟨_,f,l,p,K,rfl,z,B,u,N⟩;lia
 .exact⟨.rfl,_,0,1,_,rfl,I0,∅,∅,∅⟩
 .rintro⟨c1,c⟩ G ⟨v,r,rfl,Y⟩;exact aL (h r G v Y)
 rintro x c G _ hx ⟨v,f,l,p,K,rfl,z,B,u,N⟩;refine aE (gu (gv (I:=λy c C=>C=G/\∃f l p F D,c=(ae,f,l,p,F,D)/\fu κ a b f l p/\l+1<a.size/\p<b.size/\x+1+y<=l+p) (Q:=λc C=>C=G/\((∃r Z,c=(aa r,Z)/\gk κ (a.toList++b.toList) r)\/∃f l p F D,c=(ae,f,l,p,F,D)/\fu κ a b f l p/\l+1<a.size/\p<b.size/\x+1+1<=l+p)) ?_ ?_ ?_) ?_)
 .rintro y c C _ hy ⟨rfl,f,l,p,F,D,rfl,z,B,u,N⟩;dsimp only;refine aE (eR u (aE (eR ∅ (aE (tY hO (v.sb hk) (hB p u) (hA l ∅) ?_)))));cases e:κ.blt (kO κ b[p]) (kO κ (a[l]'∅))with
  |true=>
   dsimp only;rw[if_pos rfl];refine aE (eR u ?_);have O:=z.pushB u λj q eF=>bG.trans (kR e) (sa l j q eF);by_cases J:p+1=b.size
   .rw[if_pos (by simp[J])];exact aL ⟨rfl,.inl ⟨_,_,rfl,O.doneA J⟩⟩
   rw[if_neg (by simpa using J)];split
   .exact aL ⟨rfl,.inr ⟨_,_,_,_,_,rfl,O,∅,∅,∅⟩⟩
   .exact aL ⟨rfl,_,_,_,_,_,rfl,O,∅,∅,∅⟩
  |false=>
   dsimp only;rw[if_neg (by simp)];refine aE (eR ∅ ?_);have O:=z.pushA ∅ λj q eF=>bG.trans (show bG κ (a[l]'∅) b[p] from e) (sb p j q eF);by_cases J:l+1+1=a.size
   .rw[if_pos (by simp[J])];exact aL ⟨rfl,.inl ⟨_,_,rfl,O.last J (fk ∅ ∅)⟩⟩
   rw[if_neg (by simpa using J)];split
   .exact aL ⟨rfl,.inr ⟨_,_,_,_,_,rfl,O,∅,∅,∅⟩⟩
   .exact aL ⟨rfl,_,_,_,_,_,rfl,O,∅,∅,∅⟩
 .rintro c C ⟨rfl,f,l,p,F,D,rfl,z,B,u,N⟩;lia
 .exact⟨rfl,_,_,_,_,_,rfl,z,B,u,∅⟩
 rintro c C ⟨rfl,⟨r,Z,rfl,Y⟩|⟨f,l,p,F,D,rfl,z,B,u,N⟩⟩
 .exact aL ⟨v,r,rfl,Y⟩
 refine aE (rH (nM ⟨rfl,?_⟩));refine aE (gu (gv (I:=λy c C=>gi M C/\∃f l p K F D,c=(ae,f,l,p,K,F,D)/\fu κ a b f l p/\l+1<a.size/\p<b.size/\x+2+y<=l+p) (Q:=λc C=>gi M C/\((∃r Z,c=(aa r,Z)/\gk κ (a.toList++b.toList) r)\/∃f l p K F D,c=(ae,f,l,p,K,F,D)/\fu κ a b f l p/\l+1<a.size/\p<b.size/\x+1+1<=l+p)) ?_ ?_ ?_) ?_);rotate_left
 .rintro c C ⟨_,f,l,p,K,F,D,rfl,z,B,u,N⟩;lia
 .exact⟨v,_,_,_,_,_,_,rfl,z,B,u,∅⟩
 .rintro c C ⟨v,⟨r,Z,rfl,Y⟩|⟨f,l,p,K,F,D,rfl,z,B,u,N⟩⟩
  .exact aL ⟨v,r,rfl,Y⟩
  .dsimp only;refine aE (mz (aL ⟨⟨v.kind,v.arr,v.pend,v.failed⟩,_,_,_,_,rfl,z,B,u,∅⟩))
 clear B u N z v I0 e1 e2;rintro y c C _ hy ⟨v,f,l,p,K,F,D,rfl,z,B,u,N⟩;clear hx hy;have jS:∀{i j:Nat} (L:i<=j) (q:j<b.size),bG κ (b[i]'∅) b[j]:=λ{i j} L q=>sb i j q L;have pO:∀{i j:Nat} (L:i<=j) (q:j<a.size),bG κ (a[i]'∅) a[j]:=λ{i j} L q=>sa i j q L;refine(?_:wpS (ar d w) A E s _ ?Q _);extract_lets -merge x1 x2 x3 x4 x5 x6 x7 x8 x9 xa xb xc jp;have q:∀g W,gi M W->wpS (ar d w) A E s (jp () g) ?Q W:=by
  intro g W H;dsimp -zeta only[jp,x1,x2,x3,x4,x5,x6,x7,x8,x9,xa,xb,xc];refine aE (yS H λW H=>?_);refine aE (eR u ?_);refine aE (zL hO (H.sb hk) (base:=l) (n:=a.size-l) (hint:=0) (hB p u) ∅ hA (λi j L q _=>pO L ∅) ∅ λk mI fj fo=>?_);dsimp -zeta only;extract_lets -merge y1 jp2;have uW:∀o n,fu κ a b o n p->l+k<=n->n+1<a.size->wpS (ar d w) A E s (jp2 () o n) ?Q W:=by
   intro o n X n0 e4;dsimp -zeta only[jp2,y1];refine aE (eR u ?_);have S:=X.pushB u λj q g=>kR (fo j q ∅ ∅);refine cD (λe5=>?_) λe5=>?_
   .exact aL ⟨H,.inl ⟨_,_,rfl,S.doneA (by simpa using e5)⟩⟩
   have e5':p+1≠b.size:=by simpa using e5
   refine aE (eR ∅ ?_);refine aE (zk hO (H.sb hk) (base:=p+1) (n:=b.size-(p+1)) (hint:=0) (hA _ _) ∅ hB (λi j L q _=>jS L ∅) ∅ λk' m1 m2 m3=>?_);dsimp -zeta only;extract_lets -merge z1 z2 jp3;have uY:∀o m,fu κ a b o n m->p+1+k'<=m->m<b.size->wpS (ar d w) A E s (jp3 () o m) ?Q W:=by
    intro o m uZ e6 e7;dsimp -zeta only[jp3,z1,z2];refine aE (eR ∅ ?_);have u6:=uZ.pushA ∅ (λj q g=>m3 j q ∅ ∅);refine cD (λe7=>?_) λe7=>?_
    .have T:n+1+1=a.size:=by simpa using e7
     exact aL ⟨H,.inl ⟨_,_,rfl,u6.last T (fk ∅ T)⟩⟩
    have T:n+1+1≠a.size:=by simpa using e7
    refine cD (λe8=>?_) λe8=>?_
    .exact aL ⟨H,.inr ⟨_,_,_,_,_,_,rfl,u6,∅,∅,∅⟩⟩
    .exact aL ⟨H,_,_,_,_,_,_,rfl,u6,∅,∅,∅⟩
   clear_value jp3;refine cD (λBt=>?_) (λBt=>?_)
   .have uZ:=S.extB (k:=k') ∅ (λi P g1 g2 j q g3=>bG.trans (kR (m2 i P g1 g2)) (pO g3 q));refine cD (λe6=>?_) λe6=>?_
    .exact aL ⟨H,.inl ⟨_,_,rfl,uZ.doneA (by simpa using e6)⟩⟩
    have e6':p+1+k'≠b.size:=by simpa using e6
    exact uY _ _ uZ ∅ ∅
   .exact uY _ _ S ∅ ∅
  clear_value jp2;refine cD (λhk0=>?_) (λhk0=>?_)
  .have X:fu κ a b (f++a.extract l (l+k)) (l+k) p:=z.extA ∅ λi P g1 g2 j q g3=>(fj i P g1 g2).trans (jS g3 q);refine cD (λJ=>?_) λJ=>?_
   .have n0:l+k+1=a.size:=by simpa using J
    exact aL ⟨H,.inl ⟨_,_,rfl,X.last n0 (fk ∅ n0)⟩⟩
   have n0:l+k+1≠a.size:=by simpa using J
   refine cD (λe4=>?_) λe4=>?_
   .exact aL ⟨H,.inl ⟨_,_,rfl,X.doneB (by simpa using e4)⟩⟩
   have e4':l+k≠a.size:=by simpa using e4
   exact uW _ _ X ∅ ∅
  .exact uW _ _ z ∅ ∅
 exact cD (λ_=>q _ _ v) λ_=>q _ _ v
end
def zI(d:KeyKind):KeyKind where
 α:=d.α
 blt:=λa b=>d.blt b a
 irrefl:=d.irrefl
 trans:=λa b c g f=>d.trans c b a f g
 negTrans:=λa b c h=>(d.negTrans c b a h).symm
 total:=λa b g f=>d.total a b f g
 keyOf:=d.keyOf
 dflt:=d.dflt
section
variable{κ:KeyKind}{g:gs}
theorem si{x y:Keyed}(h:bG κ y x):bG (zI κ) x y:=h
theorem BP{a:Array Keyed}{n:Nat}(h:0<n)(b:n<=a.size):(a.toList.take n).reverse=(a[n-1]'∅)::(a.toList.take (n-1)).reverse:=by
 obtain⟨m,rfl⟩:∃m,n=m+1:=⟨n-1,∅⟩
 rw[Qc (by simp;lia),GM];simp
theorem Fj(a:Array Keyed)(p n:Nat)(b:p<=n):a.toList.take n=a.toList.take p++(a.extract p n).toList:=by
 rw[kI]
 conv=>lhs;rw[show n=p+(n-p) by lia]
 rw[List.take_add]
theorem qm{a:Array Keyed}{n:Nat}(d:n<=a.size){x:Keyed}(h:x∈a.toList.take n):∃j,∃f:j<a.size,j<n/\a[j]=x:=by
 obtain⟨m,b,e⟩:=xK h;rw[A7]at e;have c:m<n:=by simp at b;lia
 exact⟨m,∅,c,by simpa using e⟩
theorem zo{a:Array Keyed}{p n:Nat}(d:n<=a.size){x:Keyed}(h:x∈(a.extract p n).toList):∃j,∃f:j<a.size,p<=j/\j<n/\a[j]=x:=by
 rw[kI]at h;obtain⟨m,b,e⟩:=xK h;rw[A7,A6]at e;have c:p+m<n:=by simp at b;lia
 exact⟨p+m,∅,∅,c,by simpa using e⟩
theorem ox(a:Array Keyed)(n:Nat):(a.extract 0 n).toList=a.toList.take n:=by rw[kI];simp
structure fD(κ:KeyKind)(a b c:Array Keyed)(f d:Nat):Prop where
 ms:MS (zI κ) (a.toList++b.toList) c.toList (a.toList.take f).reverse (b.toList.take d).reverse
 la:f<=a.size
 lb:d<=b.size
variable{a b c:Array Keyed}{f d:Nat}
theorem fD.pushA(h:fD κ a b c f d)(o:0<f)(q:f-1<a.size)(l:∀j (i:j<b.size),j<d->bG κ b[j] a[f-1]):fD κ a b (c.push a[f-1]) (f-1) d:=by refine⟨?_,∅,h.lb⟩;rw[ud];refine MS.stepA (by rw[A8,<-BP o h.la];exact h.ms) λu n v m=>?_;obtain⟨j,i,p,rfl⟩:=qm h.lb (pD.mp m);rw[eN.mp n];exact si (l j i p)
theorem fD.pushB(h:fD κ a b c f d)(o:0<d)(p:d-1<b.size)(l:∀j (i:j<a.size),j<f->bG κ a[j] b[d-1]):fD κ a b (c.push b[d-1]) f (d-1):=by refine⟨?_,h.la,∅⟩;rw[ud];refine MS.stepB (by rw[A8,<-BP o h.lb];exact h.ms) λu n v m=>?_;obtain⟨j,i,q,rfl⟩:=qm h.la (pD.mp m);rw[eN.mp n];exact si (l j i q)
theorem fD.extA{p:Nat}(h:fD κ a b c f d)(l:p<=f)(o:∀i (n:i<a.size),p<=i->i<f->∀j (m:j<b.size),j<d->bG κ b[j] a[i]):fD κ a b (c++(a.extract p f).reverse) p d:=by refine⟨?_,cH l h.la,h.lb⟩;rw[iS,Array.toList_reverse];refine MS.stepA (by rw[<-GM,<-Fj _ _ _ l];exact h.ms) λu r v q=>?_;obtain⟨j,m,x,rfl⟩:=qm h.lb (pD.mp q);obtain⟨i,n,w,s,rfl⟩:=zo h.la (pD.mp r);exact si (o i n w s j m x)
theorem fD.extB{p:Nat}(h:fD κ a b c f d)(l:p<=d)(o:∀i (n:i<b.size),p<=i->i<d->∀j (m:j<a.size),j<f->bG κ a[j] b[i]):fD κ a b (c++(b.extract p d).reverse) f p:=by refine⟨?_,h.la,cH l h.lb⟩;rw[iS,Array.toList_reverse];refine MS.stepB (by rw[<-GM,<-Fj _ _ _ l];exact h.ms) λu r v q=>?_;obtain⟨j,m,x,rfl⟩:=qm h.la (pD.mp q);obtain⟨i,n,w,s,rfl⟩:=zo h.lb (pD.mp r);exact si (o i n w s j m x)
theorem yn{T:List Keyed}{r q:Array Keyed}(h:gk (zI κ) T q)(e:r.toList=q.toList.reverse):gk κ T r:=by refine⟨by rw[e];exact(GN _).trans h.1,?_⟩;rw[e,GO];exact h.2
theorem fD.doneA(h:fD κ a b c f d)(e:f=0):gk κ (a.toList++b.toList) (a.extract 0 f++b.extract 0 d++c.reverse):=by have:=h.ms;rw[e,AV,List.reverse_nil]at this;refine yn (q:=(c.toList++(b.toList.take d).reverse).toArray) (this.swap.endA (by simp)) ?_;rw[iS,iS,ox,ox,e];simp
theorem fD.doneB(h:fD κ a b c f d)(e:d=0):gk κ (a.toList++b.toList) (a.extract 0 f++b.extract 0 d++c.reverse):=by have:=h.ms;rw[e,AV,List.reverse_nil]at this;refine yn (q:=(c.toList++(a.toList.take f).reverse).toArray) (this.endA (by simp)) ?_;rw[iS,iS,ox,ox,e];simp
theorem fD.first(h:fD κ a b c f d)(e:d=1)(p:∀j (n:j<a.size),bG κ (b[0]'(by have:=h.lb;lia)) a[j]):gk κ (a.toList++b.toList) (b.extract 0 d++a.extract 0 f++c.reverse):=by
 refine yn (q:=(c.toList++((a.toList.take f).reverse++(b.toList.take d).reverse)).toArray) (h.ms.swap.last (λu m v l=>?_) (by simp)) ?_
 .obtain⟨i,o,s,rfl⟩:=qm h.la (pD.mp m);obtain⟨j,n,r,rfl⟩:=qm h.lb (pD.mp l);have:j=0:=∅
  subst this;exact si (p i o)
 .rw[iS,iS,ox,ox];simp
end
section
variable{f:aS}{w:aG}{A:aX}{E:ai->ao->Prop}{s:ao}{d:KeyKind}{l:gs}
theorem JW(hO:hG d l f w A s){T:bD}(hk:SB l T){a b:Array Keyed}{Q:Array Keyed->bD->Prop}(ha:0<a.size)(hb:0<b.size)(hA:∀i (hi:i<a.size),gz d a[i]) (hB:∀i (hi:i<b.size),gz d b[i]) (sa:sX d a) (sb:sX d b)(h0:bG d b[0] a[0]) (hl:∀j (z:j<b.size),bG d b[j] a[a.size-1])(h:∀r K,gi T K->gk d (a.toList++b.toList) r->Q r K):wpS (ar f w) A E s (EY a b) Q T:=by
 have jS:∀{i j:Nat} (S:i<=j) (z:j<b.size),bG d (b[i]'∅) b[j]:=λ{i j} S z=>sb i j z S;have pO:∀{i j:Nat} (S:i<=j) (z:j<a.size),bG d (a[i]'∅) a[j]:=λ{i j} S z=>sa i j z S;have hf:∀j (z:j<a.size),bG d b[0] a[j]:=λj z=>h0.trans (pO ∅ z);have I0:fD d a b #[a[a.size-1]] (a.size-1) b.size:=by
  have C:fD d a b #[] a.size b.size:=by
   refine⟨⟨?_,by simp,?_,?_,by simp,by simp⟩,∅,∅⟩
   .simp only[<-mn,A_,iT];exact List.Perm.append (GN _) (GN _)
   .simp only[<-mn,A_,GO];exact sa.pw
   .simp only[<-mn,A_,GO];exact sb.pw
  exact C.pushA ha ∅ λj z _=>hl j z
 unfold EY;refine aE (rH (nM ⟨rfl,?_⟩));refine aE (eR ∅ ?_);refine cD (λe1=>aL (h _ _ .rfl (I0.doneA (by simpa using e1)))) λe1=>?_;have rV:a.size-1≠0:=by simpa using e1
 refine cD (λe2=>?_) λe2=>?_
 .have kX:b.size=1:=by simpa using e2
  exact aL (h _ _ .rfl (I0.first kX hf))
 have kX:b.size≠1:=by simpa using e2
 refine aE (kQ ?_);refine aE (gu (gv (I:=λx c K=>gi T K/\∃u v q P,c=(ae,v,q,u,P)/\fD d a b u v q/\0<v/\v<=a.size/\1<q/\q<=b.size/\x+1+v+q<=a.size+b.size) (Q:=λc K=>gi T K/\∃r,c.1=aa r/\gk d (a.toList++b.toList) r) ?_ ?_ ?_) ?_);rotate_left
 .rintro c K ⟨_,u,v,q,P,rfl,B,C,M,L,N,W⟩;lia
 .exact⟨.rfl,_,_,_,_,rfl,I0,∅,∅,∅,∅,∅⟩
 .rintro⟨c1,c⟩ K ⟨J,r,rfl,hD⟩;exact aL (h r K J hD)
 rintro x c K _ hx ⟨J,u,v,q,P,rfl,B,C,M,L,N,W⟩;refine aE (gu (gv (I:=λy c F=>F=K/\∃u v q H G,c=(ae,v,q,u,H,G)/\fD d a b u v q/\0<v/\v<=a.size/\1<q/\q<=b.size/\x+1+y+v+q<=a.size+b.size) (Q:=λc F=>F=K/\((∃r c',c=(aa r,c')/\gk d (a.toList++b.toList) r)\/∃u v q H G,c=(ae,v,q,u,H,G)/\fD d a b u v q/\0<v/\v<=a.size/\1<q/\q<=b.size/\x+1+1+v+q<=a.size+b.size)) ?_ ?_ ?_) ?_)
 .rintro y c F _ hy ⟨rfl,u,v,q,H,G,rfl,B,C,M,L,N,W⟩;dsimp only;refine aE (eR ∅ (aE (eR ∅ (aE (tY hO (J.sb hk) (hB (q-1) ∅) (hA (v-1) ∅) ?_)))));cases e:d.blt (kO d (b[q-1]'∅)) (kO d (a[v-1]'∅))with
  |true=>
   dsimp only;rw[if_pos rfl];refine aE (eR ∅ ?_);have X:=B.pushA C ∅ λj z eF=>bG.trans (jS (show j<=q-1 by lia) ∅) (kR e);refine cD (λO=>?_) λO=>?_
   .exact aL ⟨rfl,.inl ⟨_,_,rfl,X.doneA (by simpa using O)⟩⟩
   have n0:v-1≠0:=by simpa using O
   refine cD (λe4=>?_) λe4=>?_
   .exact aL ⟨rfl,.inr ⟨_,_,_,_,_,rfl,X,∅,∅,∅,∅,∅⟩⟩
   .exact aL ⟨rfl,_,_,_,_,_,rfl,X,∅,∅,∅,∅,∅⟩
  |false=>
   dsimp only;rw[if_neg (by simp)];refine aE (eR ∅ ?_);have X:=B.pushB ∅ ∅ λj z eF=>bG.trans (pO (show j<=v-1 by lia) ∅) (show bG d (a[v-1]'∅) (b[q-1]'∅)from e);refine cD (λO=>?_) λO=>?_
   .exact aL ⟨rfl,.inl ⟨_,_,rfl,X.first (by simpa using O) hf⟩⟩
   have n0:q-1≠1:=by simpa using O
   refine cD (λe4=>?_) λe4=>?_
   .exact aL ⟨rfl,.inr ⟨_,_,_,_,_,rfl,X,∅,∅,∅,∅,∅⟩⟩
   .exact aL ⟨rfl,_,_,_,_,_,rfl,X,∅,∅,∅,∅,∅⟩
 .rintro c F ⟨rfl,u,v,q,H,G,rfl,B,C,M,L,N,W⟩;lia
 .exact⟨rfl,_,_,_,_,_,rfl,B,C,M,L,N,∅⟩
 rintro c F ⟨rfl,⟨r,c',rfl,hD⟩|⟨u,v,q,H,G,rfl,B,C,M,L,N,W⟩⟩
 .exact aL ⟨J,r,rfl,hD⟩
 refine aE (rH (nM ⟨rfl,?_⟩));refine aE (gu (gv (I:=λy c F=>gi T F/\∃u v q P H G,c=(ae,v,q,u,P,H,G)/\fD d a b u v q/\0<v/\v<=a.size/\1<q/\q<=b.size/\x+2+y+v+q<=a.size+b.size) (Q:=λc F=>gi T F/\((∃r c',c=(aa r,c')/\gk d (a.toList++b.toList) r)\/∃u v q P H G,c=(ae,v,q,u,P,H,G)/\fD d a b u v q/\0<v/\v<=a.size/\1<q/\q<=b.size/\x+1+1+v+q<=a.size+b.size)) ?_ ?_ ?_) ?_);rotate_left
 .rintro c F ⟨_,u,v,q,P,H,G,rfl,B,C,M,L,N,W⟩;lia
 .exact⟨J,_,_,_,_,_,_,rfl,B,C,M,L,N,∅⟩
 .rintro c F ⟨J,⟨r,c',rfl,hD⟩|⟨u,v,q,P,H,G,rfl,B,C,M,L,N,W⟩⟩
  .exact aL ⟨J,r,rfl,hD⟩
  .dsimp only;exact aE (yS J λZ D=>aL ⟨D,_,_,_,_,rfl,B,C,M,L,N,∅⟩)
 clear C M L N W B J I0 e1 e2;rintro y c F _ hy ⟨J,u,v,q,P,H,G,rfl,B,C,M,L,N,W⟩;clear hx hy;refine(?_:wpS (ar f w) A E s _ ?Q _);extract_lets -merge x1 x2 x3 x4 x5 x6 x7 x8 x9 xa xb xc jp;have z:∀g Z,gi T Z->wpS (ar f w) A E s (jp () g) ?Q Z:=by
  intro g Z D;dsimp -zeta only[jp,x1,x2,x3,x4,x5,x6,x7,x8,x9,xa,xb,xc];refine aE (yS D λZ D=>?_);refine aE (eR ∅ ?_);refine aE (zL hO (D.sb hk) (base:=0) (n:=v) (hint:=v-1) (hB (q-1) ∅) ∅ hA (λi j S z _=>pO S ∅) ∅ λp mI fj fo=>?_);dsimp -zeta only;extract_lets -merge y1 y2 jp2;have uW:∀n o,fD d a b o n q->0<n->n<=p->wpS (ar f w) A E s (jp2 () n o) ?Q Z:=by
   intro n o uX n0 e4;dsimp -zeta only[jp2,y1,y2];refine aE (eR ∅ ?_);have Y:=uX.pushB ∅ ∅ λj z g=>fj j z ∅ ∅;refine cD (λe5=>?_) λe5=>?_
   .exact aL ⟨D,.inl ⟨_,_,rfl,Y.first (by simpa using e5) hf⟩⟩
   have e5':q-1≠1:=by simpa using e5
   refine aE (eR ∅ ?_);refine aE (zk hO (D.sb hk) (base:=0) (n:=q-1) (hint:=q-1-1) (hA _ _) ∅ hB (λi j S z _=>jS S ∅) ∅ λp' m1 m2 m3=>?_);dsimp -zeta only;extract_lets -merge z1 z2 z3 jp3;have uY:∀m o,fD d a b o n m->1<m->m<=p'->wpS (ar f w) A E s (jp3 () m o) ?Q Z:=by
    intro m o uZ e6 e7;dsimp -zeta only[jp3,z1,z2,z3];refine aE (eR ∅ ?_);have u6:=uZ.pushA ∅ ∅ (λj z g=>kR (m2 j z ∅ ∅));refine cD (λe7=>?_) λe7=>?_
    .exact aL ⟨D,.inl ⟨_,_,rfl,u6.doneA (by simpa using e7)⟩⟩
    have e7':n-1≠0:=by simpa using e7
    refine cD (λe8=>?_) λe8=>?_
    .exact aL ⟨D,.inr ⟨_,_,_,_,_,_,rfl,u6,∅,∅,∅,∅,∅⟩⟩
    .exact aL ⟨D,_,_,_,_,_,_,rfl,u6,∅,∅,∅,∅,∅⟩
   clear_value jp3;refine cD (λBt=>?_) (λBt=>?_)
   .have uZ:=Y.extB (p:=p') ∅ (λi hi g1 g2 j z g3=>bG.trans (pO (show j<=n-1 by lia) ∅) (m3 i hi ∅ ∅));refine cD (λe6=>?_) λe6=>?_
    .exact aL ⟨D,.inl ⟨_,_,rfl,uZ.first (by simpa using e6) hf⟩⟩
    refine cD (λe9=>?_) λe9=>?_
    .exact aL ⟨D,.inl ⟨_,_,rfl,uZ.doneB (by simpa using e9)⟩⟩
    have e6':p'≠1:=by simpa using e6
    have e9':p'≠0:=by simpa using e9
    exact uY _ _ uZ ∅ ∅
   .exact uY _ _ Y ∅ ∅
  clear_value jp2;refine cD (λhk0=>?_) (λhk0=>?_)
  .have uX:fD d a b (u++(a.extract p v).reverse) p q:=B.extA ∅ λi hi g1 g2 j z g3=>bG.trans (jS (show j<=q-1 by lia) ∅) (kR (fo i hi ∅ ∅));refine cD (λO=>?_) λO=>?_
   .exact aL ⟨D,.inl ⟨_,_,rfl,uX.doneA (by simpa using O)⟩⟩
   have n0:p≠0:=by simpa using O
   exact uW _ _ uX ∅ ∅
  .exact uW _ _ B ∅ ∅
 exact cD (λ_=>z _ _ J) λ_=>z _ _ J
end
def putL(a:Array Keyed)(c:Nat)(l:List Keyed):Array Keyed:=l.zipIdx.foldl (λa (b:Keyed×Nat)=>a.setIfInBounds (c+b.2) b.1) a
theorem yC:∀(l:List Keyed) (n b:Nat) (a:Array Keyed),b+n+l.length<=a.size -> ((l.zipIdx n).foldl (λa (c:Keyed×Nat)=>a.setIfInBounds (b+c.2) c.1) a).size=a.size /\ ∀k,((l.zipIdx n).foldl (λa (c:Keyed×Nat)=>a.setIfInBounds (b+c.2) c.1) a)[k]?=if b+n<=k/\k<b+n+l.length then l[k-(b+n)]? else a[k]?
 |[],n,b,a,_=>⟨rfl,λk=>by rw[if_neg (by simp)];rfl⟩
 |x::l,n,b,a,h=>by
  have g:b+(n+1)+l.length<=(a.setIfInBounds (b+n) x).size:=by simp at h ⊢;lia
  obtain⟨j,i⟩:=yC l (n+1) b (a.setIfInBounds (b+n) x) g;rw[List.zipIdx_cons,lz];refine⟨by rw[j];simp,λk=>?_⟩;rw[i];by_cases f:b+n=k
  .subst f;rw[if_neg ∅,if_pos (by simp)];rw[Array.getElem?_setIfInBounds_self_of_lt (by simp at h;lia)];simp
  .by_cases d:b+(n+1)<=k/\k<b+(n+1)+l.length
   .rw[if_pos d,if_pos (by simp;lia)];rw[show k-(b+n)=k-(b+(n+1))+1 by lia,List.getElem?_cons_succ]
   .rw[if_neg d,if_neg (by simp;lia),Array.getElem?_setIfInBounds_ne f]
theorem Jc{a:Array Keyed}{b:Nat}{l:List Keyed}(h:b+l.length<=a.size):(putL a b l).size=a.size:=(yC l 0 b a ∅).1
theorem zu{a:Array Keyed}{b:Nat}{l:List Keyed}(h:b+l.length<=a.size)(k:Nat):(putL a b l)[k]?=if b<=k/\k<b+l.length then l[k-b]? else a[k]? :=(yC l 0 b a ∅).2 k
theorem Nt{a:Array Keyed}{b n:Nat}{l:List Keyed}(h:b+n<=a.size)(d:l.Perm ((a.toList.drop b).take n)):(putL a b l).toList.Perm a.toList:=by
 have f:l.length=n:=by rw[d.length_eq,lw,lx];simp;lia
 have e:(putL a b l).toList=a.toList.take b++(l++a.toList.drop (b+n)):=by
  apply ug;intro k;rw[ua,zu ∅,List.getElem?_append,List.getElem?_append,lw,GP,AU,f];simp only[mn,ua];rw[show min b a.size=b by lia];by_cases c:k<b
  .rw[if_neg ∅,if_pos c,if_pos c]
  .rw[if_neg c];by_cases i:k<b+n
   .rw[if_pos ∅,if_pos ∅]
   .rw[if_neg ∅,if_neg ∅];congr 1;lia
 rw[e];have g:a.toList=a.toList.take b++((a.toList.drop b).take n++a.toList.drop (b+n)):=by rw[<-List.drop_drop,nL,nL]
 conv=>rhs;rw[g]
 exact xF _ (List.Perm.append_right _ d)
section
variable{κ:KeyKind}{kz:gs}
def Run(κ:KeyKind)(a:Array Keyed)(b n:Nat):Prop:=∀i j x y,b<=i->i<=j->j<b+n->a[i]?=aa x->a[j]?=aa y->bG κ x y
theorem bG.refl(x:Keyed):bG κ x x:=lB _
structure Wr(a a':Array Keyed)(lo n:Nat):Prop where
 perm:a'.toList.Perm a.toList
 size:a'.size=a.size
 out:∀k,k<lo\/lo+n<=k->a'[k]?=a[k]?
theorem Run.keep{a m:Array Keyed}{c n b f:Nat}(h:Run κ a c n)(w:Wr a m b f)(d:c+n<=b\/b+f<=c):Run κ m c n:=by intro i j x y q p o l g;rw[w.out i ∅]at l;rw[w.out j ∅]at g;exact h i j x y q p o l g
end
section
variable{b:aS}{w:aG}{A:aX}{E:ai->ao->Prop}{s:ao}{κ:KeyKind}{kz:gs}
theorem Od{a:Type}{M:Model}{Q:PUnit->a->Prop}{d c:a}(h:Q ⟨⟩ c):wpS M A E s (set c:StateT a Sem PUnit) Q d:=by unfold wpS;rw[StateT.run_set];exact aK ⟨rfl,h⟩
theorem P8(a:Array Keyed){p q t:Nat}(d:p<=q)(c:q<=t):(a.extract p q).toList++(a.extract q t).toList=(a.extract p t).toList:=by rw[kI,kI,kI,show t-p=(q-p)+(t-q) by lia,List.take_add,List.drop_drop,show p+(q-p)=q by lia]
theorem O6{a:Array Keyed}{c d o k f:Nat}(Y:c+d+o<=a.size)(hk:k<d)(h0:0<f)(Z:f<=o)(X:Run κ a c d)(W:Run κ a (c+d) o)(a1:∀i (l:i<a.size),c<=i->i<c+k->bG κ a[i] (a[c+d]'∅)) (b2:∀i (l:i<a.size),c+d+f<=i->i<c+d+o->bG κ (a[c+d-1]'∅) a[i]){r:Array Keyed} (u:gk κ ((a.extract (c+k) (c+d)).toList++(a.extract (c+d) (c+d+f)).toList) r):Wr a (putL a (c+k) r.toList) c (d+o)/\Run κ (putL a (c+k) r.toList) c (d+o):=by
 rw[P8 _ ∅ ∅]at u;have a_:r.toList.length=d-k+f:=by rw[u.1.length_eq,kI,lw,lx,mn];lia
 have D:c+k+r.toList.length<=a.size:=∅
 have B:∀m∈r.toList,∃t,∃C:t<a.size,c+k<=t/\t<c+d+f/\a[t]=m:=λm B=>zo ∅ (u.1.mem_iff.mp B);have G:∀{i j:Nat} (z:i<=j) (h:j<c+d),c<=i->bG κ (a[i]'∅) (a[j]'∅):=λ{i j} z h l=>X i j _ _ l z h (getElem?_pos _ _ _) (getElem?_pos _ _ _);have F:∀{i j:Nat} (z:i<=j) (h:j<c+d+o),c+d<=i->bG κ (a[i]'∅) (a[j]'∅):=λ{i j} z h l=>W i j _ _ l z h (getElem?_pos _ _ _) (getElem?_pos _ _ _);have pS:∀i (l:i<a.size) j (h:j<a.size),c<=i->i<c+k->c+d<=j->j<c+d+o->bG κ a[i] a[j]:=λi l j h c1 I M c4=>(a1 i l c1 I).trans (F M c4 (aT _));refine⟨⟨?_,Jc D,λq hq=>?_⟩,?_⟩
 .refine Nt (n:=d-k+f) ∅ ?_;have:=u.1;rwa[kI,show c+d+f-(c+k)=d-k+f by lia]at this
 .rw[zu D,if_neg ∅]
 .intro i j x y h1 J h3 p g;rw[zu D]at p g;by_cases L:c+k<=i/\i<c+k+r.toList.length
  .rw[if_pos L]at p;obtain⟨t,C,T,S,rfl⟩:=B x (Gk p);by_cases v:c+k<=j/\j<c+k+r.toList.length
   .rw[if_pos v]at g;by_cases H:i=j
    .subst H;rw[p]at g;cases g;exact bG.refl _
    .obtain⟨Q,P⟩:=dG.mp p;obtain⟨O,N⟩:=dG.mp g;have:=GL.mp u.2 (i-(c+k)) (j-(c+k)) Q O ∅;rw[P,N]at this;exact this
   .rw[if_neg v]at g;obtain⟨h,rfl⟩:=rm.mp g;by_cases K:t<c+d
    .exact(G (show t<=c+d-1 by lia) ∅ ∅).trans (b2 j h ∅ ∅)
    .exact F ∅ ∅ ∅
  .rw[if_neg L]at p;obtain⟨l,rfl⟩:=rm.mp p;by_cases v:c+k<=j/\j<c+k+r.toList.length
   .rw[if_pos v]at g;obtain⟨t,C,T,S,rfl⟩:=B y (Gk g);by_cases K:t<c+d
    .exact G ∅ K ∅
    .exact pS i l t C ∅ ∅ ∅ ∅
   .rw[if_neg v]at g;obtain⟨h,rfl⟩:=rm.mp g;by_cases I:i<c+k
    .by_cases M:j<c+k
     .exact G J ∅ h1
     .exact pS i l j h ∅ I ∅ ∅
    .exact F J ∅ ∅
theorem B3{a:Array Keyed}{d c f:Nat}(p:d+c+f<=a.size)(r:0<c)(q:0<f)(m:Run κ a d c)(l:Run κ a (d+c) f)(u:bG κ (a[d+c-1]'∅) (a[d+c]'∅)):Run κ a d (c+f):=by
 intro i j x y o n z h g;by_cases v:j<d+c
 .exact m i j x y o n v h g
 .by_cases B:i<d+c
  .exact((m i (d+c-1) x _ o ∅ ∅ h (getElem?_pos _ _ _)).trans u).trans (l (d+c) j _ y ∅ ∅ ∅ (getElem?_pos _ _ _) g)
  .exact l i j x y ∅ n ∅ h g
theorem Wr.same{a:Array Keyed}{lo n:Nat}:Wr a a lo n:=⟨pr _,rfl,λ_ _=>rfl⟩
theorem No(J:hG κ kz b w A s){m:bD}(hk:SB kz m)(v:∀i (l:i<(arrOf m).size),gz κ (arrOf m)[i]){i c a pw f D:Nat}(M:(bj m)[i]?=aa (c,a,pw)) (L:(bj m)[i+1]?=aa (c+a,f,D)) (x:0<a) (F:0<f) (o:c+a+f<=(arrOf m).size)(z:Run κ (arrOf m) c a) (y:Run κ (arrOf m) (c+a) f) {Q:Bool->bD->Prop}(h:∀q,SB kz q->bj q=((bj m).setIfInBounds i (c,a+f,pw)).eraseIdxIfInBounds (i+1)->Wr (arrOf m) (arrOf q) c (a+f)->Run κ (arrOf q) c (a+f)->Q ah q):wpS (ar b w) A E s (mergeAt' i) Q m:=by
 obtain⟨kd,d,I,mg,fl⟩:=m;have P:kz=kd:=hk.kind.symm;have lL:fl=ae:=hk.failed;subst lL;subst P;replace v:∀i (l:i<d.size),gz κ d[i]:=v;replace o:c+a+f<=d.size:=o;replace z:Run κ d c a:=z;replace y:Run κ d (c+a) f:=y;replace M:I[i]?=aa (c,a,pw):=M;replace L:I[i+1]?=aa (c+a,f,D):=L;replace h:∀q,SB kz q->bj q=(I.setIfInBounds i (c,a+f,pw)).eraseIdxIfInBounds (i+1)->Wr d (arrOf q) c (a+f)->Run κ (arrOf q) c (a+f)->Q ah q:=h;have g1:∀{i j:Nat} (p:i<=j) (g:j<c+a),c<=i->bG κ (d[i]'∅) (d[j]'∅):=λ{i j} p g l=>z i j _ _ l p g (getElem?_pos _ _ _) (getElem?_pos _ _ _);have g2:∀{i j:Nat} (p:i<=j) (g:j<c+a+f),c+a<=i->bG κ (d[i]'∅) (d[j]'∅):=λ{i j} p g l=>y i j _ _ l p g (getElem?_pos _ _ _) (getElem?_pos _ _ _);unfold mergeAt';refine aE (kQ ?_);dsimp only;rw[M,L];dsimp only;refine aE (Od ?_);generalize (I.setIfInBounds i (c,a+f,pw)).eraseIdxIfInBounds (i+1)=pend at *;refine aE (eR ∅ ?_);refine aE (zL J ⟨rfl,rfl⟩ (base:=c) (n:=a) (hint:=0) (v _ _) ∅ v (λi j p g l=>g1 p g l) x λk m1 Z m3=>?_);dsimp only;refine cD (λW=>?_) λW=>?_
 .have X:a<=k:=by have:a-k=0:=(by simpa using W);lia
  refine aL (h _ ⟨rfl,rfl⟩ rfl Wr.same (B3 o x F z y (Z _ _ ∅ ∅)))
 have X:k<a:=by have:a-k≠0:=(by simpa using W);lia
 refine aE (eR ∅ ?_);refine aE (zk J ⟨rfl,rfl⟩ (base:=c+a) (n:=f) (hint:=f-1) (v _ _) ∅ v (λi j p g l=>g2 p g l) ∅ λu n1 Y N=>?_);dsimp only;have G:c+k+(a-k)-1=c+a-1:=∅
 simp only[G]at Y N;refine cD (λT=>?_) λT=>?_
 .have kX:u=0:=by simpa using T
  refine aL (h _ ⟨rfl,rfl⟩ rfl Wr.same (B3 o x F z y (N _ _ ∅ ∅)))
 have kX:u≠0:=by simpa using T
 have xs:(d.extract (c+k) (c+a)).size=a-k:=by simp;lia
 have ys:(d.extract (c+a) (c+a+u)).size=u:=by simp;lia
 refine cD (λ_=>?_) λ_=>?_
 all_goals
  first
   |refine aE (Nr J ⟨rfl,rfl⟩ ∅ ∅ ?_ ?_ ?_ ?_ ?_ ?_ ?_)
   |refine aE (JW J ⟨rfl,rfl⟩ ∅ ∅ ?_ ?_ ?_ ?_ ?_ ?_ ?_)
  .intro j g;rw[mB];exact v _ _
  .intro j g;rw[mB];exact v _ _
  .intro i j g p;rw[mB,mB];exact g1 ∅ ∅ ∅
  .intro i j g p;rw[mB,mB];exact g2 ∅ ∅ ∅
  .rw[mB,mB];exact kR (m3 _ _ ∅ ∅)
  .intro j g;rw[mB,mB];have:=Y (c+a+j) ∅ ∅ ∅;have e:c+k+((d.extract (c+k) (c+a)).size-1)=c+a-1:=∅
   simp only[e];exact kR this
  .rintro r ⟨O,H,K,mg',S⟩ ⟨C,B,c3,c4⟩ hD;change O=kz at C;change H=d at B;change K=pend at c3;change S=ae at c4;subst C B c3 c4;refine aE (mz ?_);refine aE (kQ ?_);obtain⟨w1,w2⟩:=O6 o X ∅ n1 z y (λi l C B=>Z i l C B) (λi l C B=>N i l C B) hD;exact aL (h _ ⟨rfl,rfl⟩ rfl w1 w2)
end
section
variable{κ:KeyKind}{kz:gs}
theorem yO{a:Array Keyed}{i:Nat}{x:Keyed}(h:a[i]?=aa x):KK κ a i=kO κ x:=by unfold KK kO;rw[h]
theorem qL{a:Array Keyed}{i:Nat}(h:i<a.size):KK κ a i=kO κ a[i]:=yO (getElem?_pos _ _ _)
def gQ(κ:KeyKind)(a:Array Keyed)(lo n:Nat):Prop:=∀i j,lo<=i->i<=j->j<lo+n->κ.kle (KK κ a i) (KK κ a j)
def mR(κ:KeyKind)(a:Array Keyed)(lo n:Nat):Prop:=∀i j,lo<=i->i<=j->j<lo+n->κ.kle (KK κ a j) (KK κ a i)
theorem gQ.run{a:Array Keyed}{b n:Nat}(h:gQ κ a b n):Run κ a b n:=by intro i j x y l g f d c;have:=h i j l g f;rw[yO d,yO c]at this;exact this
theorem Wr.trans{a b c:Array Keyed}{d n:Nat}(g:Wr a b d n)(f:Wr b c d n):Wr a c d n :=⟨f.perm.trans g.perm,f.size.trans g.size,λk h=>(f.out k h).trans (g.out k h)⟩
theorem Wr.mono{a b:Array Keyed}{d n c f:Nat}(h:Wr a b d n)(j:c<=d)(i:d+n<=c+f):Wr a b c f :=⟨h.perm,h.size,λk g=>h.out k ∅⟩
theorem Ho{a:Array Keyed}{i j:Nat}(b:j<=a.size)(d:i<=j):Wr a (mirror a i j ((j-i) / 2)) i (j-i) :=⟨Ba.mp (mirror_perm _ _ _ _),mirror_size _ _ _ _,λk c=>by rw[getElem?_mirror_all b,if_neg ∅]⟩
theorem Lq{a:Array Keyed}{b d:Nat}(c:b<a.size)(f:d<=b):Wr a (bubble a b d) (b-d) (d+1) :=⟨Ba.mp (bubble_perm _ _ _),bubble_size _ _ _,λk g=>by rw[getElem?_bubble c d f,if_neg ∅,if_neg ∅]⟩
def AllK(κ:KeyKind)(a:Array Keyed):Prop:=∀i (b:i<a.size),gz κ a[i]
theorem AllK.of{a b:Array Keyed}(h:AllK κ a)(p:b.toList.Perm a.toList):AllK κ b:=by intro i f;have c:b[i]∈a.toList:=p.mem_iff.mp (by simp);obtain⟨j,d,e⟩:=xK c;rw[<-e];simpa using h j (by simpa using d)
end
section
variable{d:aS}{w:aG}{A:aX}{E:ai->ao->Prop}{s:ao}{κ:KeyKind}{f:gs}
theorem oh(m:hG κ f d w A s){a:bD}(l:SB f a)(g:AllK κ (arrOf a)){i j:Nat}{Q:Option Bool->bD->Prop}(c:i<(arrOf a).size)(b:j<(arrOf a).size)(h:Q (aa (κ.blt (KK κ (arrOf a) i) (KK κ (arrOf a) j))) a):wpS (ar d w) A E s (ltAt' i j) Q a:=by rw[qL c,qL b]at h;rw[ltAt'_eq];refine aE (kQ ?_);exact aE (eR c (aE (eR b (tY m l (g i c) (g j b) h))))
theorem sZ{b a:bD}{lo n i j:Nat}{Q:Unit->bD->Prop}(m:SB f a)(o:bj a=bj b)(l:Wr (arrOf b) (arrOf a) lo n)(r:i<=j)(p:j<=(arrOf b).size)(q:lo<=i)(u:j<=lo+n)(h:∀c,SB f c->bj c=bj b->Wr (arrOf b) (arrOf c) lo n->(∀k,KK κ (arrOf c) k=if i<=k/\k<j then KK κ (arrOf a) (i+j-1-k)else KK κ (arrOf a) k)->Q () c):wpS (ar d w) A E s (reverseSlice' i j) Q a:=by
 have g:j<=(arrOf a).size:=by rw[l.size];exact p
 exact wpS_reverse (h _ ⟨m.kind,m.failed⟩ o (l.trans ((Ho g r).mono q ∅)) λk=>KK_mirror g k)
theorem PX{i:Type}{c:Prop}[Decidable c]{j h:StateT bD Sem i}{Q:i->bD->Prop}{g:bD}{J:bD->Prop}(l:¬c->J g)(a:∀b,J b->wpS (ar d w) A E s h Q b)(m:c->(∀b,J b->wpS (ar d w) A E s h Q b)->wpS (ar d w) A E s j Q g):wpS (ar d w) A E s (if c then j else h) Q g :=cD (λe=>m e a) λe=>a g (l e)
theorem zl{a:Array Keyed}{lo x:Nat}(b:gQ κ a lo x)(h:1<=x)(e:κ.kle (KK κ a (lo+x-1)) (KK κ a (lo+x))):gQ κ a lo (x+1):=λi j c n o=>by
 by_cases l:j<lo+x
 .exact b i j c n l
 .have g:j=lo+x:=∅
  subst g;by_cases m:i=lo+x
  .subst m;exact lB _
  .exact rJ (b i (lo+x-1) c ∅ ∅) e
theorem BU{a:Array Keyed}{lo x:Nat}(b:mR κ a lo x)(h:1<=x)(e:κ.kle (KK κ a (lo+x)) (KK κ a (lo+x-1))):mR κ a lo (x+1):=λi j c n o=>by
 by_cases l:j<lo+x
 .exact b i j c n l
 .have g:j=lo+x:=∅
  subst g;by_cases m:i=lo+x
  .subst m;exact lB _
  .exact rJ e (b i (lo+x-1) c ∅ ∅)
theorem Kx{a:Array Keyed}{lo x b:Nat}(g:∀i,lo+x-(b+1)<=i->i<lo+x->KK κ a i=KK κ a (lo+x-1))(h:KK κ a (lo+x)=KK κ a (lo+x-1)):∀i,lo+(x+1)-(b+1+1)<=i->i<lo+(x+1)->KK κ a i=KK κ a (lo+(x+1)-1):=λi l j=>by
 rw[show lo+(x+1)-1=lo+x by lia];by_cases c:i=lo+x
 .rw[c]
 .rw[g i ∅ ∅,h]
theorem CA{a b:Array Keyed}{i j n:Nat}(g:∀k,KK κ b k=if i<=k/\k<j then KK κ a (i+j-1-k)else KK κ a k)(c:∀k,i<=k->k<j->KK κ a k=KK κ a n):∀k,KK κ b k=KK κ a k:=λk=>by
 rw[g];split
 .rw[c _ ∅ ∅,c k ∅ ∅]
 .rfl
theorem Iq(S:hG κ f d w A s){v:bD}(P:SB f v)(T:AllK κ (arrOf v)){lo a:Nat}(h1:1<=a)(hsz:lo+a<=(arrOf v).size){Q:Option Nat->bD->Prop}(h:∀n p,SB f p->bj p=bj v->Wr (arrOf v) (arrOf p) lo a->1<=n->n<=a->gQ κ (arrOf p) lo n->Q (aa n) p):wpS (ar d w) A E s (countRun' lo a) Q v:=by
 have one:gQ κ (arrOf v) lo 1:=λi j r y D=>by
  have:i=j:=∅
  subst this;exact lB _
 have go:∀{u:bD},Wr (arrOf v) (arrOf u) lo a->(arrOf u).size=(arrOf v).size:=λw=>w.size;unfold countRun';refine aE (gu (gv (I:=λx c g=>g=v/\c=(ae,x)/\gQ κ (arrOf v) lo x) (Q:=λc g=>g=v/\∃n,c=(ae,n)/\1<=n/\n<=a/\gQ κ (arrOf v) lo n/\(n=a\/κ.klt (KK κ (arrOf v) (lo+n)) (KK κ (arrOf v) (lo+n-1)))) ?_ ?_ ?_) ?_)
 .rintro x c g rW pP ⟨rfl,rfl,o⟩;dsimp only;refine aE (oh S P T ∅ ∅ ?_);cases e:κ.blt (KK κ (arrOf g) (lo+x)) (KK κ (arrOf g) (lo+x-1))with
  |true=>exact aL ⟨rfl,x,rfl,∅,∅,o,.inr e⟩
  |false=>exact aL ⟨rfl,rfl,zl o ∅ e⟩
 .rintro c g ⟨rfl,rfl,o⟩;rw[show max 1 a=a by lia]at o ⊢;exact⟨rfl,a,rfl,∅,∅,o,.inl rfl⟩
 .exact⟨rfl,rfl,one⟩
 rintro c p ⟨rfl,n,rfl,n1,n2,o,hn⟩;dsimp only;refine cD (λe1=>aL (h n p P rfl Wr.same n1 n2 o)) λe1=>?_;have rV:n≠a:=by simpa using e1
 replace hn:κ.klt (KK κ (arrOf p) (lo+n)) (KK κ (arrOf p) (lo+n-1)):=hn.resolve_left rV;refine PX (J:=λC=>SB f C/\bj C=bj p/\Wr (arrOf p) (arrOf C) lo a/\mR κ (arrOf C) lo (n+1)) (λen=>⟨P,rfl,Wr.same,λi j r y D=>?_⟩) (λC ⟨fj,eW,mJ,hD⟩=>?_) λen key=>?_
 .have en':n=1:=∅
  by_cases hi:i=j
  .subst hi;exact lB _
  .have e1:i=lo+n-1:=∅
   have e2:j=lo+n:=∅
   rw[e1,e2];exact kR hn
 .refine aE (rH (nM ⟨rfl,?_⟩));refine aE (gu (gv (I:=λx c l=>∃b,c=(ae,x,b)/\SB f l/\bj l=bj p/\Wr (arrOf p) (arrOf l) lo a/\mR κ (arrOf l) lo x/\b+1<=x/\(∀i,lo+x-(b+1)<=i->i<lo+x->KK κ (arrOf l) i=KK κ (arrOf l) (lo+x-1))) (Q:=λc l=>∃m b,c=(ae,m,b)/\SB f l/\bj l=bj p/\Wr (arrOf p) (arrOf l) lo a/\1<=m/\m<=a/\mR κ (arrOf l) lo m/\b+1<=m/\(∀i,lo+m-(b+1)<=i->i<lo+m->KK κ (arrOf l) i=KK κ (arrOf l) (lo+m-1))) ?_ ?_ ?_) ?_)
  .rintro x c l rW pP ⟨b,rfl,B,G,z,F,hq,H⟩;have sz3:=z.size;dsimp only;refine aE (oh S B (T.of z.perm) ∅ ∅ ?_);cases e3:κ.blt (KK κ (arrOf l) (lo+x)) (KK κ (arrOf l) (lo+x-1))with
   |true=>
    have rN:mR κ (arrOf l) lo (x+1):=BU F ∅ (kR e3);dsimp only;rw[if_pos rfl];refine cD (λBu=>?_) λBu=>?_
    .refine aE (sZ (κ:=κ) (lo:=lo) (n:=a) B G z ∅ ∅ ∅ ∅ λbO jU gP Y Bv=>?_);have X:=CA Bv H;exact aL ⟨0,rfl,jU,gP,Y,λi j r y D=>by rw[X,X];exact rN i j r y D,∅,λi r y=>by congr 1;lia⟩
    .exact aL ⟨0,rfl,B,G,z,rN,∅,λi r y=>by congr 1;lia⟩
   |false=>
    dsimp only;rw[if_neg (by simp)];refine aE (oh S B (T.of z.perm) ∅ ∅ ?_);cases e4:κ.blt (KK κ (arrOf l) (lo+x-1)) (KK κ (arrOf l) (lo+x))with
    |true=>exact aL ⟨x,b,rfl,B,G,z,∅,∅,F,hq,H⟩
    |false=>have ex:KK κ (arrOf l) (lo+x)=KK κ (arrOf l) (lo+x-1):=KeyOrd.kle_antisymm e4 e3;exact aL ⟨b+1,rfl,B,G,z,BU F ∅ (by rw[ex];exact lB _),∅,Kx H ex⟩
  .rintro c l ⟨b,rfl,B,G,z,F,hq,H⟩;rw[show max (n+1) a=a by lia]at F hq H ⊢;exact⟨a,b,rfl,B,G,z,∅,∅,F,hq,H⟩
  .exact⟨0,rfl,fj,eW,mJ,hD,∅,λi r y=>by congr 1;lia⟩
  rintro c l ⟨m,b,rfl,B,G,z,m1,m2,F,hq,H⟩;dsimp only;refine cD (λBu=>?_) λBu=>?_
  .refine aE (sZ (κ:=κ) (lo:=lo) (n:=a) B G z ∅ ∅ ∅ ∅ λbO jU gP Y Bv=>?_);have X:=CA Bv H;have O:mR κ (arrOf bO) lo m:=λi j r y D=>by rw[X,X];exact F i j r y D
   refine aE (sZ (κ:=κ) (lo:=lo) (n:=a) jU gP Y ∅ ∅ ∅ ∅ λu Z N K W=>?_);have M:gQ κ (arrOf u) lo m:=λi j r y D=>by rw[W,W,if_pos ⟨r,∅⟩,if_pos ⟨∅,D⟩];exact O _ _ ∅ ∅ ∅
   have sz5:=K.size;refine aE (gu (gv (I:=λx c g=>g=u/\c=(ae,x)/\gQ κ (arrOf u) lo x) (Q:=λc g=>g=u/\∃n,c=(ae,n)/\1<=n/\n<=a/\gQ κ (arrOf u) lo n/\(n=a\/κ.klt (KK κ (arrOf u) (lo+n)) (KK κ (arrOf u) (lo+n-1)))) ?_ ?_ ?_) ?_)
   .rintro x c g rW pP ⟨rfl,rfl,o⟩;dsimp only;refine aE (oh S Z (T.of K.perm) ∅ ∅ ?_);cases e:κ.blt (KK κ (arrOf g) (lo+x)) (KK κ (arrOf g) (lo+x-1))with
    |true=>exact aL ⟨rfl,x,rfl,∅,∅,o,.inr e⟩
    |false=>exact aL ⟨rfl,rfl,zl o ∅ e⟩
   .rintro c g ⟨rfl,rfl,o⟩;rw[show max m a=a by lia]at o ⊢;exact⟨rfl,a,rfl,∅,∅,o,.inl rfl⟩
   .exact⟨rfl,rfl,M⟩
   rintro c g ⟨rfl,q,rfl,q1,q2,L,_⟩;exact aL (h q g Z N K q1 q2 L)
  .have jU:=B;have gP:=G;have Y:=z;have O:=F;refine aE (sZ (κ:=κ) (lo:=lo) (n:=a) jU gP Y ∅ ∅ ∅ ∅ λu Z N K W=>?_);have M:gQ κ (arrOf u) lo m:=λi j r y D=>by rw[W,W,if_pos ⟨r,∅⟩,if_pos ⟨∅,D⟩];exact O _ _ ∅ ∅ ∅
   have sz5:=K.size;refine aE (gu (gv (I:=λx c g=>g=u/\c=(ae,x)/\gQ κ (arrOf u) lo x) (Q:=λc g=>g=u/\∃n,c=(ae,n)/\1<=n/\n<=a/\gQ κ (arrOf u) lo n/\(n=a\/κ.klt (KK κ (arrOf u) (lo+n)) (KK κ (arrOf u) (lo+n-1)))) ?_ ?_ ?_) ?_)
   .rintro x c g rW pP ⟨rfl,rfl,o⟩;dsimp only;refine aE (oh S Z (T.of K.perm) ∅ ∅ ?_);cases e:κ.blt (KK κ (arrOf g) (lo+x)) (KK κ (arrOf g) (lo+x-1))with
    |true=>exact aL ⟨rfl,x,rfl,∅,∅,o,.inr e⟩
    |false=>exact aL ⟨rfl,rfl,zl o ∅ e⟩
   .rintro c g ⟨rfl,rfl,o⟩;rw[show max m a=a by lia]at o ⊢;exact⟨rfl,a,rfl,∅,∅,o,.inl rfl⟩
   .exact⟨rfl,rfl,M⟩
   rintro c g ⟨rfl,q,rfl,q1,q2,L,_⟩;exact aL (h q g Z N K q1 q2 L)
 .refine aE (oh S P T ∅ ∅ ?_);cases e2:κ.blt (KK κ (arrOf p) lo) (KK κ (arrOf p) (lo+n-1))with
  |true=>exact aL (h n p P rfl Wr.same n1 n2 o)
  |false=>
   dsimp only;rw[if_neg (by simp)];have rL:∀i,lo<=i->i<lo+n->KK κ (arrOf p) i=KK κ (arrOf p) lo:=λi r y=>KeyOrd.kle_antisymm (rJ (o i (lo+n-1) r ∅ ∅) e2) (o lo i (aT _) r y);refine aE (sZ (κ:=κ) (lo:=lo) (n:=a) P rfl Wr.same ∅ ∅ ∅ ∅ λC fj eW mJ k8=>?_);have hD:mR κ (arrOf C) lo (n+1):=by
    have hv:∀i,lo<=i->i<lo+n->KK κ (arrOf C) i=KK κ (arrOf p) lo:=λi r y=>by rw[k8,if_pos ⟨r,y⟩];exact rL _ ∅ ∅
    have hl:κ.klt (KK κ (arrOf C) (lo+n)) (KK κ (arrOf p) lo):=by rw[k8,if_neg ∅,<-rL (lo+n-1) ∅ ∅];exact hn
    intro i j r y D;by_cases hj:j<lo+n
    .rw[hv i r ∅,hv j ∅ hj];exact lB _
    .have jT:j=lo+n:=∅
     subst jT;by_cases hi:i=lo+n
     .subst hi;exact lB _
     .rw[hv i r ∅];exact kR hl
   exact key C ⟨fj,eW,mJ,hD⟩
theorem MV{g c:bD}{lo n a b:Nat}{Q:Unit->bD->Prop}(m:SB f c)(o:bj c=bj g)(l:Wr (arrOf g) (arrOf c) lo n)(u:b<=a)(p:a<(arrOf g).size)(r:lo<=b)(q:a<lo+n)(h:∀i,SB f i->bj i=bj g->Wr (arrOf g) (arrOf i) lo n->(∀k,KK κ (arrOf i) k=if k=b then KK κ (arrOf c) a else if b<k/\k<=a then KK κ (arrOf c) (k-1)else KK κ (arrOf c) k)->Q () i):wpS (ar d w) A E s (moveDown' a b) Q c:=by
 have j:a<(arrOf c).size:=by rw[l.size];exact p
 rw[moveDown'_eq];refine mz (h _ ⟨m.kind,m.failed⟩ o (l.trans ((Lq j (show a-b<=a by lia)).mono ∅ ∅)) λk=>?_);have:=KK_bubble (κ:=κ) j (show a-b<=a by lia) k;rw[show a-(a-b)=b by lia]at this;exact this
theorem Hy(O:hG κ f d w A s){b:bD}(N:SB f b)(P:AllK κ (arrOf b)){lo n ok:Nat}(M:ok<=n)(K:lo+n<=(arrOf b).size)(L:gQ κ (arrOf b) lo ok){Q:Bool->bD->Prop}(h:∀y,SB f y->bj y=bj b->Wr (arrOf b) (arrOf y) lo n->gQ κ (arrOf y) lo n->Q ah y):wpS (ar d w) A E s (binarySort' lo n ok) Q b:=by
 unfold binarySort';refine aE (gu (gv (I:=λk c a=>c=(ae,())/\SB f a/\bj a=bj b/\Wr (arrOf b) (arrOf a) lo n/\gQ κ (arrOf a) lo (min k n)) (Q:=λc a=>c=(ae,())/\SB f a/\bj a=bj b/\Wr (arrOf b) (arrOf a) lo n/\gQ κ (arrOf a) lo n) ?_ ?_ ?_) ?_)
 .rintro k c a Z fj ⟨rfl,p,v,o,g⟩;have sz:=o.size;rw[show min k n=k by lia]at g;refine aE (gu (gv (I:=λx c m=>m=a/\∃l r,c=(ae,l,r)/\l<=r/\r<=k/\r-l<=k-x /\ (∀i,i<l->κ.kle (KK κ (arrOf a) (lo+i)) (KK κ (arrOf a) (lo+k)))/\(∀i,r<=i->i<k->κ.klt (KK κ (arrOf a) (lo+k)) (KK κ (arrOf a) (lo+i)))) (Q:=λc m=>m=a/\∃l r,c=(ae,l,r)/\l<=k /\ (∀i,i<l->κ.kle (KK κ (arrOf a) (lo+i)) (KK κ (arrOf a) (lo+k)))/\(∀i,l<=i->i<k->κ.klt (KK κ (arrOf a) (lo+k)) (KK κ (arrOf a) (lo+i)))) ?_ ?_ ?_) ?_)
  .rintro x c m _ hx ⟨rfl,l,r,rfl,Y,z,X,u,q⟩;dsimp only;refine cD (λH=>?_) λH=>?_
   .have:l=r:=∅
    subst this;exact aL ⟨rfl,l,l,rfl,z,u,q⟩
   .refine aE (oh O p (P.of o.perm) ∅ ∅ ?_);cases e:κ.blt (KK κ (arrOf m) (lo+k)) (KK κ (arrOf m) (lo+(l+r) / 2))with
    |true=>exact aL ⟨rfl,l,(l+r) / 2,rfl,∅,∅,∅,u,λi C S=>KeyOrd.klt_of_klt_of_kle e (g _ _ ∅ ∅ ∅)⟩
    |false=>exact aL ⟨rfl,(l+r) / 2+1,r,rfl,∅,∅,∅,λi C=>rJ (g (lo+i) (lo+(l+r) / 2) ∅ ∅ ∅) e,q⟩
  .rintro c m ⟨rfl,l,r,rfl,Y,z,X,u,q⟩;have:l=r:=∅
   subst this;exact⟨rfl,l,l,rfl,z,u,q⟩
  .exact⟨rfl,0,k,rfl,∅,∅,∅,λi hi=>∅,λi C S=>∅⟩
  .rintro c m ⟨rfl,l,r,rfl,z,u,q⟩;dsimp only;refine aE (MV (κ:=κ) (lo:=lo) (n:=n) p v o ∅ ∅ ∅ ∅ λbA B T J D=>aL ⟨rfl,B,T,J,?_⟩);rw[show min (k+1) n=k+1 by lia];intro i j G F W;rw[D,D]
   repeat' split
   all_goals first
    | (exfalso;lia)
    |exact lB _
    | (have:=u (i-lo) ∅;rw[show lo+(i-lo)=i by lia]at this;exact this)
    | (have:=q (j-1-lo) ∅ ∅;rw[show lo+(j-1-lo)=j-1 by lia]at this;exact kR this)
    |exact g _ _ ∅ ∅ ∅
 .rintro c a ⟨rfl,p,v,o,g⟩;rw[show min (max (max ok 1) n) n=n by lia]at g;exact⟨rfl,p,v,o,g⟩
 .refine⟨rfl,N,rfl,Wr.same,λi j G F W=>?_⟩;by_cases C:ok=0
  .have:i=j:=∅
   subst this;exact lB _
  .exact L i j G F ∅
 .rintro c a ⟨rfl,p,v,o,g⟩;exact aL (h a p v o g)
end
theorem MP{c:Prop}[Decidable c]{a b n:Nat}(f:a+1<n)(d:b+1<n):(if c then a else b)+1<n:=by split <;> assumption
def j8:Nat->List (Nat×Nat)->Nat->Prop
 |f,[],t=>f=t
 |f,(a,n)::l,t=>a=f/\0<n/\j8 (f+n) l t
theorem j8.app:∀{l1:List (Nat×Nat)}{f t:Nat}{b:List (Nat×Nat)},j8 f (l1++b) t↔∃m,j8 f l1 m/\j8 m b t
 |[],f,t,b=>by simp[j8]
 | (a,n)::l1,f,t,b=>by
  simp only[uk,j8,j8.app (l1:=l1)];constructor
  .rintro⟨h,g,m,d,c⟩;exact⟨m,⟨h,g,d⟩,c⟩
  .rintro⟨m,⟨h,g,d⟩,c⟩;exact⟨h,g,m,d,c⟩
theorem j8.le:∀{l:List (Nat×Nat)}{f t:Nat},j8 f l t->f+l.length<=t/\∀e∈l,f<=e.1/\e.1+e.2<=t
 |[],f,t,h=>⟨by cases h;simp,by simp⟩
 | (a,n)::l,f,t,⟨g,j,d⟩=>by
  obtain⟨i,c⟩:=j8.le d;refine⟨by simp;lia,λe b=>?_⟩;rcases bw.mp b with rfl|b
  .subst g;exact⟨aT _,by simp;lia⟩
  .have:=c e b;exact⟨∅,this.2⟩
def PL(a:Array (Nat×Nat×Nat)):List (Nat×Nat):=a.toList.map λe=>(e.1,e.2.1)
structure iu(κ:KeyKind)(arr:Array Keyed)(pd:Array (Nat×Nat×Nat))(lo:Nat):Prop where
 ch:j8 0 (PL pd) lo
 run:∀e∈PL pd,Run κ arr e.1 e.2
theorem wx(a:Array (Nat×Nat×Nat)):(PL a).length=a.size:=by simp[PL]
theorem mV(a:Array (Nat×Nat×Nat))(e:Nat×Nat×Nat):PL (a.push e)=PL a++[(e.1,e.2.1)]:=by simp[PL]
theorem v8(a:Array (Nat×Nat×Nat))(k pw:Nat):PL (a.modify k λx=>(x.1,x.2.1,pw))=PL a:=by
 apply ug;intro i;simp only[PL,jJ,ua,Array.getElem?_modify];split
 .cases a[i]? <;> rfl
 .rfl
theorem LA{j:Array (Nat×Nat×Nat)}{i:Nat}(h:i+1<j.size):∃a f b d g sb c m,j[i]?=aa (b,d,g)/\j[i+1]?=aa (sb,c,m)/\PL j=a++(b,d)::(sb,c)::f /\ PL ((j.setIfInBounds i (b,d+c,g)).eraseIdxIfInBounds (i+1))=a++(b,d+c)::f:=by
 obtain⟨l⟩:=j;simp only[cb]at h;have e:l=l.take i++l[i]::l[i+1]::l.drop (i+2):=by rw[<-ui,<-ui,nL]
 obtain⟨a,x,y,f,n,p⟩:∃a x y f,a.length=i/\l=a++x::y::f:=⟨l.take i,l[i],l[i+1],l.drop (i+2),by simp;lia,e⟩
 subst n p;obtain⟨b,d,g⟩:=x;obtain⟨sb,c,m⟩:=y;refine⟨a.map λe=>(e.1,e.2.1),f.map λe=>(e.1,e.2.1),b,d,g,sb,c,m,by simp,by simp[pc],by simp[PL],?_⟩;have o:((a++(b,d,g)::(sb,c,m)::f).toArray.setIfInBounds a.length (b,d+c,g)).eraseIdxIfInBounds (a.length+1)=(a++(b,d+c,g)::f).toArray:=by rw[List.setIfInBounds_toArray,List.set_append_right _ _ (aT _),Gq];congr 1;rw[List.eraseIdx_append_of_length_le ∅];simp
 rw[o];simp[PL]
section
variable{prog:aS}{w:aG}{A:aX}{E:ai->ao->Prop}{s:ao}{κ:KeyKind}{kz:gs}
theorem iu.keep{a f:Array Keyed}{c:Array (Nat×Nat×Nat)}{b n:Nat}(h:iu κ a c b)(w:Wr a f b n):iu κ f c b :=⟨h.ch,λe d=>(h.run e d).keep w (.inl (h.ch.le.2 e d).2)⟩
theorem zv(H:hG κ kz prog w A s){a:bD}(F:SB kz a)(I:AllK κ (arrOf a)){i l:Nat}(g:iu κ (arrOf a) (bj a) l)(P:l<=(arrOf a).size)(G:i+1<(bj a).size){Q:Bool->bD->Prop}(h:∀c,SB kz c->Wr (arrOf a) (arrOf c) 0 l->iu κ (arrOf c) (bj c) l->(bj c).size+1=(bj a).size->Q ah c):wpS (ar prog w) A E s (mergeAt' i) Q a:=by
 obtain⟨X,W,f,j,T,sb,u,S,K,J,d,p⟩:=LA G;have v:=g.ch;rw[d]at v;obtain⟨m,y,O,N,M,L,x⟩:=j8.app.mp v;subst O M;have b1:=y.le;have b2:=x.le;have B:Run κ (arrOf a) f j:=g.run (f,j) (by rw[d];simp);have z:Run κ (arrOf a) (f+j) u:=g.run (f+j,u) (by rw[d];simp);refine No H F I K J N L ∅ B z λc C n o D=>h c C (o.mono ∅ ∅) ⟨?_,?_⟩ ?_
 .rw[n,p];exact j8.app.mpr ⟨f,y,rfl,∅,by rw[<-xJ];exact x⟩
 .rw[n,p];intro e b;rcases fY.mp b with b|b
  .exact(g.run e (by rw[d];exact lq _ b)).keep o (.inl (b1.2 e b).2)
  .rcases bw.mp b with rfl|b
   .exact D
   .exact(g.run e (by rw[d];simp[b])).keep o (.inr (by have:=(b2.2 e b).1;lia))
 .have r:=wx (bj c);have q:=wx (bj a);rw[n,p]at r;rw[d]at q;rw[n,<-r,<-q];simp;lia
theorem IF(hO:hG κ kz prog w A s){st:bD}(hk:SB kz st)(hA:AllK κ (arrOf st))(hp:bj st=#[]){Q:Unit->bD->Prop}(h:∀au,SB kz au->(arrOf au).toList.Perm (arrOf st).toList->Run κ (arrOf au) 0 (arrOf st).size->Q () au):wpS (ar prog w) A E s sortRuns' Q st:=by
 unfold sortRuns';refine aE (kQ ?_);dsimp only;obtain⟨b,Qn⟩:∃b,b=(arrOf st).size:=⟨_,rfl⟩
 have Qe:((sortPriv% PySem.Builtin.SortState.a) st).size=b:=Qn.symm;simp only[Qe];refine aE (gu (gv (I:=λx c o=>∃f,c=(ae,f)/\x<=f/\f<=b/\SB kz o/\(arrOf o).toList.Perm (arrOf st).toList/\(arrOf o).size=b/\iu κ (arrOf o) (bj o) f) (Q:=λc o=>c=(ae,b)/\SB kz o/\(arrOf o).toList.Perm (arrOf st).toList/\(arrOf o).size=b/\iu κ (arrOf o) (bj o) b) ?_ ?_ ?_) ?_);rotate_left
 .rintro c o ⟨f,rfl,b1,b2,mI,M,W,O⟩;have:f=b:=∅
  subst this;exact⟨rfl,mI,M,W,O⟩
 .exact⟨0,rfl,∅,∅,hk,pr _,Qn.symm,by rw[hp];exact⟨rfl,by simp[PL]⟩⟩
 .rintro c o ⟨rfl,mI,M,W,O⟩;dsimp only;refine aE (gu (gv (I:=λx c l=>c=(ae,())/\SB kz l/\(arrOf l).toList.Perm (arrOf st).toList/\(arrOf l).size=b/\iu κ (arrOf l) (bj l) b/\(bj l).size+x<=b+1) (Q:=λc l=>c=(ae,())/\SB kz l/\(arrOf l).toList.Perm (arrOf st).toList/\(arrOf l).size=b/\iu κ (arrOf l) (bj l) b/\(bj l).size<=1) ?_ ?_ ?_) ?_)
  .rintro x c l _ hx ⟨rfl,F,eW,u9,P,hb⟩;refine aE (kQ ?_);refine cD (λe1=>aL ⟨rfl,F,eW,u9,P,e1⟩) λe1=>?_;have rV:1<(bj l).size:=Nat.lt_of_not_le e1;refine aE (zv hO F (hA.of eW) P ∅ ?_ λN L iB G hq=>?_)
   .exact MP (show(bj l).size-2-1+1<(bj l).size by lia) (show(bj l).size-2+1<(bj l).size by lia)
   .exact aL ⟨rfl,L,iB.perm.trans eW,iB.size.trans u9,G,∅⟩
  .rintro c l ⟨rfl,F,eW,u9,P,hb⟩;exact⟨rfl,F,eW,u9,P,∅⟩
  .have:=O.ch.le.1;rw[wx]at this;exact⟨rfl,mI,M,W,O,∅⟩
  .rintro c l ⟨rfl,F,eW,u9,P,hb⟩;refine aL (h l F eW ?_);rw[<-Qn];have hc:=P.ch;have hr:=P.run;have hl:=wx (bj l)
   match hq:PL (bj l),hc,hr,hl with
   |[],hc,hr,hl=>
    cases hc;intro i j x y a1 a2 a3;lia
   |[(a,n)],hc,hr,hl=>
    obtain⟨d1,d2,d3⟩:=hc;cases d1;have d3':0+n=b:=d3;have:=hr (0,n) (by simp);rw[show b=n by lia];exact this
   |_::_::_,hc,hr,hl=>simp at hl;lia
 rintro x c o _ hx ⟨f,rfl,b1,b2,mI,M,W,O⟩;dsimp only;refine cD (λe1=>?_) λe1=>?_
 .have:f=b:=∅
  subst this;exact aL ⟨rfl,mI,M,W,O⟩
 refine aE (Iq hO mI (hA.of M) ∅ ∅ λr l F vd mJ f1 f2 mF=>?_);dsimp only;refine cD (λe2=>?_) λe2=>?_
 .refine aE (rH (nM ⟨rfl,?_⟩));refine aE (Hy hO F ((hA.of M).of mJ.perm) ∅ (by rw[mJ.size];lia) mF λN L hq3 iB Y=>?_);rw[if_neg (by simp)];have K:Wr (arrOf o) (arrOf N) f (b-f):=mJ.trans (iB.mono ∅ ∅);have ve:bj N=bj o:=hq3.trans vd;generalize hn:min (b-f) _=n at *;have n1:0<n:=∅
  have n2:f+n<=b:=∅
  clear F mJ mF vd iB hq3;have G:iu κ (arrOf N) (bj N) f:=by rw[ve];exact O.keep K
  have fL:(arrOf N).toList.Perm (arrOf st).toList:=K.perm.trans M;have nW:(arrOf N).size=b:=K.size.trans W;have hR:Run κ (arrOf N) f n:=Y.run;clear K ve;refine aE (kQ ?_);obtain⟨kd,arr,S,mg,fl⟩:=N;dsimp only;cases hbk:S.back? with
  |none=>
   dsimp only;refine aE (mz (aL ⟨f+n,rfl,∅,n2,⟨L.kind,L.failed⟩,fL,nW,?_⟩));refine⟨?_,?_⟩
   .show j8 0 (PL (S.push (f,n,0))) _;rw[mV];exact j8.app.mpr ⟨f,G.ch,rfl,n1,rfl⟩
   .show ∀e∈PL (S.push (f,n,0)),_;rw[mV];intro e m;rcases fY.mp m with m|m
    .exact G.run e m
    .rw[eN.mp m];exact hR
  |some bk=>
   obtain⟨s1,m1,q1⟩:=bk;dsimp only;refine aE (gu (gv (I:=λx c g=>c=(ae,())/\SB kz g/\(arrOf g).toList.Perm (arrOf st).toList/\(arrOf g).size=b/\iu κ (arrOf g) (bj g) f/\Run κ (arrOf g) f n) (Q:=λc g=>c=(ae,())/\SB kz g/\(arrOf g).toList.Perm (arrOf st).toList/\(arrOf g).size=b/\iu κ (arrOf g) (bj g) f/\Run κ (arrOf g) f n) ?_ (λ_ _ hh=>hh) ?_) ?_)
   .rintro y c g _ hy ⟨rfl,B,C,J,u,H⟩;refine aE (kQ ?_);have uy:∀{p:bD},p=g->((ae,()):Option Unit×Unit)=(ae,())/\SB kz p/\(arrOf p).toList.Perm (arrOf st).toList/\(arrOf p).size=b/\iu κ (arrOf p) (bj p) f/\Run κ (arrOf p) f n:=λe=>by subst e;exact⟨rfl,B,C,J,u,H⟩
    by_cases hg:1<(bj g).size
    .obtain⟨z,q,d,v,D⟩:=g;have X:d.size > 1:=hg;dsimp only;rw[if_pos X,getElem?_pos d (d.size-2) ∅];obtain⟨u1,u2,u3⟩:=d[d.size-2];dsimp only;refine cD (λ_=>aL (uy rfl)) λ_=>?_;refine aE (zv hO B (hA.of C) u ∅ (show d.size-2+1<d.size by lia) λp mK T Z _=>?_);exact aL ⟨rfl,mK,T.perm.trans C,T.size.trans J,Z,H.keep T (.inr ∅)⟩
    .obtain⟨z,q,d,v,D⟩:=g;have X:¬d.size > 1:=hg;dsimp only;rw[if_neg X];exact aL (uy rfl)
   .exact⟨rfl,L,fL,nW,G,hR⟩
   rintro c g ⟨rfl,B,C,J,u,H⟩;obtain⟨z,q,d,v,D⟩:=g;dsimp only;refine aE (mz (aE (mz (aL ⟨f+n,rfl,∅,n2,⟨B.kind,B.failed⟩,C,J,?_⟩))));refine⟨?_,?_⟩
   .show j8 0 (PL ((d.modify (d.size-1) λx=>(x.1,x.2.1,_)).push (f,n,0))) _;rw[mV,v8];exact j8.app.mpr ⟨f,u.ch,rfl,n1,rfl⟩
   .show ∀e∈PL ((d.modify (d.size-1) λx=>(x.1,x.2.1,_)).push (f,n,0)),_;rw[mV,v8];intro e m;rcases fY.mp m with m|m
    .exact u.run e m
    .rw[eN.mp m];exact H
 .have L:=F;have Y:=mF;have K:Wr (arrOf o) (arrOf l) f (b-f):=mJ;have ve:bj l=bj o:=vd;have n1:0<r:=∅
  have n2:f+r<=b:=∅
  have G:iu κ (arrOf l) (bj l) f:=by rw[ve];exact O.keep K
  have fL:(arrOf l).toList.Perm (arrOf st).toList:=K.perm.trans M;have nW:(arrOf l).size=b:=K.size.trans W;have hR:Run κ (arrOf l) f r:=Y.run;clear K ve;refine aE (kQ ?_);obtain⟨kd,arr,S,mg,fl⟩:=l;dsimp only;cases hbk:S.back? with
  |none=>
   dsimp only;refine aE (mz (aL ⟨f+r,rfl,∅,n2,⟨L.kind,L.failed⟩,fL,nW,?_⟩));refine⟨?_,?_⟩
   .show j8 0 (PL (S.push (f,r,0))) _;rw[mV];exact j8.app.mpr ⟨f,G.ch,rfl,n1,rfl⟩
   .show ∀e∈PL (S.push (f,r,0)),_;rw[mV];intro e m;rcases fY.mp m with m|m
    .exact G.run e m
    .rw[eN.mp m];exact hR
  |some bk=>
   obtain⟨s1,m1,q1⟩:=bk;dsimp only;refine aE (gu (gv (I:=λx c g=>c=(ae,())/\SB kz g/\(arrOf g).toList.Perm (arrOf st).toList/\(arrOf g).size=b/\iu κ (arrOf g) (bj g) f/\Run κ (arrOf g) f r) (Q:=λc g=>c=(ae,())/\SB kz g/\(arrOf g).toList.Perm (arrOf st).toList/\(arrOf g).size=b/\iu κ (arrOf g) (bj g) f/\Run κ (arrOf g) f r) ?_ (λ_ _ hh=>hh) ?_) ?_)
   .rintro y c g _ hy ⟨rfl,B,C,J,u,H⟩;refine aE (kQ ?_);have uy:∀{p:bD},p=g->((ae,()):Option Unit×Unit)=(ae,())/\SB kz p/\(arrOf p).toList.Perm (arrOf st).toList/\(arrOf p).size=b/\iu κ (arrOf p) (bj p) f/\Run κ (arrOf p) f r:=λe=>by subst e;exact⟨rfl,B,C,J,u,H⟩
    by_cases hg:1<(bj g).size
    .obtain⟨z,q,d,v,D⟩:=g;have X:d.size > 1:=hg;dsimp only;rw[if_pos X,getElem?_pos d (d.size-2) ∅];obtain⟨u1,u2,u3⟩:=d[d.size-2];dsimp only;refine cD (λ_=>aL (uy rfl)) λ_=>?_;refine aE (zv hO B (hA.of C) u ∅ (show d.size-2+1<d.size by lia) λp mK T Z _=>?_);exact aL ⟨rfl,mK,T.perm.trans C,T.size.trans J,Z,H.keep T (.inr ∅)⟩
    .obtain⟨z,q,d,v,D⟩:=g;have X:¬d.size > 1:=hg;dsimp only;rw[if_neg X];exact aL (uy rfl)
   .exact⟨rfl,L,fL,nW,G,hR⟩
   rintro c g ⟨rfl,B,C,J,u,H⟩;obtain⟨z,q,d,v,D⟩:=g;dsimp only;refine aE (mz (aE (mz (aL ⟨f+r,rfl,∅,n2,⟨B.kind,B.failed⟩,C,J,?_⟩))));refine⟨?_,?_⟩
   .show j8 0 (PL ((d.modify (d.size-1) λx=>(x.1,x.2.1,_)).push (f,r,0))) _;rw[mV,v8];exact j8.app.mpr ⟨f,u.ch,rfl,n1,rfl⟩
   .show ∀e∈PL ((d.modify (d.size-1) λx=>(x.1,x.2.1,_)).push (f,r,0)),_;rw[mV,v8];intro e m;rcases fY.mp m with m|m
    .exact u.run e m
    .rw[eN.mp m];exact H
end
theorem sR{n:Nat}(h:n<=1000000):n<a8:=ub h (by decide)
theorem Run.sortedTo{κ:KeyKind}{a:Array Keyed}{n:Nat}(h:Run κ a 0 n)(c:n<=a.size):SortedToK κ a n:=by intro i j b d;have:=h i j _ _ (jM _) b ∅ (getElem?_pos a i ∅) (getElem?_pos a j ∅);rw[qL (show i<a.size by lia),qL (show j<a.size by lia)];exact this
theorem KeysOf.all{κ:KeyKind}{a:Array Keyed}(h:KeysOf κ a):AllK κ a:=λi b=>h _ (by simp)
section
variable{P:aS}{w:aG}{A:aX}{E:ai->ao->Prop}{s:ao}
theorem Ct{κ:KeyKind}{kz:gs}{a:ag}{c:List ai}{n:Nat}{F:Fin->ao->Prop}(q:s.heap.get? a=aa (gw "list" c.toArray n))(J:KeysOf κ (kl c))(C:c.length<=1000000)(D:∀r:az,(∀b o,b≠a->s.heap.get? b=aa o->r.get? b=aa o)->2<=c.length->hG κ kz P w A {s with heap:=r}/\∀{E:ai->ao->Prop}{Q:gs->ao->Prop},Q kz {s with heap:=r}->aq (ar P w) A (keyKind' c.toArray) Q E {s with heap:=r})(h:∀d:bD,(arrOf d).Perm (kl c)->SortedToK κ (arrOf d) (kl c).size->F (.done (.ret .none)) {s with heap:=sortedHeap s.heap a c ((arrOf d).map (·.2))}):aq (ar P w) A (Builtin.«list.sort» ⟨[.ref a],[]⟩) F E s:=by
 rw[list_sort_plain];have z:a<s.heap.objs.size:=bC q;have y:c.length<=a8:=kc (sR C);refine aw (listItems_at q rfl ?_);refine aw (AT q rfl ?_);obtain⟨u,x⟩:∃u,(s.heap.update a (jn λ_=>#[])).get? a=aa (gw "list" #[] u):=⟨_,get?_update_seq q (λ_=>#[])⟩
 refine aw (seqEpoch_at x rfl ?_);refine aw (wpAny_newTuple ?_ (hsz:=by rw[AM];exact y));refine aw (wpAny_newList ?_);refine kM ?_;have l:(((s.heap.update a (jn λ_=>#[])).push (gw "tuple" c.toArray 0)).push (gw "list" #[] 0)).get? a=aa (gw "list" #[] u):=by rw[Heap.get?_push_ne _ _ _ (by rw[jo,GF];exact cF (jO z)),Heap.get?_push_ne _ _ _ (by rw[GF];exact cF z)];exact x
 have keep:∀b o,b≠a->s.heap.get? b=aa o->(((s.heap.update a (jn λ_=>#[])).push (gw "tuple" c.toArray 0)).push (gw "list" #[] 0)).get? b=aa o:=λb o m e=>bx _ (bx _ (by rw[GC _ _ _ _ m];exact e));show aq (ar P w) A _ F E {s with heap:=((s.heap.update a (jn λ_=>#[])).push (gw "tuple" c.toArray 0)).push (gw "list" #[] 0)};dsimp only;have f:∀d:bD,failedOf d=ae->(arrOf d).Perm (kl c)->SortedToK κ (arrOf d) (kl c).size ->
   aq (ar P w) A (do
    let touched:=(<-seqEpoch a) != u
    Builtin.List.listUpdate (.ref a) λ_=>(arrOf d).map (·.2)
    if let aa e:=failedOf d then rule "list.sort.comparison-raised";throw e
    if touched then rule "list.sort.modified";raiseError "ValueError" "list modified during sort"
    ret .none) F E {s with heap:=((s.heap.update a (jn λ_=>#[])).push (gw "tuple" c.toArray 0)).push (gw "list" #[] 0)}:=λd m p v=>by
  refine aw (seqEpoch_at l rfl ?_);refine aw (AT l rfl ?_ (hsz2:=by refine cH (mw ((Array.size_map ..).trans (p.size_eq.trans (pairsOf_size _)))) (Nat.le_succ_of_le y)));rw[m];simp only[bne_self_eq_false,pt,if_false];exact aK (h d p v)
 by_cases g:c.toArray.size<2
 .rw[if_pos g,if_pos g];refine aw (aK ?_);refine aw (aK ?_);refine f (SortSt.mk' general' (c.toArray.zip c.toArray) #[] 7 ae) rfl (Array.Perm.refl _) λi j N G=>?_;have:i=j:=by rw[pairsOf_size]at G;rw[cb]at g;lia
  subst this;exact lB _
 .rw[if_neg g,if_neg g];obtain⟨H,I⟩:=D _ keep (by rw[cb]at g;lia);refine aw (I ?_);refine aw (fH (IF (κ:=κ) (kz:=kz) H (st:=SortSt.mk' kz (c.toArray.zip c.toArray) #[] 7 ae) (Q:=λ_ d=>SB kz d/\(arrOf d).toList.Perm (kl c).toList/\Run κ (arrOf d) 0 (kl c).size) ⟨rfl,rfl⟩ (KeysOf.all J) rfl λd M L K=>⟨M,L,K⟩) ?_ λ_ _ e=>e);rintro⟨⟨⟩,d⟩ s' ⟨rfl,m,p,v⟩;have B:(arrOf d).Perm (kl c):=Ba.mpr p;exact f d m.failed B (v.sortedTo (by rw[B.size_eq];exact aT _))
theorem OB{g:KeyKind}(o:g.OneLt){a:ag}{d:List ai}{n:Nat}{F:Fin->ao->Prop}(m:s.heap.get? a=aa (gw "list" d.toArray n))(p:KeysOf g (kl d)) (j:∀c b rest,d=c::b::rest->keyKind' (c::b::rest).toArray=pure oneType') (l:d.length<=1000000)(h:∀i:bD,(arrOf i).Perm (kl d)->SortedToK g (arrOf i) (kl d).size->F (.done (.ret .none)) {s with heap:=sortedHeap s.heap a d ((arrOf i).map (·.2))}):aq (ar P w) A (Builtin.«list.sort» ⟨[.ref a],[]⟩) F E s :=
 Ct m p l (λr _ f=>⟨OneLt.ok o,λq=>by
  obtain⟨c,b,rest,rfl⟩:∃c b rest,d=c::b::rest:=by
   match d,f with
   |[],f=>simp at f
   |[_],f=>simp at f
   |c::b::rest,_=>exact⟨c,b,rest,rfl⟩
  rw[j _ _ _ rfl];exact aK q⟩) h
theorem D_{v:ai}{Q:ai->ao->Prop}(x:aq (ar P w) A.in1 (collect v) (λd s1=>∃ss:List Str,dH d ss/\d.length<=1000000/\∀(i:az) (out:Array ai) (f:List Str) (e:Nat),(∀b o,s1.heap.get? b=aa o->i.get? b=aa o) -> i.get? s1.heap.objs.size=aa (gw "list" out e)->dH out.toList f->f.Perm ss->sortedS f=ah->Q (.ref s1.heap.objs.size) {s1 with heap:=i}) E s):aq (ar P w) A (call (.builtin "sorted") [v]) Q E s:=by refine Calls.call_function_entry kind_sorted plain_sorted entry_sorted (args_sorted1 _) ?_;unfold Builtin.«sorted»;refine aw (m:=checkCount "sorted" 1 1 _) (aK ?_);refine aw (aH x λd s1 ⟨ss,h,p,j⟩=>?_);refine aw (wpAny_newList ?_);have g:(s1.heap.push (gw "list" d.toArray 0)).get? s1.heap.objs.size=aa (gw "list" d.toArray 0):=cE _ rfl;refine aw (kM (t8 slot_list_sort ⟨_,g,rfl⟩ entry_list_sort (OB strKind_oneLt g h.keysOf (λa b c e=>keyKind_strs (by rw[<-e];exact h)) p λy r q=>⟨_,rfl,?_⟩) (args_list_sort _)));obtain⟨f,C,B,z⟩:=sorted_out_str h r q;obtain⟨e,u⟩:=sortedHeap_at (out:=(arrOf y).map (·.2)) g;refine aK ⟨_,rfl,j _ _ f e (λb o l=>?_) u C B z⟩;have n:b<s1.heap.objs.size:=bC l;rw[sortedHeap_old (cF n) (by rw[jo];exact jO n)];exact bx _ l
end
section
variable{X:Cx}
theorem Inv.sorted2{h:List (ag×Obj)}{g:St}{H:Hp}{s1:ao}{c:List Tx}{ss d:List Str}{f:az}{a:Array ai}{e:Nat}(I:Inv X h g H s1)(l:ss=c.map tS)(s:c.length<=1000000)(k:∀b o,s1.heap.get? b=aa o->f.get? b=aa o) (j:f.get? s1.heap.objs.size=aa (gw "list" a e)) (r:dH a.toList d) (q:d.Perm ss) (p:sortedS d=ah):Inv X h g (upd H s1.heap.objs.size (.lst (bU (aC c)))) {s1 with heap:=f}:=by
 have n:d.map (λz=>z.cps.toList)=aC c:=by
  refine wK ?_ (Pd p);have:=q.map λz=>z.cps.toList;rw[l,d9]at this;have m:(c.map ((λz:Str=>z.cps.toList) ∘ tS))=c:=by simp[GQ,kC]
  rw[m]at this;exact this
 have i:bq (bU (aC c)) a.toList:=by rw[<-n];exact EF r
 refine I.laid (t':=s1.toks) k (aT _) ⟨?_,a.toList,e,i,?_⟩
 .rw[wN,zK];exact kc (sR ∅)
 .rw[Array.toArray_toList];exact j
theorem vM:eG X (.builtin "sorted") (λv H Q=>∃(p:ag) (d:List Tx),v=[.ref p]/\(b9 X.K H p (bU d)\/cL X.K H p (bU d))/\d.length<=1000000/\∀l,H l=ae->Q (.ref l) (upd H l (.lst (bU (aC d))))):=by
 intro G s x H v M Q I r h;obtain⟨p,d,rfl,f,B,q⟩:=h;obtain⟨u,rfl,y⟩:=vals1 r;cases y;have b:∀(T:String) (o:Obj) (a:List ai) (n:Nat),(T = "list"\/T = "tuple")->s.heap.get? p=aa o->o.cls=.type T->o.data=.seq a.toArray n->bq (bU d) a ->
   aq (ar X.prog X.w) X.A (call (.builtin "sorted") [Value.ref p]) (EP X G x Q) X.xe s:=λT o a n F j i g c=>by
  have E:=c.length;rw[wN]at E;have m:=sR (n:=a.length) ∅;refine D_ (wpAny_collect_seq p F j i g (λN C=>?_) (by rw[cb];lia));have w:=I.kept (t':=s.toks) C;refine⟨_,sh c,by rw[AM];lia,λO A P e k j L K J=>?_⟩;exact⟨.ref _,_,Inv.sorted2 w rfl B k j L K J,rfl,q _ w.fresh⟩
 rcases f with f|f
 .obtain⟨a,c,z,D⟩:=I.list f;obtain⟨o,e,i,n,g⟩:=z.isList;exact b "list" o a n (.inl rfl) e i g c
 .obtain⟨a,c,⟨o,e,i,n,g⟩,D⟩:=I.tuple f;exact b "tuple" o a n (.inr rfl) e i g c
end
end L2
namespace Pu
open L2
section
variable{X:Cx}{K:ax}
def l9:List PV->Option PO
 |[.lst b]=>(fG b).bind λa=>if a.length<=1000000 then aa (.lst (am (aC a)))else ae
 |[.tup b]=>(fG b).bind λa=>if a.length<=1000000 then aa (.lst (am (aC a)))else ae
 |_=>ae
theorem xg:kr K (λm H Q=>∃(p:ag) (b:List Tx),m=[.ref p]/\(b9 K H p (bU b)\/cL K H p (bU b))/\b.length<=1000000/\∀l,H l=ae->Q (.ref l) (upd H l (.lst (bU (aC b))))) l9:=λF H m z Q o y n e q=>by
 have f:∀{g:List PV}{c:List V}{a:ag},((fG g).bind λb=>if b.length<=1000000 then aa (PO.lst (am (aC b)))else ae)=aa o->ba K H F g c->(b9 K H a c\/cL K H a c) ->
   ∃(p:ag) (b:List Tx),[V.ref a]=[.ref p]/\(b9 K H p (bU b)\/cL K H p (bU b))/\b.length<=1000000/\∀l,H l=ae->Q (.ref l) (upd H l (.lst (bU (aC b)))):=λ{g c a} e d u=>by
  cases h:fG g with
  |none=>rw[h]at e;cases e
  |some b=>
   rw[h]at e;simp only[jP]at e;split at e
   .rename_i r;cases e;rw[qc h]at d;obtain⟨rfl,w⟩:=Qy.mp d;refine⟨a,b,rfl,u,r,λl i=>q l F _ _ (Al.new0 i) (vY i (Qy.mpr ⟨rfl,λx s=>w x ((ef b).mem_iff.mp s)⟩)) (wd i y trivial)⟩
   .cases e
 unfold l9 at e;split at e
 .obtain⟨v,rfl,a,c,rfl,j,_,d⟩:=gC n;exact f e d (.inl (.inl j))
 .obtain⟨v,rfl,a,c,rfl,j,d⟩:=gC n;exact f e d (.inr (cL.of j))
 .cases e
end
section
variable{X:Cx}{K:ax}{E:XK}{g l a b c e:ay}{d:aj->R PV}{m:aj->R (List PV)}{p f h:Pos}
def qd:List PV->Option PV
 |[.int i,.int j]=>aa (.int (if j<i then j else i))
 |_=>ae
theorem Kk:PL K (λn H Q=>∃i j,n=[.int i,.int j]/\Q (.int (if j<i then j else i)) H) qd:=λF H n x Q pv o e q=>by
 unfold qd at e;split at e
 .cases e;obtain⟨v,y,rfl,w,s⟩:=o;obtain⟨u,rfl,r⟩:=gC s;exact⟨_,_,by rw[show v=V.int _ from w,show u=V.int _ from r],q _ F H (Al.refl ..) rfl⟩
 .cases e
end
theorem Jn(H:Hp)(p:ag)(a b:HO):L2.upd (L2.upd H p a) p b=L2.upd H p b:=by
 funext q;by_cases h:q=p
 .subst h;rw[upd_same,upd_same]
 .rw[bv h,bv h,bv h]
end Pu
namespace L2
section
variable{X:Cx}
theorem Eb(x:X.calm=ah):eG X (.builtin "sorted") (λc H Q=>∃(p:ag) (a:List Tx),c=[.ref p]/\H p=aa (kn X p a)/\a.length<4000/\∀l,H l=ae->Q (.ref l) (upd H l (.lst (bU (aC a))))):=by
 intro C s g H c G Q I r h;obtain⟨p,a,rfl,v,J,q⟩:=h;obtain⟨u,rfl,j⟩:=vals1 r;cases j;obtain⟨S,_,_⟩:=(show b7 X.prog X.w H s.heap p (kn X p a)from I.hok p _ v)
 refine D_ (Lm (yd (I.ok.hd x)) S λi F ss E D M k A z=>?_);obtain⟨d,g',d',t',n⟩:=i;obtain rfl:g'=s.gens:=A;obtain rfl:n=s.os:=z;have f:Inv X C g H {s with heap:=d,drawn:=d',toks:=t'}:=by have:=Inv.call (ch:=[]) I (g':=s.gens) (d':=d') (t':=t') (Un.kept (fs:=fR X.stack) (ex:=[]) k) (I.hok.kept k) I.bare (λb y=>absurd y (by simp));exact this
 refine⟨ss,E,∅,λK m L e o w b1 b2 B=>?_⟩;exact⟨.ref _,_,Inv.sorted2 (s1:={s with heap:=d,drawn:=d',toks:=t'}) (ss:=a.map tS) f rfl ∅ o w b1 (b2.trans D) B,rfl,q _ f.fresh⟩
end
end L2
namespace Pu
open L2
section
variable{X:Cx}{E:XK}{pin:List Nat}{e f:ay}{j m:aj->R (List PV)}{g p q d r n i:Pos}
theorem Nc(l:List Tx):(bJ l).Nodup:=by
 unfold bJ;have:∀(l a:List Tx),a.Nodup->(l.foldl (λks x=>if x∈ks then ks else ks++[x]) a).Nodup:=by
  intro l
  induction l with
  |nil=>exact λa h=>h
  |cons x l c=>
   intro a h;rw[lz];refine c _ ?_;split
   .exact h
   .rename_i s;rw[xI];exact⟨h,by simp,λy o z b e=>by simp at b;subst b;subst e;exact s o⟩
 exact this l [] List.nodup_nil
def tL:List PV->Option PO
 |[.lst b]=>(fG b).bind λa=>if(bJ a).length<4000 then aa (.lst (am (aC (bJ a))))else ae
 |_=>ae
def Cv(X:Cx):List V->Hp->VK->Prop:=λb H Q=>∃(p:ag) (a:List Tx),b=[.ref p]/\H p=aa (kn X p a)/\a.length<4000/\∀l,H l=ae->Q (.ref l) (upd H l (.lst (bU (aC a))))
theorem IM:kr X.K (M_ X (Cv X)) tL:=λF H M N Q P K C e q=>by
 unfold tL at e;split at e
 .obtain⟨v,rfl,a,O,rfl,J,_,y⟩:=gC C;obtain⟨s,L,f⟩:=ul.mp e;rw[qc L]at y;obtain⟨rfl,G⟩:=Qy.mp y;split at f
  .rename_i B;cases f;refine⟨a,s,rfl,.inl J,B,λb I=>⟨b,bJ s,rfl,upd_same,B,λl h=>?_⟩⟩;have u:l≠b:=by rintro rfl;rw[upd_same]at h;cases h
   have A:H l=ae:=by rw[bv u]at h;exact h
   have al:Al F F H (upd (upd H b (kn X b (bJ s))) l (.lst (bU (aC (bJ s))))):=(Al.new0 I).trans (Al.new0 h);refine q l F _ (λc=>c=l) al ⟨⟨_,upd_same,Qy.mpr ⟨rfl,λx D=>G x ((lX _ _).mp ((ef _).mem_iff.mp D))⟩⟩,λc=>nO⟩ λc z=>?_;subst z;exact⟨A,λz=>Exists.elim (K _ z) (λo w=>by rw[A]at w;cases w),_,upd_same,trivial⟩
  .cases f
 .cases e
theorem JM(c:X.calm=ah)(u:DA X E [e] j)(o:X.mg "sorted"=ae)(a:X.mg "set"=ae)(s:Gl X "sorted":=by rfl)(b:Gl X "set":=by rfl)(h:ln e=ak:=by rfl):DN X E (.Call (.Name "sorted" p) [.Call (.Name "set" q) [e] [] d] [] g) (dL tL j):=λF S x w H Q l v=>b8 (nz (Eb c) s o oD (gZ (tF (J_ c) b a DZ ir (by decide) (by decide) (ju h) rfl) i8 (ju rfl)) (by decide) (by decide) (ju rfl) rfl) (sW IM u l v)
end
theorem Dy:d7 "max"=aa (.builtin "max"):=by decide +kernel
end Pu
namespace Mx
def F5:Nat->Nat->Nat
 |0,x=>x
 |n+1,x=>F5 n (5*x+1)
end Mx
namespace Pu
open L2
def nq:List PV->Option PV
 |[.int i,.int j]=>aa (.int (if j > i then j else i))
 |_=>ae
theorem CS{K:ax}:PL K (λa H Q=>∃i j,a=[.int i,.int j]/\Q (.int (if j > i then j else i)) H) nq:=λF H a g Q pv b e q=>by
 unfold nq at e;split at e
 .cases e;obtain⟨v,h,rfl,f,d⟩:=b;obtain⟨u,rfl,c⟩:=gC d;exact⟨_,_,by rw[show v=V.int _ from f,show u=V.int _ from c],q _ F H (Al.refl ..) rfl⟩
 .cases e
end Pu
namespace L2
section
variable{X:Cx}{f:List (ag×Obj)}{d:St}{H:Hp}{s:ao}{a:ag}
theorem Inv.recast{p q:HO}(I:Inv X f d H s)(e:H a=aa p)(w:∀j,p≠.tup j)(D:∀o u,X.H₀ a≠aa (.frz o u))(C:∀m,p≠.tbl m)(B:∀x,p≠.own x)(new:b7 X.prog X.w (upd H a q) s.heap a q):Inv X f d (upd H a q) s:=by
 have g:∀b,H b=ae->(upd H a q) b=ae:=λb i=>by rw[bv (by rintro rfl;rw[e]at i;cases i)];exact i
 refine⟨I.ok,I.os,I.bare,⟨I.base.keep,I.base.slot,λb o h n y=>g b (I.base.free b o h n y),I.base.there,λb j h=>?_,λb o u h=>?_,λb m h=>?_⟩,I.loc,I.cell,g _ I.free,λx c h=>g _ (I.freeC x c h),λp A=>?_,λb u i=>?_,I.len⟩
 .have z:=I.base.tups b j h;rw[bv (by rintro rfl;rw[e]at z;exact w j (dP z))];exact z
 .have z:=I.base.frzs b o u h;rw[bv (by rintro rfl;exact D o u h)];exact z
 .have z:=I.base.tbls b m h;rw[bv (by rintro rfl;rw[e]at z;exact C _ (dP z))];exact z
 .obtain⟨G,F,E⟩:=I.pin p A;exact⟨G,g _ F,E⟩
 .by_cases l:b=a
  .subst l;rw[upd_same]at i;cases i;exact new
  .rw[bv l]at i;refine(I.hok b u i).stay (λc v _ r=>r) (λc r=>?_) λc j r=>?_
   .rw[bv (by rintro rfl;rw[e]at r;exact B _ (dP r))];exact r
   .rw[bv (by rintro rfl;rw[e]at r;exact w _ (dP r))];exact r
def vq(o:Obj):Nat:=match o.data with
 |.dict _ b=>b
 |_=>0
theorem An{P:aS}{w:aG}{h:az}{o:Obj}{b:List (aA×V)}(g:h.get? a=aa o)(k:b7 P w H h a (.dK b)):(a == kb)=ak/\∃c,KV b c/\h.DictAt (ge P w) a c (vq o):=by
 obtain⟨_,n,c,l,u,p,q,j,m,i,r⟩:=k;rw[g]at j;cases j;refine⟨n,c,l,o,p,g,m,?_,r⟩;have:vq o=q:=by unfold vq;rw[i]
 rw[this];exact i
theorem Inv.freeze{b:List (aA×V)}(I:Inv X f d H s)(e:H a=aa (.dK b)):∃o,s.heap.get? a=aa o/\Inv X f d (upd H a (.frz o (.dK b))) s:=by
 have k:b7 X.prog X.w H s.heap a (.dK b):=I.hok a _ e;obtain⟨z,i,g,h,o,j,l,c,r⟩:=id k;refine⟨o,c,I.recast e (λ_ q=>by cases q) (λo u q=>?_) (λ_ q=>by cases q) (λ_ q=>by cases q) ⟨c,⟨z,i,g,h,o,j,l,c,r⟩⟩⟩;have:=I.base.frzs a o u q;rw[e]at this;cases this
theorem Inv.thaw{o:Obj}{b:List (aA×V)}(I:Inv X f d H s)(e:H a=aa (.frz o (.dK b)))(i:∀o u,X.H₀ a≠aa (.frz o u)):Inv X f d (upd H a (.dK b)) s:=by
 obtain⟨j,z,h,c,g,r⟩:=(show b7 X.prog X.w H s.heap a (.frz o (.dK b))from I.hok a _ e)
 exact I.recast e (λ_ q=>by cases q) i (λ_ q=>by cases q) (λ_ q=>by cases q) ⟨z,h,c,g,r⟩
end
theorem KV.at{a:List (aA×V)}{b:List (aA×ai)}(h:KV a b){i:Nat}{p:aA×V}(e:a[i]?=aa p):∃q,b[i]?=aa q/\p.1=q.1/\RelV p.2 q.2:=by
 unfold KV at h
 induction h generalizing i with
 |nil=>simp at e
 |cons r _ c=>
  cases i with
  |zero=>simp at e;subst e;exact⟨_,rfl,r⟩
  |succ i=>exact c (by simpa using e)
theorem KV.len{a:List (aA×V)}{b:List (aA×ai)}(h:KV a b):a.length=b.length:=by
 unfold KV at h
 induction h with
 |nil=>rfl
 |cons _ _ c=>simp[c]
theorem KV.keysD{a:List (aA×V)}{b:List (aA×ai)}(h:KV a b):a.map (·.1)=b.map (·.1):=by
 unfold KV at h
 induction h with
 |nil=>rfl
 |cons r _ c=>simp[c,r.1]
end L2
namespace Pu
open L2
section
variable{X:Cx}{E:XK}{pin:List Nat}{e b c:ay}{de db f:aj->R PV}{d:Pos}
def l_(i:Nat):aj->R PV:=λa=>(aB (cP a i) a).bind λg a=>.ok (.int (g.length:Nat)) a
theorem Fl(i:Nat){y:Str}{p g:Pos}(q:X.mg "len"=ae)(x:X.N[i]?=aa y:=by rfl)(A:dA X.env.scope y:=by eq_refl)(v:(y==("__debug__":Str))=ak:=by decide) (C:(y==("__classdict__":Str))=ak:=by decide) (u:Gl X "len":=by rfl)(l:aQ [.Name y g] X.env=(ak,aM (.Name y g) X.env)::aQ [] X.env:=by rfl) (B:(cY d (aQ [] X.env)).any (·.1)=ak:=by rfl):DE X E (.Call (.Name "len" p) [.Name y g] [] d) (l_ i):=λF S m D H Q r h=>by
 unfold l_ at h;cases j:cP m i with
 |none=>rw[j]at h;exact h.elim
 |some o=>rw[j]at h;obtain⟨a,n,z,w,s,_⟩:=r.dkAt (kH j);refine b8 (nz JB u q rfl (gZ (eI x A v C) i8 l) (by decide) (by decide) l B) ⟨_,z,a,n,rfl,w,?_⟩;rw[s.len];exact h F S H r (bt.refl ..) _ rfl
def fU(neg:Bool)(i:Nat)(db:aj->R PV):aj->R PV:=λε=>(db ε).bind λk ε1=>(aB (cP ε1 i) ε1).bind λa ε1=>aB ((gB k).map λk=>.bl (neg^^(i6 a k).isSome)) ε1
theorem BI{i:Nat}(j:Bool){F:ag->Prop}{S:Nat->ag->Prop}{n:aj}{g:St}{H:Hp}{Q:VK}(K:DE X E b db)(G:aN X.K F S n g H)(h:Ok X.K E g F S H (fU j i db n) (λpv _ N _ A=>∀v,aO X.K A N pv v->Q v A)):gA X b g H λy l=>∃x,g[i]?=aa (aa x)/\∃a o,x=.ref a/\jz l a y o/\Q (.bl (j^^o.isSome)) l:=by
 unfold fU at h;refine K F S n g H _ G ((Ok.bind h).imp λk m B z l p O q u D=>?_);cases s:cP m i with
 |none=>rw[s]at q;exact q.elim
 |some I=>
  rw[s]at q;simp only[bP,R.bind_ok]at q;obtain⟨a,C,M,L,J,_⟩:=p.dkAt (kH s);cases r:gB k with
  |none=>rw[r]at q;exact q.elim
  |some w=>
   rw[r,pA]at q;rw[qQ D r];refine⟨.ref a,M,a,gD C w,rfl,jz.k L,?_⟩;rcases J.val w with⟨x,v,h1,h2,h3⟩|⟨h1,h2⟩
   .rw[h1]at q;rw[h2];exact q B z l p (bt.refl ..) _ rfl
   .rw[h1]at q;rw[h2];exact q B z l p (bt.refl ..) _ rfl
theorem zj(i:Nat){y:Str}{a:Pos}(u:X.A.units+64<cLine)(m:DE X E b db)(n:X.N[i]?=aa y:=by rfl)(o:dA X.env.scope y:=by eq_refl)(l:(y==("__debug__":Str))=ak:=by decide) (p:(y==("__classdict__":Str))=ak:=by decide) (j:lr .In (.Name y a)=ak:=by rfl):DT X E (.Compare b [.In] [.Name y a] d) (dB (fU ak i db)):=λF S s r H Q g h=>by refine ny (wU (Lr ∅ bB (eI n o l p)) j) ?_;have:=BI (Q:=λv q=>∃k,v=.bl k/\Q k q) ak m g (mU h);simp only[um]at this;exact this
theorem LG(i:Nat){y:Str}{a:Pos}(u:X.A.units+64<cLine)(m:DE X E b db)(n:X.N[i]?=aa y:=by rfl)(o:dA X.env.scope y:=by eq_refl)(l:(y==("__debug__":Str))=ak:=by decide) (p:(y==("__classdict__":Str))=ak:=by decide) (j:lr .NotIn (.Name y a)=ak:=by rfl):DT X E (.Compare b [.NotIn] [.Name y a] d) (dB (fU ah i db)):=λF S s r H Q g h=>by refine ny (wU (ES ∅ bB (eI n o l p)) j) ?_;have:=BI (Q:=λv q=>∃k,v=.bl k/\Q k q) ah m g (mU h);simp only[Bb]at this;exact this
theorem PY{H:Hp}{a l:ag}{o:HO}{u v:HO}(e:H a=aa v)(i:l≠a):upd (upd (upd H a o) l u) a v=upd H l u:=by
 funext b;by_cases h:b=a
 .subst h;rw[upd_same,bv (eD i),e]
 .rw[bv h];by_cases g:b=l
  .subst g;rw[upd_same,upd_same]
  .rw[bv g,bv g,bv h]
def su(db f:aj->R PV):aj->R PO:=λh=>(db h).bind λk g=>(f g).bind λy a=>(aB (gB k) a).bind λi a=>.ok (.dK [(i,y)]) a
theorem J1(Z:DE X E b db)(Y:DE X E c f):DN X E (.Dict [aa b] [c] d) (su db f):=λF S N I H Q v h=>by
 refine b8 (Ir (L3 bB bB OC) rfl rfl (by simp) (by simp)) λp l=>?_;have al:Al F F H (upd H p (.dK [])):=Al.new0 l;have W:¬F p:=λz=>by obtain⟨o,q⟩:=v.ex p z;rw[l]at q;cases q
 have nS:¬U S p:=λ⟨i,z⟩=>by obtain⟨_,_,o,q,_⟩:=v.foot i p z;rw[l]at q;cases q
 have B:bt (U S) (U S) F F H (upd H p (.dK [])):=al.grow;refine Z F S N I _ _ (v.al al) ((Ok.bindB h B).imp λk n F1 S1 H1 J D h1 u O=>?_);obtain⟨e1,A,x⟩:=D.stay (upd_same:upd H p (.dK []) p=aa (.dK [])) nS W;refine Y F1 S1 n I H1 _ J ((Ok.bindB h1 (B.trans D)).imp λy M L S2 H2 T C m w r=>?_);obtain⟨K,g,a⟩:=C.stay e1 x A;cases G:gB k with
 |none=>rw[G]at m;exact m.elim
 |some j=>
  rw[G]at m;simp only[bP,R.bind_ok]at m;have s:aO X.K H2 L k u:=O.grow C J.fit;refine⟨K,[(j,w)],?_,by simp,?_⟩
  .rw[bZ,rh,<-qQ s G]
  .rw[show qU [] [(j,w)]=[(j,w)] from rfl];obtain⟨gl,fit,P⟩:=T.lay (o':=.dK [(j,w)]) K trivial g a;have g3:=((B.trans D).trans C).lay (o':=.dK [(j,w)]) l;refine m L S2 _ P g3 p (λb=>b=p) ⟨⟨_,upd_same,.cons ⟨rfl,r.grow gl fit⟩ .nil⟩,λb=>nO⟩ λb z=>?_;subst z;exact⟨l,g,a,_,upd_same,trivial⟩
end
end Pu
namespace L2
open Att
theorem zU:∀{c:List V}{d:List ai}{i:Nat}{v:ai},bq c d->d[i]?=aa v->∃x,c[i]?=aa x/\RelV x v
 |_,_,_,_,.nil,e=>by simp at e
 |_,_,0,_,.cons h _,e=>by simp at e;subst e;exact⟨_,rfl,h⟩
 |_,_,i+1,_,.cons _ t,e=>by obtain⟨x,a,b⟩:=zU (i:=i) t (by simpa using e);exact⟨x,by simpa using a,b⟩
open Mx
theorem perm_mapE{g q:Type}{f:g->q}{l:List q}{m:List g}(h:l.Perm (m.map f)):∃d:List g,l=d.map f/\d.Perm m:=by
 generalize c:m.map f=mm at h
 induction h generalizing m with
 |nil=>
  cases m with
  |nil=>exact⟨[],rfl,.nil⟩
  |cons=>cases c
 |cons x _ w=>
  cases m with
  |nil=>cases c
  |cons y r=>rw[bZ]at c;injection c with o n;obtain⟨d,e,p⟩:=w n;exact⟨y::d,by rw[bZ,<-e,o],p.cons y⟩
 |swap x y l=>
  match m,c with
  |a::b::r,c=>simp only[bZ,xL]at c;obtain⟨o,n,z⟩:=c;exact⟨b::a::r,by simp[o,n,z],.swap ..⟩
 |trans _ _ j i=>obtain⟨C,A,s⟩:=i c;obtain⟨v,B,u⟩:=j A.symm;exact⟨v,B,u.trans s⟩
theorem least{p:Nat->Prop}:∀(n:Nat),p n->∃m,m<=n/\p m/\∀k,k<m->¬p k
 |0,h=>⟨0,aT _,h,λk d=>absurd d (Nat.not_lt_zero _)⟩
 |n+1,h=>by
  by_cases z:∃m,m<=n/\p m/\∀k,k<m->¬p k
  .obtain⟨m,a,b,c⟩:=z;exact⟨m,∅,b,c⟩
  .refine⟨n+1,aT _,h,λk d f=>z ?_⟩;obtain⟨m,a,b,c⟩:=least k f;exact⟨m,∅,b,c⟩
section
variable{P:aS}{w:aG}{A:aX}{E:ai->ao->Prop}{s:ao}
structure Keyd(P:aS)(w:aG)(K:Type)[DecidableEq K] where
 is:az->K->ai->Prop
 hash:K->Int
 room:aX->Prop
 keep:∀{h h':az}{k:K}{v:ai},is h k v->(∀b o,h.get? b=aa o->o.cls=.type "tuple"->h'.get? b=aa o)->is h' k v
 ref:∀{h:az}{k:K}{v:ai},is h k v->∃a o,v=.ref a/\h.get? a=aa o
 eqBool:∀{A:aX}{E:ai->ao->Prop}{s:ao}{x y:K}{u v:ai}{Q:Bool->ao->Prop},room A->is s.heap x u->is s.heap y v->Q (decide (x=y)) s->aq (ar P w) A (PySem.eqBool u v) Q E s
 quiet:∀{A:aX}{E:ai->ao->Prop}{s:ao}{k:K}{v:ai}{Q:Bool->ao->Prop},is s.heap k v->Q ah s->aq (ar P w) A (eqIsQuiet 8 v) Q E s
 cls:∀{A:aX}{E:ai->ao->Prop}{s:ao}{k:K}{v:ai}{Q:Bool->ao->Prop},is s.heap k v->Q ak s->aq (ar P w) A (ofAClassStatement 8 v) Q E s
 hbv:∀{A:aX}{E:ai->ao->Prop}{s:ao}{k:K}{v:ai}{Q:Bool->ao->Prop},is s.heap k v->Q ak s->aq (ar P w) A (hashByValue 8 v) Q E s
variable{K:Type}[DecidableEq K]{c:Keyd P w K}
end
section
variable{P:aS}{w:aG}{A:aX}{E:ai->ao->Prop}{s:ao}
theorem tup_uniq{h:az}{a:ag}{x y:Array ai}(g:IsTup h a x)(f:IsTup h a y):x=y:=by
 obtain⟨o,e,_,n,d⟩:=g;obtain⟨i,b,_,j,c⟩:=f;rw[e]at b;cases b;rw[d]at c;cases c;rfl
theorem strs_uniq:∀{a:List ai}{x y:List Str},dH a x->dH a y->x=y
 |_,_,_,.nil,.nil=>rfl
 |_,_,_,.cons z t h,.cons _ _ b=>by rw[strs_uniq h b]
theorem all_getD{a b:List Str}:((df (min a.length b.length)).all (λj=>a.getD j fZ == b.getD j fZ)&&a.length == b.length)=decide (a=b):=by
 rw[ke,iA,nN,decide_eq_true_iff,beq_iff_eq];constructor
 .rintro⟨g,f⟩;refine List.ext_getElem f λi d c=>?_;have:=g i (o0.mpr ∅);rw[beq_iff_eq]at this;simpa[d,c]using this
 .rintro rfl;exact⟨λx _=>by simp,rfl⟩
theorem strs_len{a:List ai}{b:List Str}(h:dH a b):a.length=b.length:=h.length
theorem eq_strs{b h:ag}{c a:Array ai}{i d:List Str}(u:A.units<cLine)(o:IsTup s.heap b c)(f:dH c.toList i)(p:IsTup s.heap h a)(g:dH a.toList d):t9 A s (.ref b) (.ref h) (decide (i=d)):=by
 by_cases n:b=h
 .subst n;obtain rfl:=tup_uniq o p;obtain rfl:=strs_uniq f g;rw[decide_eq_true rfl];exact .same _
 .have m:=strs_len f;have l:=strs_len g;rw[mn]at m l;rw[<-all_getD,<-m,<-l];refine .of_refs n (.tuples o p u λj r q=>?_);obtain⟨t,e⟩:=tm j c[j] f (by simp[r]);obtain⟨x,v⟩:=tm j a[j] g (by simp[q]);rw[e,v];exact Go _ _ _ _
theorem tup_kept{h d:az}{a:ag}{x:Array ai}(f:IsTup h a x)(k:∀b o,h.get? b=aa o->o.cls=.type "tuple"->d.get? b=aa o):IsTup d a x:=by obtain⟨o,e,c,r⟩:=f;exact⟨o,k a o e c,c,r⟩
end
def ltL(a b:List Tx):Bool:=decide (a<b)
theorem ltL_cons(x y:Tx)(b a:List Tx):ltL (x::b) (y::a)=if x=y then ltL b a else decide (x<y):=by
 unfold ltL;by_cases h:x=y
 .subst h;rw[if_pos rfl,ke,decide_eq_true_iff,decide_eq_true_iff,Bc];exact⟨λz=>z.elim (λq=>absurd q (List.lt_irrefl _)) λq=>q.2,λq=>.inr ⟨rfl,q⟩⟩
 .rw[if_neg h,ke,decide_eq_true_iff,decide_eq_true_iff,Bc];exact⟨λz=>z.elim id λq=>absurd q.1 h,.inl⟩
def ordL:KeyOrd where
 α:=List Tx
 blt:=ltL
 irrefl:=λa=>decide_eq_false (List.lt_irrefl a)
 trans:=λa b c g f=>decide_eq_true (List.lt_trans (of_decide_eq_true g) (of_decide_eq_true f))
 negTrans:=λa b c h=>by
  unfold ltL;by_cases i:a<b
  .exact .inl (decide_eq_true i)
  .have d:b<=a:=List.not_lt.mp i;exact .inr (decide_eq_true (List.lt_of_le_of_lt d (of_decide_eq_true h)))
 total:=λa b g f=>List.le_antisymm (List.not_lt.mp (of_decide_eq_false f)) (List.not_lt.mp (of_decide_eq_false g))
section
open PySem.SeqAt
open PySem.AutoSeq1 (wpAny_loadPart')
open PySem.MeetsSeq PySem.MeetsSeq2 PySem.MeetsSeq3
def cpsL(a:List Str):List Tx:=a.map λz=>z.cps.toList
theorem cps_inj{x y:Str}(h:x.cps.toList=y.cps.toList):x=y:=by rw[<-zh x,<-zh y,h]
theorem tuple_lt_strs(l b:ag)(i f:Array ai)(n n2:Nat)(dd X:Option ag)(sl O:Array (Option ai))(J K:List Str)(hi:dH i.toList J)(Z:dH f.toList K):Meets (Builtin.«tuple.__lt__» ⟨[.ref l,.ref b],[]⟩) (λ_ R s=>s.heap.get? l=aa {cls:=.type "tuple",dict:=dd,data:=.seq i n,slots:=sl}/\s.heap.get? b=aa {cls:=.type "tuple",dict:=X,data:=.seq f n2,slots:=O} /\ R (.ok (.ret (.bool (ltL (cpsL J) (cpsL K))))) s) :=
 .of_wp λo w A R s h=>by
  obtain⟨F,g,d,v,B⟩:=s;obtain⟨hl,hb,h⟩:=h;have f2:=AutoSeq1.sub_tuple_tuple;have z1:i.size=J.length:=by rw[<-hi.length];simp
  have z2:f.size=K.length:=by rw[<-Z.length];simp
  wp_walk using Aw hl,Aw hb,wpAny_forIn_list _ (λrest b P=>b.1=ae/\P=⟨F,g,d,v,B⟩/\∃(I H:List ai) (j m:List Str),rest=I.zip H /\ dH I j/\dH H m/\j.length+f.size=m.length+i.size/\R (.ok (.ret (.bool (ltL (cpsL j) (cpsL m))))) ⟨F,g,d,v,B⟩) _
  case turn=>
   rintro⟨y,x⟩ rest b P ⟨T,rfl,I,H,j,m,p,S,q,G,L⟩;cases S with
   |nil=>rw[List.zip_nil_left]at p;cases p
   |cons a t D=>
    cases q with
    |nil=>rw[List.zip_nil_right]at p;cases p
    |cons c u C=>
     rw[List.zip_cons_cons]at p;injection p with hyx Qo;injection hyx with hy hx;subst hy hx;rename_i vs1 N vs2 M;have r:R (.ok (.ret (.bool (if a.cps.toList=c.cps.toList then ltL (cpsL N) (cpsL M)else decide (a.cps.toList<c.cps.toList))))) ⟨F,g,d,v,B⟩:=by rw[<-ltL_cons];exact L
     simp only[cS]at G;refine aw (EqAt.str_str a t c u o w _ _ ?_);by_cases e:a=c
     .subst e;rw[if_pos rfl]at r;rw[beq_self_eq_true]
      wp_walk
      exact⟨rfl,rfl,_,_,_,_,Qo,D,C,∅,r⟩
     .rw[if_neg (λz=>e (cps_inj z))]at r;rw[beq_false_of_ne e];have W:∀(E:ai->ao->Prop) (Q:ai->ao->Prop),Q (.bool (decide (a.cps.toList<c.cps.toList))) ⟨F,g,d,v,B⟩->aq (ar o w) A.in1 (richCompare .Lt (.str a t) (.str c u)) Q E ⟨F,g,d,v,B⟩:=λE Q h=>(PyProof.Rows.lt_str h:aq (ar o w) A.in1 (dw .Lt (.str a t) (.str c u)) Q E _)
      wp_walk using W
      exact⟨_,rfl,by simpa using r⟩
  case fin=>
   rintro⟨b1,b2⟩ P ⟨T,rfl,I,H,j,m,p,S,q,G,L⟩;simp only at T;subst T;have Y:ltL (cpsL j) (cpsL m)=decide (i.size<f.size):=by
    cases S with
    |nil=>
     cases q with
     |nil=>simp only[jL]at G;exact(decide_eq_false (by simp[cpsL])).trans (decide_eq_false ∅).symm
     |cons c u hw=>simp only[jL,cS]at G;exact(decide_eq_true (by simp[cpsL])).trans (decide_eq_true ∅).symm
    |cons a t Y=>
     cases q with
     |nil=>simp only[jL,cS]at G;exact(decide_eq_false (by simp[cpsL])).trans (decide_eq_false ∅).symm
     |cons c u hw=>
      rw[List.zip_cons_cons]at p;cases p
   rw[Y]at L
   wp_walk
   exact⟨_,rfl,by simpa[Builtin.Tuple.tupleCompareSizes]using L⟩
  case h=>exact⟨rfl,rfl,i.toList,f.toList,J,K,rfl,hi,Z,∅,h⟩
end
section
variable{P:aS}{w:aG}{A:aX}{E:ai->ao->Prop}{s:ao}
theorem lt_tupStrs{l b:ag}{c a:Array ai}{d f:List Str}{Q:ai->ao->Prop}(D:IsTup s.heap l c)(H:IsTup s.heap b a)(G:dH c.toList d)(F:dH a.toList f)(C:A.units<cLine) (h:Q (.bool (ltL (cpsL d) (cpsL f))) s):aq (ar P w) A (dw .Lt (.ref l) (.ref b)) Q E s:=by
 obtain⟨⟨J,I,v,z⟩,q,u,n,r⟩:=id D;obtain⟨⟨y,i,j,g⟩,p,m,B,o⟩:=id H;simp only at u r m o;subst u r m o;exact richCompare_meets_room (op:=.Lt) ⟨_,q,rfl⟩ ⟨_,p,rfl⟩ PySem.F.slot_tuple_lt PySem.F.entry_tuple_lt (PySem.F.args_tuple_lt_2 _ _) (tuple_lt_strs l b c a n B I i z g d f G F)
  ⟨q,p,show Value.bool (ltL (cpsL d) (cpsL f))≠Value.notImplemented/\Q (.bool (ltL (cpsL d) (cpsL f))) s from⟨(λx=>nomatch x),h⟩⟩ C
theorem sorted_genK{v:ai}{Q:ai->ao->Prop}(hu:A.units+32<cLine)(O:aq (ar P w) A.in1 (collect v) (λa c=>∃(κ:KeyKind) (kz:gs),(∀v∈a,∃k,κ.keyOf v=aa k)/\a.length<=1000000 /\ (∀(D:aX) (f:az),D.units+8<cLine->(∀b o,c.heap.get? b=aa o->f.get? b=aa o)->2<=a.length->hG κ kz P w D {c with heap:=f}/\∀{E:ai->ao->Prop}{Q:gs->ao->Prop},Q kz {c with heap:=f}->aq (ar P w) D (keyKind' a.toArray) Q E {c with heap:=f}) /\ ∀(f:az) (out:Array ai) (e:Nat),(∀b o,c.heap.get? b=aa o->f.get? b=aa o) -> f.get? c.heap.objs.size=aa (gw "list" out e)->out.toList.Perm a->out.toList.Pairwise (λx y=>∀p q,κ.keyOf x=aa p->κ.keyOf y=aa q->κ.blt q p=ak)->Q (.ref c.heap.objs.size) {c with heap:=f}) E s):aq (ar P w) A (call (.builtin "sorted") [v]) Q E s:=by
 refine Calls.call_function_entry kind_sorted plain_sorted entry_sorted (args_sorted1 _) ?_;unfold Builtin.«sorted»;refine aw (m:=checkCount "sorted" 1 1 _) (aK ?_);refine aw (aH O λa c ⟨κ,kz,S,I,n,C⟩=>?_);refine aw (wpAny_newList ?_);have r:(c.heap.push (gw "list" a.toArray 0)).get? c.heap.objs.size=aa (gw "list" a.toArray 0):=cE _ rfl;refine aw (kM (t8 slot_list_sort ⟨_,r,rfl⟩ entry_list_sort (Ct (κ:=κ) (kz:=kz) r (λp g=>?_) I (λf k T=>n _ f (by simp;lia) (λb o e=>k b o (cF (bC e)) (bx _ e)) T) λd g M=>⟨_,rfl,?_⟩) (args_list_sort _)))
 .have:p.1∈a:=by
   have H:p∈(a.toArray.zip a.toArray).toList:=g;rw[Array.toList_zip]at H;exact Av H |>.1
  exact S _ this
 .obtain⟨e,N⟩:=sortedHeap_at (out:=(arrOf d).map (·.2)) r;have l:(arrOf d).toList.Perm (a.zip a):=by
   have:=Ba.mp g;have e0:(kl a).toList=a.zip a:=by show(a.toArray.zip a.toArray).toList=_;rw[Array.toList_zip]
   rwa[e0]at this
  have same:∀p∈(arrOf d).toList,p.1=p.2:=λp g=>by have:=l.mem_iff.mp g;rw[<-List.map_id a,List.zip_map']at this;obtain⟨x,_,rfl⟩:=bV.mp this;rfl
  have Z:((arrOf d).map (·.2)).toList.Perm a:=by rw[Array.toList_map];have:=l.map (·.2);rwa[List.map_snd_zip (aT _)]at this
  refine aK ⟨_,rfl,C _ _ e (λb o G=>?_) N Z ?_⟩
  .have n:b<c.heap.objs.size:=bC G;rw[sortedHeap_old (cF n) (by rw[jo];exact jO n)];exact bx _ G
  .rw[Array.toList_map];refine xC.mpr (GL.mpr λi j F z bE p q L K=>?_);have J:j<(kl a).size:=by rw[<-g.size_eq];simpa using z
   have B:i<(arrOf d).size:=by simpa using F
   have u:j<(arrOf d).size:=by simpa using z
   have h:=M i j (kc bE) J;rw[qL B,qL u]at h;have Y:=same _ (AO F);have f2:=same _ (AO z);have X:kO κ (arrOf d)[i]=p:=by
    unfold kO;have:(arrOf d)[i].1=(arrOf d).toList[i].2:=by rw[<-Y];simp
    rw[this,L];rfl
   have W:kO κ (arrOf d)[j]=q:=by
    unfold kO;have:(arrOf d)[j].1=(arrOf d).toList[j].2:=by rw[<-f2];simp
    rw[this,K];rfl
   rw[X,W]at h;exact h
end
end L2
namespace Pu
open L2
abbrev gU:=List aA
def jC(a:List (gU×PV))(k:gU):Option PV:=(a.find? λb=>decide (b.1=k)).map (·.2)
def qa(a:List (gU×PV))(k:gU)(v:PV):List (gU×PV):=if(a.any λb=>decide (b.1=k))=ah then a.map (λb=>if b.1=k then(b.1,v)else b)else a++[(k,v)]
def n_:List PV->Option gU
 |[]=>aa []
 |x::a=>(gB x).bind λk=>(n_ a).map (k::·)
def mf:PV->Option gU
 |.tup a=>n_ a
 |_=>ae
section
variable{K:ax}{F:ag->Prop}{S:Nat->ag->Prop}{ε:aj}{d:St}{H:Hp}{i:Nat}{c:List (gU×PV)}{ws:List (gU×V)}{a:ag}
theorem D6:∀{f:List PV}{b:List V}{k:gU},ba K H F f b->n_ f=aa k->b=k.map kV
 |[],b,k,r,e=>by cases r;cases e;rfl
 |x::f,b,k,⟨v,r,j,h,g⟩,e=>by simp only[n_,ul,ly]at e;obtain⟨n,m,ks,l,rfl⟩:=e;rw[j,qQ h m,D6 g l];rfl
theorem yg{x:PV}{v:V}{k:gU}(r:aO K H F x v)(e:mf x=aa k):∃b,v=.ref b/\H b=aa (.tup (k.map kV)):=by
 cases x <;> simp[mf]at e;obtain⟨b,h,rfl,g,f⟩:=r;exact⟨b,rfl,by rw[g,D6 f e]⟩
theorem je.len(h:je K H F c ws):ws.length=c.length:=by
 unfold je at h
 induction h with
 |nil=>rfl
 |cons _ _ b=>simp[b]
theorem je.val(h:je K H F c ws)(k:gU):(∃x v,jC c k=aa x/\gD ws k=aa v/\aO K H F x v)\/(jC c k=ae/\gD ws k=ae):=by
 unfold je at h
 induction h with
 |nil=>exact .inr ⟨rfl,rfl⟩
 |@cons p q ps qs r _ ih=>
  by_cases e:p.1=k
  .refine .inl ⟨p.2,q.2,by simp[jC,iQ,e],?_,r.2⟩;rw[tz (by rw[<-r.1];exact e)]
  .have b:¬q.1=k:=by rw[<-r.1];exact e
   rw[sQ b];have:jC (p::ps) k=jC ps k:=by simp[jC,iQ,e]
   rw[this];exact ih
theorem je.any(h:je K H F c ws)(k:gU):(c.any λb=>decide (b.1=k))=ws.any λb=>decide (b.1=k):=by
 unfold je at h
 induction h with
 |nil=>rfl
 |cons r _ f=>rw[mv,mv,f,r.1]
theorem je.put(h:je K H F c ws)(k:gU){x:PV}{v:V}(r:aO K H F x v):je K H F (qa c k x) (fc ws k v):=by
 unfold qa fc;rw[h.any k];split
 .rename_i b;clear b;unfold je at h ⊢
  induction h with
  |nil=>exact .nil
  |@cons p q ps qs r1 _ ih=>
   refine .cons ?_ ih;dsimp only;by_cases e:p.1=k
   .rw[if_pos e,if_pos (by rw[<-r1.1];exact e)];exact⟨r1.1,r⟩
   .rw[if_neg e,if_neg (by rw[<-r1.1];exact e)];exact r1
 .exact AE h ⟨rfl,r⟩
theorem aN.dtAt(r:aN K F S ε d H)(e:ε[i]?=aa (.own (.dT c))):∃a ws,d[i]?=aa (aa (.ref a))/\H a=aa (.dT ws)/\je K H F c ws/\S i a/\∀b,S i b->b=a:=by obtain⟨a,m,⟨g,l,j⟩,f⟩:=r.own i _ e;exact⟨a,g,m,l,j,(f a).mpr rfl,λb h=>(f b).mp h⟩
end
def gR(b:aj)(i:Nat):Option (List (gU×PV)):=match b[i]? with
 |some (.own (.dT a))=>aa a
 |_=>ae
theorem qx{b:aj}{i:Nat}{a:List (gU×PV)}(h:gR b i=aa a):b[i]?=aa (.own (.dT a)):=by
 unfold gR at h;split at h
 .cases h;assumption
 .cases h
section
variable{X:Cx}{E:XK}{pin:List Nat}{e b c:ay}{de d g:aj->R PV}{f:Pos}
def qX(i:Nat)(d:aj->R PV):aj->R PV:=λa=>(aB (gR a i) a).bind λ_ a=>(d a).bind λk ε1=>(aB (gR ε1 i) ε1).bind λh ε1=>aB ((mf k).bind λk=>jC h k) ε1
theorem Le(i:Nat){y:Str}{B:Pos}(hu:X.A.units+64<cLine)(N:DE X E b d)(P:X.N[i]?=aa y:=by rfl)(T:dA X.env.scope y:=by eq_refl)(M:(y==("__debug__":Str))=ak:=by decide) (W:(y==("__classdict__":Str))=ak:=by decide) (K:we b:=by exact λ_ _=>rfl):DE X E (.Subscript (.Name y B) b f) (qX i d):=λF S p A H Q r h=>by
 unfold qX at h;cases o:gR p i with
 |none=>rw[o]at h;exact h.elim
 |some w=>
  rw[o]at h;simp only[bP,R.bind_ok]at h;obtain⟨a,C,z,_⟩:=r.dtAt (qx o);refine b8 (BF ∅ (eI P T M W) bB K) ⟨.ref a,z,N F S p A H _ r ((Ok.bind h).imp λk l F1 Y Z s g1 q u D=>?_)⟩;cases n:gR l i with
  |none=>rw[n]at q;exact q.elim
  |some J=>
   rw[n]at q;simp only[bP,R.bind_ok]at q;obtain⟨a',ws,j,O,L,_⟩:=s.dtAt (qx n);rw[z]at j;cases j;cases m:mf k with
   |none=>rw[m]at q;exact q.elim
   |some I=>
    rw[m,jP]at q;obtain⟨bb,rfl,G⟩:=yg D m;rcases L.val I with⟨x,v,h1,h2,h3⟩|⟨h1,h2⟩
    .rw[h1]at q;exact⟨a,v,rfl,by rw[<-h2];exact jz.t O G,q F1 Y Z s (bt.refl ..) v h3⟩
    .rw[h1]at q;exact q.elim
def sJ(i:Nat)(d de:aj->R PV):aj->R aF:=λj=>(de j).bind λy ε1=>(aB (gR ε1 i) ε1).bind λ_ ε1=>(d ε1).bind λk a=>(aB (gR a i) a).bind λh a=>(aB (mf k) a).bind λk a=>if h.length<bQ then .ok .next (a.set i (.own (.dT (qa h k y))))else .no
theorem PH(i:Nat){y:Str}{I l:Pos}(hu:X.A.units+64<cLine)(hb:DE X E b d)(he:DE X E e de)(hN:X.N[i]?=aa y:=by rfl)(cU:dA X.env.scope y:=by eq_refl)(hd:(y==("__debug__":Str))=ak:=by decide) (bn:(y==("__classdict__":Str))=ak:=by decide) (hs:jj e (aa (.Subscript (.Name y I) b l)) f.line X.env=pure ak:=by rfl):DS X E pin (.Assign [.Subscript (.Name y I) b l] e f) (sJ i d de):=λF S M p H D T h=>by
 refine gf (Cs ∅ (eI hN cU hd bn) bB bB hs) (he F S M p H _ T (h.bindE.imp λy m F1 S1 H1 s g1 q v P=>?_));cases G:gR m i with
 |none=>rw[G]at q;exact q.elim
 |some K=>
  rw[G]at q;simp only[bP,R.bind_ok]at q;obtain⟨a,N,B,ha0,_⟩:=s.dtAt (qx G);refine⟨.ref a,B,hb F1 S1 m p H1 _ s (q.bindE.imp λk r F2 S2 H2 J g2 j u Q=>?_)⟩;cases o:gR r i with
  |none=>rw[o]at j;exact j.elim
  |some x=>
   rw[o]at j;simp only[bP,R.bind_ok]at j;obtain⟨a',O,n,ha,L,_⟩:=J.dtAt (qx o);rw[B]at n;cases n;cases C:mf k with
   |none=>rw[C]at j;exact j.elim
   |some w=>
    rw[C]at j;simp only[bP,R.bind_ok]at j;split at j
    .rename_i hl;obtain⟨bb,rfl,Y⟩:=yg Q C;have fj:=L.put w (P.grow g2 s.fit);obtain⟨W,g3⟩:=J.updO (po':=.dT (qa x w y)) (o':=.dT (fc O w v)) (qx o) rfl B trivial λH' Z m2 A Sa z=>⟨⟨_,A,fj.mono Z⟩,z⟩
     exact⟨a,_,rfl,xt.t ha Y (by rw[L.len];exact h8 hl lm),j F2 S2 p _ W g3 (jw.refl _ _)⟩
    .exact j.elim
def wO:aj->R PO:=λa=>.ok (.dT []) a
theorem JG:DN X E (.Dict [] [] f) wO:=λF S m l H Q i h=>b8 ON λp a=>by
 have al:Al F F H (upd H p (.dT [])):=Al.new0 a;refine h F S _ (i.al al) al.grow p (λb=>b=p) ⟨⟨[],upd_same,.nil⟩,λb=>nO⟩ λb z=>?_;subst z;refine⟨a,λz=>?_,λ⟨j,z⟩=>?_,_,upd_same,trivial⟩
 .obtain⟨o,q⟩:=i.ex b z;rw[a]at q;cases q
 .obtain⟨_,_,o,q,_⟩:=i.foot j b z;rw[a]at q;cases q
def l7(a:Bool)(i:Nat)(d:aj->R PV):aj->R PV:=λj=>(d j).bind λk ε1=>(aB (gR ε1 i) ε1).bind λh ε1=>aB ((mf k).map λk=>.bl (a^^(jC h k).isSome)) ε1
theorem Nk{i:Nat}(l:Bool){F:ag->Prop}{S:Nat->ag->Prop}{p:aj}{j:St}{H:Hp}{Q:VK}(M:DE X E b d)(I:aN X.K F S p j H)(h:Ok X.K E j F S H (l7 l i d p) (λpv _ P _ B=>∀v,aO X.K B P pv v->Q v B)):gA X b j H λy m=>∃x,j[i]?=aa (aa x)/\∃a o,x=.ref a/\jz m a y o/\Q (.bl (l^^o.isSome)) m:=by
 unfold l7 at h;refine M F S p j H _ I ((Ok.bind h).imp λk n C A m r T q u G=>?_);cases w:gR n i with
 |none=>rw[w]at q;exact q.elim
 |some K=>
  rw[w]at q;simp only[bP,R.bind_ok]at q;obtain⟨a,D,O,N,L,_⟩:=r.dtAt (qx w);cases s:mf k with
  |none=>rw[s]at q;exact q.elim
  |some z=>
   rw[s,pA]at q;obtain⟨W,rfl,J⟩:=yg G s;refine⟨.ref a,O,a,gD D z,rfl,jz.t N J,?_⟩;rcases L.val z with⟨x,v,h1,h2,h3⟩|⟨h1,h2⟩
   .rw[h1]at q;rw[h2];exact q C A m r (bt.refl ..) _ rfl
   .rw[h1]at q;rw[h2];exact q C A m r (bt.refl ..) _ rfl
theorem PB(i:Nat){y:Str}{a:Pos}(w:X.A.units+64<cLine)(n:DE X E b d)(o:X.N[i]?=aa y:=by rfl)(p:dA X.env.scope y:=by eq_refl)(m:(y==("__debug__":Str))=ak:=by decide) (q:(y==("__classdict__":Str))=ak:=by decide) (l:lr .NotIn (.Name y a)=ak:=by rfl):DT X E (.Compare b [.NotIn] [.Name y a] f) (dB (l7 ah i d)):=λF S u s H Q j h=>by refine ny (wU (ES ∅ bB (eI o p m q)) l) ?_;have:=Nk (Q:=λv r=>∃k,v=.bl k/\Q k r) ah n j (mU h);simp only[Bb]at this;exact this
end
end Pu
namespace L2
open Mx
def j_(a b:List Tx):Bool:=!ltL b a
theorem Pi(a b:List Tx):(j_ a b||j_ b a)=ah:=by
 unfold j_;cases h:ltL b a with
 |false=>rfl
 |true=>
  have:ltL a b=ak:=by
   cases c:ltL a b with
   |false=>rfl
   |true=>exact absurd (ordL.trans _ _ _ h c) (by have:ltL b b=ak:=ordL.irrefl _;show ¬ltL b b=ah;rw[this];decide)
  rw[this];rfl
theorem Ix(a b c:List Tx)(f:j_ a b=ah)(d:j_ b c=ah):j_ a c=ah:=by unfold j_ at *;have:ltL c a=ak:=rJ (O:=ordL) (a:=a) (b:=b) (c:=c) (show ltL b a=ak by simpa using f) (show ltL c b=ak by simpa using d);rw[this];rfl
theorem Op(a b:List Tx)(d:j_ a b=ah)(c:j_ b a=ah):a=b:=by unfold j_ at *;exact ordL.total a b (show ltL a b=ak by simpa using c) (show ltL b a=ak by simpa using d)
def gT(k:List Tx):List aA:=k.map λx=>Sum.inr (tS x)
section
variable{P:aS}{w:aG}{A:aX}{E:ai->ao->Prop}{s:ao}
theorem Nn{h:az}{o:Obj}{l:ag}{a:Array ai}(x:h.IsTuple l a):(h.push o).IsTuple l a:=let ⟨ob,e,r⟩:=x;⟨ob,bx _ e,r⟩
set_option maxRecDepth 100000 in
theorem LW{l:ag}{a:Array ai}{Q:ai->ao->Prop}(hh:A.handled=ae)(hl:s.heap.IsTuple l a){J:Nat->az->Prop}(hJ:∀i h d,J i h->(∀b o,b<=s.heap.objs.size->h.get? b=aa o->d.get? b=aa o)->J i d) (K:J 0 (s.heap.push {cls:=.type "set",dict:=ae,data:=.set #[] 0 (.fresh 0 0 (!cx w))}))(eO:∀(i:Nat) (v:ai) (f:ao) (E:ai->ao->Prop) (Q:Bool->ao->Prop),i<a.size->a[i]?=aa v->J i f.heap->(∀d m b,f.toks<=m->kL s.heap.objs.size f.heap d->J (i+1) d->Q b {f with heap:=d,toks:=m})->aq (ar P w) A.in1.in1.in1 (setAdd s.heap.objs.size v) Q E f)(h:∀(d:az) (m:Nat),J a.size d->(∀b o,b<s.heap.objs.size->s.heap.get? b=aa o->d.get? b=aa o)->Q (.ref s.heap.objs.size) {s with heap:=d,toks:=m}):aq (ar P w) A (call (.type "set") [.ref l]) Q E s:=by
 obtain⟨c,tl,hmro⟩:=F.called_set.mro;have Ql:=F.called_set.made;have fK:=F.called_set.sub;refine wpAny_call (codeAny_of_tree ?_);show aq _ _ (callAny (.type "set") _) _ _ _;refine aK ⟨Code.quiet_builtin _ (by decide +kernel),rE F.entry_type_call ?_⟩;rw[Around.under_plain (weight_type_call_type "set" [.ref l] []) rfl];have h1:=F.called_set.notType;have h2:=F.called_set.canCreate;have hct:=PySem.F.typeCall_set_1 (.ref l)
 repeat any_goals (first|assumption|wp_step)
 refine q8 (DB (P:=P) (w:=w) (.ref l) (E:=E) (Q:=λp f=>p=.ref s.heap.objs.size/\f={s with heap:=s.heap.push {cls:=.type "set",dict:=ae,data:=.set #[] 0 (.fresh 0 0 (!cx w))}}/\True) λS0=>⟨rfl,rfl,trivial⟩) λr f D=>?_;cases r with
 |error e=>exact D
 |ok fl=>
  cases fl with
  |ret p=>
   obtain⟨rfl,rfl,S0⟩:=D;have hS:=cE (h:=s.heap) (o:=({cls:=.type "set",dict:=ae,data:=.set #[] 0 (.fresh 0 0 (!cx w))}:Obj));have uP:(s.heap.push {cls:=.type "set",dict:=ae,data:=.set #[] 0 (.fresh 0 0 (!cx w))}).get? s.heap.objs.size=aa {cls:=.type "set",dict:=ae,data:=.set #[] 0 (.fresh 0 0 (!cx w))}:=cE _ rfl;have hT:Shared.TypeIs {s with heap:=s.heap.push {cls:=.type "set",dict:=ae,data:=.set #[] 0 (.fresh 0 0 (!cx w))}} (.ref s.heap.objs.size) "set":=⟨_,uP,rfl⟩
   have hli:=F.called_set.init.lookup;have hbi:=F.called_set.init.bind (.ref s.heap.objs.size)
   repeat any_goals (first|assumption|wp_step)
   refine q8 (codeAny_call_builtin (R:=wants (λr N=>r=.none/\∃d m,N={s with heap:=d,toks:=m}/\J a.size d /\ (∀b o,b<s.heap.objs.size->s.heap.get? b=aa o->d.get? b=aa o)) E) F.called_set.init.plain F.entry_set_init (check_set_init_1 hT ?_)) λr2 N B=>?_
   .obtain⟨⟨T,n,z,g⟩,S,Y,W,O⟩:=hl;simp only at Y O;subst Y;subst O;have Br:(s.heap.push {cls:=.type "set",dict:=ae,data:=.set #[] 0 (.fresh 0 0 (!cx w))}).get? l=aa {cls:=.type "tuple",dict:=n,data:=.seq a W,slots:=g}:=bx _ S;have Z:=PySem.F.sub_tuple_set;have hslf:=PySem.F.sub_tuple_frozenset;have cy:(Value.type "tuple" == Value.type "dict")=ak:=by decide
    have X:(s.heap.push {cls:=.type "set",dict:=ae,data:=.set #[] 0 (.fresh 0 0 (!cx w))}).IsTuple l a:=⟨_,Br,rfl,W,rfl⟩
    unfold Builtin.«set.__init__» noKeywords Builtin.Frozenset.updateFrom;generalize I:mo=PI
    wp_walk
    subst I;refine wpAny_pyIter_tuple X (aw (wpAny_runValue ?_));have M:l<s.heap.objs.size:=bC S;have H:A.in1.in1.in1.handled=ae:=by simp[hh]
    have j:(s.heap.push {cls:=.type "set",dict:=ae,data:=.set #[] 0 (.fresh 0 0 (!cx w))}).objs.size=s.heap.objs.size+1:=xz ..;have Bs:l≠(s.heap.push {cls:=.type "set",dict:=ae,data:=.set #[] 0 (.fresh 0 0 (!cx w))}).objs.size:=by rw[j];exact cF (jO M)
    have rQ:s.heap.objs.size∉[(s.heap.push {cls:=.type "set",dict:=ae,data:=.set #[] 0 (.fresh 0 0 (!cx w))}).objs.size,l]:=by rw[j];simp only[bw,eN,kj,or_false,not_or];exact⟨cF (lA _),o6 M⟩
    refine Dk ((Walks.tuple H _ l Bs a).toS) s.heap.objs.size rQ (λi h d G k=>hJ i h d G λb o u e=>k b o (by rw[j];simp only[eN];exact cF (Nat.lt_succ_of_le u)) e) (λi v f E Q hi hv G hq=>eO i v f E Q hi hv G hq) (a.size-0) 0 _ ∅ (jM _)
     ⟨⟨_,cE _ rfl,rfl,rfl⟩,(Nn X)⟩ (hJ 0 _ _ K λb o _ e=>bx _ e) ?_
    intro s' q C;obtain⟨d,g',d',x,y⟩:=s';obtain rfl:g'=s.gens:=q.gens;obtain rfl:d'=s.drawn:=q.drawn;obtain rfl:y=s.os:=q.os;show aq _ _ _ _ _ _;refine aK ?_;show aq _ _ (ret Value.none) _ _ _;refine aK ⟨rfl,d,x,rfl,C,λb o u e=>q.heap b o ?_ (bx _ (bx _ e))⟩;rw[j];simp only[bw,eN,kj,or_false,not_or];exact⟨cF u,cF (jO u)⟩
   .cases r2 with
    |error e=>exact B
    |ok L=>
     cases L with
     |ret r=>
      obtain⟨rfl,d,m,rfl,C,mG⟩:=B
      repeat any_goals (first|assumption|wp_step)
      exact h _ _ C mG
     |_=>exact B.elim
  |_=>exact D.elim
theorem K6{l:ag}{a:Array ai}{c:List Str}{Q:ai->ao->Prop}(x:A.handled=ae)(r:s.heap.IsTuple l a)(u:dH a.toList c)(z:(met (λi=>c.getD i fZ) a.size).length<4000)(h:∀(d:az) (j:Nat),iK P w d s.heap.objs.size (met (λi=>c.getD i fZ) a.size)->(∀b o,b<s.heap.objs.size->s.heap.get? b=aa o->d.get? b=aa o)->Q (.ref s.heap.objs.size) {s with heap:=d,toks:=j}):aq (ar P w) A (call (.type "set") [.ref l]) Q E s:=by
 refine LW x r (J:=λi h=>iK P w h s.heap.objs.size (met (λi=>c.getD i fZ) i)) (λi h d S k=>S.at λo e=>k _ o (aT _) e)
  ⟨#[],0,_,[],cE _ rfl,.nil,pr _,λe y=>by simp at y,by decide,rfl,rfl,λh=>absurd rfl h⟩ (λi v f E Q m p S q=>?_) h
 obtain⟨t,rfl⟩:=tm i v u (by rw[ua];exact p);unfold setAdd;refine kM ?_;have B:(iR P w).is (c.getD i fZ) (.str (c.getD i fZ) t)=ah:=by show oZ _ (.str _ t)=ah;simp[oZ]
 refine aw ((iR P w).pyHash (k:=c.getD i fZ) B ?_);refine Cr (s:={f with toks:=f.toks+1}) S (ub (y0 _ (kc m)) z) λd b n g=>?_;rw[<-zH (λi=>c.getD i fZ)]at g;exact q d _ b (t_ _) n g
end
section
variable{X:Cx}
theorem OZ(A:X.calm=ah):eG X (.type "set") (λg H Q=>∃(p:ag) (c:List Tx),g=[.ref p]/\cL X.K H p (bU c)/\(bJ c).length<4000/\∀a,H a=ae->Q (.ref a) (upd H a (kn X a (bJ c)))):=by
 intro M s C H g D Q I r h;obtain⟨p,c,rfl,y,f,q⟩:=h;obtain⟨u,rfl,m⟩:=vals1 r;cases m;obtain⟨d,i,x,F⟩:=I.tuple y;have z:=i.length;rw[wN]at z;refine K6 (P:=X.prog) (w:=X.w) (I.ok.hd A) x (by simpa using sh i) (by rw[cb,show d.length=c.length by lia,vG,cM];exact f) λB l S k=>?_;have j:iK X.prog X.w B s.heap.objs.size ((bJ c).map tS):=by
  have e:d.toArray.size=c.length:=by rw[cb];lia
  rw[e,vG]at S;exact S
 refine⟨.ref s.heap.objs.size,_,I.laid (t':=l) (o:=kn X s.heap.objs.size (bJ c)) (λb o e=>k b o (bC e) e) (aT _) ?_,rfl,q _ I.fresh⟩;obtain⟨K,L,t,E,e,_⟩:=j.ex;exact⟨j,⟨_,e⟩,λJ G v n=>v.at n⟩
end
end L2
namespace Pu
open L2
section
variable{X:Cx}{E:XK}{e:ay}{g:aj->R (List PV)}{p q f d:Pos}
def oM:List PV->Option PO
 |[.tup b]=>(fG b).bind λa=>if(bJ a).length<4000 then aa (.lst (am (aC (bJ a))))else ae
 |_=>ae
def Jp(X:Cx)(r:List V->Hp->VK->Prop):List V->Hp->VK->Prop:=λc H Q=>∃(p:ag) (b:List Tx),c=[.ref p]/\cL X.K H p (bU b)/\(bJ b).length<4000/\∀a,H a=ae->r [.ref a] (upd H a (kn X a (bJ b))) Q
theorem IQ:kr X.K (Jp X (Cv X)) oM:=λF H I J Q L D u e q=>by
 unfold oM at e;split at e
 .obtain⟨v,rfl,a,K,rfl,C,n⟩:=gC u;obtain⟨i,G,m⟩:=ul.mp e;rw[qc G]at n;obtain⟨rfl,A⟩:=Qy.mp n;split at m
  .rename_i s;cases m;refine⟨a,i,rfl,cL.of C,s,λb B=>⟨b,bJ i,rfl,upd_same,s,λl h=>?_⟩⟩;have j:l≠b:=by rintro rfl;rw[upd_same]at h;cases h
   have r:H l=ae:=by rw[bv j]at h;exact h
   have al:Al F F H (upd (upd H b (kn X b (bJ i))) l (.lst (bU (aC (bJ i))))):=(Al.new0 B).trans (Al.new0 h);refine q l F _ (λc=>c=l) al ⟨⟨_,upd_same,Qy.mpr ⟨rfl,λx y=>A x ((lX _ _).mp ((ef _).mem_iff.mp y))⟩⟩,λc=>nO⟩ λc z=>?_;subst z;exact⟨r,λz=>Exists.elim (D _ z) (λo w=>by rw[r]at w;cases w),_,upd_same,trivial⟩
  .cases m
 .cases e
theorem Iu(c:X.calm=ah)(m:DA X E [e] g)(j:X.mg "sorted"=ae)(a:X.mg "set"=ae)(l:Gl X "sorted":=by rfl)(b:Gl X "set":=by rfl)(h:ln e=ak:=by rfl):DN X E (.Call (.Name "sorted" p) [.Call (.Name "set" q) [e] [] d] [] f) (dL oM g):=λF S r o H Q i n=>b8 (nz (Eb c) l j oD (gZ (tF (OZ c) b a DZ ir (by decide) (by decide) (ju h) rfl) i8 (ju rfl)) (by decide) (by decide) (ju rfl) rfl) (sW IQ m i n)
end
end Pu
namespace L2
section
variable{X:Cx}
def Hi:V->List V->Hp->VK->Prop:=λx b H Q=>∃(l:ag) (a:List Tx) (y:Tx),x=.ref l/\b=[tV y]/\H l=aa (.lst (bU a))/\y∈a/\Q .non (upd H l (.lst (bU (a.erase y))))
theorem M9{y:Tx}{c:List Tx}{b:List ai}(r:bq (bU c) b):∀u∈b,∃z t,u=Value.str (tS z) t:=by intro u d;obtain⟨i,f⟩:=List.mem_iff_getElem?.mp d;obtain⟨v,a,g⟩:=zU r f;unfold bU at a;rw[jJ]at a;obtain⟨z,_,rfl⟩:=ly.mp a;obtain⟨t,rfl⟩:=g;exact⟨z,t,rfl⟩
theorem ER{y:Tx}:∀{a:List Tx},y∈a->∃j,j<a.length/\a[j]?=aa y/\(∀i z,i<j->a[i]?=aa z->z≠y)/\a.eraseIdx j=a.erase y
 |x::a,h=>by
  by_cases e:x=y
  .subst e;exact⟨0,by simp,rfl,λi z c=>∅,by simp⟩
  .obtain⟨j,l,g,f,d⟩:=ER ((bw.mp h).resolve_left λz=>e z.symm);refine⟨j+1,by simp;lia,by simpa using g,λi z c b=>?_,by rw[AR,d,List.erase_cons_tail (by simpa using e)]⟩;cases i with
   |zero=>simp at b;subst b;exact e
   |succ i=>exact f i z ∅ (by simpa using b)
theorem Df{a b:Type}(f:a->b):∀(l:List a) (j:Nat),(l.map f).eraseIdx j=(l.eraseIdx j).map f
 |[],_=>rfl
 |x::l,0=>rfl
 |x::l,j+1=>by rw[bZ,AR,AR,bZ,Df f l j]
theorem Mi:t4 X "list.remove" Hi:=by
 intro af s T H x W v Y Q I C D h;obtain⟨l,b,y,rfl,rfl,B,L,q⟩:=h;cases C;obtain⟨u,rfl,E⟩:=D.one;obtain⟨ty,rfl⟩:=E;obtain⟨z,a,n,r,O,e⟩:=I.lstM B;obtain⟨j,Z,K,J,p⟩:=ER L;have a_:a.length=b.length:=by rw[<-O];simp[bU]
 have f:∀(i:Nat) (A:i<a.toArray.size),∃w t,b[i]?=aa w/\a.toArray[i]=Value.str (tS w) t:=λi A=>by
  have G:i<a.length:=by simpa using A
  obtain⟨v,c,g⟩:=zU r (gK G);unfold bU at c;rw[jJ]at c;obtain⟨w,S,rfl⟩:=ly.mp c;obtain⟨t,P⟩:=g;exact⟨w,t,S,by simpa using P⟩
 let eb:ai->Bool:=λv=>match v with|.str z _=>z.cps.toList == y|_=>ak
 have d:∀(w:Tx) (t:Tok),eb (.str (tS w) t)=(w == y):=λw t=>by show((tS w).cps.toList == y)=_;rw[kC]
 refine xx F.slot_list_remove ⟨_,e,rfl⟩ F.entry_list_remove (F.args_list_remove_2 _ _) (MeetsSeq.list_remove l a.toArray n (.str (tS y) ty) eb (λw M=>?_) j (by simp;lia) ?_ (λm N o=>?_) (by rw[cb];lia)) ⟨e,?_⟩
 .obtain⟨w,t,rfl⟩:=M9 (y:=y) r w (by simpa using M);have:=SeqRoads2.EqGives.str (tS w) (tS y) t ty;rw[kC,kC]at this;rw[show eb (.str (tS w) t)=(w == y)from d w t];exact this
 .obtain⟨w,t,c,g⟩:=f j (by simp;lia);rw[K]at c;cases c;exact(congrArg eb g).trans ((d _ t).trans (by simp))
 .obtain⟨w,t,c,g⟩:=f m N;exact(congrArg eb g).trans ((d _ t).trans (by simpa using J m w o c))
 .refine⟨.non,_,I.lset (its':=a.eraseIdx j) B e (ys:=bU (b.erase y)) ?_ ?_ ?_,rfl,q⟩
  .show a.toArray.eraseIdxIfInBounds j=(a.eraseIdx j).toArray;rw[Gq]
  .have:=r.eraseIdx j;rw[<-p];unfold bU at this ⊢;rw[show(b.eraseIdx j).map tV=(b.map tV).eraseIdx j from(Df tV b j).symm];exact this
  .have:=yt b j;rw[p]at this;have e2:(bU b).length=b.length:=by simp[bU]
   have e3:(bU (b.erase y)).length=(b.erase y).length:=by simp[bU]
   lia
end
end L2
namespace Pu
open L2
section
variable{X:Cx}{E:XK}{pin:List Nat}{e:ay}{de:aj->R PV}{b:Pos}
def li(i:Nat)(de:aj->R PV):aj->R aF:=λc=>(aB (dm c i) c).bind λ_ c=>(de c).bind λy a=>(aB (dm a i) a).bind λf a=>match y with
 |.str y=>(aB (fG f) a).bind λd a=>if y∈d then .ok .next (a.set i (.own (.lst (am (d.erase y)))))else .no
 |_=>.no
theorem P4(i:Nat){x:Str}{p d c:Pos}(W:DE X E e de)(hN:X.N[i]?=aa x:=by rfl)(P:dA X.env.scope x:=by eq_refl)(Y:(x==("__debug__":Str))=ak:=by decide)(bn:(x==("__classdict__":Str))=ak:=by decide) (h1:jK (.Name x p) "remove" X.env (aM (.Name x p) X.env)=aM (.Name x p) X.env:=by rfl)(h2:((cY c (aQ [e] X.env)).all (λx=>!x.1)&&(o8 c (o9 [] X.env)).all (λx=>x.1.isSome)&&decide ([e].length+([]:List jl).length+(if([]:List jl).isEmpty then 0 else 1)<30))=ah:=by rfl)(h3:(d.endLine == c.line)=ah:=by rfl) (A:aQ [e] X.env=(ak,aM e X.env)::aQ [] X.env:=by rfl) (h5:(cY c (aQ [] X.env)).any (·.1)=ak:=by rfl)(Q:jj (.Call (.Attribute (.Name x p) "remove" d) [e] [] c) ae b.line X.env=pure ak:=by rfl):DS X E pin (.Expr (.Call (.Attribute (.Name x p) "remove" d) [e] [] c) b) (li i de):=λF S s r H D u h=>by
 unfold li at h;cases o:dm s i with
 |none=>rw[o]at h;exact h.elim
 |some C=>
  rw[o]at h;simp only[bP,R.bind_ok]at h;obtain⟨a,I,m,Z,_,_,_⟩:=u.lstAt (gF o);refine gf (wq (wS AW PySem.F.slot_list_remove PySem.F.type_list_remove Mi (eI hN P Y bn) (gZ bB i8 A) h1 h2 h3 A h5) Q) ⟨.ref a,m,.inl ⟨rfl,_,b9.of Z⟩,?_⟩;refine W F S s r H _ u (h.bindE.imp λy j B S1 H1 w g1 q v J=>?_);cases g:dm j i with
  |none=>rw[g]at q;exact q.elim
  |some G=>
   rw[g]at q;simp only[bP,R.bind_ok]at q;obtain⟨a',vs,f,N,L,_,_⟩:=w.lstAt (gF g);rw[m]at f;cases f;split at q
   .rename_i y;cases n:fG G with
    |none=>rw[n]at q;exact q.elim
    |some l=>
     rw[n]at q;simp only[bP,R.bind_ok]at q;obtain rfl:=qc n;obtain⟨rfl,a_⟩:=Qy.mp L;split at q
     .rename_i T;have K:ba X.K H1 B (am (l.erase y)) (bU (l.erase y)):=Qy.mpr ⟨rfl,λz O=>a_ z (List.mem_of_mem_erase O)⟩;obtain⟨M,g2⟩:=w.upd (gF g) m K;exact⟨a,l,y,rfl,by rw[J.1],N,T,q B S1 r _ M g2 (jw.refl _ _)⟩
     .exact q.elim
   .exact q.elim
end
end Pu
namespace L2
open Pu
def sH(a:ag)(o:Obj)(b:List (aA×V)):It :=⟨λi H=>H a=aa (.frz o (.dK b))/\i<b.length,λi H x c=>c=H/\∃p,b[i]?=aa p/\x=p.2,λi H=>H a=aa (.frz o (.dK b))/\b.length<=i⟩
theorem Nl{P:aS}{w:aG}{K:ax}{Z:ay}(a j:ag)(o:Obj)(g:List (aA×V)):qr P w K Z (sH a o g) [j] j (λi h=>h.IsValIter j a i g.length (vq o)) where
 mem:=by simp
 obj:=λi h f b l=>by
  have e:b=j:=by simpa using l
  subst e;obtain⟨o,e,c,d⟩:=f;exact⟨o,e,λv z=>by rw[d]at z;cases z⟩
 keep:=λi h r f k=>f.at λo e=>k j (by simp) o e
 item:=by
  intro X F u G T i W s O H E I n f C;subst F u G;obtain⟨y,S⟩:=C;obtain⟨A,B⟩:=(show b7 X.prog X.w H s.heap a (.frz o (.dK g))from I.hok a _ y)
  obtain⟨hs,Y,m,D⟩:=An A B;obtain⟨p,Q⟩:∃p,g[i]?=aa p:=⟨_,gK S⟩
  obtain⟨q,x,e1,e2⟩:=L2.KV.at m Q;obtain⟨M,L,f2,f3,f4,J⟩:=n j (by simp);rw[m.len]at f;refine wpAny_pyNext_values_item (k:=q.1) (v:=q.2) f D x λr N sb=>?_;have I1:Inv X W O H {s with heap:=r}:=I.turned (t':=s.toks) (λb o l e=>(sb.2 b l).trans e) M L f3 f4 J;rw[<-m.len]at N;obtain⟨oi,e,c,d⟩:=id N;exact⟨q.2,rfl,sm (s:={s with heap:=r}) e c d (by decide) ⟨p.2,H,I1,e2,⟨rfl,p,Q,rfl⟩,N,λb l=>(n b l).1⟩⟩
 done:=by
  intro X F u G T i W s O H E I n f C;subst F u G;obtain⟨y,S⟩:=C;obtain⟨A,B⟩:=(show b7 X.prog X.w H s.heap a (.frz o (.dK g))from I.hok a _ y)
  obtain⟨hs,Y,m,D⟩:=An A B;obtain⟨M,L,f2,f3,f4,J⟩:=n j (by simp);have hl:=m.len;rw[hl]at f;exact wpAny_pyNext_values_end (I.ok.hd T) f D (uh ∅) λr eb=>⟨rfl,I.turned (t':=s.toks) (λb o l e=>eb b o l e) M L f3 f4 J⟩
 self:=λ_ _ _ _ _ f h=>wpAny_pyIter_valiter f h
section
variable{X:Cx}{c:ay}
def NO(i:Nat):TI:=λd H R=>∃a b,d[i]?=aa (aa (.ref a))/\H a=aa (.dK b)/\∀o q,H q=ae->(b.map (·.1)).Nodup->b.length<=a8->R (sH a o b) (upd (upd H q (g7 q a)) a (.frz o (.dK b)))
theorem N9(i:Nat){y:Str}{m g f:Pos}(O:X.N[i]?=aa y)(J:dA X.env.scope y)(M:(y==("__debug__":Str))=ak)(T:(y==("__classdict__":Str))=ak)(G:jK (.Name y m) "values" X.env (aM (.Name y m) X.env)=aM (.Name y m) X.env) (F:(g.endLine == f.line)=ah):PI X c (.Call (.Attribute (.Name y m) "values" g) [] [] f) (NO i):=by
 intro W s C H R I h;obtain⟨a,d,P,n,q⟩:=h;refine aH (CQ Gu GJ PySem.F.type_dict_values Ep (eI O J M T) G F W s C H (λx B=>∃q,x=.ref q/\H q=ae/\B=upd H q (g7 q a)) I ⟨.ref a,P,.inr (.inr (.inl ⟨rfl,.inl ⟨_,n⟩⟩)),a,d,rfl,rfl,n,λq K=>⟨q,rfl,K,rfl⟩⟩) λv j ⟨x,B,r,D,E⟩=>?_;obtain⟨p,e,u,Q⟩:=E;subst e Q;cases D;have S:a≠p:=by rintro rfl;rw[n]at u;cases u
 have w:upd H p (g7 p a) a=aa (.dK d):=by rw[bv S];exact n
 obtain⟨o,L,z⟩:=r.freeze w;obtain⟨hs,Z,A,l⟩:=An (o:=o) L (show b7 X.prog X.w _ j.heap a (.dK d)from r.hok a _ w);obtain⟨Y,_,_⟩:=(show b7 X.prog X.w _ j.heap p (g7 p a)from r.hok p _ upd_same)
 refine wpAny_pyIter_values Y l ?_;rw[<-A.len];refine⟨j.heap.objs.size,[j.heap.objs.size],_,_,_,rfl,z.kept (t':=j.toks) λb o e=>bx _ e,Nl a _ o d,⟨_,cE _ rfl,rfl,rfl⟩,λb N=>?_,q o p u (by rw[A.keysD];exact l.nodup) (show d.length<=a8 by have:=(show b7 X.prog X.w _ j.heap a (.dK d)from r.hok a _ w).1;exact this)⟩;have e:b=j.heap.objs.size:=by simpa using N
 subst e;exact z.fpOk (aT _) (z.hok.fresh (aT _))
end
section
variable{X:Cx}{c:d8}{x:Str}{f:List Str}{d:List Nat}
def P3(i:Nat)(w:TT)(z:TE)(d:List Nat):TE:=λp H Q=>∃a g,p[i]?=aa (aa (.ref a))/\H a=aa (.dK g)/\∀o q l,H q=ae->(g.map (·.1)).Nodup->g.length<=a8->upd (upd H q (g7 q a)) a (.frz o (.dK g)) l=ae->∃W:Nat->Nat->List V->Hp->Prop,(∃m,W 0 m [] (upd (upd (upd H q (g7 q a)) a (.frz o (.dK g))) l (.lst [])))/\∀i m h n,W i m h n ->
 ((sH a o g).stop i n/\Q (.ref l) (upd n a (.dK g)))\/((sH a o g).go i n/\∀v u,(sH a o g).yld i n v u->w (aa v::gb p d) u λb s=>if b=ah then z (aa v::gb p d) s λy r=>r l=aa (.lst h)/\h.length<a8/\∃j,j<m/\W (i+1) j (h++[y]) (upd r l (.lst (h++[y]))) else ∃j,j<m/\W (i+1) j h s)
theorem LB{E:ay}{Y G r j g:Pos}{y:Str}{D:List ay}{L:TT}{M:TE}(i:Nat)(B:io X c x f d)(hc:X.calm=ah)(hN:X.N[i]?=aa y)(hv:dA X.env.scope y)(hd:(y==("__debug__":Str))=ak)(bn:(y==("__classdict__":Str))=ak)(iU:jK (.Name y r) "values" X.env (aM (.Name y r) X.env)=aM (.Name y r) X.env) (iV:(j.endLine == g.line)=ah)(ht:∀C b n K J,oH (bW X c f C b n K J) D L) (he:∀C b n K J,PE (bW X c f C b n K J) E M) (hs:∀x,kN (.Call (.Attribute (.Name y r) "values" j) [] [] g) X.env x=pure x:=by intro _;rfl):PE X (.ListComp E [⟨.Name x Y,.Call (.Attribute (.Name y r) "values" j) [] [] g,D,0⟩] c G) (P3 i L M d):=by
 intro af s O H Q I h;obtain⟨a,p,ea,N,h⟩:=h;have hn:∀o u,X.H₀ a≠aa (.frz o u):=λo u z=>by
  have:=I.base.frzs a o u z;rw[N]at this;cases this
 refine aH (D7 B hc (N9 i hN hv hd bn iU iV) ht he hs af s O H (λv F=>∃o,F a=aa (.frz o (.dK p))/\Q v (upd F a (.dK p))) I ⟨a,p,ea,N,λo q hq Z hz l hl=>?_⟩) λv s' ⟨x,F,I',T,o,e',q⟩=>⟨x,_,I'.thaw e' hn,T,q⟩
 obtain⟨W,S,A⟩:=h o q l hq Z hz hl;refine⟨W,S,λi m P F w=>?_⟩;rcases A i m P F w with⟨st,q⟩|z
 .exact .inl ⟨st,o,st.1,q⟩
 .exact .inr ⟨z.1,λv H1 y=>⟨[aa v],rfl,rfl,z.2 v H1 y⟩⟩
end
end L2
namespace Pu
open L2
section
variable{X:Cx}{E:XK}{pin:List Nat}{c:Pos}
def mQ:List (aA×PV)->Option (List Int)
 |[]=>aa []
 | (_,.int i)::r=>(mQ r).map (i::·)
 |_=>ae
theorem OA{K:ax}{H:Hp}{F:ag->Prop}:∀{a:List (aA×PV)}{b:List (aA×V)}{is:List Int},gH K H F a b->mQ a=aa is->b.map (·.2)=is.map V.int:=by
 intro a b is h e;unfold gH at h
 induction h generalizing is with
 |nil=>cases e;rfl
 |@cons p q ps qs r _ ih=>
  obtain⟨j,pv⟩:=p;obtain⟨i,f⟩:=q;cases pv <;> simp only[mQ,ly]at e <;> try cases e
  obtain⟨g,d⟩:=r;obtain rfl:f=V.int _:=d;rename_i h;rw[bZ,ih h.1,<-h.2];rfl
def oE(i:Nat):aj->R PO:=λa=>(aB (cP a i) a).bind λb a=>(aB (mQ b) a).bind λis a=>.ok (.lst ((is.filter λn=>decide (0<n)).map .int)) a
theorem BX{K:ax}{H:Hp}{F:ag->Prop}:∀l:List Int,ba K H F (l.map .int) (l.map V.int)
 |[]=>rfl
 |i::l=>⟨_,_,rfl,rfl,BX l⟩
theorem NF{H:Hp}{a l q:ag}{o b:HO}{u v:HO}(e:H a=aa v)(f:l≠a)(d:q≠a):upd (upd (upd (upd H q b) a o) l u) a v=upd (upd H q b) l u:=by
 have:upd H q b a=aa v:=by rw[bv (eD d)];exact e
 exact PY this f
theorem OY{g:d8}{x y:Str}(i:Nat){px p1 p2 p3 p4 G u s:Pos}{c0}(B:io X g x [x] [])(hc:X.calm=ah)(hN:X.N[i]?=aa y:=by rfl)(cU:dA X.env.scope y:=by eq_refl)(hd:(y==("__debug__":Str))=ak:=by decide) (bn:(y==("__classdict__":Str))=ak:=by decide)(iU:jK (.Name y G) "values" X.env (aM (.Name y G) X.env)=aM (.Name y G) X.env:=by rfl) (iV:(u.endLine == s.line)=ah:=by rfl)(hp0:∀C d f A w,PE (bW X g [x] C d f A w) (.Name x p1) (wX 0):=by intro _ _ _ _ _;exact pv 0) (fN:∀C d f A w,PE (bW X g [x] C d f A w) (.Name x p2) (wX 0):=by intro _ _ _ _ _;exact pv 0)(hs:∀x,kN (.Call (.Attribute (.Name y G) "values" u) [] [] s) X.env x=pure x:=by intro _;rfl):DN X E (.ListComp (.Name x p1) [⟨.Name x px,.Call (.Attribute (.Name y G) "values" u) [] [] s,[.Compare (.Name x p2) [.Gt] [.Constant (.int 0) c0 p3] p4],0⟩] g c) (oE i):=λF S ε σ H Q P h=>by
 unfold oE at h;cases e0:cP ε i with
 |none=>rw[e0]at h;exact h.elim
 |some kvs=>
  rw[e0]at h;simp only[bP,R.bind_ok]at h;cases M:mQ kvs with
  |none=>rw[M]at h;exact h.elim
  |some is=>
  rw[M]at h;simp only[bP,R.bind_ok]at h;obtain⟨a,r,ea,ha,hk,hS,_⟩:=P.dkAt (kH e0);have rZ:=OA hk M;have a_:r.length=is.length:=by have:=congrArg o_ rZ;rwa[cM,cM]at this
  refine b8 (LB i B hc hN cU hd bn iU iV (λC d f A w=>Ga (wU (Hj (fN C d f A w) z_))) (λC d f A w=>hp0 C d f A w) hs) ⟨a,r,ea,ha,λo q l hq nd hz D=>?_⟩;have hqa:q≠a:=by rintro rfl;rw[ha]at hq;cases hq
  have O:l≠a:=by rintro rfl;rw[upd_same]at D;cases D
  have J:l≠q:=by rintro rfl;rw[bv O,upd_same]at D;cases D
  have W:H l=ae:=by rw[bv O,bv J]at D;exact D
  let PS:Nat->List V:=λj=>((is.take j).filter λn=>decide (0<n)).map V.int
  refine⟨λj m Y H'=>m=r.length-j/\j<=r.length/\Y=PS j/\H'=upd (upd (upd H q (g7 q a)) a (.frz o (.dK r))) l (.lst Y),⟨_,rfl,jM _,by simp[PS],rfl⟩,?_⟩;rintro j m Y H' ⟨rfl,hj,rfl,rfl⟩;have L:upd (upd (upd H q (g7 q a)) a (.frz o (.dK r))) l (.lst (PS j)) a=aa (.frz o (.dK r)):=by rw[bv (eD O),upd_same]
  by_cases be:j<r.length
  .refine .inr ⟨⟨L,be⟩,λv H1 ⟨M,p,hp,e2⟩=>?_⟩;subst M e2;have K:j<is.length:=∅
   have I:p.2=V.int is[j]:=by
    have h1:(r.map (·.2))[j]?=aa p.2:=by rw[jJ,hp];rfl
    rw[rZ,jJ,gK K]at h1;exact(dP h1).symm
   have T:PS (j+1)=PS j++(if 0<is[j] then [V.int is[j]] else []):=by show((is.take (j+1)).filter λn=>decide (0<n)).map V.int=((is.take j).filter λn=>decide (0<n)).map V.int++_;rw[Qc K,Bd,ph];congr 1;by_cases z:0<is[j] <;> simp[z]
   have c7:(PS j).length<=j:=by show(List.map V.int _).length<=j;rw[cM];exact cH (xM _ _) (by rw[lw];lia)
   refine⟨p.2,rfl,is[j],0,I,rfl,_,rfl,?_⟩;dsimp only;by_cases z:0<is[j]
   .rw[if_pos (show decide (0<is[j])=ah from decide_eq_true z)];rw[if_pos z]at T;refine⟨p.2,rfl,upd_same,∅,r.length-(j+1),∅,rfl,be,?_,?_⟩
    .rw[I];exact T.symm
    .rw[Jn]
   .rw[if_neg (show ¬decide (0<is[j])=ah by rw[decide_eq_false z];exact fg)];rw[if_neg z,ie]at T;exact⟨r.length-(j+1),∅,rfl,be,T.symm,rfl⟩
  .have e:j=r.length:=∅
   subst e;refine .inl ⟨⟨L,aT _⟩,?_⟩;rw[NF ha O hqa];have hPS:PS r.length=(is.filter λn=>decide (0<n)).map V.int:=by show((is.take r.length).filter _).map V.int=_;rw[a_,A_]
   rw[hPS];have N:Al F F H (upd H q (g7 q a)):=Al.new0 hq;have lK:upd H q (g7 q a) l=ae:=by rw[bv J];exact W
   have Z:=P.al N;have al:Al F F (upd H q (g7 q a)) (upd (upd H q (g7 q a)) l (.lst ((is.filter λn=>decide (0<n)).map V.int))):=Al.new0 lK;refine h F S _ (Z.al al) (N.grow.trans al.grow) l (λb=>b=l) ⟨⟨_,upd_same,BX _⟩,λb=>nO⟩ λb z=>?_;subst z;refine⟨W,λz=>?_,λ⟨j,z⟩=>?_,_,upd_same,trivial⟩
   .obtain⟨o,q⟩:=P.ex b z;rw[W]at q;cases q
   .obtain⟨_,_,o,q,_⟩:=P.foot j b z;rw[W]at q;cases q
theorem vt{b:List Int}{a:List ai}(r:bq (b.map V.int) a):IntsAre a b:=by
 induction b generalizing a with
 |nil=>cases r;exact .nil
 |cons i b d=>
  cases r with
  |cons h r=>obtain⟨t,rfl⟩:=h;exact .cons _ _ (d r)
theorem Is(v:X.calm=ah):eG X (.builtin "sum") (λa H Q=>∃(p:ag) (b:List Int),a=[.ref p]/\b9 X.K H p (b.map V.int)/\Q (.int b.sum) H):=by
 intro D s z H a A Q I r h;obtain⟨p,b,rfl,n,q⟩:=h;obtain⟨u,rfl,l⟩:=vals1 r;cases l;obtain⟨d,j,m,B⟩:=I.list n;have g:=vt j;obtain⟨a,f⟩:=g.allInts.items;have w:s.heap.IsList p (intItems a):=f ▸ m.isList;refine sum_intListG (I.ok.hd v) w λC i t' o=>?_;have y:b=a.toList.map (·.1):=by rw[<-nums_intItems,<-f];exact(show numsOf d.toArray.toList=b from g.numsOf).symm
 have x:preSum (numAt a) a.size=b.sum:=by rw[preSum_eq,ki (by simp),y]
 rw[x];exact⟨.int b.sum,H,I.kept (t':=i) o,⟨t',rfl⟩,q⟩
def qH:List PV->Option PV
 |[.lst a]=>(intsQ a).map λis=>.int is.sum
 |_=>ae
where intsQ:List PV->Option (List Int)
 |[]=>aa []
 |.int i::r=>(intsQ r).map (i::·)
 |_=>ae
theorem Cn{K:ax}{H:Hp}{F:ag->Prop}:∀{a:List PV}{b:List V}{is:List Int},ba K H F a b->qH.intsQ a=aa is->b=is.map V.int
 |[],_,_,r,e=>by cases e;exact r
 |x::a,b,is,⟨v,r,g,f,d⟩,e=>by
  cases x <;> simp only[qH.intsQ,ly]at e <;> try cases e
  rename_i h;rw[g,Cn d h.1,<-h.2,show v=_ from f];rfl
theorem K8:PL X.K (λb H Q=>∃(p:ag) (d:List Int),b=[.ref p]/\b9 X.K H p (d.map V.int)/\Q (.int d.sum) H) qH:=λF H b l Q pv g e q=>by
 unfold qH at e;split at e
 .obtain⟨v,rfl,a,m,rfl,h,_,f⟩:=gC g;obtain⟨is,j,i⟩:=ly.mp e;have:=Cn f j;subst this;subst i;exact⟨a,is,rfl,.inl h,q _ F H (Al.refl ..) rfl⟩
 .cases e
end
end Pu
namespace L2
open Mx
section
variable{P:aS}{w:aG}{A:aX}{E:ai->ao->Prop}{s:ao}
def QrIs(h:az)(k:Str×List Str)(v:ai):Prop:=∃(a b:ag) (t:Tok) (c:Array ai),v=.ref a/\IsTup h a #[.str k.1 t,.ref b]/\IsTup h b c/\dH c.toList k.2
theorem QrIs.inj{h:az}{k d:Str×List Str}{v:ai}(x:QrIs h k v)(y:QrIs h d v):k=d:=by
 obtain⟨a,b,t,g,rfl,l,j,i⟩:=x;obtain⟨q,p,o,f,e,m,n,c⟩:=y;cases e;have:=tup_uniq l m;injection this with this;injection this with e1 e2;injection e2 with e2 _;injection e1 with e1 _;injection e2 with e2;subst e2;obtain rfl:=tup_uniq j n;exact Prod.ext e1 (strs_uniq i c)
theorem QrIs.keep{h c:az}{k:Str×List Str}{v:ai}(x:QrIs h k v)(g:∀b o,h.get? b=aa o->c.get? b=aa o):QrIs c k v:=by obtain⟨a,b,t,its,rfl,i,f,d⟩:=x;exact⟨a,b,t,its,rfl,tup_kept i λb o e _=>g b o e,tup_kept f λb o e _=>g b o e,d⟩
def qrK(k:Str×List Str):List Tx:=k.1.cps.toList::cpsL k.2
def qrKey(h:az):KeyKind where
 toKeyOrd:=ordL
 keyOf:=λv=>open Classical in if z:∃k,QrIs h k v then aa (qrK z.choose)else ae
 dflt:=([]:List Tx)
theorem qrKey_of{h:az}{k:Str×List Str}{v:ai}(x:QrIs h k v):(qrKey h).keyOf v=aa (qrK k):=by
 have z:∃k,QrIs h k v:=⟨k,x⟩
 show(open Classical in if z:∃k,QrIs h k v then aa (qrK z.choose)else ae)=_;rw[dif_pos z,z.choose_spec.inj x]
theorem qrKey_some{h:az}{q:List Tx}{v:ai}(x:(qrKey h).keyOf v=aa q):∃k,QrIs h k v/\qrK k=q:=by
 by_cases z:∃k,QrIs h k v
 .obtain⟨k,z⟩:=z;rw[qrKey_of z]at x;exact⟨k,z,dP x⟩
 .have:(qrKey h).keyOf v=ae:=dif_neg z;rw[this]at x;cases x
theorem qrLt{h j:az}(N:A.units+8<cLine)(k:∀b o,h.get? b=aa o->j.get? b=aa o):hG (qrKey h) (tuples' ah) P w A {s with heap:=j}:=λE x y a b Q H G C=>by
 obtain⟨d,B,rfl⟩:=qrKey_some H;obtain⟨c,v,rfl⟩:=qrKey_some G;obtain⟨S,b1,t,u,rfl,I,p,n⟩:=B.keep k;obtain⟨O,b2,t',l,rfl,J,q,g⟩:=v.keep k;obtain⟨o,D,_,m,F⟩:=I;obtain⟨L,K,_,M,r⟩:=J;have f:Q (if d.1.cps.toList=c.1.cps.toList then ltL (cpsL d.2) (cpsL c.2)else decide (d.1.cps.toList<c.1.cps.toList)) {s with heap:=j}:=by rw[<-ltL_cons];exact C
 refine PySem.W.kat_lt D F K r ?_;show PySem.W.KatLex P w A ah _ Q [(Value.str d.1 t,Value.str c.1 t'),(Value.ref b1,Value.ref b2)] 0 _;refine PySem.W.kat_cons (Go d.1 t c.1 t' _ _ _ _ ?_);by_cases i:d.1=c.1
 .rw[if_pos (by rw[i])]at f;rw[i,beq_self_eq_true];refine PySem.W.kat_yes (PySem.W.kat_cons (eq_strs ∅ p n q g _ _ _ _ ?_));by_cases e:d.2=c.2
  .rw[e]at f;rw[decide_eq_true e];refine PySem.W.kat_yes (PySem.W.kat_nil ?_);have:ltL (cpsL c.2) (cpsL c.2)=ak:=ordL.irrefl _;rw[this]at f;simpa using f
  .rw[decide_eq_false e];refine PySem.W.kat_no ?_;show aq _ _ (oneLt' (ah&&(1 == 0)) _ _) _ _ _;simp only[show((1:Nat) == 0)=ak from rfl,Bool.and_false];exact PySem.W.kat_one _ _ (lt_tupStrs p q n g ∅ f)
 .rw[if_neg (λz=>i (cps_inj z))]at f;rw[beq_false_of_ne i];refine PySem.W.kat_no ?_;exact oneLt_str f
theorem qr_kind{c:List ai}{Q:gs->ao->Prop}(d:∀v∈c,∃k,QrIs s.heap k v)(C:2<=c.length)(h:Q (tuples' ah) s):aq (ar P w) A (keyKind' c.toArray) Q E s:=by
 have i:∀(c:List ai),(∀v∈c,∃k,QrIs s.heap k v)->∃fs,PySem.W.KatTups s.heap c fs/\fs.length=c.length/\∀f∈fs,∃z t,f=Value.str z t:=by
  intro c
  induction c with
  |nil=>intro _;exact⟨[],PySem.W.KatTups.nil,rfl,λf g=>by simp at g⟩
  |cons v c q=>
   intro d;obtain⟨fs,l,n,j⟩:=q λu r=>d u (iN _ r);obtain⟨k,a,b,t,p,rfl,⟨o,x,B,m,y⟩,_⟩:=d v kK;refine⟨.str k.1 t::fs,PySem.W.KatTups.cons x B y rfl l,by simp[n],λf g=>?_⟩;rcases bw.mp g with rfl|g
   .exact⟨_,t,rfl⟩
   .exact j f g
 obtain⟨fs,l,n,j⟩:=i c d;refine PySem.W.kat_kind (T:=.type "str") l ∅ (λv d=>?_) (by decide) ?_
 .obtain⟨z,t,rfl⟩:=j v d;exact .now
 .have:(Value.type "str" != Value.type "tuple")=ah:=by decide
  rw[this];exact h
abbrev QrK:=Tx×List Tx
def QrH(H:Hp)(k:QrK)(a:ag):Prop:=∃b,H a=aa (.tup [tV k.1,.ref b])/\H b=aa (.tup (bU k.2))
theorem QrH.is{P:aS}{w:aG}{H:Hp}{h:az}{k:QrK}{a:ag}(ok:c9 P w H h)(x:QrH H k a):QrIs h (tS k.1,k.2.map tS) (.ref a):=by
 obtain⟨b,j,i⟩:=x;obtain⟨_,g,r,p,_⟩:=(show b7 P w H h a (.tup [tV k.1,.ref b])from ok a _ j)
 obtain⟨_,c,d,f,_⟩:=(show b7 P w H h b (.tup (bU k.2))from ok b _ i)
 cases r with
 |cons m r=>cases r with
  |cons l r=>
   cases r;obtain⟨t,rfl⟩:=m;cases l;exact⟨a,b,t,c.toArray,rfl,p,f,by have:=sh d;rw[AM];exact this⟩
def refsQ(a:List (QrK×ag)):List V:=a.map λq=>.ref q.2
theorem refsQ_vals:∀{a:List (QrK×ag)}{b:List ai},bq (refsQ a) b->b=a.map λq=>Value.ref q.2
 |[],_,h=>by cases h;rfl
 |q::a,_,h=>by
  cases h with
  |cons d c=>cases d;rw[refsQ_vals c];rfl
theorem vals_refsQ:∀(a:List (QrK×ag)),bq (refsQ a) (a.map λq=>Value.ref q.2)
 |[]=>.nil
 |q::a=>.cons rfl (vals_refsQ a)
section
variable{X:Cx}
theorem call_sortedQr(hu:X.A.units+64<cLine)(hc:X.calm=ah):eG X (.builtin "sorted") (λJ H Q=>∃(p:ag) (j:List (QrK×ag)),J=[.ref p]/\b9 X.K H p (refsQ j)/\(∀q∈j,QrH H q.1 q.2)/\j.length<=1000000 /\ ∀l f,H l=ae->Be f j->f.Pairwise (λx y=>ltL (y.1.1::y.1.2) (x.1.1::x.1.2)=ak)->Q (.ref l) (upd H l (.lst (refsQ f)))):=by
 intro af s M H J us Q I r h;obtain⟨p,j,rfl,Z,hP,F,q⟩:=h;obtain⟨u,rfl,O⟩:=vals1 r;cases O;obtain⟨D,N,T,hz⟩:=I.list Z;have a:=refsQ_vals N;have c:∀(i:az),(∀b o,s.heap.get? b=aa o->i.get? b=aa o)->∀x∈j,QrIs i (tS x.1.1,x.1.2.map tS) (.ref x.2):=λi k x g=>((hP x g).is I.hok).keep k;refine sorted_genK ∅ (collect_list T.isList ?_ (by rw[a,cM];exact kc (sR F)));obtain⟨d,G⟩:∃d,d=(s.heap.push (gw "list" #[] 0)).update s.heap.objs.size (jn (·++D.toArray)):=⟨_,rfl⟩
 have k:∀b o,s.heap.get? b=aa o->d.get? b=aa o:=λb o e=>by rw[G];exact(nJ _ _ (λz:s.heap.objs.size=b=>eL _ (z ▸ bC e))).trans (bx _ e)
 rw[<-G];clear G;have L:Inv X af M H {s with heap:=d,toks:=s.toks}:=I.kept (t':=s.toks) k;refine⟨qrKey d,tuples' ah,λv m=>?_,by rw[a,cM];exact F,λA' i hA n gL=>⟨qrLt hA n,λ{E Q} S=>qr_kind (s:={s with heap:=i,toks:=s.toks}) (λv m=>?_) gL S⟩,λi C e n W b1 b2=>?_⟩
 .rw[a]at m;obtain⟨x,g,rfl⟩:=bV.mp m;exact⟨_,qrKey_of (c d k x g)⟩
 .rw[a]at m;obtain⟨x,g,rfl⟩:=bV.mp m;exact⟨_,c i (λb o e=>n b o (k b o e)) x g⟩
 .rw[a]at b1;obtain⟨f,K,B⟩:=perm_mapE b1;refine⟨.ref _,_,L.laid (t':=s.toks) (o:=.lst (refsQ f)) n (aT _) ⟨?_,C.toList,e,by rw[K];exact vals_refsQ f,by rw[Array.toArray_toList];exact W⟩,rfl,q _ f L.fresh B ?_⟩
  .unfold refsQ;rw[cM,B.length_eq];exact kc (sR F)
  .rw[K]at b2;refine(xC.mp b2).imp_of_mem λ{x y} g Y hh=>?_;have:ltL _ _=ak:=hh _ _ (qrKey_of (c d k x (B.mem_iff.mp g))) (qrKey_of (c d k y (B.mem_iff.mp Y)));simpa[qrK,cpsL,d9,GQ,kC]using this
end
end
end L2
namespace Pu
open L2
section
variable{X:Cx}{E:XK}{pin:List Nat}{d:Pos}
def qz(i:Nat):aj->R PV:=λa=>(aB (dm a i) a).bind λxs a=>match xs with
 |v::r=>.ok v (a.set i (.own (.lst r)))
 |[]=>.no
theorem OX(i:Nat){x:Str}{p c b f:Pos}{z:Nat}(I:X.N[i]?=aa x:=by rfl)(C:dA X.env.scope x:=by eq_refl)(G:(x==("__debug__":Str))=ak:=by decide)(N:(x==("__classdict__":Str))=ak:=by decide) (M:jK (.Name x p) "pop" X.env (aM (.Name x p) X.env)=aM (.Name x p) X.env:=by rfl)(L:((cY b (aQ [.Constant (.int 0) z f] X.env)).all (λx=>!x.1)&&(o8 b (o9 [] X.env)).all (λx=>x.1.isSome)&&decide ([Expr.Constant (.int 0) z f].length+([]:List jl).length+(if([]:List jl).isEmpty then 0 else 1)<30))=ah:=by rfl)(K:(c.endLine == b.line)=ah:=by rfl) (m:aQ [.Constant (.int 0) z f] X.env=(ak,aM (.Constant (.int 0) z f) X.env)::aQ [] X.env:=by rfl) (J:(cY b (aQ [] X.env)).any (·.1)=ak:=by rfl):DE X E (.Call (.Attribute (.Name x p) "pop" c) [.Constant (.int 0) z f] [] b) (qz i):=λF S q O H Q j h=>by
 unfold qz at h;cases g:dm q i with
 |none=>rw[g]at h;exact h.elim
 |some s=>
  rw[g]at h;simp only[bP,R.bind_ok]at h;obtain⟨a,P,o,l,B,_,_⟩:=j.lstAt (gF g);cases s with
  |nil=>exact h.elim
  |cons v r=>
   obtain⟨u,w,rfl,y,D⟩:=B;obtain⟨A,n⟩:=j.upd (gF g) o D;refine b8 (wS AW PySem.F.slot_list_pop PySem.F.type_list_pop JK (eI I C G N) (gZ z_ i8 m) M L K m J) ⟨.ref a,o,.inl ⟨rfl,_,b9.of l⟩,a,u::w,0,0,u,rfl,rfl,l,by decide,by decide,?_,rfl,?_⟩
   .simp[seqIndex?]
   .exact h F S _ A n u (y.grow n j.fit)
def j9(i j:Nat)(c:aj->R aF):List PV->aj->R aF
 |[],b=>.ok .next b
 |x::f,b=>match x with
  |.tup [u,v]=>match c ((b.set i (.val u)).set j (.val v))with
   |.ok .next a=>j9 i j c f a
   |.ok .cont a=>j9 i j c f a
   |.ok .brk a=>.ok .next a
   |r=>r
  |_=>.no
def qG(i j:Nat)(c:aj->R (List PV))(f:aj->R aF):aj->R aF:=λa=>(c a).bind λb ε1=>j9 i j f b ε1
theorem Pk(i j:Nat){x y:Str}{p p2 B:Pos}{k:Nat}{n:ay}{o:List bf}{di:aj->R (List PV)}{M:aj->R aF}(uS:xu (ar X.prog X.w) X.A X.env X.xe)(hc:X.calm=ah)(hN:X.N.Nodup)(hi:DI X E (.Tuple [.Name x p,.Name y p2] k B) n di)(hb:ij X E pin o M)(hp:i∉pin:=by decide) (eW:j∉pin:=by decide) (K:X.N[i]?=aa x:=by rfl) (hy:X.N[j]?=aa y:=by rfl) (Z:Loc X.env.scope x:=by first|exact Or.inl rfl|exact Or.inr rfl) (gL:Loc X.env.scope y:=by first|exact Or.inl rfl|exact Or.inr rfl) (hs:∀x,kN n X.env x=pure x:=by intro _;rfl)(hf:X.fn x=ah\/X.env.scope.names.lookup x=aa .local:=by first|exact .inl rfl|exact .inr rfl) (uO:X.fn y=ah\/X.env.scope.names.lookup y=aa .local:=by first|exact .inl rfl|exact .inr rfl):DS X E pin (.For (.Tuple [.Name x p,.Name y p2] k B) n o [] d) (qG i j di M):=λF S ε σ H D rl h=>by
 refine gf (Eg uS hc tZ (NA hc (FV (xq hN K Z hf) (FV (xq hN hy gL uO) Nq))) oN hs) (hi F S ε σ H _ rl (h.bindE.imp λC O F1 S1 H1 r1 g1 h1 J vs RR rs hz hw keep=>?_));refine EV hw (λk a m=>∃r z l,aN X.K r z l a m/\bt (U S1) (U z) F1 r H1 m/\gG X.K E pin a r z m (j9 i j M (C.drop k) l) D) ⟨F1,S1,O,r1,bt.refl ..,h1⟩ (λk a m _ ⟨r,z,l,_,g,_⟩=>keep z r m g) ?_ ?_
 .rintro k v a m hv ⟨r,z,l,W,L,q⟩;obtain⟨x,K,rx⟩:=rs.back hv;have hk:k<C.length:=(dG.mp K).1;have ed:C.drop k=x::C.drop (k+1):=by rw[ui hk];congr 1;exact(dG.mp K).2
  rw[ed]at q;have T:=rx.grow L r1.fit;unfold j9 at q;split at q
  .rename_i u w;obtain⟨pp,us,rfl,eX,ru⟩:=T;obtain⟨Q,ra,rfl,r2,P,rb,rfl,G,rfl⟩:=ru;have r5:=(W.set (i:=i) r2).set (i:=j) G;have gl:bt (U z) (U λY b=>(z Y b/\Y≠i)/\Y≠j) r r m m:=(bt.less i).trans (bt.less j);refine⟨pp,_,rfl,cL.of eX,rfl,Q,_,rfl,P,_,rfl,rfl,?_⟩;show oy X o _ ((a.set i (aa Q)).set j (aa P)) m;refine hb r _ _ _ m _ r5 ?_;have q:=q.from gl ((jw.set (x:=aa Q) hp).trans (jw.set (x:=aa P) eW));cases e:M ((l.set i (.val u)).set j (.val w))with
   |no=>rw[e]at q;exact q
   |er c A=>rw[e]at q;exact q
   |ok f A=>
    rw[e]at q;cases f with
    |next=>exact λF3 S3 N H3 G I B=>⟨F3,S3,A,G,(L.trans gl).trans I,q.from I B⟩
    |cont=>exact λF3 S3 N H3 G I B=>⟨F3,S3,A,G,(L.trans gl).trans I,q.from I B⟩
    |brk=>exact q
    |ret s=>exact q
  .exact q.elim
 .rintro a m ⟨r,z,l,W,L,q⟩;have Z:vs.length=C.length:=rs.len;rw[Z,GD]at q;exact q r z a m W (bt.refl ..) (jw.refl _ _)
def tG:PV->Option QrK
 |.tup [.str x,.tup a]=>(fG a).map λb=>(x,b)
 |_=>ae
def sF:List PV->Option (List QrK)
 |[]=>aa []
 |x::a=>(tG x).bind λk=>(sF a).bind λks=>aa (k::ks)
def cq(k:QrK):PV:=.tup [.str k.1,.tup (am k.2)]
def qN(a b:QrK):Bool:=j_ (a.1::a.2) (b.1::b.2)
def ko(ks:List QrK):List QrK:=ks.mergeSort qN
def oW:List PV->Option PO
 |[.lst a]=>(sF a).bind λks=>if ks.length<=1000000 then aa (.lst ((ko ks).map cq))else ae
 |_=>ae
theorem J9{x:PV}{k:QrK}(h:tG x=aa k):x=cq k:=by
 unfold tG at h;split at h
 .obtain⟨b,a,rfl⟩:=ly.mp h;rw[qc a];rfl
 .cases h
theorem Cc:∀{a:List PV}{ks:List QrK},sF a=aa ks->a=ks.map cq
 |[],ks,h=>by cases h;rfl
 |x::a,ks,h=>by
  obtain⟨k,i,g⟩:=ul.mp h;obtain⟨b,f,c⟩:=ul.mp g;cases c;rw[Cc f,J9 i];rfl
theorem DJ:∀ks:List QrK,sF (ks.map cq)=aa ks
 |[]=>rfl
 |k::ks=>by
  show(tG (cq k)).bind _=_;have:tG (cq k)=aa k:=by show(fG (am k.2)).map _=_;rw[n9];rfl
  rw[this,jP,DJ ks];rfl
theorem MB{K:ax}{H:Hp}{F:ag->Prop}{k:QrK}{v:V}(h:aO K H F (cq k) v):∃a,v=.ref a/\QrH H k a:=by obtain⟨a,n,rfl,f,p,q,rfl,l,o,g,rfl,⟨b,m,rfl,c,j⟩,i⟩:=h;rw[show g=[] from i,l.1]at f;rw[(Qy.mp j).1]at c;exact⟨a,rfl,b,f,c⟩
theorem Fm{K:ax}{H:Hp}{F:ag->Prop}:∀{ks:List QrK}{f:List V},ba K H F (ks.map cq) f->∃b:List (QrK×ag),b.map (·.1)=ks/\f=refsQ b/\∀q∈b,QrH H q.1 q.2/\aO K H F (cq q.1) (.ref q.2)
 |[],_,h=>⟨[],rfl,h,λq c=>by cases c⟩
 |k::ks,_,⟨v,r,e,g,n⟩=>by
  obtain⟨a,rfl,m⟩:=MB g;obtain⟨b,l,j,i⟩:=Fm n;refine⟨(k,a)::b,by rw[bZ,l],by rw[e,j];rfl,λq c=>?_⟩;rcases bw.mp c with rfl|c
  .exact⟨m,g⟩
  .exact i q c
theorem C_{K:ax}{H:Hp}{F:ag->Prop}:∀{a:List (QrK×ag)},(∀q∈a,aO K H F (cq q.1) (.ref q.2))->ba K H F ((a.map (·.1)).map cq) (refsQ a)
 |[],_=>rfl
 |q::a,h=>⟨_,_,rfl,h q kK,C_ λx b=>h x (iN _ b)⟩
theorem OJ{ks f:List QrK}(i:f.Perm ks)(g:f.Pairwise (λx y=>ltL (y.1::y.2) (x.1::x.2)=ak)):f=ko ks:=by refine List.Perm.eq_of_pairwise (le:=λa b=>qN a b=ah) (λa b _ _ l j=>?_) (g.imp λh=>by unfold qN j_;rw[h];rfl) (List.pairwise_mergeSort (le:=qN) (λa b c=>Ix (a.1::a.2) (b.1::b.2) (c.1::c.2)) (λa b=>Pi (a.1::a.2) (b.1::b.2)) ks) (i.trans (Gy ks qN).symm);have:=Op _ _ l j;injection this with e1 e2;exact Prod.ext e1 e2
theorem B8(ks:List QrK):(ko ks).Perm ks:=Gy ks qN
theorem PP:kr X.K (λn H Q=>∃(p:ag) (b:List (QrK×ag)),n=[.ref p]/\b9 X.K H p (refsQ b)/\(∀q∈b,QrH H q.1 q.2)/\b.length<=1000000 /\ ∀l g,H l=ae->Be g b->g.Pairwise (λx y=>ltL (y.1.1::y.1.2) (x.1.1::x.1.2)=ak)->Q (.ref l) (upd H l (.lst (refsQ g)))) oW:=λF H n M Q O J g e q=>by
 unfold oW at e;split at e
 .obtain⟨v,rfl,a,N,rfl,I,_,A⟩:=gC g;obtain⟨ks,L,j⟩:=ul.mp e;have:=Cc L;subst this;obtain⟨b,s,rfl,r⟩:=Fm A;split at j
  .rename_i G;cases j;refine⟨a,b,rfl,.inl I,λq D=>(r q D).1,by rw[<-cM (f:=(·.1)),s];exact G,λl m i u C=>?_⟩;have al:Al F F H (upd H l (.lst (refsQ m))):=Al.new0 i;have K:m.map (·.1)=ko ks:=by rw[<-s];exact OJ (u.map _) (xC.mpr C)
   refine q l F _ (λc=>c=l) al ⟨⟨_,upd_same,?_⟩,λc=>nO⟩ λc z=>?_
   .rw[<-K];refine C_ λy B=>?_;exact aO.mono (λ_ h=>h) (λ_ _ _ h=>al.same.rd h) (λc o h _=>al.same c o h) _ _ (r y (u.mem_iff.mp B)).2
   .subst z;exact⟨i,λz=>Exists.elim (J _ z) (λo w=>by rw[i]at w;cases w),_,upd_same,trivial⟩
  .cases j
 .cases e
end
end Pu
local macro_rules | `(tactic| simp! [$xs,*]) => `(tactic| simp [Pu.aD, Pu.b_, Pu.dB, Pu.d2, Pu.d1, Pu.dV, Pu.dC, Pu.dL, Pu.dF, Pu.aI, Pu.aU, Pu.cC, Pu.sy, Pu.br, Pu.dS, Pu.aV, Pu.gV, Pu.gO, Pu.bN, Pu.ii, Pu.gh, Pu.cN, Pu.fe, Pu.fP, Pu.R.bind, Pu.aB, Pu.bH, Pu.fz, Pu.bF, Pu.back, Pu.fW, Pu.km, Pu.oP, Pu.qi, Pu.tQ, Pu.zA, Pu.bd, Pu.kx, Pu.jX, Pu.g8, Pu.cX, Pu.Ab, Pu.nA, Pu.OG, Pu.mT, Pu.zX, Pu.sA, Pu.mP, Pu.n6, Pu.MA, Pu.qy, Pu.dR, Pu.dm, Pu.lZ, Pu.fF, Pu.iE, Pu.imm, Pu.nr, Pu.iG, dy, o_, $xs,*])
local macro_rules | `(⇑$x) => `(.val (.int $x))
local macro_rules | `(↥$x) => `(.val (.str $x))
namespace Sh
open L2 Pu
set_option genInjectivity false in
structure Ad where
 SlitError:ag
 NoText:ag
 NoWidth:ag
 NoView:ag
 NoWindow:ag
 Never:ag
 Full:ag
 Nothing:ag
 Unlike:ag
 NoPlace:ag
 NoLetters:ag
 BadText:ag
 Seeker:ag
 Slit:ag
def yaj(a:Ad):aj->R aF:=cC (dL qJ (aI (dF (cR [1] (bI (dV 0)) (dYes) (d2 (kq ak) (dV 0) (dV 1)))) (aU)))
def w8(a:Ad):aj->R Slot:=bH 2 [] (bF 0 (yaj a))
def yan(a:Ad):aj->R aF:=cC (n6 (dL jg (aI (dV 0) (aI (dC (.raw (.ty "int"))) (aU)))) (zX (dL jg (aI (dV 0) (aI (dC (.raw (.ty "bool"))) (aU))))))
def vB(a:Ad):aj->R Slot:=bH 1 [] (bF 0 (yan a))
def yao(a:Ad):aj->R aF:=cC (n6 (bd (aV (vB a) (gV (dV 0) (bN)))) (qy (dR λi j=>decide (i<=j)) (dR λi j=>decide (i<=j)) (dC (.int 1)) (dV 0) (dC (.int 4))))
def qS(a:Ad):aj->R Slot:=bH 1 [] (bF 0 (yao a))
def yap(a:Ad):aj->R aF:=cC (n6 (dL jg (aI (dV 0) (aI (dC (.raw (.ty "str"))) (aU)))) (n6 (d2 (eqT ak) (dL bS (aI (dV 0) (aU))) (dV 1)) (bd (aV (w8 a) (gV (dV 0) (gV (dV 2) (bN)))))))
def qO(a:Ad):aj->R Slot:=bH 3 [] (bF 0 (yap a))
def yad(a:Ad):aj->R aF:=aD (b_ (mP (mT (dB (dL jg (aI (dV 0) (aI (dC (.raw (.ty "tuple"))) (aU)))))) (mT (dB (qy (dR λi j=>decide (i<=j)) (dR λi j=>decide (i<=j)) (dC (.int 1)) (dL bS (aI (dV 0) (aU))) (dC (.int 9)))))) (cC (dC (.bl ak))) (cX))
 (aD (b_ (mT (dB (dL qJ (aI (dF (cR [1,2] (bI (dV 0)) (dYes) (bd (aV (qO a) (gV (dV 0) (gV (dV 1) (gV (dV 2) (bN)))))))) (aU))))) (cC (dC (.bl ak))) (cX))
 (cC (d2 (eqT ak) (dF (dL l8 (aI (dV 0) (aU)))) (dF (dL l9 (aI (dV 0) (aU)))))))
def nh(a:Ad):aj->R Slot:=bH 3 [] (bF 0 (yad a))
def yam(a:Ad):aj->R aF:=aD (b_ (mP (mT (dB (dL jg (aI (dV 0) (aI (dC (.raw (.ty "tuple"))) (aU)))))) (dB (d2 (eqT ah) (dL bS (aI (dV 0) (aU))) (dC (.int 2))))) (cC (dC (.bl ak))) (cX))
 (cC (n6 (bd (aV (qS a) (gV (d2 bL (dV 0) (dC (.int 0))) (bN)))) (bd (aV (nh a) (gV (d2 bL (dV 0) (dC (.int 1))) (gV (d2 bL (dV 0) (dC (.int 0))) (gV (dV 1) (bN))))))))
def qB(a:Ad):aj->R Slot:=bH 2 [] (bF 0 (yam a))
def yal(a:Ad):aj->R aF:=sy (aV (qB a) (gV (dV 0) (gV (dC (.str [97,98,99])) (bN))))
def wu(a:Ad):aj->R Slot:=bH 1 [] (bF 0 (yal a))
def yae(a:Ad):aj->R aF:=b_ (mT (dB (bd (aV (wu a) (gV (dV 0) (bN)))))) (CJ (.ref a.NoView) (λb=>dX ((dC (.str [97,32,118,105,101,119,32,105,115,32,97,32,116,117,112,108,101,32,111,102,32,97,32,119,105,100,116,104,32,97,110,100,32,97,32,114,105,115,105,110,103,32,116,117,112,108,101,32,111,102,32,49,32,116,111,32,57,32,119,105,110,100,111,119,115])) b))) (cX)
def qo(a:Ad):aj->R Slot:=bH 1 [] (bF 0 (yae a))
def yaf(a:Ad):aj->R aF:=aD (dS 1 (qw))
 (aD (λb=>cV (eU 2 (bI (dV 0)) (eZ 1 (dV 2) (d2 aZ (g9 1 (dV 2) (dC (.int 0))) (dC (.int 1)))) b))
 (j5 1))
def tX(a:Ad):aj->R Slot:=bH 1 [] (bF 2 (yaf a))
def yac(a:Ad)(c:aj->R Slot):aj->R aF:=aD (b_ (mT (dB (sS 2))) (aD (lZ 3 (dV 0)) (Ab (.ret (.val .non)))) (cX))
 (aD (br 4 (cg cu (dV 0) (ca (d2 aZ (d2 jc (dL bS (aI (dV 0) (aU))) (dV 1)) (dC (.int 1)))) (cz)))
 (λb=>cV (eU 5 (bI (dC (.str [97,98,99]))) (aD (br 6 (d2 aZ (dV 4) (dV 5)))
 (b_ (dB (d2 (dR λi j=>decide (j<i)) (g9 2 (dV 6) (dC (.int 0))) (dC (.int 0)))) (aD (eZ 2 (dV 6) (d2 jc (me 2 (dV 6)) (dC (.int 1))))
 (aD (nA (aV (c) (gV (d2 aZ (dV 0) (dV 5)) (gV (dV 1) (gO 2 (gO 3 (bN)))))))
 (eZ 2 (dV 6) (d2 aZ (me 2 (dV 6)) (dC (.int 1)))))) (cX))) b)))
def nu(a:Ad):Nat->aj->R Slot
 |0=>bH 4 [2,3] (bF 3 yZ)
 |k+1=>bH 4 [2,3] (bF 3 (yac a (nu a k)))
def yaC(a:Ad):aj->R aF:=aD (nA (aV (qo a) (gV (dV 0) (bN))))
 (aD (br 1 (d2 bL (dV 0) (dC (.int 0))))
 (aD (dS 2 (dL jX (aU)))
 (aD (λb=>cV (eU 3 (bI (dF (dL tL (aI (dF (cR [] (bI (d2 bL (dV 0) (dC (.int 1)))) (dYes) (cg cu (dV 0) (cz) (ca (d1 dJ (dC (.int 1))))))) (aU))))) (nA (mS (nu a 12) (kw (dV 3) (kw (dV 1) (gN (kx (aV (tX a) (gV (d2 bL (dV 0) (dC (.int 1))) (bN)))) (gO 2 (bN))))))) b))
 (j5 2))))
def wP(a:Ad):aj->R Slot:=bH 1 [] (bF 3 (yaC a))
def yak(a:Ad):aj->R aF:=cC (dL bS (aI (bd (aV (wP a) (gV (dV 0) (bN)))) (aU)))
def v9(a:Ad):aj->R Slot:=bH 1 [] (bF 0 (yak a))
def yag(a:Ad):aj->R aF:=aD (dS 1 (qw))
 (aD (λb=>cV (eU 2 (bI (dV 0)) (aD (eZ 1 (cg cu (dV 2) (cz) (ca (d1 dJ (dC (.int 1))))) (d2 aZ (g9 1 (cg cu (dV 2) (cz) (ca (d1 dJ (dC (.int 1))))) (dC (.int 0))) (dC (.int 1))))
 (eZ 1 (cg cu (dV 2) (ca (dC (.int 1))) (cz)) (d2 jc (g9 1 (cg cu (dV 2) (ca (dC (.int 1))) (cz)) (dC (.int 0))) (dC (.int 1))))) b))
 (j5 1))
def vA(a:Ad):aj->R Slot:=bH 1 [] (bF 2 (yag a))
def yaB(a:Ad):aj->R aF:=aD (dS 1 (su (cg cu (d2 bL (dV 0) (dC (.int 0))) (cz) (ca (d1 dJ (dC (.int 1))))) (dC (.bl ah))))
 (aD (br 2 (dC (.int 0)))
 (aD (λb=>cV (dZ (dB (d2 (dR λi j=>decide (i<j)) (dV 2) (l_ 1))) (aD (br 2 (l_ 1))
 (eU 3 (bI (dV 0)) (b_ (mP (dB (fU ak 1 (cg cu (dV 3) (cz) (ca (d1 dJ (dC (.int 1))))))) (dB (fU ak 1 (cg cu (dV 3) (ca (dC (.int 1))) (cz))))) (aD (eZ 1 (cg cu (dV 3) (cz) (ca (d1 dJ (dC (.int 1))))) (dC (.bl ah)))
 (eZ 1 (cg cu (dV 3) (ca (dC (.int 1))) (cz)) (dC (.bl ah)))) (cX)))) 1000 b))
 (j5 1)))
def tp(a:Ad):aj->R Slot:=bH 1 [] (bF 3 (yaB a))
def yah(a:Ad):aj->R aF:=aD (dS 1 (kx (aV (vA a) (gV (dV 0) (bN)))))
 (cC (dL nq (aI (dC (.int 1)) (aI (dL qH (aI (dF (oE 1)) (aU))) (aU)))))
def xj(a:Ad):aj->R Slot:=bH 1 [] (bF 1 (yah a))
def yai(a:Ad):aj->R aF:=aD (nA (aV (qo a) (gV (dV 0) (bN))))
 (aD (br 1 (d2 bL (dV 0) (dC (.int 1))))
 (aD (br 2 (dC (.int 0)))
 (aD (λb=>cV (dZ (dB (d2 (dR λi j=>decide (j<i)) (dL bS (aI (dV 1) (aU))) (dC (.int 0)))) (aD (dS 3 (kx (aV (tp a) (gV (dV 1) (bN)))))
 (aD (br 2 (d2 aZ (dV 2) (bd (aV (xj a) (gV (dF (cR [3] (bI (dV 1)) (dB (fU ak 1 (cg cu (dV 0) (cz) (ca (d1 dJ (dC (.int 1))))))) (dV 0))) (bN))))))
 (br 1 (dF (cR [3] (bI (dV 1)) (dB (fU ah 1 (cg cu (dV 0) (cz) (ca (d1 dJ (dC (.int 1))))))) (dV 0)))))) 1000 b))
 (cC (dV 2)))))
def vT(a:Ad):aj->R Slot:=bH 1 [] (bF 3 (yai a))
def yar(a:Ad):aj->R aF:=aD (b_ (dB (d2 (dR λi j=>decide (i<j)) (dV 1) (dL bS (aI (dV 0) (aU))))) (cC (d2 bL (dV 0) (dV 1))) (cX))
 (aD (b_ (dB (d2 (eqT ak) (dV 0) (dF (dL jX (aU))))) (cC (dC (.int 0))) (cX))
 (cC (d2 aZ (d2 kF (d2 bL (dV 0) (d2 f_ (dV 1) (dL bS (aI (dV 0) (aU))))) (dC (.int 31))) (dV 1))))
def qA(a:Ad):aj->R Slot:=bH 2 [] (bF 0 (yar a))
def yau(a:Ad):aj->R aF:=aD (br 3 (d2 f_ (d2 aZ (d2 aZ (d2 kF (bd (aV (qA a) (gV (dV 0) (gV (dV 1) (bN))))) (dC (.int 1103515245))) (d2 kF (dC (.int 7919)) (dV 1))) (dC (.int 12345))) (dC (.int 2147483647))))
 (cC (d2 f_ (d2 f_ (d2 f_ (d2 sO (dV 3) (dC (.int 5))) (dC (.int 2147483647))) (dC (.int 999983))) (dV 2)))
def wZ(a:Ad):aj->R Slot:=bH 3 [] (bF 1 (yau a))
def yat(a:Ad):aj->R aF:=aD (lZ 1 (dC (.int 0)))
 (sy (aV (wZ a) (gV (dV 0) (gV (fF (λb=>iE (bS b)) 1) (gV (dV 2) (bN))))))
def gI(a:Ad):aj->R Slot:=bH 3 [1] (bF 0 (yat a))
def yav(a:Ad):aj->R aF:=cC (d2 bL (dV 2) (bd (aV (gI a) (gV (dV 0) (gO 1 (gV (dL bS (aI (dV 2) (aU))) (bN)))))))
def v_(a:Ad):aj->R Slot:=bH 3 [1] (bF 0 (yav a))
def yax(a:Ad):aj->R aF:=aD (br 4 (bd (aV (v_ a) (gV (dV 0) (gO 1 (gV (dF (dL jX (aI (dC (.int 1)) (aI (dC (.int 2)) (aI (dC (.int 2)) (aI (dC (.int 3)) (aI (dC (.int 3)) (aI (dC (.int 3)) (aU))))))))) (bN)))))))
 (aD (br 5 (dC (.str [])))
 (aD (λb=>cV (eU 6 (dL jD (aI (d2 aZ (dV 2) (bd (aV (gI a) (gV (dV 0) (gO 1 (gV (d2 aZ (d2 jc (dV 3) (dV 2)) (dC (.int 1))) (bN))))))) (aU))) (br 5 (d2 aZ (dV 5) (d2 bL (dC (.str [97,98,99])) (bd (aV (gI a) (gV (dV 0) (gO 1 (gV (dV 4) (bN))))))))) b))
 (cC (dV 5))))
def jy(a:Ad):aj->R Slot:=bH 4 [1] (bF 3 (yax a))
def yaw(a:Ad):aj->R aF:=cC (dL gY (aI (dF (dL l9 (aI (dF (cR [0,1] (dL jD (aI (dL bS (aI (dV 0) (aU))) (aU))) (dB (d2 (dR λi j=>decide (i<=j)) (d2 aZ (dV 0) (dV 2)) (dL bS (aI (dV 1) (aU))))) (cg cu (dV 1) (ca (dV 0)) (ca (d2 aZ (dV 0) (dV 2)))))) (aU)))) (aU)))
def iH(a:Ad):aj->R Slot:=bH 2 [] (bF 0 (yaw a))
def yaA(a:Ad):aj->R aF:=aD (br 4 (b_ (dB (d2 (eqT ah) (dV 2) (dC (.int 2)))) (d2 aZ (dC (.int 2)) (bd (aV (gI a) (gV (dV 0) (gO 1 (gV (dC (.int 3)) (bN))))))) (d2 aZ (dC (.int 1)) (bd (aV (gI a) (gV (dV 0) (gO 1 (gV (dC (.int 4)) (bN)))))))))
 (aD (dS 5 (dL l8 (aI (bd (aV (iH a) (gV (bd (aV (jy a) (gV (dV 0) (gO 1 (gV (dV 4) (gV (d2 jc (d2 aZ (dV 4) (dV 3)) (dC (.int 1))) (bN))))))) (gV (dV 4) (bN))))) (aU))))
 (aD (λc=>cV (eU 6 (dL jD (aI (d2 f_ (dV 2) (dC (.int 3))) (aU))) (w_ 5 (bd (aV (gI a) (gV (dV 0) (gO 1 (gV (fF (λb=>iE (bS b)) 5) (bN)))))) (bd (aV (jy a) (gV (dV 0) (gO 1 (gV (dV 4) (gV (dV 4) (bN)))))))) c))
 (cC (dL g8 (aI (dV 4) (aI (dL gY (aI (dF (fF (λb=>nr (l9 b)) 5)) (aU))) (aU)))))))
def sd(a:Ad):aj->R Slot:=bH 4 [1] (bF 3 (yaA a))
def yaz(a:Ad):aj->R aF:=aD (br 3 (bd (aV (iH a) (gV (dV 0) (gV (dV 1) (bN))))))
 (cC (dL qJ (aI (dF (cR [3,2] (bI (dV 3)) (dYes) (d2 (dR λi j=>decide (i<=j)) (qj oq (dV 1) (dV 0)) (qj oq (dV 2) (dV 0))))) (aU))))
def oS(a:Ad):aj->R Slot:=bH 3 [] (bF 1 (yaz a))
def yay(a:Ad):aj->R aF:=aD (dS 2 (dL jX (aU)))
 (aD (dS 3 (cR [] (bI (dF (dL oM (aI (dV 1) (aU))))) (dYes) (dV 0)))
 (aD (λε=>cV (dZ (dB (p_ (eqT ah) 3 (dF (dL jX (aU))))) (aD (br 4 (qz 3))
 (aD (dS 5 (dL l8 (aI (dV 1) (aU))))
 (aD (eU 6 (bI (bd (aV (iH a) (gV (dV 4) (gV (dV 0) (bN)))))) (li 5 (dV 6)))
 (aD (lZ 2 (dL g8 (aI (dV 4) (aI (fF (λb=>iE (gY b)) 5) (aU)))))
 (tq 3 (dF (cR [4,0,1] (bI (dC (.str [97,98,99]))) (dB (bd (aV (oS a) (gV (d2 aZ (dV 1) (dV 0)) (gV (dV 2) (gV (dV 3) (bN))))))) (d2 aZ (dV 1) (dV 0))))))))) 100000 ε))
 (cC (dF (fF (λb=>nr (oW b)) 2)))))
def oO(a:Ad):aj->R Slot:=bH 2 [] (bF 5 (yay a))
def yas(a:Ad)(rc:aj->R Slot):aj->R aF:=aD (b_ (dB (d2 (eqT ak) (dV 1) (dL g8 (aU)))) (cC (dC (.int 0))) (cX))
 (aD (b_ (dB (l7 ah 2 (dV 1))) (aD (br 3 (dL bS (aI (dV 1) (aU))))
 (aD (λb=>cV (qG 4 5 (bI (bd (aV (oO a) (gV (dV 0) (gV (dV 1) (bN)))))) (b_ (dB (d2 (kq ak) (d2 bL (dV 1) (dC (.int 0))) (bd (aV (iH a) (gV (dV 4) (gV (dV 0) (bN))))))) (br 3 (dL qd (aI (dV 3) (aI (d2 aZ (dC (.int 1)) (bd (aV (rc) (gV (dV 0) (gV (dV 5) (gO 2 (bN))))))) (aU))))) (cX)) b))
 (sJ 2 (dV 1) (dV 3)))) (cX))
 (cC (qX 2 (dV 1))))
def iJ(a:Ad):Nat->aj->R Slot
 |0=>bH 3 [2] (bF 3 yZ)
 |k+1=>bH 3 [2] (bF 3 (yas a (iJ a k)))
end Sh
local macro_rules | `(tactic| and_intros) => `(tactic| (refine' Pu.Qu ?a ?l ?c ?k; (case a => k_is); (case l => k_is); (case c => k_is); (case k => k_is)))
namespace K27
open L2 Pu Sh
def dU(i:Nat):bf:=PySem.Challenge.pw_slitview_k27_whole_fewest_texts.main.body.getD i (.Pass ⟨0,0,0,0⟩)
abbrev yr:bf:=dU 27
abbrev ye:bf:=dU 28
abbrev zi:bf:=dU 29
abbrev vn:bf:=dU 32
abbrev z7:bf:=dU 30
abbrev yY:bf:=dU 31
abbrev yG:bf:=dU 33
abbrev yN:bf:=dU 8
abbrev Ao:bf:=dU 9
abbrev vU:bf:=dU 7
abbrev zS:bf:=dU 10
abbrev vW:bf:=dU 11
abbrev zM:bf:=dU 12
abbrev zt:bf:=dU 13
abbrev Ap:bf:=dU 14
abbrev yy:bf:=dU 17
abbrev yi:bf:=dU 16
abbrev wz:bf:=dU 24
abbrev sY:bf:=dU 25
abbrev yU:bf:=dU 20
abbrev yD:bf:=dU 19
abbrev xl:bf:=dU 21
abbrev y8:bf:=dU 22
abbrev xi:bf:=dU 34
abbrev tN:bf:=dU 36
abbrev yK:bf:=dU 37
abbrev se:bf:=dU 38
def tw(a:Ad):List ag:=[a.NoView]
structure dO(K:ax)(mg:Str->Option ai)(base:az)(a:Ad):Prop where
 yar:dq K mg "_law_cell_at" yr
 yau:dq K mg "_law_mixed" ye
 yat:dq K mg "_law_draw" zi
 yaw:dq K mg "_law_seen" vn
 yav:dq K mg "_law_pick" z7
 yax:dq K mg "_law_text" yY
 yaA:dq K mg "_law_view" yG
 yan:dq K mg "is_whole_number" yN
 yao:dq K mg "is_width" Ao
 yaj:dq K mg "has_only" vU
 yap:dq K mg "is_window" zS
 yad:dq K mg "are_windows" vW
 yam:dq K mg "is_view_with" zM
 yal:dq K mg "is_view" zt
 yae:dq K mg "check_view" Ap
 yaB:dq K mg "reached_pieces" yy
 yag:dq K mg "excesses" yi
 yah:dq K mg "fewest_for" wz
 yai:dq K mg "fewest_texts" sY
 yac:dq K mg "add_endings" yU
 yaf:dq K mg "counted" yD
 yaC:dq K mg "texts" xl
 yak:dq K mg "how_many" y8
 yaz:dq K mg "_law_under" xi
 yay:dq K mg "_law_trails" tN
 yas:dq K mg "_law_covers" yK
 yaq:dq K mg "law" se
 yaD:mg "all"=ae
 yaE:mg "any"=ae
 yaF:mg "bool"=ae
 yaG:mg "int"=ae
 yaH:mg "isinstance"=ae
 yaI:mg "len"=ae
 yaJ:mg "list"=ae
 yaK:mg "max"=ae
 yaL:mg "min"=ae
 yaM:mg "range"=ae
 yaN:mg "set"=ae
 yaO:mg "sorted"=ae
 yaP:mg "str"=ae
 yaQ:mg "sum"=ae
 yaR:mg "tuple"=ae
 yaT:∃t,mg "LETTERS"=aa (.str (tS [97,98,99]) t)
 yaU:∃t,mg "MOST_WINDOWS"=aa (.int 9 t)
 yaV:∃t,mg "WIDEST"=aa (.int 4 t)
 yab:mg "SlitError"=aa (.ref a.SlitError)
 yaa:mg "NoView"=aa (.ref a.NoView)
 yaS:OwnCls "NoView" a.NoView [.type "ValueError",.type "Exception",.type "BaseException",.type "object"] "ValueError.__new__" mg base
section
variable{P:aS}{w:aG}{K:ax}{c:Str->Option ai}{b:az}{a:Ad}
theorem Ni:cO ["_law_script","_law_k"] ["_law_script","_law_k"] (bg yr):=by ac_nf
theorem Nv(G:dO K c b a):dr (cJ P w) P w K c b "_law_cell_at" 1 ["_law_script","_law_k"] (cp K (qA a)) :=
 dI (k:=0) (pin:=[]) G.yar Ni rfl (λ_ _ _ _ _ _ g i=>Pu.Qv (λ_ _=>rfl) g i) (λf j A d s H E h=>by exact
  (bh (ip (iD Ff jF (ap 1) (eK ja ji G.yaI i7 (bo (ap 0) bK)) rfl) (bz (dY (gS g_ hU (ap 0) (ap 1)))) il)
  (bh (ip (iD (nt h.units) mZ (ap 0) (zJ bK) rfl) (bz (dY aR)) il)
  (bz (dY (cm eC d_ (cm zd yR (gS g_ hU (ap 0) (cm qf qV (ap 1) (eK ja ji G.yaI i7 (bo (ap 0) bK)))) aR) (ap 1)))))))
theorem Ms:cO ["_law_script","_law_k","_law_many","_law_drawn"] ["_law_script","_law_k","_law_many"] (bg ye):=by ac_nf
theorem He(G:dO K c b a):dr (cJ P w) P w K c b "_law_mixed" 2 ["_law_script","_law_k","_law_many"] (cp K (wZ a)) :=
 dI (k:=1) (pin:=[]) G.yau Ms rfl (λ_ _ _ _ _ _ g i=>Pu.QE (λ_ _ _=>rfl) g i) (λf j A d s H E h=>by exact
  (bh (dQ 3 Ms.nd (cm qf qV (cm eC d_ (cm eC d_ (cm zd yR ((bY (Nv G) (h.mono (by decide)) dj (aP (ap 0) (aP (ap 1) bT)))).de aR) (cm zd yR aR (ap 1))) aR) aR))
  (bz (dY (cm qf qV (cm qf qV (cm qf qV (cm N5 PZ (ap 3) aR) aR) aR) (ap 2))))))
theorem OW:cO ["_law_script","_law_town","_law_many"] ["_law_script","_law_town","_law_many"] (bg zi):=by ac_nf
theorem lU(G:dO K c b a):dr (cJ P w) P w K c b "_law_draw" 3 ["_law_script","_law_town","_law_many"] (cp K (gI a)) :=
 dI (k:=2) (pin:=[1]) G.yat OW rfl (λ_ _ _ _ _ _ g i=>Pu.QE (λ_ _ _=>rfl) g i) (λf j A d s H E h=>by exact
  (bh (zm 1 aR)
  (bz (BR (bY (He G) (h.mono (by decide)) dj (aP (ap 0) (aP (ET 1 ja ji G.yaI i7) (aP (ap 2) bT))))))))
theorem Oi:cO ["_law_text_here","_law_width"] ["_law_text_here","_law_width"] (bg vn):=by ac_nf
theorem qe(G:dO K c b a):dr (cJ P w) P w K c b "_law_seen" 1 ["_law_text_here","_law_width"] (cp K (iH a)) :=
 dI (k:=0) (pin:=[]) G.yaw Oi rfl (λ_ _ _ _ _ _ i l=>Pu.Qv (λ_ _=>rfl) i l) (λf o A h s H E n=>by exact
  (bz (dY (xm tK tO G.yaR om (bo (yB vM xg G.yaO oD (bo (mO (cap:=[0,1]) (N':=["_law_at","_law_text_here","_law_width"]) (io.of ["_law_text_here","_law_width"] (bg vn) rfl rfl (by decide +kernel)) rfl (vJ G.yaM (bo (eK ja ji G.yaI i7 (bo (ap 0) bK)) bK)) (λC d g m j=>by exact wj (iD p9 jF (cm eC d_ (ap 0) (ap 2)) (eK ja ji G.yaI i7 (bo (ap 1) bK)) rfl)) (λC d g m j=>by exact(jd jh jf (ap 1) (iC (ap 0)) (iC (cm eC d_ (ap 0) (ap 2)))))).de bK)).de bK)))))
theorem Mw:cO ["_law_script","_law_town","_law_some"] ["_law_script","_law_town","_law_some"] (bg z7):=by ac_nf
theorem Po(G:dO K c b a):dr (cJ P w) P w K c b "_law_pick" 4 ["_law_script","_law_town","_law_some"] (cp K (v_ a)) :=
 dI (k:=3) (pin:=[1]) G.yav Mw rfl (λ_ _ _ _ _ _ g i=>Pu.QE (λ_ _ _=>rfl) g i) (λf j A d s H E h=>by exact
  (bz (dY (gS g_ hU (ap 2) ((bY (lU G) (h.mono (by decide)) dj (aP (ap 0) (fQ 1 (aP (eK ja ji G.yaI i7 (bo (ap 2) bK)) bT))))).de))))
theorem Pw:cO ["_law_script","_law_town","_law_low","_law_most","_law_few","_law_made","_law_k"] ["_law_script","_law_town","_law_low","_law_most"] (bg yY):=by ac_nf
theorem sB(G:dO K c b a):dr (cJ P w) P w K c b "_law_text" 5 ["_law_script","_law_town","_law_low","_law_most"] (cp K (jy a)) :=
 dI (k:=4) (pin:=[1]) G.yax Pw rfl (λ_ _ _ _ _ _ h i=>Pu.QP (λ_ _ _ _=>rfl) h i) (λf j A d s H E g=>by exact
  (bh (dQ 4 Pw.nd ((bY (Po G) (g.mono (by decide)) dj (aP (ap 0) (fQ 1 (aP (zJ (bo aR (bo aR (bo aR (bo aR (bo aR (bo aR bK))))))) bT))))).de)
  (bh (dQ 5 Pw.nd (wT []))
  (bh (lg (m_ 6 kT rfl Pw.nd (vJ G.yaM (bo (cm eC d_ (ap 2) ((bY (lU G) (g.mono (by decide)) ix (aP (ap 0) (fQ 1 (aP (cm eC d_ (cm sj sq (ap 3) (ap 2)) aR) bT))))).de) bK)) (bz (dQ 5 Pw.nd (cm eC d_ (ap 5) (gS g_ hU (wT [97,98,99]) ((bY (lU G) (g.mono (by decide)) ix (aP (ap 0) (fQ 1 (aP (ap 4) bT))))).de))))))
  (bz (dY (ap 5)))))))
theorem OF:cO ["_law_script","_law_town","_law_spoil","_law_most","_law_width","_law_windows","_law_k"] ["_law_script","_law_town","_law_spoil","_law_most"] (bg yG):=by ac_nf
theorem NY(G:dO K c b a):dr (cJ P w) P w K c b "_law_view" 6 ["_law_script","_law_town","_law_spoil","_law_most"] (cp K (sd a)) :=
 dI (k:=5) (pin:=[1]) G.yaA OF rfl (λ_ _ _ _ _ _ h i=>Pu.QP (λ_ _ _ _=>rfl) h i) (λf j A g s H E d=>by exact
  (bh (dQ 4 OF.nd (Mr (iD (vL d.units) wA (ap 2) aR rfl) (cm eC d_ aR ((bY (lU G) (d.mono (by decide)) dj (aP (ap 0) (fQ 1 (aP aR bT))))).de) (cm eC d_ aR ((bY (lU G) (d.mono (by decide)) dj (aP (ap 0) (fQ 1 (aP aR bT))))).de)))
  (bh (lp 5 OF.nd (y4 Ah zq G.yaJ yI (bo ((bY (qe G) (d.mono (by decide)) dj (aP ((bY (sB G) (d.mono (by decide)) dj (aP (ap 0) (fQ 1 (aP (ap 4) (aP (cm sj sq (cm eC d_ (ap 4) (ap 3)) aR) bT)))))).de (aP (ap 4) bT)))).de bK)))
  (bh (lg (m_ 6 kT rfl OF.nd (vJ G.yaM (bo (cm qf qV (ap 2) aR) bK)) (bz (MU 5 ((bY (lU G) (d.mono (by decide)) ix (aP (ap 0) (fQ 1 (aP (ET 5 ja ji G.yaI i7) bT))))).de ((bY (sB G) (d.mono (by decide)) ix (aP (ap 0) (fQ 1 (aP (ap 4) (aP (ap 4) bT)))))).de))))
  (bz (dY (vQ (bo (ap 4) (bo (xm tK tO G.yaR om (bo (EJ 5 vM xg G.yaO oD).de bK)) bK)))))))))
theorem Km:cO ["thing"] ["thing"] (bg yN):=by ac_nf
theorem Iv(G:dO K c b a):dr (cJ P w) P w K c b "is_whole_number" 1 ["thing"] (cp K (vB a)) :=
 dI (k:=0) (pin:=[]) G.yan Km rfl (λ_ _ _ _ _ _ g h=>Pu.QH (λ_=>rfl) g h) (λf j A d s H E i=>by exact
  (bz (dY (tD (eK sv sT G.yaH tf (bo (ap 0) (bo (sC G.yaG MT) bK))) (vm (NL (eK sv sT G.yaH tf (bo (ap 0) (bo (sC G.yaF MG) bK)))))))))
theorem OE:cO ["thing"] ["thing"] (bg Ao):=by ac_nf
theorem Kf(G:dO K c b a):dr (cJ P w) P w K c b "is_width" 2 ["thing"] (cp K (qS a)) :=
 dI (k:=1) (pin:=[]) G.yao OE rfl (λ_ _ _ _ _ _ g i=>Pu.QH (λ_=>rfl) g i) (λf j A d s H E h=>by exact
  (bz (dY (tD ((bY (Iv G) (h.mono (by decide)) dj (aP (ap 0) bT))).de (vm (Pb p9 p9 jF jF aR (ap 0) (Fs G.yaV)))))))
theorem II:cO ["text","signs"] ["text","signs"] (bg vU):=by ac_nf
theorem MC(G:dO K c b a):dr (cJ P w) P w K c b "has_only" 1 ["text","signs"] (cp K (w8 a)) :=
 dI (k:=0) (pin:=[]) G.yaj II rfl (λ_ _ _ _ _ _ i l=>Pu.Qv (λ_ _=>rfl) i l) (λf o A h s H E n=>by exact
  (bz (dY (eK (zY rfl) Aq G.yaD Aj (bo (mO (cap:=[1]) (N':=["sign","signs"]) (io.of ["text","signs"] (bg vU) rfl rfl (by decide +kernel)) rfl (iL (ap 0)) (λC d g m j=>by exact qg) (λC d g m j=>by exact(oR Fk BM (ap 0) (ap 1) rfl))).de bK)))))
theorem IS:cO ["thing","width","signs"] ["thing","width","signs"] (bg zS):=by ac_nf
theorem J5(G:dO K c b a):dr (cJ P w) P w K c b "is_window" 2 ["thing","width","signs"] (cp K (qO a)) :=
 dI (k:=1) (pin:=[]) G.yap IS rfl (λ_ _ _ _ _ _ h i=>Pu.QE (λ_ _ _=>rfl) h i) (λf j A d s H E g=>by exact
  (bz (dY (tD (eK sv sT G.yaH tf (bo (ap 0) (bo (sC G.yaP K7) bK))) (tD (oR (nt g.units) mZ (eK ja ji G.yaI i7 (bo (ap 0) bK)) (ap 1) rfl) (vm ((bY (MC G) (g.mono (by decide)) dj (aP (ap 0) (aP (ap 2) bT)))).de))))))
theorem NT:cO ["thing","width","signs"] ["thing","width","signs"] (bg vW):=by ac_nf
theorem K0(G:dO K c b a):dr (cJ P w) P w K c b "are_windows" 3 ["thing","width","signs"] (cp K (nh a)) :=
 dI (k:=2) (pin:=[]) G.yad NT rfl (λ_ _ _ _ _ _ j m=>Pu.QE (λ_ _ _=>rfl) j m) (λf o A h s H E i=>by exact
  (bh (ip ((yw (qh (qW (eK sv sT G.yaH tf (bo (ap 0) (bo (sC G.yaR om) bK))))) (yu (qh (IN p9 p9 jF jF aR (eK ja ji G.yaI i7 (bo (ap 0) bK)) (Fs G.yaU)))))).dt (bz (dY oC)) il)
  (bh (ip (qh (qW (eK (zY rfl) Aq G.yaD Aj (bo (mO (cap:=[1,2]) (N':=["window","width","signs"]) (io.of ["thing","width","signs"] (bg vW) rfl rfl (by decide +kernel)) rfl (iL (ap 0)) (λC d g n l=>by exact qg) (λC d g n l=>by exact((bY (J5 G) (i.mono (by decide)) ix (aP (ap 0) (aP (ap 1) (aP (ap 2) bT))))).de)).de bK)))) (bz (dY oC)) il)
  (bz (dY (oR (nt i.units) mZ (y4 Ah zq G.yaJ yI (bo (ap 0) bK)).de (yB vM xg G.yaO oD (bo (ap 0) bK)).de rfl))))))
theorem Hn:cO ["thing","signs"] ["thing","signs"] (bg zM):=by ac_nf
theorem IT(G:dO K c b a):dr (cJ P w) P w K c b "is_view_with" 4 ["thing","signs"] (cp K (qB a)) :=
 dI (k:=3) (pin:=[]) G.yam Hn rfl (λ_ _ _ _ _ _ h i=>Pu.Qv (λ_ _=>rfl) h i) (λf j A d s H E g=>by exact
  (bh (ip ((yw (qh (qW (eK sv sT G.yaH tf (bo (ap 0) (bo (sC G.yaR om) bK))))) (yu (iD (vL g.units) wA (eK ja ji G.yaI i7 (bo (ap 0) bK)) aR rfl)))).dt (bz (dY oC)) il)
  (bz (dY (tD ((bY (Kf G) (g.mono (by decide)) dj (aP (gS g_ hU (ap 0) aR) bT))).de (vm ((bY (K0 G) (g.mono (by decide)) dj (aP (gS g_ hU (ap 0) aR) (aP (gS g_ hU (ap 0) aR) (aP (ap 1) bT))))).de))))))
theorem Ie:cO ["thing"] ["thing"] (bg zt):=by ac_nf
theorem NP(G:dO K c b a):dr (cJ P w) P w K c b "is_view" 5 ["thing"] (cp K (wu a)) :=
 dI (k:=4) (pin:=[]) G.yal Ie rfl (λ_ _ _ _ _ _ g i=>Pu.QH (λ_=>rfl) g i) (λf j A d s H E h=>by exact
  (bz (BR (bY (IT G) (h.mono (by decide)) dj (aP (ap 0) (aP (FC G.yaT) bT))))))
theorem Pz:cO ["thing"] ["thing"] (bg Ap):=by ac_nf
theorem Fe(G:dO K c b a):dr (cJ P w) P w K c b "check_view" 6 ["thing"] (cp K (qo a)) :=
 dI (k:=5) (pin:=[]) G.yae Pz rfl (λ_ _ _ _ _ _ g i=>Pu.QH (λ_=>rfl) g i) (λf j A d s H E h=>by exact
  (bz (ip (qh (qW ((bY (NP G) (h.mono (by decide)) dj (aP (ap 0) bT))).de)) (bz (Mj Ip rfl G.yaS PySem.F.excBase_ValueError (wT [97,32,118,105,101,119,32,105,115,32,97,32,116,117,112,108,101,32,111,102,32,97,32,119,105,100,116,104,32,97,110,100,32,97,32,114,105,115,105,110,103,32,116,117,112,108,101,32,111,102,32,49,32,116,111,32,57,32,119,105,110,100,111,119,115]))) il)))
theorem OV:cO ["windows","reached","known","window"] ["windows"] (bg yy):=by ac_nf
theorem NX(G:dO K c b a):dr (cJ P w) P w K c b "reached_pieces" 1 ["windows"] (cp K (tp a)) :=
 dI (k:=0) (pin:=[]) G.yaB OV rfl (λ_ _ _ _ _ _ h i=>Pu.QH (λ_=>rfl) h i) (λf j A g s H E d=>by exact
  (bh (lp 1 OV.nd (J1 (jd jh jf (gS g_ hU (ap 0) aR) jB (iC (ni m8 nv aR))) oC))
  (bh (dQ 2 OV.nd aR)
  (bh (lg (zb (λ_=>1000) kT (iD Ff jF (ap 2) (Fl 1 G.yaI) rfl) (bh (dQ 2 OV.nd (Fl 1 G.yaI))
  (bz (m_ 3 kT rfl OV.nd (iL (ap 0)) (bz (ip ((yw (zj 1 d.units (jd jh jf (ap 3) jB (iC (ni m8 nv aR)))) (yu (zj 1 d.units (jd jh jf (ap 3) (iC aR) jB))))).dt (bh (oX 1 d.units (jd jh jf (ap 3) jB (iC (ni m8 nv aR))) oC)
  (bz (oX 1 d.units (jd jh jf (ap 3) (iC aR) jB) oC))) il)))))))
  (bz (ww 1))))))
theorem KD:cO ["windows","excess","window"] ["windows"] (bg yi):=by ac_nf
theorem Nh(G:dO K c b a):dr (cJ P w) P w K c b "excesses" 1 ["windows"] (cp K (vA a)) :=
 dI (k:=0) (pin:=[]) G.yag KD rfl (λ_ _ _ _ _ _ h i=>Pu.QH (λ_=>rfl) h i) (λf j A g s H E d=>by exact
  (bh (lp 1 KD.nd (Cy))
  (bh (lg (m_ 2 kT rfl KD.nd (iL (ap 0)) (bh (oX 1 d.units (jd jh jf (ap 2) jB (iC (ni m8 nv aR))) (cm eC d_ (wI 1 d.units (jd jh jf (ap 2) jB (iC (ni m8 nv aR))) aR) aR))
  (bz (oX 1 d.units (jd jh jf (ap 2) (iC aR) jB) (cm sj sq (wI 1 d.units (jd jh jf (ap 2) (iC aR) jB) aR) aR))))))
  (bz (ww 1)))))
theorem HN:cO ["windows","excess"] ["windows"] (bg wz):=by ac_nf
theorem HC(G:dO K c b a):dr (cJ P w) P w K c b "fewest_for" 2 ["windows"] (cp K (xj a)) :=
 dI (k:=1) (pin:=[]) G.yah HN rfl (λ_ _ _ _ _ _ g i=>Pu.QH (λ_=>rfl) g i) (λf j A d s H E h=>by exact
  (bh (lp 1 HN.nd (((bY (Nh G) (h.mono (by decide)) dj (aP (ap 0) bT))).dn))
  (bz (dY (eK (Eo rfl) CS G.yaK Dy (bo aR (bo (eK (Is rfl) K8 G.yaQ rfl (bo (OY 1 (io.of ["windows","excess"] (bg wz) rfl rfl (by decide +kernel)) rfl).de bK)) bK)))))))
theorem N0:cO ["view","left","count","reached"] ["view"] (bg sY):=by ac_nf
theorem N6(G:dO K c b a):dr (cJ P w) P w K c b "fewest_texts" 7 ["view"] (cp K (vT a)) :=
 dI (k:=6) (pin:=[]) G.yai N0 rfl (λ_ _ _ _ _ _ m n=>Pu.QH (λ_=>rfl) m n) (λf o A j s H E h=>by exact
  (bh (vp (bY (Fe G) (h.mono (by decide)) dj (aP (ap 0) bT)))
  (bh (dQ 1 N0.nd (gS g_ hU (ap 0) aR))
  (bh (dQ 2 N0.nd aR)
  (bh (lg (zb (λ_=>1000) kT (iD sN jF (eK ja ji G.yaI i7 (bo (ap 1) bK)) aR rfl) (bh (lp 3 N0.nd (((bY (NX G) (h.mono (by decide)) ix (aP (ap 1) bT))).dn))
  (bh (dQ 2 N0.nd (cm eC d_ (ap 2) ((bY (HC G) (h.mono (by decide)) ix (aP (mO (cap:=[3]) (N':=["window","reached"]) (io.of ["view","left","count","reached"] (bg sY) rfl rfl (by decide +kernel)) rfl (iL (ap 1)) (λC d g l i=>by exact wj (zj 1 h.units (jd jh jf (ap 0) jB (iC (ni m8 nv aR))))) (λC d g l i=>by exact(ap 0))).de bT))).de))
  (bz (HD 1 N0.nd (cap:=[3]) (N':=["window","reached"]) (io.of ["view","left","count","reached"] (bg sY) rfl rfl (by decide +kernel)) rfl (iL (ap 1)) (λC d g l i=>by exact wj (LG 1 h.units (jd jh jf (ap 0) jB (iC (ni m8 nv aR))))) (λC d g l i=>by exact(ap 0))))))))
  (bz (dY (ap 2))))))))
theorem Cj:cO ["text","width","left","found","head","letter","window"] ["text","width","left","found"] (bg yU):=by ac_nf
theorem Lh(G:dO K c b a)(m:Nat):dr (cJ P w) P w K c b "add_endings" (1+m) ["text","width","left","found"] (cp K (nu a m)):=by
 induction m with
 |zero=>exact dI (k:=0) (pin:=[2,3]) G.yac Cj rfl (λ_ _ _ _ _ _ h i=>Pu.QP (λ_ _ _ _=>rfl) h i) (λf l A d s H E g=>FJ)
 |succ m j=>exact dI (k:=1+m) (pin:=[2,3]) G.yac Cj rfl (λ_ _ _ _ _ _ h i=>Pu.QP (λ_ _ _ _=>rfl) h i) (λf l A d s H E g=>by exact
  (bh (ip (qh (qW (L7 2 rfl G.yaE))) (bh (zm 3 (ap 0))
  (bz OU)) il)
  (bh (dQ 4 Cj.nd (jd jh jf (ap 0) (iC (cm eC d_ (cm sj sq (eK ja ji G.yaI i7 (bo (ap 0) bK)) (ap 1)) aR)) jB))
  (bz (lg (m_ 5 kT rfl Cj.nd (iL (FC G.yaT)) (bh (dQ 6 Cj.nd (cm eC d_ (ap 4) (ap 5)))
  (bz (ip (iD sN jF (wI 2 g.units (ap 6) aR) aR rfl) (bh (oX 2 g.units (ap 6) (cm sj sq (DH 2 g.units (ap 6)) aR))
  (bh (vp (bY j (g.mono ∅) ix (aP (cm eC d_ (ap 0) (ap 5)) (aP (ap 1) (fQ 2 (fQ 3 bT))))))
  (bz (oX 2 g.units (ap 6) (cm eC d_ (DH 2 g.units (ap 6)) aR))))) il)))))))))
theorem HS:cO ["windows","counts","window"] ["windows"] (bg yD):=by ac_nf
theorem Jt(G:dO K c b a):dr (cJ P w) P w K c b "counted" 1 ["windows"] (cp K (tX a)) :=
 dI (k:=0) (pin:=[]) G.yaf HS rfl (λ_ _ _ _ _ _ h i=>Pu.QH (λ_=>rfl) h i) (λf j A d s H E g=>by exact
  (bh (lp 1 HS.nd (Cy))
  (bh (lg (m_ 2 kT rfl HS.nd (iL (ap 0)) (bz (oX 1 g.units (ap 2) (cm eC d_ (wI 1 g.units (ap 2) aR) aR)))))
  (bz (ww 1)))))
theorem PD:cO ["view","width","found","head"] ["view"] (bg xl):=by ac_nf
theorem HV(G:dO K c b a):dr (cJ P w) P w K c b "texts" 14 ["view"] (cp K (wP a)) :=
 dI (k:=13) (pin:=[]) G.yaC PD rfl (λ_ _ _ _ _ _ j m=>Pu.QH (λ_=>rfl) j m) (λf o A h s H E i=>by exact
  (bh (vp (bY (Fe G) (i.mono (by decide)) dj (aP (ap 0) bT)))
  (bh (dQ 1 PD.nd (gS g_ hU (ap 0) aR))
  (bh (lp 2 PD.nd (vR bK))
  (bh (lg (m_ 3 kT rfl PD.nd (iL (JM rfl (bo (mO (cap:=[]) (N':=["window"]) (io.of ["view","width","found","head"] (bg xl) rfl rfl (by decide +kernel)) rfl (iL (gS g_ hU (ap 0) aR)) (λC d g n l=>by exact qg) (λC d g n l=>by exact(jd jh jf (ap 0) jB (iC (ni m8 nv aR))))).de bK) G.yaO G.yaN).de) (bz (vp (E_ (Lh G 12) (i.mono (by decide)) ix (vC (ap 3) (vC (ap 1) (Dc (((bY (Jt G) (i.mono (by decide)) ix (aP (gS g_ hU (ap 0) aR) bT))).dn) (fQ 2 bT)))))))))
  (bz (ww 2)))))))
theorem MZ:cO ["view"] ["view"] (bg y8):=by ac_nf
theorem Jd(G:dO K c b a):dr (cJ P w) P w K c b "how_many" 15 ["view"] (cp K (v9 a)) :=
 dI (k:=14) (pin:=[]) G.yak MZ rfl (λ_ _ _ _ _ _ g i=>Pu.QH (λ_=>rfl) g i) (λf j A d s H E h=>by exact
  (bz (dY (eK ja ji G.yaI i7 (bo ((bY (HV G) (h.mono (by decide)) dj (aP (ap 0) bT))).de bK)))))
theorem HI:cO ["_law_text_here","_law_width","_law_windows","_law_made"] ["_law_text_here","_law_width","_law_windows"] (bg xi):=by ac_nf
theorem LS(G:dO K c b a):dr (cJ P w) P w K c b "_law_under" 2 ["_law_text_here","_law_width","_law_windows"] (cp K (oS a)) :=
 dI (k:=1) (pin:=[]) G.yaz HI rfl (λ_ _ _ _ _ _ i m=>Pu.QE (λ_ _ _=>rfl) i m) (λf o A h s H E l=>by exact
  (bh (dQ 3 HI.nd ((bY (qe G) (l.mono (by decide)) dj (aP (ap 0) (aP (ap 1) bT)))).de)
  (bz (dY (eK (zY rfl) Aq G.yaD Aj (bo (mO (cap:=[3,2]) (N':=["_law_window","_law_made","_law_windows"]) (io.of ["_law_text_here","_law_width","_law_windows","_law_made"] (bg xi) rfl rfl (by decide +kernel)) rfl (iL (ap 3)) (λC d g n j=>by exact qg) (λC d g n j=>by exact(oR p9 jF (Eu (ap 1) (ap 0)) (Eu (ap 2) (ap 0)) rfl))).de bK))))))
theorem Il:cO ["_law_width","_law_windows","_law_made","_law_rows","_law_text_here","_law_rest","_law_window"] ["_law_width","_law_windows"] (bg tN):=by ac_nf
theorem Ol(G:dO K c b a):dr (cJ P w) P w K c b "_law_trails" 3 ["_law_width","_law_windows"] (cp K (oO a)) :=
 dI (k:=2) (pin:=[]) G.yay Il rfl (λ_ _ _ _ _ _ m n=>Pu.Qv (λ_ _=>rfl) m n) (λf o A j s H E h=>by exact
  (bh (lp 2 Il.nd (vR bK))
  (bh (Ps 3 Il.nd (cap:=[]) (N':=["_law_window"]) (io.of ["_law_width","_law_windows","_law_made","_law_rows","_law_text_here","_law_rest","_law_window"] (bg tN) rfl rfl (by decide +kernel)) rfl (iL (Iu rfl (bo (ap 1) bK) G.yaO G.yaN).de) (λC d g l i=>by exact qg) (λC d g l i=>by exact(ap 0)))
  (bh (lg (zb (λ_=>100000) kT (ID 3 (vL h.units) wA (zJ bK) rfl) (bh (dQ 4 Il.nd (OX 3))
  (bh (lp 5 Il.nd (y4 Ah zq G.yaJ yI (bo (ap 1) bK)))
  (bh (m_ 6 kT rfl Il.nd (iL ((bY (qe G) (h.mono (by decide)) ix (aP (ap 4) (aP (ap 0) bT)))).de) (bz (P4 5 (ap 6))))
  (bh (zm 2 (vQ (bo (ap 4) (bo (LU 5 tK tO G.yaR om) bK))))
  (bz (KO 3 (mO (cap:=[4,0,1]) (N':=["_law_letter","_law_text_here","_law_width","_law_windows"]) (io.of ["_law_width","_law_windows","_law_made","_law_rows","_law_text_here","_law_rest","_law_window"] (bg tN) rfl rfl (by decide +kernel)) rfl (iL (wT [97,98,99])) (λC d g l i=>by exact wj (qW ((bY (LS G) (h.mono (by decide)) ix (aP (cm eC d_ (ap 1) (ap 0)) (aP (ap 2) (aP (ap 3) bT))))).de)) (λC d g l i=>by exact(cm eC d_ (ap 1) (ap 0)))).de))))))))
  (bz (dY (EJ 2 (call_sortedQr h.units rfl) PP G.yaO oD).de))))))
theorem Fi:cO ["_law_width","_law_windows","_law_known","_law_best","_law_text_here","_law_rest"] ["_law_width","_law_windows","_law_known"] (bg yK):=by ac_nf
theorem KJ(G:dO K c b a)(m:Nat):dr (cJ P w) P w K c b "_law_covers" (4+m) ["_law_width","_law_windows","_law_known"] (cp K (iJ a m)):=by
 induction m with
 |zero=>exact dI (k:=3) (pin:=[2]) G.yas Fi rfl (λ_ _ _ _ _ _ h i=>Pu.QE (λ_ _ _=>rfl) h i) (λf l A g s H E d=>FJ)
 |succ m j=>exact dI (k:=4+m) (pin:=[2]) G.yas Fi rfl (λ_ _ _ _ _ _ h i=>Pu.QE (λ_ _ _=>rfl) h i) (λf l A g s H E d=>by exact
  (bh (ip (iD (nt d.units) mZ (ap 1) (vQ bK) rfl) (bz (dY aR)) il)
  (bh (ip (PB 2 d.units (ap 1)) (bh (dQ 3 Fi.nd (eK ja ji G.yaI i7 (bo (ap 1) bK)))
  (bh (lg (Pk 4 5 kT rfl Fi.nd (iL ((bY (Ol G) (d.mono ∅) ix (aP (ap 0) (aP (ap 1) bT)))).de) (bz (ip (iD Fk BM (gS g_ hU (ap 1) aR) ((bY (qe G) (d.mono ∅) ix (aP (ap 4) (aP (ap 0) bT)))).de rfl) (bz (dQ 3 Fi.nd (eK (HP rfl) Kk G.yaL Hb (bo (ap 3) (bo (cm eC d_ aR ((bY j (d.mono ∅) ix (aP (ap 0) (aP (ap 5) (fQ 2 bT))))).de) bK))))) il))))
  (bz (PH 2 d.units (ap 1) (ap 3))))) il)
  (bz (dY (Le 2 d.units (ap 1)))))))
def yaq(a:Ad):aj->R aF:=aD (dS 1 (dL jX (aU)))
 (aD (br 2 (bd (aV (gI a) (gV (dV 0) (gO 1 (gV (dC (.int 4)) (bN)))))))
 (aD (br 3 (bd (aV (gI a) (gV (dV 0) (gO 1 (gV (dC (.int 3)) (bN)))))))
 (aD (br 4 (bd (aV (sd a) (gV (dV 0) (gO 1 (gV (dV 3) (gV (dC (.int 6)) (bN))))))))
 (aD (br 5 (dL nq (aI (dC (.int 2)) (aI (d2 bL (dV 4) (dC (.int 0))) (aU)))))
 (aD (br 6 (bd (aV (iH a) (gV (bd (aV (jy a) (gV (dV 0) (gO 1 (gV (dV 5) (gV (d2 aZ (dV 5) (dC (.int 2))) (bN))))))) (gV (dV 5) (bN))))))
 (aD (b_ (dB (d2 (eqT ak) (dV 2) (dC (.int 0)))) (br 6 (d2 aZ (dV 6) (bd (aV (iH a) (gV (bd (aV (jy a) (gV (dV 0) (gO 1 (gV (dV 5) (gV (d2 aZ (dV 5) (dC (.int 3))) (bN))))))) (gV (dV 5) (bN))))))) (cX))
 (aD (b_ (dB (d2 (eqT ak) (dV 2) (dC (.int 1)))) (br 6 (dL gY (aI (dF (cR [0,1,5] (dL jD (aI (d2 aZ (dC (.int 1)) (bd (aV (gI a) (gV (dV 0) (gO 1 (gV (dC (.int 6)) (bN))))))) (aU))) (dYes) (bd (aV (jy a) (gV (dV 1) (gO 2 (gV (dV 3) (gV (dV 3) (bN))))))))) (aU)))) (cX))
 (aD (b_ (sA (dB (d2 (dR λi j=>decide (j<i)) (dV 2) (dC (.int 1)))) (dB (d2 (dR λi j=>decide (j<i)) (d2 bL (dV 4) (dC (.int 0))) (dC (.int 1))))) (br 6 (d2 bL (dV 4) (dC (.int 1)))) (cX))
 (aD (br 4 (dL g8 (aI (dV 5) (aI (dL gY (aI (dF (dL l9 (aI (dV 6) (aU)))) (aU))) (aU)))))
 (aD (br 7 (bd (aV (vT a) (gV (dV 4) (bN)))))
 (aD (b_ (dB (d2 (eqT ah) (d2 (eqT ak) (dV 7) (dC (.int 1))) (d2 (dR λi j=>decide (j<i)) (bd (aV (v9 a) (gV (dV 4) (bN)))) (dC (.int 0))))) (cC (dC (.bl ak))) (cX))
 (cC (d2 (eqT ak) (dV 7) (bd (mS (iJ a 10) (kw (dV 5) (kw (d2 bL (dV 4) (dC (.int 1))) (gN (wO) (bN)))))))))))))))))))
def sD(a:Ad):aj->R Slot:=bH 1 [] (bF 7 (yaq a))
theorem L6:cO ["_law_script","_law_town","_law_way","_law_spoil","_law_asked","_law_width","_law_windows","_law_made"] ["_law_script"] (bg se):=by ac_nf
theorem LM(G:dO K c b a){f:ag}{j:iz}(p:ol K "law" "law" se f j):kt P w K c b (cJ P w) 16 f j ["_law_script"] (cp K (sD a)) :=
 Ku (k:=15) (pin:=[]) p L6 rfl (λ_ _ _ _ _ _ l n=>Pu.QH (λ_=>rfl) l n) (λf q A i s H E d=>by exact
  (bh (lp 1 L6.nd (vR bK))
  (bh (dQ 2 L6.nd ((bY (lU G) (d.mono (by decide)) dj (aP (ap 0) (fQ 1 (aP aR bT))))).de)
  (bh (dQ 3 L6.nd ((bY (lU G) (d.mono (by decide)) dj (aP (ap 0) (fQ 1 (aP aR bT))))).de)
  (bh (dQ 4 L6.nd ((bY (NY G) (d.mono (by decide)) dj (aP (ap 0) (fQ 1 (aP (ap 3) (aP aR bT)))))).de)
  (bh (dQ 5 L6.nd (eK (Eo rfl) CS G.yaK Dy (bo aR (bo (gS g_ hU (ap 4) aR) bK))))
  (bh (dQ 6 L6.nd ((bY (qe G) (d.mono (by decide)) dj (aP ((bY (sB G) (d.mono (by decide)) dj (aP (ap 0) (fQ 1 (aP (ap 5) (aP (cm eC d_ (ap 5) aR) bT)))))).de (aP (ap 5) bT)))).de)
  (bh (ip (iD (nt d.units) mZ (ap 2) aR rfl) (bz (dQ 6 L6.nd (cm eC d_ (ap 6) ((bY (qe G) (d.mono (by decide)) dj (aP ((bY (sB G) (d.mono (by decide)) dj (aP (ap 0) (fQ 1 (aP (ap 5) (aP (cm eC d_ (ap 5) aR) bT)))))).de (aP (ap 5) bT)))).de))) il)
  (bh (ip (iD (nt d.units) mZ (ap 2) aR rfl) (bz (dQ 6 L6.nd (xm tK tO G.yaR om (bo (mO (cap:=[0,1,5]) (N':=["_law_k","_law_script","_law_town","_law_width"]) (io.of ["_law_script","_law_town","_law_way","_law_spoil","_law_asked","_law_width","_law_windows","_law_made"] (bg se) rfl rfl (by decide +kernel)) rfl (vJ G.yaM (bo (cm eC d_ aR ((bY (lU G) (d.mono (by decide)) dj (aP (ap 0) (fQ 1 (aP aR bT))))).de) bK)) (λC g h o m=>by exact qg) (λC g h o m=>by exact((bY (sB G) (d.mono (by decide)) ix (aP (ap 1) (fQ 2 (aP (ap 3) (aP (ap 3) bT)))))).de)).de bK)))) il)
  (bh (ip ((Kv (iD sN jF (ap 2) aR rfl) (HB (iD sN jF (gS g_ hU (ap 4) aR) aR rfl)))).dt (bz (dQ 6 L6.nd (gS g_ hU (ap 4) aR))) il)
  (bh (dQ 4 L6.nd (vQ (bo (ap 5) (bo (xm tK tO G.yaR om (bo (yB vM xg G.yaO oD (bo (ap 6) bK)).de bK)) bK))))
  (bh (dQ 7 L6.nd ((bY (N6 G) (d.mono (by decide)) dj (aP (ap 4) bT))).de)
  (bh (ip (iD (vL d.units) wA (oR (nt d.units) mZ (ap 7) aR rfl) (oR sN jF ((bY (Jd G) (d.mono (by decide)) dj (aP (ap 4) bT))).de aR rfl) rfl) (bz (dY oC)) il)
  (bz (dY (oR (nt d.units) mZ (ap 7) ((E_ (KJ G 10) (d.mono (by decide)) dj (vC (ap 5) (vC (gS g_ hU (ap 4) aR) (Dc (JG) bT))))).de rfl))))))))))))))))
end
end K27
namespace Mx
open L2 Pu
def bR:Tx:=[97,98,99]
def et:Nat->List Tx
 |0=>[[]]
 |k+1=>bR.flatMap λc=>(et k).map (c::·)
theorem oG:∀(k:Nat) (x:Tx),x∈et k↔x.length=k/\∀c∈x,c∈bR
 |0,x=>by
  simp only[et,eN];constructor
  .rintro rfl;simp
  .rintro⟨h,_⟩;exact mC.mp h
 |k+1,x=>by
  simp only[et,xN,bV];constructor
  .rintro⟨c,i,y,g,rfl⟩;obtain⟨f,b⟩:=(oG k y).mp g;refine⟨by simp[f],λd a=>?_⟩;rcases bw.mp a with rfl|a
   .exact i
   .exact b d a
  .rintro⟨f,b⟩;cases x with
   |nil=>cases f
   |cons c y=>exact⟨c,b c (by simp),y,(oG k y).mpr ⟨AY f,λd a=>b d (by simp[a])⟩,rfl⟩
theorem FH:∀k:Nat,(et k).length=3^k
 |0=>rfl
 |k+1=>by simp only[et,bR,uo,GR,cZ,cM,FH k,jL,Nat.pow_succ];lia
theorem LK(i j:Nat):et (i+j)=(et i).flatMap λh=>(et j).map (h++·):=by
 induction i with
 |zero=>simp[et]
 |succ i a=>rw[show i+1+j=(i+j)+1 by lia];simp only[et,a,List.flatMap_assoc,List.map_flatMap,List.flatMap_map,d9,GQ,uk]
theorem zV:∀k:Nat,(et k).Pairwise (λa b=>a<b)
 |0=>by simp[et]
 |k+1=>by
  simp only[et];rw[List.pairwise_flatMap];refine⟨λc _=>?_,?_⟩
  .rw[xC];exact(zV k).imp λh=>Bc.mpr (.inr ⟨rfl,h⟩)
  .have:bR.Pairwise (λa b=>a<b):=by decide
   refine this.imp λh=>?_;intro x f y d;obtain⟨i,_,rfl⟩:=bV.mp f;obtain⟨g,_,rfl⟩:=bV.mp d;exact Bc.mpr (.inl h)
theorem Hm{a b:Tx}(h:a<b):dv a b=ah:=by simp only[dv,decide_eq_true_eq];exact List.le_of_lt h
theorem HQ(k:Nat):(et k).Pairwise (λa b=>dv a b=ah):=(zV k).imp Hm
theorem Ls(k:Nat):(et k).Nodup:=(zV k).imp λh z=>by subst z;exact List.lt_irrefl _ h
def wins(z:Tx)(w:Nat):List Tx:=((df z.length).filter λi=>decide (i+w<=z.length)).map λi=>(z.drop i).take w
theorem Ew(w L:Nat):∀m:Nat,(df m).filter (λi=>decide (i+w<=L))=df (min m (L+1-w))
 |0=>by simp
 |m+1=>by
  rw[uc,Bd,Ew w L m];by_cases h:m+w<=L
  .rw[show min m (L+1-w)=m by lia,show min (m+1) (L+1-w)=m+1 by lia,uc];simp[h]
  .rw[show min (m+1) (L+1-w)=min m (L+1-w) by lia];simp[h]
theorem j6(z:Tx)(w:Nat)(a:1<=w):wins z w=(df (z.length+1-w)).map λi=>(z.drop i).take w:=by unfold wins;rw[Ew,show min z.length (z.length+1-w)=z.length+1-w by lia]
def nw(w:Nat)(t:Tx):Tx->List Tx
 |[]=>[]
 |c::s=>(t.drop (t.length+1-w)++[c])::nw w (t++[c]) s
theorem Fy(w:Nat)(b:1<=w):∀(s t:Tx),w<=t.length+1->nw w t s=(df s.length).map λi=>((t++s).drop (t.length+1-w+i)).take w
 |[],t,_=>by simp[nw]
 |c::s,t,h=>by
  rw[nw,Fy w b s (t++[c]) (by simp;lia),cS,AK,bZ,d9];congr 1
  .show _=((t++c::s).drop (t.length+1-w)).take w;rw[AJ ∅,List.take_append];have a:(t.drop (t.length+1-w)).length=w-1:=by rw[lx];lia
   rw[a,ki (by rw[a];lia),show w-(w-1)=1 by lia];rfl
  .refine ig λi _=>?_;simp only[mD];rw[cZ,nK,show t.length+1+1-w+i=t.length+1-w+Nat.succ i by lia];simp
theorem yA{w:Nat}(a:1<=w){h s:Tx}(b:h.length=w-1):wins (h++s) w=nw w h s:=by rw[j6 _ _ a,Fy w a s h ∅,cZ,show h.length+s.length+1-w=s.length by lia];refine ig λi _=>?_;rw[show h.length+1-w+i=i by lia]
theorem Fc{w:Nat}(a:1<=w)(t:Tx)(c:Nat):wins (t++[c]) w=wins t w++(if w<=t.length+1 then [((t++[c]).drop (t.length+1-w)).take w] else []):=by
 rw[j6 _ _ a,j6 _ _ a,cZ,nK];by_cases h:w<=t.length+1
 .rw[if_pos h,show t.length+1+1-w=(t.length+1-w)+1 by lia,uc,ph];congr 1;refine ig λi b=>?_;have b:i<t.length+1-w:=by simpa using b
  rw[AJ ∅,GS (by rw[lx];lia)]
 .rw[if_neg h,show t.length+1+1-w=0 by lia,show t.length+1-w=0 by lia];simp
def g6(w:Nat):Nat->Tx->List Tx->List Tx
 |0,t,_=>[t]
 |r+1,t,q=>bR.flatMap λc=>if t.drop (t.length+1-w)++[c]∈q then g6 w r (t++[c]) (q.erase (t.drop (t.length+1-w)++[c]))else []
theorem BY(w:Nat):∀(r:Nat) (t:Tx) (q:List Tx),q.length=r->g6 w r t q=((et r).filter λs=>(nw w t s).isPerm q).map (t++·)
 |0,t,q,hq=>by have:q=[]:=mC.mp hq;subst this;simp[g6,et,nw,List.isPerm]
 |r+1,t,q,hq=>by
  simp only[g6,et,List.filter_flatMap,List.map_flatMap];congr 1;funext c;rw[uq,d9];by_cases h:t.drop (t.length+1-w)++[c]∈q
  .rw[if_pos h,BY w r (t++[c]) _ (by rw[ur h,hq];rfl)];have e:((λs=>(nw w t s).isPerm q) ∘ λx=>c::x)=λs=>(nw w (t++[c]) s).isPerm (q.erase (t.drop (t.length+1-w)++[c])):=by funext s;show(q.contains (t.drop (t.length+1-w)++[c])&&(nw w (t++[c]) s).isPerm (q.erase (t.drop (t.length+1-w)++[c])))=_;rw[List.contains_iff_mem.mpr h,Bool.true_and]
   rw[e];refine ig λs _=>?_;simp
  .rw[if_neg h];have e:((λs=>(nw w t s).isPerm q) ∘ λx=>c::x)=λ_=>ak:=by
    funext s;show(q.contains (t.drop (t.length+1-w)++[c])&&(nw w (t++[c]) s).isPerm (q.erase (t.drop (t.length+1-w)++[c])))=_;have:q.contains (t.drop (t.length+1-w)++[c])=ak:=by rw[Bool.eq_false_iff];intro z;exact h (List.contains_iff_mem.mp z)
    rw[this,Bool.false_and]
   rw[e];simp
def fA(w:Nat)(a:List Tx):List Tx:=(aC (bJ (a.map nP))).flatMap λh=>g6 w a.length h a
theorem L8{a b:Type}{l:List a}{f:a->List b}(p:a->Bool)(h:∀x∈l,p x=ak->f x=[]):l.flatMap f=(l.filter p).flatMap f:=by
 induction l with
 |nil=>rfl
 |cons x l c=>
  rw[uo,c λy d=>h y (by simp[d]),GT];cases e:p x with
  |true=>simp
  |false=>rw[h x (by simp) e];simp
theorem zT{w:Nat}{a:List Tx}(i:1<=w)(D:1<=a.length)(m:∀x∈a,x.length=w/\∀c∈x,c∈bR):fA w a=(et (w-1+a.length)).filter λz=>(wins z w).isPerm a:=by
 rw[LK,List.filter_flatMap];have B:(λh=>((et a.length).map (h++·)).filter λz=>(wins z w).isPerm a)=λh=>((et a.length).filter λs=>(wins (h++s) w).isPerm a).map (h++·):=by funext h;rw[uq];rfl
 rw[B,L8 (λh=>decide (h∈a.map nP))]
 .have A:(et (w-1)).filter (λh=>decide (h∈a.map nP))=aC (bJ (a.map nP)):=by
   refine wK ?_ ((HQ (w-1)).filter _);refine(List.perm_ext_iff_of_nodup ((Ls (w-1)).filter _) (Pf _)).mpr λx=>?_;rw[jH,decide_eq_true_eq,lX,oG];refine⟨λh=>h.2,λh=>⟨?_,h⟩⟩;obtain⟨y,d,rfl⟩:=bV.mp h;obtain⟨u,r⟩:=m y d;exact⟨by rw[A4,u],λc q=>r c ((List.dropLast_sublist _).mem q)⟩
  rw[A];unfold fA;have:∀l:List Tx,(∀h∈l,h.length=w-1)->l.flatMap (λh=>g6 w a.length h a)=l.flatMap λh=>((et a.length).filter λs=>(wins (h++s) w).isPerm a).map (h++·):=by
   intro l
   induction l with
   |nil=>intro _;rfl
   |cons h l n=>
    intro b;rw[uo,uo,n λy d=>b y (by simp[d]),BY w _ h a rfl];have v:(λs=>(nw w h s).isPerm a)=λs=>(wins (h++s) w).isPerm a:=by funext s;rw[yA i (b h (by simp))]
    rw[v]
  refine this _ λh b=>?_;have p:=(lX _ _).mp ((ef _).mem_iff.mp b);obtain⟨y,d,rfl⟩:=bV.mp p;rw[A4,(m y d).1]
 .intro h b j;have C:=((oG _ h).mp b).1;rw[List.map_eq_nil_iff,List.filter_eq_nil_iff];intro s o g;have f:=((oG _ s).mp o).1;rw[yA i C,List.isPerm_iff]at g;cases s with
  |nil=>rw[jL]at f;lia
  |cons c s=>rw[nw,show h.length+1-w=0 by lia,pi]at g;have:h++[c]∈a:=g.mem_iff.mp (by simp);rw[decide_eq_false_iff_not]at j;exact j (bV.mpr ⟨_,this,by simp⟩)
def unD(w:Nat)(a:List Tx)(t:Tx):Bool:=(wins t w).all λx=>decide ((wins t w).count x<=a.count x)
theorem KB{w:Nat}{a:List Tx}{t:Tx}:unD w a t=ah↔∀x,(wins t w).count x<=a.count x:=by
 unfold unD;rw[nN];constructor
 .intro h x;by_cases b:x∈wins t w
  .simpa using h x b
  .rw[GU b];lia
 .intro h x _;simpa using h x
theorem IX{w:Nat}(b:1<=w){a:List Tx}{t:Tx}{c:Nat}(h:unD w a (t++[c])=ah):unD w a t=ah:=by rw[KB]at h ⊢;intro x;have:=h x;rw[Fc b,Bf]at this;lia
end Mx
namespace Sh
open L2 Pu Mx
theorem qE{f:PV->PV->Option PV}{d b:aj->R PV}{c ε1 a:aj}{x y z:PV}(h:d c=.ok x ε1)(i:b ε1=.ok y a)(g:f x y=aa z):d2 f d b c=.ok z a:=by unfold d2;rw[h];show(b ε1).bind _=_;rw[i];show aB (f x y) a=_;rw[g];rfl
section
theorem Ob(a:Bool)(b c:Bool):Pu.eqT a (.bl b) (.bl c)=aa (.bl (a^^decide (b=c))):=by cases a <;> cases b <;> cases c <;> rfl
theorem D1{ls:List Tx}(h:ls.length<=1000000):l9 [.lst (am ls)]=aa (.lst (am (aC ls))):=by show(fG (am ls)).bind _=_;rw[n9,jP,if_pos h]
end
section
variable{a:Ad}
abbrev bp(b:List Int):Slot:=.val (.lst (b.map .int))
theorem FN(b:List Int)(k:Int)(d:0<=k)(h:k<b.length):∃v,fq (b.map PV.int) k=aa (.int v):=by
 have c:k.toNat<b.length:=∅
 refine⟨b[k.toNat],?_⟩;rw[tu d (by rw[cM];exact c)];simp
theorem JX(b:List Int):Pu.eqT ak (.lst (b.map .int)) (.lst [])=aa (.bl b.isEmpty):=by
 cases b with
 |nil=>rfl
 |cons x c=>
  have f:∀l:List Int,iy (l.map .int)=0:=λl=>by induction l with|nil=>rfl|cons y l d=>simp[iy,jb,d]
  have:iy ((x::c).map .int)=0:=f _;simp only[bZ]at this;simp[Pu.eqT,dD,cW,gE,jb,this]
theorem nk(b:Bool)(i j:Int):Pu.eqT b (.int i) (.int j)=aa (.bl (b^^decide (i=j))):=by show(if tt (V.int i) (V.int j)then aa (PV.bl (b^^decide (V.int i=V.int j)))else ae)=_;have:tt (V.int i) (V.int j)=ah:=rfl;rw[if_pos this];simp
theorem HY(b:List Int)(k:Int)(i:0<=k):∃v,qA a [bp b,⇑k]=.ok (⇑v) [bp b,⇑k]:=by
 by_cases h:k<b.length
 .obtain⟨v,d⟩:=FN b k i h;refine⟨v,?_⟩;simp![qA,yar,bS,bL,d,h]
 .have e:=JX b;by_cases f:b=[]
  .subst f;refine⟨0,?_⟩;simp only[rh,GV]at e;have j:¬k<0:=∅
   simp![qA,yar,bS,bL,e,j]
  .have m:0<b.length:=by cases b with|nil=>exact absurd rfl f|cons=>simp
   obtain⟨v,d⟩:=FN b (k % b.length) (Int.emod_nonneg _ ∅) (GW _ ∅);refine⟨v*31+k,?_⟩;have l:b.isEmpty=ak:=by cases b with|nil=>exact absurd rfl f|cons=>rfl
   rw[l]at e;have g:f_ (.int k) (.int (b.length:Int))=aa (.int (k % b.length)):=by simp[f_];lia
   have c:kF (.int v) (.int 31)=aa (.int (v*31)):=by simp[kF,tR]
   simp![qA,yar,bS,bL,h,e,g,d,c,aZ]
theorem LP(b:List Int)(k m:Int)(q:0<=k)(i:0<m):∃v,0<=v/\v<m/\wZ a [bp b,⇑k,⇑m]=.ok (⇑v) [bp b,⇑k,⇑m]:=by
 obtain⟨c,p⟩:=HY (a:=a) b k q;have r:0<=(c*1103515245+7919*k+12345) % 2147483647:=Int.emod_nonneg _ (by decide);have d1:(c*1103515245+7919*k+12345) % 2147483647<2147483647:=GW _ (by decide);have o:kF (.int c) (.int 1103515245)=aa (.int (c*1103515245)):=by simp[kF,tR]
 have n:kF (.int 7919) (.int k)=aa (.int (7919*k)):=by simp[kF,tR]
 have h:f_ (.int (c*1103515245+7919*k+12345)) (.int 2147483647)=aa (.int ((c*1103515245+7919*k+12345) % 2147483647)):=by simp[f_]
 generalize (c*1103515245+7919*k+12345) % 2147483647=d at r d1 h;have l:sO (.int d) (.int 5)=aa (.int (d^5)):=by
  have:d.natAbs<2^64:=∅
  simp[sO,this]
 have g:f_ (.int (d^5)) (.int 2147483647)=aa (.int (d^5 % 2147483647)):=by simp[f_]
 generalize d^5 % 2147483647=d5 at g;have f:f_ (.int d5) (.int 999983)=aa (.int (d5 % 999983)):=by simp[f_]
 generalize d5 % 999983=d6 at f;have j:f_ (.int d6) (.int m)=aa (.int (d6 % m)):=by simp[f_,i]
 refine⟨d6 % m,Int.emod_nonneg _ ∅,GW _ i,?_⟩;simp![wZ,yau,p,o,n,h,l,g,f,j,aZ]
theorem mh(c:List Int)(b:List PV)(m:Int)(i:0<m)(j:b.length<=1000):∃v,0<=v/\v<m/\gI a [bp c,.own (.lst b),⇑m]=.ok (⇑v) [bp c,.own (.lst (b++[.int 0])),⇑m]:=by
 obtain⟨v,f,d,h⟩:=LP (a:=a) c ((b.length:Int)+1) m ∅ i;refine⟨v,f,d,?_⟩;have g:b.length<bQ:=by unfold bQ;lia
 simp![gI,yat,bS,g,h]
theorem Do{c:Type}(b:List c)(v:Int)(f:0<=v)(g:v<b.length):∃x∈b,fq b v=aa x:=by
 have d:v.toNat<b.length:=∅
 exact⟨b[v.toNat],AO _,tu f d⟩
theorem NV(d:List Int)(c b:List PV)(i:c.length<=1000)(m:0<b.length):∃x∈b,v_ a [bp d,.own (.lst c),.val (.lst b)]=.ok (.val x) [bp d,.own (.lst (c++[.int 0])),.val (.lst b)]:=by obtain⟨v,g,f,j⟩:=mh (a:=a) d c (b.length:Nat) ∅ i;obtain⟨x,l,h⟩:=Do b v g f;refine⟨x,l,?_⟩;simp![v_,yav,bS,bL,j,h]
theorem wG{n:Nat}(h:n<=1000000):jD [.int n]=aa (eQ 0 n):=by show(if(n:Int)<=1000000/\-1000000<=(n:Int)then aa (eQ 0 (n:Int).toNat)else ae)=_;rw[if_pos ⟨∅,∅⟩];simp
theorem wa{x y:Tx}(h:x.length+y.length<=bQ):aZ (.str x) (.str y)=aa (.str (x++y)):=by show(if(x++y).length<=bQ then aa (PV.str (x++y))else ae)=_;rw[if_pos (by rw[cZ];exact h)]
theorem cr{d1 d2:aj->R aF}{ε ε1:aj}(h:d1 ε=.ok .next ε1):aD d1 d2 ε=d2 ε1:=by unfold aD;rw[h]
theorem oQ{i:Nat}{d:aj->R PV}{b ε1:aj}{x:PV}(h:d b=.ok x ε1):br i d b=.ok .next (ε1.set i (.val x)):=by unfold br;rw[h];rfl
theorem yJ{i:Nat}{db:aj->R aF}{I:Nat->aj->Prop}{N:Nat}(step:∀k c x,k<N->I k c->∃b,db (c.set i (.val x))=.ok .next b/\I (k+1) b):∀(d:List PV) (k:Nat) (c:aj),k+d.length<=N->I k c->∃b,hZ i db d c=.ok .next b/\I (k+d.length) b
 |[],k,c,_,h=>⟨c,rfl,h⟩
 |x::d,k,c,j,h=>by simp only[cS]at j;obtain⟨g,o,m⟩:=step k c x ∅ h;obtain⟨f,n,l⟩:=yJ step d (k+1) g ∅ m;refine⟨f,by unfold hZ;rw[o];exact n,?_⟩;rw[cS,show k+(d.length+1)=k+1+d.length by lia];exact l
theorem xh{i:Nat}{db:aj->R aF}{I:List PV->aj->Prop}(step:∀(x:PV) (r:List PV) c,I (x::r) c->∃b,db (c.set i (.val x))=.ok .next b/\I r b):∀(d:List PV) (c:aj),I d c->∃b,hZ i db d c=.ok .next b/\I [] b
 |[],c,h=>⟨c,rfl,h⟩
 |x::d,c,h=>by obtain⟨g,n,l⟩:=step x d c h;obtain⟨f,m,j⟩:=xh step d g l;exact⟨f,by unfold hZ;rw[n];exact m,j⟩
theorem wv(l:List Int)(j:List PV)(g b:Nat)(L:g<=b)(Y:b<=100)(X:j.length<=500):∃(z:Tx) (h:List PV),g<=z.length/\z.length<=b/\(∀c∈z,c∈bR)/\h.length<=j.length+2+b /\ jy a [bp l,.own (.lst j),⇑g,⇑b]=.ok (↥z) [bp l,.own (.lst h),⇑g,⇑b]:=by
 obtain⟨f,y,J⟩:=NV (a:=a) l j [.int 1,.int 2,.int 2,.int 3,.int 3,.int 3] ∅ (by decide);obtain⟨few,rfl,P,f1⟩:∃few:Int,f=.int few/\0<few/\few<=3:=by simp only[bw,kj,or_false]at y;rcases y with rfl|rfl|rfl|rfl|rfl|rfl <;> exact⟨_,rfl,by decide,by decide⟩
 obtain⟨m,W,T,o⟩:=mh (a:=a) l (j++[.int 0]) ((b:Int)-g+1) ∅ (by simp;lia);obtain⟨n,K⟩:∃n:Nat,(g:Int)+m=n:=⟨(g+m).toNat,∅⟩
 have H:jD [.int ((g:Int)+m)]=aa (eQ 0 n):=by rw[K];exact wG ∅
 have a_:(eQ 0 n).length=n:=by simp[eQ]
 obtain⟨B,A,h,z,p,rfl,w,F,s⟩:=yJ (i:=6) (db:=br 5 (d2 aZ (dV 5) (d2 bL (dC (.str [97,98,99])) (bd (aV (gI a) (gV (dV 0) (gO 1 (gV (dV 4) (Pu.bN)))))))))
  (I:=λk u=>∃h z p,u=[bp l,.own (.lst h),⇑g,⇑b,⇑few,↥z,p]/\z.length=k/\h.length<=j.length+2+k/\∀c∈z,c∈bR) (N:=n)
  (by
   rintro k u x Z ⟨h,z,p,rfl,w,F,s⟩;obtain⟨v,C,S,G⟩:=mh (a:=a) l h few P ∅;obtain⟨c,M,E⟩:=Do bR v C (by simp[bR];lia);refine⟨[bp l,.own (.lst (h++[.int 0])),⇑g,⇑b,⇑few,↥(z++[c]),.val x],?_,h++[.int 0],z++[c],.val x,rfl,by simp[w],by simp;lia,λd o=>?_⟩
   .have q:bL (.str [97,98,99]) (.int v)=aa (.str [c]):=by
     show(fq bR v).map _=_;rw[E];rfl
    have Q:aZ (.str z) (.str [c])=aa (.str (z++[c])):=wa (by simp[bQ];lia);simp![G,q,Q]
   .simp only[fY,eN]at o;rcases o with o|rfl
    .exact s d o
    .exact M)
  (eQ 0 n) 0 [bp l,.own (.lst (j++[.int 0]++[.int 0])),⇑g,⇑b,⇑few,.val (.str []),.none] ∅ ⟨j++[.int 0]++[.int 0],[],.none,rfl,rfl,by simp,by simp⟩
 refine⟨z,h,∅,∅,s,∅,?_⟩;have O:jc (.int b) (.int g)=aa (.int ((b:Int)-g)):=rfl;have D:aZ (.int ((b:Int)-g)) (.int 1)=aa (.int ((b:Int)-g+1)):=rfl;have r:aZ (.int g) (.int m)=aa (.int ((g:Int)+m)):=rfl;simp only[gq,uk,iT]at A;simp![jy,yax,J,O,D,r,o,eU,H,cV,A]
theorem lV{cap:List Nat}{dt:aj->R Bool}{de:aj->R PV}{ε:aj}(p:PV->Bool)(f:PV->PV):∀(xs:List PV),(∀x∈xs,dX (eJ cap dt x ε)=.ok (p x) ε/\(p x=ah->dX (eJ cap de x ε)=.ok (f x) ε))->∀b,i9 cap dt de xs b ε=.ok (b++(xs.filter p).map f) ε
 |[],_,b=>by simp[i9]
 |x::xs,h,b=>by
  have g:=h x (by simp);have d:=lV p f xs (λy i=>h y (by simp[i]));unfold i9;rw[g.1];simp only[R.bind_ok];cases c:p x with
  |false=>simp only[d b,GT,c];simp
  |true=>simp only[g.2 c,R.bind_ok,d (b++[f x]),GT,c];simp
theorem Lo{z:Tx}{i w:Nat}(h:i+w<=z.length):fX z (aa (i:Int)) (aa ((i:Int)+w))=(z.drop i).take w:=by
 unfold fX;have c:HT.sIx z.length 0 (aa (i:Int))=i:=by rw[HT.sIx_nat];lia
 have b:HT.sIx z.length z.length (aa ((i:Int)+w))=i+w:=by rw[show(i:Int)+w=((i+w:Nat):Int) by lia,HT.sIx_nat];lia
 rw[c,b,Nat.add_sub_cancel_left]
theorem tE(z:Tx)(w:Nat)(o:z.length<=60):iH a [↥z,⇑w]=.ok (.val (.tup (am (aC (wins z w))))) [↥z,⇑w]:=by
 have g:jD [.int (z.length:Nat)]=aa (eQ 0 z.length):=wG ∅;have b:=lV (cap:=[0,1]) (dt:=(dB (d2 (dR λi j=>decide (i<=j)) (d2 aZ (dV 0) (dV 2)) (dL bS (aI (dV 1) (aU)))))) (de:=(cg cu (dV 1) (ca (dV 0)) (ca (d2 aZ (dV 0) (dV 2)))))
  (ε:=[↥z,⇑w]) (λx=>match x with|.int i=>decide (i+w<=z.length)|_=>ak) (λx=>match x with|.int i=>.str (fX z (aa i) (aa (i+w)))|_=>.non) (eQ 0 z.length)
  (by
   intro x d;simp only[eQ,bV]at d;obtain⟨i,f,rfl⟩:=d;refine⟨?_,λh=>?_⟩
   .simp![eJ,e_,dX,bS,aZ]
   .simp![eJ,e_,dX,bS,aZ,cg,ca,cu]) []
 have l:(wins z w).length<=1000000:=by unfold wins;rw[cM];have:=xM (λi=>decide (i+w<=z.length)) (df z.length);rw[Gx]at this;lia
 have m:(((eQ 0 z.length).filter (λx=>match x with|.int i=>decide (i+w<=z.length)|_=>ak)).map (λx=>match x with|.int i=>PV.str (fX z (aa i) (aa (i+w)))|_=>.non))=am (wins z w):=by
  unfold eQ wins am;rw[uq,d9,d9];have n:((λx=>match x with|PV.int i=>decide (i+(w:Int)<=(z.length:Nat))|_=>ak) ∘ λ(i:Nat)=>PV.int (0+(i:Nat)))=λi=>decide (i+w<=z.length):=by funext i;simp only[mD];congr 1;simp;lia
  rw[n];refine ig λi f=>?_;have:=(jH.mp f).2;simp only[decide_eq_true_eq]at this;simp only[mD,Int.zero_add];rw[Lo this]
 simp only[iT]at b;rw[m]at b;have c:=D1 l;generalize am (aC (wins z w))=T at c;generalize am (wins z w)=B at b c;simp![iH,yaw,bS,g,cR,b,c,gY]
theorem BH{z:Tx}{w:Nat}:∀x∈wins z w,x.length=w/\∀c∈x,c∈z:=by intro x b;simp only[wins,bV,jH,o0,decide_eq_true_eq]at b;obtain⟨i,⟨_,h⟩,rfl⟩:=b;exact⟨by rw[lw,lx];lia,λc d=>List.mem_of_mem_drop (List.mem_of_mem_take d)⟩
theorem N8{z:Tx}{w m:Nat}(c:1<=w)(f:w<=z.length)(d:z.length<=w+m):1<=(wins z w).length/\(wins z w).length<=m+1:=by
 unfold wins;rw[cM];have:∀n,((df n).filter λi=>decide (i+w<=z.length)).length=min n (z.length+1-w):=by
  intro n
  induction n with
  |zero=>simp
  |succ n b=>
   rw[uc,Bd,cZ,b];by_cases h:n+w<=z.length
   .simp[List.filter,h];lia
   .simp[List.filter,h];lia
 rw[this];lia
structure Good(l:Tx)(w:Nat)(ls:List Tx):Prop where
 len:∀x∈ls,x.length=w
 abc:∀x∈ls,∀c∈x,c∈l
 some:1<=ls.length
 few:ls.length<=9
theorem Good.perm{l:Tx}{w:Nat}{ls b:List Tx}(g:Good l w ls)(p:b.Perm ls):Good l w b:=⟨λx h=>g.len x (p.mem_iff.mp h),λx h=>g.abc x (p.mem_iff.mp h),by rw[p.length_eq];exact g.some,by rw[p.length_eq];exact g.few⟩
theorem Good.put{l:Tx}{w:Nat}{ls:List Tx}{z:Tx}{j:Nat}(g:Good l w ls)(b:z.length=w)(d:∀c∈z,c∈l):Good l w (ls.set j z):=by
 refine⟨λx h=>?_,λx h=>?_,by rw[iP];exact g.some,by rw[iP];exact g.few⟩
 .rcases List.mem_or_eq_of_mem_set h with h|rfl
  .exact g.len x h
  .exact b
 .rcases List.mem_or_eq_of_mem_set h with h|rfl
  .exact g.abc x h
  .exact d
theorem JU(ls:List Tx)(j:Nat)(z:Tx):(am ls).set j (.str z)=am (ls.set j z):=by simp[am,List.map_set]
theorem iI(ls:List Tx):(am ls).length=ls.length:=by simp[am]
theorem OK{n:Nat}{v:Int}(c:0<=v)(b:v<n):jY n v=aa v.toNat:=by unfold jY;rw[if_pos c,if_pos b]
theorem Kz(ls:List Tx):iG (am ls)=ah:=by
 induction ls with
 |nil=>rfl
 |cons x ls b=>show(imm (.str x)&&iG (am ls))=ah;rw[b];rfl
theorem Ma(j:List Int)(l:List PV)(d f:Nat)(hs:d<3)(m1:1<=f)(m9:f<=9)(hx:l.length<=300):∃(w:Nat) (ls:List Tx) (n:List PV),1<=w/\w<=4/\(d≠2->2<=w)/\Good bR w ls/\ls.Pairwise (λa b=>dv a b=ah)/\ls.length<=f/\(d=0->∃z:Tx,ls=aC (wins z w)/\w<=z.length/\z.length+1<=w+f/\∀c∈z,c∈bR)/\n.length<=l.length+60 /\ sd a [bp j,.own (.lst l),⇑d,⇑f]=.ok (.val (.tup [.int w,.tup (am ls)])) [bp j,.own (.lst n),⇑d,⇑f]:=by
 obtain⟨w,O,W,X,hw⟩:∃w:Nat,1<=w/\w<=4/\(d≠2->2<=w)/\(b_ (dB (d2 (Pu.eqT ah) (dV 2) (dC (.int 2)))) (d2 aZ (dC (.int 2)) (bd (aV (gI a) (gV (dV 0) (gO 1 (gV (dC (.int 3)) (Pu.bN))))))) (d2 aZ (dC (.int 1)) (bd (aV (gI a) (gV (dV 0) (gO 1 (gV (dC (.int 4)) (Pu.bN)))))))) [bp j,.own (.lst l),⇑d,⇑f,.none,.none,.none] =
   .ok (.int w) [bp j,.own (.lst (l++[.int 0])),⇑d,⇑f,.none,.none,.none]:=by
  by_cases h2:d=2
  .subst h2;obtain⟨v,F,E,p⟩:=mh (a:=a) j l 4 (by decide) ∅;refine⟨(1+v).toNat,∅,∅,λz=>absurd rfl z,?_⟩;have e:Pu.eqT ah (.int 2) (.int 2)=aa (.bl ak):=by rw[nk];rfl
   have:((1+v).toNat:Int)=1+v:=∅
   simp![e,p,aZ,this]
  .obtain⟨v,F,E,p⟩:=mh (a:=a) j l 3 (by decide) ∅;refine⟨(2+v).toNat,∅,∅,λ_=>∅,?_⟩;have e:Pu.eqT ah (.int ((d:Nat):Int)) (.int 2)=aa (.bl ah):=by
    have:d=0\/d=1:=∅
    rcases this with rfl|rfl <;> (rw[nk];rfl)
   have:((2+v).toNat:Int)=2+v:=∅
   simp![e,p,aZ,this]
 obtain⟨z,D,C,L,g,G,B⟩:=wv (a:=a) j (l++[.int 0]) w (w+(f-1)) ∅ ∅ (by simp;lia);simp only[cZ,nK]at G;have Y:=tE (a:=a) z w ∅;have Qr:=N8 (z:=z) (w:=w) (m:=f-1) O C L;have g0:Good bR w (aC (wins z w)):=by exact Good.perm ⟨λx h=>(BH x h).1,λx h c hc=>g c ((BH x h).2 c hc),Qr.1,∅⟩ (ef _)
 have r:f_ (.int d) (.int 3)=aa (.int d):=by
  have:d=0\/d=1\/d=2:=∅
  rcases this with rfl|rfl|rfl <;> rfl
 have hr:jD [.int d]=aa (eQ 0 d):=wG ∅;have a_:(eQ 0 d).length=d:=by simp[eQ]
 obtain⟨S,e1,n,ls,A,rfl,u,o,h0,hy⟩:=yJ (i:=6) (db:=(w_ 5 (bd (aV (gI a) (gV (dV 0) (gO 1 (gV (fF (λl=>iE (bS l)) 5) (Pu.bN)))))) (bd (aV (jy a) (gV (dV 0) (gO 1 (gV (dV 4) (gV (dV 4) (Pu.bN)))))))))
  (I:=λk K=>∃n ls A,K=[bp j,.own (.lst n),⇑d,⇑f,⇑w,.own (.lst (am ls)),A]/\Good bR w ls/\ls.length<=f/\(k=0->ls=aC (wins z w))/\n.length<=D.length+10*k) (N:=d)
  (by
   rintro k K x hk ⟨n,ls,A,rfl,u,o,_,hy⟩;obtain⟨z,M,C,L,g,Z,B⟩:=wv (a:=a) j n w w ∅ ∅ ∅;obtain⟨v,F,E,p⟩:=mh (a:=a) j M (ls.length:Nat) (by have:=u.some;lia) ∅;refine⟨[bp j,.own (.lst (M++[.int 0])),⇑d,⇑f,⇑w,.own (.lst (am (ls.set v.toNat z))),.val x],?_,_,_,_,rfl,u.put ∅ g,by rw[iP];exact o,λz=>∅,by simp;lia⟩;have H:jY (am ls).length v=aa v.toNat:=OK F (by rw[iI];exact E);have hl:bS [.lst (am ls)]=aa (.int (ls.length:Nat)):=by simp[bS,iI]
   simp![w_,B,hl,p,H,JU])
  (eQ 0 d) 0 [bp j,.own (.lst D),⇑d,⇑f,⇑w,.own (.lst (am (aC (wins z w)))),.none] ∅ ⟨D,_,.none,rfl,g0,by rw[zK];lia,λ_=>rfl,∅⟩
 refine⟨w,aC ls,n,O,W,X,u.perm (ef _),tI _,by rw[zK];exact o,λz0=>⟨z,by rw[h0 ∅,wM (tI _)],C,∅,g⟩,∅,?_⟩;have Q:aZ (.int w) (.int f)=aa (.int ((w:Int)+f)):=rfl;have J:jc (.int ((w:Int)+f)) (.int 1)=aa (.int (((w+(f-1):Nat)):Int)):=by show aa (PV.int ((w:Int)+f-1))=_;congr 2;lia
 have P:=D1 (ls:=ls) (by have:=u.few;lia);have y:yaA a [bp j,.own (.lst l),⇑d,⇑f,.none,.none,.none]=.ok (.ret (.val (.tup [.int w,.tup (am (aC ls))]))) [bp j,.own (.lst n),⇑d,⇑f,⇑w,.own (.lst (am ls)),A]:=by unfold yaA;refine(cr (oQ hw)).trans ?_;have s:=Kz (aC ls);generalize am (aC ls)=T at P s;generalize ((w+(f-1):Nat):Int)=q at J B;generalize (w:Int)+f=q2 at Q J;simp[aD,b_,dB,d2,d1,dV,dC,dL,dF,aI,aU,cC,sy,br,dS,aV,gV,gO,Pu.bN,ii,gh,cN,fe,fP,R.bind,aB,bH,fz,bF,back,fW,km,oP,qi,tQ,zA,bd,kx,jX,g8,cX,Ab,nA,OG,mT,zX,sA,mP,n6,MA,qy,dR,dm,lZ,fF,nr,dy,o_,Q,J,B,Y,l8,r,eU,hr,cV,e1,P,E8,s,gY]
 simp[sd,bH,fz,bF,y,back,fW]
theorem map_set{b c:Type}(f:b->c)(l:List b)(j:Nat)(x:b):(l.map f).set j (f x)=(l.set j x).map f:=by simp[List.map_set]
theorem Pa(c b:List Tx):am c++am b=am (c++b):=by simp[am]
theorem Em{c:Type}(b:List c)(n:Nat):fX b (aa (n:Int)) ae=b.drop n:=by
 unfold fX;have d:HT.sIx b.length b.length ae=b.length:=rfl;rw[d,HT.sIx_nat];by_cases h:n<=b.length
 .rw[Bg h,ki (by rw[lx];lia)]
 .rw[Nat.min_eq_right ∅,GX ∅,GX ∅];simp
theorem qD{t T:String}{b:Bool}{x:PV}(h:tW x=aa t)(e:jk [] (.type t) (.type T)=aa b):jg [x,.raw (.ty T)]=aa (.bl b):=by show((tW x).bind λt=>(jk [] (.type t) (.type T)).map λb=>PV.bl b)=_;rw[h,jP,e];rfl
theorem ME:jk [] (.type "int") (.type "int")=aa ah:=by decide +kernel
theorem Of:jk [] (.type "int") (.type "bool")=aa ak:=by decide +kernel
theorem LO:jk [] (.type "str") (.type "str")=aa ah:=by decide +kernel
theorem yz:jk [] (.type "tuple") (.type "tuple")=aa ah:=by decide +kernel
theorem IC(bs:List Bool):lS (bs.map .bl)=aa bs:=by
 induction bs with
 |nil=>rfl
 |cons b bs c=>show(lS (bs.map .bl)).map (b::·)=_;rw[c];rfl
theorem yT(bs:List Bool):qJ [.lst (bs.map .bl)]=aa (.bl (bs.all id)):=by show(lS (bs.map .bl)).map _=_;rw[IC];rfl
theorem Lb(z s:Tx):w8 a [↥z,↥s]=.ok (.val (.bl (z.all s.contains))) [↥z,↥s]:=by
 have b:=lV (cap:=[1]) (dt:=dYes) (de:=(d2 (kq ak) (dV 0) (dV 1))) (ε:=[↥z,↥s]) (λ_=>ah) (λx=>match x with|.str [c]=>.bl (s.contains c)|_=>.non) (z.map λc=>.str [c])
  (by
   intro x g;obtain⟨c,_,rfl⟩:=bV.mp g;refine⟨by simp![eJ,e_,dX,dYes],λ_=>?_⟩;have i:kq ak (.str [c]) (.str s)=aa (.bl (s.contains c)):=by rw[<-Im];simp[kq]
   simp![eJ,e_,dX,i]) []
 have h:((z.map λc=>PV.str [c]).filter (λ_=>ah)).map (λx=>match x with|.str [c]=>PV.bl (s.contains c)|_=>.non)=(z.map s.contains).map .bl:=by rw[ut.mpr (by simp),d9,d9];rfl
 rw[iT,h]at b;have f:(z.map s.contains).all id=z.all s.contains:=by rw[xA];rfl
 generalize z.map s.contains=bs at b f;have d:=yT bs;rw[f]at d;simp![w8,yaj,cR,bI,gg,b,d]
def jv(w:Int)(s z:Tx):Bool:=decide ((z.length:Int)=w)&&z.all s.contains
theorem IR(z s:Tx)(w:Int):qO a [↥z,⇑w,↥s]=.ok (.val (.bl (jv w s z))) [↥z,⇑w,↥s]:=by
 have d:jg [.str z,.raw (.ty "str")]=aa (.bl ah):=qD rfl LO;have f:=Lb (a:=a) z s;have c:bS [.str z]=aa (.int (z.length:Nat)):=rfl;have b:=nk ak (z.length:Nat) w;unfold jv;by_cases h:((z.length:Nat):Int)=w
 .simp only[h,decide_true,Bool.xor_true,Bool.not_false]at b;simp![qO,yap,d,c,b,f,h]
 .simp only[h,decide_false,Bool.xor_false]at b;simp![qO,yap,d,c,b,h]
theorem B9(d c:List Tx):gE (am d) (am c)=aa (decide (d=c)):=by
 induction d generalizing c with
 |nil=>cases c <;> simp[am,gE]
 |cons x d f=>
  cases c with
  |nil=>simp[am,gE]
  |cons y c=>
   show(cW (.str x) (.str y)).bind (λa=>(gE (am d) (am c)).map λb=>a&&b)=_;rw[f];have:cW (.str x) (.str y)=aa (decide (x=y)):=by
    show aa (tS x == tS y)=_;by_cases h:x=y
    .subst h;simp
    .have:tS x≠tS y:=λz=>h (qp z);simp[h,this]
   rw[this];simp[xL]
theorem Cp(b:List Tx):iy (am b)=0:=by
 induction b with
 |nil=>rfl
 |cons x b c=>show max (jb (.str x)) (iy (am b))=0;rw[c];rfl
theorem FI(b:Bool)(c d:List Tx):Pu.eqT b (.lst (am c)) (.lst (am d))=aa (.bl (b^^decide (c=d))):=by show(if jb (.lst (am c))<=8 then(gE (am c) (am d)).map (λk=>PV.bl (b^^k))else ae)=_;rw[if_pos (by show iy (am c)+1<=8;rw[Cp];decide),B9];rfl
theorem Jf(b:List Tx)(w:Int)(s:Tx)(u:1<=b.length)(r:b.length<=9):nh a [.val (.tup (am b)),⇑w,↥s]=.ok (.val (.bl (b.all (jv w s)&&decide (b=aC b)))) [.val (.tup (am b)),⇑w,↥s]:=by
 have h:jg [.tup (am b),.raw (.ty "tuple")]=aa (.bl ah):=qD rfl yz;have i:bS [.tup (am b)]=aa (.int (b.length:Nat)):=by simp[bS,iI]
 have m:(1:Int)<=(b.length:Nat):=∅
 have l:((b.length:Nat):Int)<=9:=∅
 have d:=lV (cap:=[1,2]) (dt:=dYes) (de:=(bd (aV (qO a) (gV (dV 0) (gV (dV 1) (gV (dV 2) (Pu.bN))))))) (ε:=[.val (.tup (am b)),⇑w,↥s]) (λ_=>ah) (λx=>match x with|.str z=>.bl (jv w s z)|_=>.non) (am b)
  (by intro x o;obtain⟨z,_,rfl⟩:=bV.mp o;refine⟨by simp![eJ,e_,dX,dYes],λ_=>?_⟩;have p:=IR (a:=a) z s w;simp![eJ,e_,dX,p]) []
 have q:((am b).filter (λ_=>ah)).map (λx=>match x with|.str z=>PV.bl (jv w s z)|_=>.non)=(b.map (jv w s)).map .bl:=by rw[ut.mpr (by simp)];unfold am;rw[d9,d9];rfl
 rw[iT,q]at d;have g:(b.map (jv w s)).all id=b.all (jv w s):=by rw[xA];rfl
 generalize b.map (jv w s)=bs at d g;have f:=yT bs;have n:b.length<=1000000:=∅
 have c:=FI ak b (aC b);cases j:b.all (jv w s)with
 |false=>rw[g,j]at f;simp![nh,yad,h,i,m,l,cR,bI,gg,d,f]
 |true=>rw[g,j]at f;simp only[um]at c;simp![nh,yad,h,i,m,l,cR,bI,gg,d,f,l8,l9,n9,n,c]
theorem Py(b:List Tx)(w:Int)(s:Tx)(h:b.length=0\/9<b.length):nh a [.val (.tup (am b)),⇑w,↥s]=.ok (.val (.bl ak)) [.val (.tup (am b)),⇑w,↥s]:=by
 have c:jg [.tup (am b),.raw (.ty "tuple")]=aa (.bl ah):=qD rfl yz;have d:bS [.tup (am b)]=aa (.int (b.length:Nat)):=by simp[bS,iI]
 by_cases f:(1:Int)<=(b.length:Nat)
 .have g:¬((b.length:Nat):Int)<=9:=∅
  simp![nh,yad,c,d,f,g]
 .simp![nh,yad,c,d,f]
theorem N_(i:Int):vB a [⇑i]=.ok (.val (.bl ah)) [⇑i]:=by have c:jg [.int i,.raw (.ty "int")]=aa (.bl ah):=qD rfl ME;have b:jg [.int i,.raw (.ty "bool")]=aa (.bl ak):=qD rfl Of;simp![vB,yan,c,b]
theorem JH(i:Int):qS a [⇑i]=.ok (.val (.bl (decide (1<=i/\i<=4)))) [⇑i]:=by
 have h:=N_ (a:=a) i;by_cases b:1<=i
 .by_cases c:i<=4
  .simp![qS,yao,h,b,c]
  .simp![qS,yao,h,b,c]
 .simp![qS,yao,h,b]
def sx(s:Tx)(w:Int)(b:List Tx):Bool:=decide (1<=w/\w<=4)&&(decide (1<=b.length/\b.length<=9)&&(b.all (jv w s)&&decide (b=aC b)))
theorem PN(s:Tx)(w:Int)(b:List Tx):qB a [.val (.tup [.int w,.tup (am b)]),↥s]=.ok (.val (.bl (sx s w b))) [.val (.tup [.int w,.tup (am b)]),↥s]:=by
 have h:jg [.tup [.int w,.tup (am b)],.raw (.ty "tuple")]=aa (.bl ah):=qD rfl yz;have l:bS [.tup [.int w,.tup (am b)]]=aa (.int 2):=rfl;have f:=nk ah 2 2;simp only[decide_true,Bb,Bool.not_true]at f;have j:bL (.tup [.int w,.tup (am b)]) (.int 0)=aa (.int w):=rfl;have i:bL (.tup [.int w,.tup (am b)]) (.int 1)=aa (.tup (am b)):=rfl;have d:=JH (a:=a) w;unfold sx;by_cases c:1<=w/\w<=4
 .rw[decide_eq_true c]at d ⊢;by_cases g:1<=b.length/\b.length<=9
  .have m:=Jf (a:=a) b w s g.1 g.2;rw[decide_eq_true g];simp![qB,yam,h,l,f,j,i,d,m]
  .have m:=Py (a:=a) b w s ∅;rw[decide_eq_false g];simp![qB,yam,h,l,f,j,i,d,m]
 .rw[decide_eq_false c]at d ⊢;simp![qB,yam,h,l,f,j,i,d]
abbrev vw(w:Int)(b:List Tx):Bool:=sx bR w b
theorem J4(w:Int)(b:List Tx):wu a [.val (.tup [.int w,.tup (am b)])]=.ok (.val (.bl (vw w b))) [.val (.tup [.int w,.tup (am b)])]:=by have c:=PN (a:=a) bR w b;simp only[bR]at c;simp![wu,yal,c];rfl
theorem Fa{w:Int}{b:List Tx}(h:vw w b=ah):qo a [.val (.tup [.int w,.tup (am b)])]=.ok (.val .non) [.val (.tup [.int w,.tup (am b)])]:=by have c:=J4 (a:=a) w b;rw[h]at c;simp![qo,yae,c]
theorem Good.vw{w:Nat}{d:List Tx}(g:Good bR w d)(n:1<=w)(m:w<=4)(h:d.Pairwise (λa b=>dv a b=ah)):vw w d=ah:=by
 have l:d.all (jv w bR)=ah:=by rw[nN];intro x f;unfold jv;rw[g.len x f,decide_eq_true rfl,Bool.true_and,nN];intro c i;simpa using g.abc x f c i
 have j:decide (d=aC d)=ah:=decide_eq_true (wM h).symm;show sx bR w d=ah;unfold sx;rw[l,j,decide_eq_true (show 1<=(w:Int)/\(w:Int)<=4 by lia),decide_eq_true (show 1<=d.length/\d.length<=9 from⟨g.some,g.few⟩)];rfl
end
def bu(m:List (Tx×Int))(x:Tx):Option Int:=(m.find? λp=>decide (p.1=x)).map (·.2)
def cK(m:List (Tx×Int))(x:Tx)(n:Int):List (Tx×Int):=if(m.any λp=>decide (p.1=x))=ah then m.map (λp=>if p.1=x then(p.1,n)else p)else m++[(x,n)]
def dk(m:List (Tx×Int)):List (aA×PV):=m.map λp=>(Sum.inr (tS p.1),PV.int p.2)
theorem Af(x y:Tx):((Sum.inr (tS x):aA)=Sum.inr (tS y))=(x=y):=propext ⟨λh=>qp (Sum.inr.inj h),λh=>by rw[h]⟩
theorem sr(m:List (Tx×Int))(x:Tx):i6 (dk m) (Sum.inr (tS x))=(bu m x).map .int:=by
 induction m with
 |nil=>rfl
 |cons p m a=>
  show((List.find? _ ((Sum.inr (tS p.1),PV.int p.2)::dk m)).map (·.2))=_;unfold bu;rw[iQ,iQ];simp only[Af];by_cases h:p.1=x
  .simp[h]
  .simp only[h,decide_false];exact a
theorem O3(m:List (Tx×Int))(x:Tx):((dk m).any λa=>decide (a.1=(Sum.inr (tS x):aA)))=m.any λp=>decide (p.1=x):=by unfold dk;rw[AZ];congr 1;funext p;simp only[mD,Af]
theorem vP(m:List (Tx×Int))(x:Tx)(n:Int):mW (dk m) (Sum.inr (tS x)) (.int n)=dk (cK m x n):=by
 unfold mW cK;rw[O3];split
 .unfold dk;rw[d9,d9];refine ig λp _=>?_;simp only[mD,Af];split <;> rfl
 .unfold dk;simp
theorem EL(m:List (Tx×Int)):oK (dk m)=aa (m.any λp=>decide (p.2≠0)):=by
 induction m with
 |nil=>rfl
 |cons p m a=>show(oK (dk m)).map _=_;rw[a];simp
theorem vD{m:List (Tx×Int)}{x:Tx}(h:(m.any λp=>decide (p.1=x))=ak):bu m x=ae:=by unfold bu;rw[GY,Bh];intro p a;have:=Gh.mp h p a;simpa using this
theorem Ko{m:List (Tx×Int)}{x y:Tx}{n:Int}(h:(m.any λp=>decide (p.1=x))=ak):bu (m++[(x,n)]) y=if y=x then aa n else bu m y:=by
 have a:=vD h;unfold bu at a ⊢;rw[List.find?_append];by_cases e:y=x
 .subst e;rw[GY]at a;simp[a]
 .rw[if_neg e];have:¬x=y:=λz=>e z.symm;cases b:m.find? (λp=>decide (p.1=y))with
  |none=>simp[this]
  |some p=>simp
theorem HW{m:List (Tx×Int)}{x y:Tx}{n:Int}:bu (m.map λp=>if p.1=x then(p.1,n)else p) y=(bu m y).map λz=>if y=x then n else z:=by
 induction m with
 |nil=>rfl
 |cons p m a=>
  unfold bu at a ⊢;rw[bZ,iQ,iQ];by_cases h:p.1=x
  .rw[if_pos h];by_cases e:p.1=y
   .simp[e,show y=x from e.symm.trans h]
   .simp only[e,decide_false];exact a
  .rw[if_neg h];by_cases e:p.1=y
   .simp[e,show ¬y=x from λz=>h (e.trans z)]
   .simp only[e,decide_false];exact a
theorem FW{m:List (Tx×Int)}{x:Tx}(h:(m.any λp=>decide (p.1=x))=ah):∃n,bu m x=aa n:=by
 unfold bu;cases a:m.find? (λp=>decide (p.1=x))with
 |none=>rw[Bh]at a;obtain⟨p,c,b⟩:=nQ.mp h;exact absurd b (a p c)
 |some p=>exact⟨_,rfl⟩
theorem lT(m:List (Tx×Int))(x y:Tx)(n:Int):bu (cK m x n) y=if y=x then aa n else bu m y:=by
 unfold cK;by_cases h:(m.any λp=>decide (p.1=x))=ah
 .rw[if_pos h,HW];by_cases e:y=x
  .subst e;obtain⟨k,a⟩:=FW h;rw[a];simp
  .simp[e]
 .rw[if_neg h,Ko (Bool.eq_false_iff.mpr h)]
structure ng(m:List (Tx×Int))(q:List Tx):Prop where
 nd:(m.map (·.1)).Nodup
 get:∀x,(bu m x).getD 0=(q.count x:Nat)
theorem ng.mem{m:List (Tx×Int)}{q:List Tx}(h:ng m q){p:Tx×Int}(a:p∈m):bu m p.1=aa p.2:=by
 have b:=h.nd;clear h
 induction m with
 |nil=>cases a
 |cons r m c=>
  unfold bu;rw[iQ];rcases bw.mp a with rfl|a
  .simp
  .rw[bZ,jm]at b;have:¬r.1=p.1:=λz=>b.1 (bV.mpr ⟨p,a,z.symm⟩);simp only[this,decide_false];exact c a b.2
theorem CZ{m:List (Tx×Int)}{x:Tx}{n:Int}:(cK m x n).map (·.1)=if(m.any λp=>decide (p.1=x))=ah then m.map (·.1)else m.map (·.1)++[x]:=by
 unfold cK;split
 .rw[d9];refine ig λp _=>?_;simp only[mD];split <;> rfl
 .simp
theorem ot{m:List (Tx×Int)}{x:Tx}{n:Int}(h:(m.map (·.1)).Nodup):((cK m x n).map (·.1)).Nodup:=by
 rw[CZ];split
 .exact h
 .rename_i f;rw[xI];refine⟨h,by simp,λa g b c=>?_⟩;rw[eN]at c;subst c;rintro rfl;obtain⟨p,d,rfl⟩:=bV.mp g;exact f (nQ.mpr ⟨p,d,by simp⟩)
theorem ng.any{m:List (Tx×Int)}{q:List Tx}(h:ng m q):(m.any λp=>decide (p.2≠0))=!q.isEmpty:=by
 cases q with
 |nil=>rw[GV,Bool.not_true,Gh];intro p b;have a:=h.get p.1;rw[h.mem b]at a;simpa using a
 |cons x q=>
  rw[List.isEmpty_cons,Bool.not_false,nQ];have a:=h.get x;rw[uu]at a;cases e:m.find? (λp=>decide (p.1=x))with
  |none=>unfold bu at a;rw[e]at a;simp at a;lia
  |some p=>unfold bu at a;rw[e]at a;refine⟨p,List.mem_of_find?_eq_some e,?_⟩;simp at a;simp;lia
theorem ng.dec{m:List (Tx×Int)}{q:List Tx}(h:ng m q){x:Tx}(i:x∈q):∃n,bu m x=aa n/\0<n/\ng (cK m x (n-1)) (q.erase x)/\bu (cK m x (n-1)) x=aa (n-1)/\cK (cK m x (n-1)) x (n-1+1)=m:=by
 have a:=h.get x;have o:0<q.count x:=uv.mpr i;cases e:bu m x with
 |none=>rw[e]at a;simp at a;lia
 |some n=>
  rw[e]at a;simp only[GZ]at a;refine⟨n,rfl,∅,⟨ot h.nd,λy=>?_⟩,by rw[lT,if_pos rfl],?_⟩
  .rw[lT];by_cases c:y=x
   .subst c;rw[if_pos rfl,Bi];simp only[GZ];lia
   .rw[if_neg c,Bj (eD (eD c))];exact h.get y
  .have f:(m.any λp=>decide (p.1=x))=ah:=by
    cases z:(m.any λp=>decide (p.1=x))with
    |true=>rfl
    |false=>rw[vD z]at e;cases e
   have j:((cK m x (n-1)).any λp=>decide (p.1=x))=ah:=by unfold cK;rw[if_pos f];obtain⟨p,d,b⟩:=nQ.mp f;refine nQ.mpr ⟨_,bV.mpr ⟨p,d,rfl⟩,?_⟩;rw[decide_eq_true_eq]at b;rw[if_pos b];simpa using b
   have l:cK (cK m x (n-1)) x (n-1+1)=(m.map λp=>if p.1=x then(p.1,n-1)else p).map λp=>if p.1=x then(p.1,n-1+1)else p:=by show(if((cK m x (n-1)).any λp=>decide (p.1=x))=ah then _ else _)=_;rw[if_pos j];unfold cK;rw[if_pos f]
   rw[l,d9];have:∀p∈m,((λp:Tx×Int=>if p.1=x then(p.1,n-1+1)else p) ∘ λp:Tx×Int=>if p.1=x then(p.1,n-1)else p) p=p:=by
    intro p d;simp only[mD];by_cases c:p.1=x
    .rw[if_pos c,if_pos c];have g:=h.mem d;rw[c,e]at g;cases g;rw[show p.2-1+1=p.2 by lia]
    .rw[if_neg c,if_neg c]
   rw[ig this,List.map_id''];intro p;rfl
theorem ng.zero{m:List (Tx×Int)}{q:List Tx}(h:ng m q){x:Tx}(a:x∉q):(bu m x).getD 0=0:=by rw[h.get,GU a];rfl
section
variable{a:Ad}
theorem Oo(b:List Tx)(G:b.length<=100):∃m,ng m b/\m.length<=b.length/\tX a [.val (.tup (am b))]=.ok (.own (.dK (dk m))) [.val (.tup (am b))]:=by
 obtain⟨w,v,m,g,l,rfl,f,j,C⟩:=xh (i:=2) (db:=(eZ 1 (dV 2) (d2 aZ (g9 1 (dV 2) (dC (.int 0))) (dC (.int 1)))))
  (I:=λr h=>∃(m:List (Tx×Int)) (g:Slot) (l:List Tx),h=[.val (.tup (am b)),.own (.dK (dk m)),g]/\ng m l/\m.length<=l.length/\∃q,b=l++q/\r=am q)
  (by
   rintro x r h ⟨m,g,l,rfl,f,j,q,d,p⟩;cases q with
   |nil=>cases p
   |cons y q=>
    have n:x::r=.str y::am q:=p;simp only[xL]at n;obtain⟨rfl,rfl⟩:=n;have F:m.length<bQ:=by have:=congrArg o_ d;simp at this;unfold bQ;lia
    refine⟨[.val (.tup (am b)),.own (.dK (dk (cK m y ((bu m y).getD 0+1)))),↥y],?_,cK m y ((bu m y).getD 0+1),_,l++[y],rfl,⟨ot f.nd,λz=>?_⟩,?_,q,by rw[d];simp,rfl⟩
    .have o:=sr m y;have s:=vP m y ((bu m y).getD 0+1);have u:(dk m).length<bQ:=by unfold dk;rw[cM];exact F
     have B:((bu m y).map PV.int).getD (.int 0)=.int ((bu m y).getD 0):=by cases bu m y <;> rfl
     generalize dk m=D at o s u;simp![eZ,g9,cP,gB,o,B,aZ,u,s]
    .rw[lT];by_cases c:z=y
     .subst c;rw[if_pos rfl,Bf,List.count_singleton_self];have:=f.get z;simp only[GZ];lia
     .rw[if_neg c,Bf,f.get z];have:[y].count z=0:=GU (by simpa using c);rw[this];rfl
    .have:(cK m y ((bu m y).getD 0+1)).length<=m.length+1:=by
      unfold cK;split <;> simp
     rw[cZ,nK];lia)
  (am b) [.val (.tup (am b)),.own (.dK (dk [])),.none] ⟨[],.none,[],rfl,⟨by simp,λx=>by simp[bu]⟩,by simp,b,by simp,rfl⟩
 obtain⟨q,d,A⟩:=C;have:q=[]:=by cases q with|nil=>rfl|cons=>cases A
 subst this;rw[ie]at d;subst d;refine⟨m,f,j,?_⟩;have E:dk []=[]:=rfl;rw[E]at v;simp![tX,yaf,qw,eU,bI,gg,cV,v,j5]
theorem MQ{t:Tx}{w:Nat}(b:w<=t.length+1)(c:1<=w):cu (.str t) (aa ((t.length:Int)-w+1)) ae=aa (.str (t.drop (t.length+1-w))):=by show aa (PV.str (fX t _ ae))=_;rw[show((t.length:Int)-w+1)=((t.length+1-w:Nat):Int) by lia,Em]
def oA(c:Nat):PV:=.str [c]
theorem En(w:Nat)(S:1<=w):∀(r v:Nat) (t:Tx) (m:List (Tx×Int)) (q:List Tx) (b:List Tx),r<v->q.length=r->ng m q->w<=t.length+1->t.length+r<=1000->m.length<=1000->b.length+(g6 w r t q).length<=bQ -> nu a v [↥t,⇑w,.own (.dK (dk m)),.own (.lst (am b))]=.ok (.val .non) [↥t,⇑w,.own (.dK (dk m)),.own (.lst (am (b++g6 w r t q)))]
 |0,0,_,_,_,_,h,_,_,_,_,_,_=>absurd h ∅
 |r+1,0,_,_,_,_,h,_,_,_,_,_,_=>absurd h ∅
 |0,v+1,t,m,q,b,_,hq,hm,hw,ht,pV,hs=>by
  have N:q=[]:=mC.mp hq;subst N;have d:=EL m;rw[hm.any]at d;simp only[GV,Bool.not_true]at d;have Z:(am b).length<bQ:=by rw[iI];simp only[g6,nK]at hs;lia
  have e:am (b++g6 w 0 t [])=am b++[.str t]:=by simp[am,g6]
  rw[e];generalize dk m=D at d;generalize am b=L at Z;simp![nu,yac,sS,cP,d,Z]
 |r+1,v+1,t,m,q,b,hf,hq,hm,hw,ht,pV,hs=>by
  have cy:q.isEmpty=ak:=by cases q with|nil=>cases hq|cons=>rfl
  have d:=EL m;rw[hm.any,cy]at d;simp only[Bool.not_false]at d;have B:=MQ (t:=t) hw S;have be:bS [.str t]=aa (.int (t.length:Nat)):=rfl;have fK:jc (.int (t.length:Nat)) (.int w)=aa (.int ((t.length:Int)-w)):=rfl;have eO:aZ (.int ((t.length:Int)-w)) (.int 1)=aa (.int ((t.length:Int)-w+1)):=rfl
  let H:=t.drop (t.length+1-w)
  let f:=λc=>if H++[c]∈q then g6 w r (t++[c]) (q.erase (H++[c]))else []
  have hE:g6 w (r+1) t q=bR.flatMap f:=rfl;have hH:H.length<=1000:=by simp only[H,lx];lia
  obtain⟨ε',u,G,F,p,rest,s,M,rfl⟩:=xh (i:=5) (db:=(aD (br 6 (d2 aZ (dV 4) (dV 5)))
 (b_ (dB (d2 (dR λi j=>decide (j<i)) (g9 2 (dV 6) (dC (.int 0))) (dC (.int 0)))) (aD (eZ 2 (dV 6) (d2 jc (me 2 (dV 6)) (dC (.int 1))))
 (aD (nA (aV (nu a v) (gV (d2 aZ (dV 0) (dV 5)) (gV (dV 1) (gO 2 (gO 3 (Pu.bN)))))))
 (eZ 2 (dV 6) (d2 aZ (me 2 (dV 6)) (dC (.int 1)))))) (cX))))
   (I:=λJ Q=>∃(G F:Slot) (p rest:Tx),bR=p++rest/\J=rest.map oA/\Q=[↥t,⇑w,.own (.dK (dk m)),.own (.lst (am (b++p.flatMap f))),↥H,G,F])
   (by
    rintro x J Q ⟨G,F,p,rest,s,X,rfl⟩;cases rest with
    |nil=>cases X
    |cons c rest=>
     have G_:x::J=oA c::rest.map oA:=X;simp only[xL]at G_;obtain⟨rfl,rfl⟩:=G_;have T:aZ (.str H) (.str [c])=aa (.str (H++[c])):=wa (by simp[bQ];lia);have pP:aZ (.str t) (.str [c])=aa (.str (t++[c])):=wa (by simp[bQ];lia);have Qf:b.length+(p.flatMap f).length+(f c).length<=bQ:=by rw[hE,s,G0,uo,cZ,cZ]at hs;lia
     have Y:am (b++(p++[c]).flatMap f)=am ((b++p.flatMap f)++f c):=by simp
     by_cases C:H++[c]∈q
     .obtain⟨n,O,g2,g3,g4,g5⟩:=hm.dec C;have l:f c=g6 w r (t++[c]) (q.erase (H++[c])):=if_pos C;have y:=En w S r v (t++[c]) (cK m (H++[c]) (n-1)) (q.erase (H++[c])) (b++p.flatMap f) ∅ (by rw[ur C,hq];rfl) g3 (by simp;lia) (by simp;lia)
       (by
        have:(cK m (H++[c]) (n-1)).length=m.length:=by
         have:=congrArg o_ (CZ (m:=m) (x:=H++[c]) (n:=n-1));have d:(m.any λp=>decide (p.1=H++[c]))=ah:=by
          cases z:(m.any λp=>decide (p.1=H++[c]))with
          |true=>rfl
          |false=>rw[vD z]at O;cases O
         rw[if_pos d]at this;simpa using this
        lia)
       (by rw[<-l,cZ];exact Qf)
      rw[<-l]at y;have o:=sr m (H++[c]);rw[O]at o;have P:=vP m (H++[c]) (n-1);have g:=sr (cK m (H++[c]) (n-1)) (H++[c]);rw[g4]at g;have E:=vP (cK m (H++[c]) (n-1)) (H++[c]) (n-1+1);rw[g5,show n-1+1=n by lia]at E;have A:(dk m).length<bQ:=by unfold dk;rw[cM];unfold bQ;lia
      have W:(dk (cK m (H++[c]) (n-1))).length<bQ:=by
       unfold dk;rw[cM];have:(cK m (H++[c]) (n-1)).length<=m.length+1:=by unfold cK;split <;> simp
       unfold bQ;lia
      have gt:(0:Int)<n:=g2;refine⟨[↥t,⇑w,.own (.dK (dk m)),.own (.lst (am (b++(p++[c]).flatMap f))),↥H,.val (.str [c]),↥(H++[c])],?_,_,_,p++[c],rest,by rw[s];simp,rfl,rfl⟩;rw[Y];have s1:jc (.int n) (.int 1)=aa (.int (n-1)):=rfl;have s2:aZ (.int (n-1)) (.int 1)=aa (.int n):=by show aa (PV.int (n-1+1))=_;congr 2;lia
      simp only[pA]at o g;generalize dk m=D at o P E A;generalize dk (cK m (H++[c]) (n-1))=D2 at g P E y W;generalize am (b++p.flatMap f)=L at y;generalize am ((b++p.flatMap f)++f c)=L2 at y;clear_value H f;simp![oA,T,g9,me,eZ,cP,gB,o,gt,s1,A,P,pP,y,g,s2,W,E]
     .have l:f c=[]:=if_neg C;have K:=hm.zero C;have o:=sr m (H++[c]);have hg:((bu m (H++[c])).map PV.int).getD (.int 0)=.int 0:=by
       cases e:bu m (H++[c])with
       |none=>rfl
       |some k=>rw[e]at K;simp at K;subst K;rfl
      refine⟨[↥t,⇑w,.own (.dK (dk m)),.own (.lst (am (b++(p++[c]).flatMap f))),↥H,.val (.str [c]),↥(H++[c])],?_,_,_,p++[c],rest,by rw[s];simp,rfl,rfl⟩;rw[Y,l,ie];generalize dk m=D at o;generalize am (b++p.flatMap f)=L;clear_value H f;simp![oA,T,g9,cP,gB,o,hg])
   (bR.map oA) [↥t,⇑w,.own (.dK (dk m)),.own (.lst (am (b++([]:Tx).flatMap f))),↥H,.none,.none] ⟨.none,.none,[],bR,by simp,rfl,rfl⟩
  have jV:rest=[]:=by cases rest with|nil=>rfl|cons=>cases M
  subst jV;rw[ie]at s;rw[hE];rw[<-s]at u;simp only[GR,ie]at u;have jr:gg (.str [97,98,99])=aa (bR.map oA):=rfl;have Qs:cu (.str t) (aa ((t.length:Int)-w+1)) ae=aa (.str H):=B;generalize dk m=D at d u;generalize am b=L at u;generalize am (b++bR.flatMap f)=L2 at u;clear_value H f;simp![nu,yac,sS,cP,d,cg,ca,cz,be,fK,eO,Qs,cV,eU,bI,jr,u]
end
section
variable{a:Ad}
abbrev bi(w:Nat)(b:List Tx):PV:=.tup [.int w,.tup (am b)]
theorem Er{c:Type}(b:List c):fX b ae (aa (-1))=b.dropLast:=by unfold fX;rw[show HT.sIx b.length 0 ae=0 from rfl,pi,Nat.sub_zero,G1];congr 1;show(HT.sIx b.length b.length (aa (-1)))=_;show(if(-1:Int)<0 then((-1:Int)+(b.length:Int)).toNat else min (-1:Int).toNat b.length)=_;rw[if_pos (by decide)];lia
theorem Md{w:Nat}{b:List Tx}(g:Good bR w b)(d:1<=w)(f:w<=4):(fA w b).length<=531441:=by rw[zT d g.some λx c=>⟨g.len x c,g.abc x c⟩];refine cH (xM _ _) ?_;rw[FH];exact cH (Nat.pow_le_pow_right (by decide) (show w-1+b.length<=12 by have:=g.few;lia)) (by decide)
theorem HH(V:PV)(d:List Tx)(w:Nat)(c b:Slot):i9 [] dYes (cg cu (dV 0) cz (ca (d1 dJ (dC (.int 1))))) (am d) [] [.val V,⇑w,c,b]=.ok (am (d.map nP)) [.val V,⇑w,c,b]:=by
 have i:=lV (cap:=[]) (dt:=dYes) (de:=(cg cu (dV 0) cz (ca (d1 dJ (dC (.int 1)))))) (ε:=[.val V,⇑w,c,b]) (λ_=>ah) (λx=>match x with|.str z=>.str z.dropLast|_=>.non) (am d)
  (by
   intro x f;obtain⟨z,_,rfl⟩:=bV.mp f;refine⟨by simp![eJ,e_,dX,dYes],λ_=>?_⟩;have g:cu (.str z) ae (aa (-1))=aa (.str z.dropLast):=by show aa (PV.str (fX z ae (aa (-1))))=_;rw[Er]
   have h:dJ (.int 1)=aa (.int (-1)):=rfl;simp![eJ,e_,dX,cg,cz,ca,h,g]) []
 rw[i,iT,ut.mpr (by simp)];unfold am;rw[d9,d9];rfl
theorem OQ{w:Nat}{c:List Tx}(g:Good bR w c)(u:1<=w)(G:w<=4)(X:c.Pairwise (λa b=>dv a b=ah)):wP a [.val (bi w c)]=.ok (.own (.lst (am (fA w c)))) [.val (bi w c)]:=by
 have n:=Fa (a:=a) (g.vw u G X);have A:bL (bi w c) (.int 0)=aa (.int w):=rfl;have o:bL (bi w c) (.int 1)=aa (.tup (am c)):=rfl;obtain⟨m,C,K,l⟩:=Oo (a:=a) c (by have:=g.few;lia);have P:m.length<=1000:=by have:=g.few;lia
 let hd:=aC (bJ (c.map nP))
 have Q:∀h∈hd,h.length=w-1:=λh M=>by have C:=(lX _ _).mp ((ef _).mem_iff.mp M);obtain⟨y,W,rfl⟩:=bV.mp C;rw[A4,g.len y W]
 let f:=λh=>g6 w c.length h c
 have N:fA w c=hd.flatMap f:=rfl;have E:=Md g u G;obtain⟨O,j,v,p,rest,q,B,rfl⟩:=xh (i:=3) (db:=(nA (mS (nu a 12) (kw (dV 3) (kw (dV 1) (gN (kx (aV (tX a) (gV (d2 bL (dV 0) (dC (.int 1))) (Pu.bN)))) (gO 2 (Pu.bN))))))))
  (I:=λr F=>∃(v:Slot) (p rest:List Tx),hd=p++rest/\r=am rest/\F=[.val (bi w c),⇑w,.own (.lst (am (p.flatMap f))),v])
  (by
   rintro x r F ⟨v,p,rest,q,J,rfl⟩;cases rest with
   |nil=>cases J
   |cons h rest=>
    have H:x::r=.str h::am rest:=J;simp only[xL]at H;obtain⟨rfl,rfl⟩:=H;have M:h.length=w-1:=Q h (by rw[q];simp);have s:=En (a:=a) w u c.length 12 h m c (p.flatMap f) (by have:=g.few;lia) rfl C ∅ (by have:=g.few;lia) P (by rw[N,q,G0,uo,cZ,cZ]at E;show(p.flatMap f).length+(f h).length<=bQ;unfold bQ;lia);refine⟨[.val (bi w c),⇑w,.own (.lst (am ((p++[h]).flatMap f))),↥h],?_,_,p++[h],rest,by rw[q];simp,rfl,rfl⟩;have Z:(p++[h]).flatMap f=p.flatMap f++g6 w c.length h c:=by simp[f]
    rw[Z];generalize am (p.flatMap f)=L at s;generalize am (p.flatMap f++g6 w c.length h c)=L2 at s;generalize dk m=D at s l;simp only[bi]at o ⊢;generalize am c=T at l o;clear_value f hd;simp![mS,kw,gN,yW,o,l,s])
  (am hd) [.val (bi w c),⇑w,.own (.lst (am (([]:List Tx).flatMap f))),.none] ⟨.none,[],hd,by simp,rfl,rfl⟩
 have S:rest=[]:=by cases rest with|nil=>rfl|cons=>cases B
 subst S;rw[ie]at q;rw[<-q,<-N]at j;simp only[GR]at j;have d:=HH (bi w c) c w (.own (.lst [])) .none;have z:tL [.lst (am (c.map nP))]=aa (.lst (am hd)):=by show(fG (am _)).bind _=_;have h2:=g.few;rw[n9,jP,if_pos (ub (EU _) (by rw[cM];lia))]
 have e0:am ([]:List Tx)=[]:=rfl;rw[e0]at j;generalize am (fA w c)=L at j;generalize am hd=D at j z;generalize am (c.map nP)=D0 at d z;simp only[bi]at n A o d j ⊢;generalize Y:am c=T at n A o d j;clear_value f hd;simp![wP,yaC,n,A,o,cV,eU,bI,gg,cR,d,z,j,j5]
theorem Io{w:Nat}{c:List Tx}(g:Good bR w c)(i:1<=w)(h:w<=4)(j:c.Pairwise (λa b=>dv a b=ah)):v9 a [.val (bi w c)]=.ok (⇑((fA w c).length:Nat)) [.val (bi w c)]:=by
 have d:=OQ (a:=a) g i h j;have f:bS [.lst (am (fA w c))]=aa (.int ((fA w c).length:Nat)):=by simp[bS,iI]
 generalize am (fA w c)=L at d f;simp![v9,yak,d,f]
theorem DQ(b:List Tx):i_ (am b)=aa (bU b):=by
 induction b with
 |nil=>rfl
 |cons x b c=>show(dD (.str x)).bind (λv=>(i_ (am b)).map (v::·))=_;rw[c];rfl
theorem E6(b:List Tx)(x:Tx):oq (am b) (.str x)=aa (.int (b.count x:Nat)):=by show(dD (.str x)).bind (λv=>(i_ (am b)).map λc=>PV.int (c.countP λz=>fS z v))=_;rw[DQ,<-I_];rfl
theorem Oj(w:Nat)(b:List Tx)(t:Tx)(p:t.length<=60):oS a [↥t,⇑w,.val (.tup (am b))]=.ok (.val (.bl (unD w b t))) [↥t,⇑w,.val (.tup (am b))]:=by
 have g:=tE (a:=a) t w p
 let M:=aC (wins t w)
 have f:=lV (cap:=[3,2]) (dt:=dYes) (de:=(d2 (dR λi j=>decide (i<=j)) (qj oq (dV 1) (dV 0)) (qj oq (dV 2) (dV 0)))) (ε:=[↥t,⇑w,.val (.tup (am b)),.val (.tup (am M))]) (λ_=>ah) (λx=>match x with|.str z=>.bl (decide (M.count z<=b.count z))|_=>.non) (am M)
  (by intro x c;obtain⟨z,_,rfl⟩:=bV.mp c;refine⟨by simp![eJ,e_,dX,dYes],λ_=>?_⟩;have n:=E6 M z;have m:=E6 b z;generalize am M=A at n;generalize am b=B at m;simp![eJ,e_,dX,qj,n,m]) []
 have q:((am M).filter (λ_=>ah)).map (λx=>match x with|.str z=>PV.bl (decide (M.count z<=b.count z))|_=>.non)=(M.map λz=>decide (M.count z<=b.count z)).map .bl:=by rw[ut.mpr (by simp)];unfold am;rw[d9,d9];rfl
 rw[iT,q]at f;have o:(M.map λz=>decide (M.count z<=b.count z)).all id=unD w b t:=by
  rw[xA];unfold unD;have d:=ef (wins t w);rw[ke,nN,nN];constructor
  .intro h x c;have:=h x (d.mem_iff.mpr c);simp only[mD,id,M,d.count_eq]at this;exact this
  .intro h x c;have:=h x (d.mem_iff.mp c);simp only[mD,id,M,d.count_eq];exact this
 generalize (M.map λz=>decide (M.count z<=b.count z))=bs at f o;have l:=yT bs;rw[o]at l;change iH a _=R.ok (Slot.val (.tup (am M))) _ at g;generalize am M=MM at g f;clear_value M;simp![oS,yaz,g,cR,bI,gg,f,l]
theorem Fq(b:Bool)(c d:List Tx):Pu.eqT b (.tup (am c)) (.tup (am d))=aa (.bl (b^^decide (c=d))):=by show(if jb (.tup (am c))<=8 then(gE (am c) (am d)).map (λk=>PV.bl (b^^k))else ae)=_;rw[if_pos (by show iy (am c)+1<=8;rw[Cp];decide),B9];rfl
end
end Sh
namespace Mx
open L2 Pu
def mi(z:Tx)(i:Nat):Nat:=z.getD (i % z.length) 0
def Ka(z:Tx)(w:Nat):Tx:=((dy w z).flatten).take (z.length+w-1)
theorem len_sub{l m:List Tx}(a:l.Nodup)(h:∀x∈l,x∈m):l.length<=m.length:=by
 induction l generalizing m with
 |nil=>simp
 |cons x l d=>rw[jm]at a;have c:x∈m:=h x (by simp);have:=d (m:=m.erase x) a.2 λy b=>(List.mem_erase_of_ne (λz=>a.1 (by rw[<-z];exact b))).mpr (h y (by simp[b]));rw[ur c]at this;have f:0<m.length:=xO c;rw[cS];lia
end Mx
namespace Sh
open L2 Pu Mx
section
variable{a:Ad}
def Cm(t:Tx)(v:Nat):List Tx:=(df (t.length+1-v)).map λi=>(t.drop i).take v
def qt(b c:Nat):List Nat:=List.range' b (c-b)
def part(t:Tx)(i j:Nat):Tx:=(t.drop i).take (j-i)
def mi(b:List Tx)(i:Nat):Tx:=b.getD i []
def Nz(t:Tx)(s e g l:Nat):Tx:=t.take s++part t g l++part t e g++part t s e++t.drop l
def NJ(t:Tx)(b:List Tx)(s g e:Nat):List Tx:=(qt (g+1) b.length).flatMap λl=>if mi b e=mi b l then [Nz t s e g l] else []
def Kr(t:Tx)(b:List Tx)(s g:Nat):List Tx:=(qt (s+1) (g+1)).flatMap λe=>NJ t b s g e
theorem Dl{i:Nat}{b:aj}{c:PO}(h:b[i]?=aa (.own c)):j5 i b=.ok (.ret (.own c)) (b.set i .none):=by unfold j5;rw[h]
theorem EB{i:Nat}{c:aj->R (List PV)}{db:aj->R aF}{ε ε1 b:aj}{xs:List PV}(h:c ε=.ok xs ε1)(d:hZ i db xs ε1=.ok .next b):eU i c db ε=.ok .next b:=by unfold eU;rw[h];exact d
end
section
variable{a:Ad}
def HZ(t:Tx)(b:List Tx)(s:Nat):List Tx:=(qt (s+1) b.length).flatMap λg=>if mi b s=mi b g then Kr t b s g else []
def ML(t:Tx)(b:List Tx):List Tx:=(qt 0 b.length).flatMap λs=>HZ t b s
theorem C9{i:Nat}{ε:aj}{v:PV}(h:ε[i]?=aa (.val v)):dV i ε=.ok v ε:=by unfold dV;rw[h]
theorem L1{d:Type}{c:aj->R Bool}{d1 d2:aj->R d}{ε b:aj}(h:c ε=.ok ah b):b_ c d1 d2 ε=d1 b:=by unfold b_;rw[h];rfl
theorem L_{d:Type}{c:aj->R Bool}{d1 d2:aj->R d}{ε b:aj}(h:c ε=.ok ak b):b_ c d1 d2 ε=d2 b:=by unfold b_;rw[h];rfl
theorem yH{d:aj->R PV}{b:Bool}{ε c:aj}(h:d ε=.ok (.bl b) c):dB d ε=.ok b c:=by unfold dB;rw[h];rfl
def Hk(t:Tx)(m w:Nat):List Tx:=(qt 1 m).map λp=>Ka ((t.take m).drop p++(t.take m).take p) w
def K_(t:Tx)(b:List Tx)(w:Nat):List Tx:=if mi b 0=mi b (b.length-1)then Hk t (b.length-1) w else []
def Jj(t:Tx)(w:Nat):List Tx:=ML t (Cm t (w-1))++K_ t (Cm t (w-1)) w
def IH(t:Tx)(m:Nat):List Tx:=(qt 1 m).map λp=>part (dy 3 (t.take m)).flatten p (p+t.length)
def jZ(t:Tx)(b:List Tx):List Tx:=if mi b 0=mi b (b.length-1)then IH t (b.length-1)else []
end
section
variable{a:Ad}
theorem sV{t:aj->R Bool}{c:aj->R aF}{n:Nat}{d ε1 b:aj}(h:t d=.ok ah ε1)(f:c ε1=.ok .next b):dZ t c (n+1) d=dZ t c n b:=by rw[dZ,h,R.bind_ok];simp only;rw[f]
theorem qP{t:aj->R Bool}{c:aj->R aF}{n:Nat}{b ε1:aj}(h:t b=.ok ak ε1):dZ t c (n+1) b=.ok .next ε1:=by rw[dZ,h,R.bind_ok]
end
end Sh
namespace Mx
open L2 Pu
theorem jG{z:Tx}{w:Nat}(a:1<=w):(wins z w).length=z.length+1-w:=by rw[j6 z w a];simp
def NH(t:Tx)(w:Nat):List Tx:=(et t.length).filter λz=>(wins z w).isPerm (wins t w)
end Mx
namespace Sh
open L2 Pu Mx
abbrev gr(t:Tx)(v i:Nat):Tx:=(t.drop i).take v
theorem sI{t:Tx}{v i:Nat}:(gr t (v+1) i).take v=gr t v i:=by unfold gr;rw[List.take_take,Bg ∅]
theorem y3{t:Tx}{v i:Nat}:(gr t (v+1) i).tail=gr t v (i+1):=by
 unfold gr;refine ug λk=>?_;rw[List.getElem?_tail,GP,GP,AU,AU];by_cases h:k<v
 .rw[if_pos ∅,if_pos h];congr 1;lia
 .rw[if_neg ∅,if_neg h]
theorem QC{t:Tx}{v:Nat}{x:Tx}:x∈wins t (v+1)↔∃i,i+v<t.length/\x=gr t (v+1) i:=by
 rw[j6 _ _ ∅,bV];constructor
 .rintro⟨i,a,rfl⟩;exact⟨i,by have:=o0.mp a;lia,rfl⟩
 .rintro⟨i,a,rfl⟩;exact⟨i,o0.mpr ∅,rfl⟩
theorem FP{v:Nat}{y:Tx}:∀(k:Nat) (t:Tx) (i:Nat),((List.range' i k).map λj=>if gr t v j=y then 1 else 0).sum+(if gr t v (i+k)=y then 1 else 0)=((List.range' i k).map λj=>if gr t v (j+1)=y then 1 else 0).sum+(if gr t v i=y then 1 else 0)
 |0,t,i=>by simp
 |k+1,t,i=>by have a:=FP (v:=v) (y:=y) k t (i+1);rw[List.range'_succ,bZ,bZ,f8,f8,show i+(k+1)=i+1+k by lia];lia
end Sh
namespace Mx
open L2 Pu
theorem CH(w:Nat):∀(s r t:Tx),nw w t (s++r)=nw w t s++nw w (t++s) r
 |[],r,t=>by simp[nw]
 |c::s,r,t=>by rw[uk,nw,nw,CH w s r (t++[c]),uk,gq];rfl
end Mx
namespace Sh
open L2 Pu Mx
section
variable{v:Nat}
def oc(v:Nat)(M:List Tx)(y:Tx):Nat:=(M.map λx=>if x.take v=y then 1 else 0).sum
def ic(M:List Tx)(y:Tx):Nat:=(M.map λx=>if x.tail=y then 1 else 0).sum
theorem wb(M N:List Tx)(y:Tx):oc v (M++N) y=oc v M y+oc v N y:=by simp[oc]
theorem wJ(M N:List Tx)(y:Tx):ic (M++N) y=ic M y+ic N y:=by simp[ic]
theorem vx{M N:List Tx}(h:M.Perm N)(y:Tx):oc v M y=oc v N y:=(h.map _).sum_nat
theorem vy{M N:List Tx}(h:M.Perm N)(y:Tx):ic M y=ic N y:=(h.map _).sum_nat
theorem QA{M:List Tx}{y:Tx}:0<oc v M y↔∃x∈M,x.take v=y:=by
 unfold oc
 induction M with
 |nil=>simp
 |cons a M f=>
  rw[bZ,f8];by_cases c:a.take v=y
  .rw[if_pos c];exact⟨λ_=>⟨a,by simp,c⟩,λ_=>∅⟩
  .rw[if_neg c,uj,f];exact⟨λ⟨x,d,b⟩=>⟨x,by simp[d],b⟩,λ⟨x,d,b⟩=>⟨x,(bw.mp d).resolve_left λe=>c (e ▸ b),b⟩⟩
theorem QS{M:List Tx}{y:Tx}:0<ic M y↔∃x∈M,x.tail=y:=by
 unfold ic
 induction M with
 |nil=>simp
 |cons a M f=>
  rw[bZ,f8];by_cases c:a.tail=y
  .rw[if_pos c];exact⟨λ_=>⟨a,by simp,c⟩,λ_=>∅⟩
  .rw[if_neg c,uj,f];exact⟨λ⟨x,d,b⟩=>⟨x,by simp[d],b⟩,λ⟨x,d,b⟩=>⟨x,(bw.mp d).resolve_left λe=>c (e ▸ b),b⟩⟩
abbrev en(v:Nat)(t:Tx):Tx:=t.drop (t.length-v)
abbrev b2(p:Prop)[Decidable p]:Nat:=if p then 1 else 0
theorem IK{t:Tx}:gr t v (t.length-v)=en v t:=by unfold gr en;exact ki (by simp;lia)
theorem wo{t:Tx}(h:v<=t.length)(y:Tx):oc v (wins t (v+1)) y+b2 (en v t=y)=ic (wins t (v+1)) y+b2 (t.take v=y):=by
 have:=FP (v:=v) (y:=y) (t.length-v) t 0;rw[uj,IK]at this;unfold oc ic b2;rw[j6 _ _ ∅,d9,d9,show t.length+1-(v+1)=t.length-v by lia,List.range_eq_range'];have b:∀j,((λx:Tx=>if x.take v=y then 1 else 0) ∘ λi=>(t.drop i).take (v+1)) j=if gr t v j=y then 1 else 0:=λj=>by show(if(gr t (v+1) j).take v=_ then 1 else 0)=_;rw[sI]
 have a:∀j,((λx:Tx=>if x.tail=y then 1 else 0) ∘ λi=>(t.drop i).take (v+1)) j=if gr t v (j+1)=y then 1 else 0:=λj=>by show(if(gr t (v+1) j).tail=_ then 1 else 0)=_;rw[y3]
 rw[ig λj _=>b j,ig λj _=>a j];simpa[gr]using this
theorem BQ{t:Tx}(h:v<=t.length)(c:Nat):wins (t++[c]) (v+1)=wins t (v+1)++[en v t++[c]]:=by rw[Fc ∅,if_pos ∅];congr 2;rw[show t.length+1-(v+1)=t.length-v by lia,AJ ∅];exact ki (by simp;lia)
theorem yf{M:List Tx}(h:∀x∈M,x.length=v+1):∀(n:Nat) (t:Tx) (R:List Tx),R.length=n->v<=t.length->(wins t (v+1)++R).Perm M -> ∃b d,b.take v=t.take v/\v<=b.length/\(wins b (v+1)++d).Perm M/\∀x∈d,x.take v≠en v b
 |0,t,R,hn,ht,hp=>⟨t,R,rfl,ht,hp,λx a=>by rw[mC.mp hn]at a;simp at a⟩
 |n+1,t,R,hn,ht,hp=>by
  by_cases q:∃x∈R,x.take v=en v t
  .obtain⟨x,a,e⟩:=q;have i:x.length=v+1:=h x (hp.mem_iff.mp (gm _ a));have f:x=en v t++[x.getLastD 0]:=by
    have g:x=x.take v++x.drop v:=(nL v x).symm;have m:∃c,x.drop v=[c]:=List.length_eq_one_iff.mp (by rw[lx];lia);obtain⟨c,j⟩:=m;rw[j]at g;have l:x.getLastD 0=c:=by rw[g];simp
    rw[l,<-e];exact g
   have o:(wins (t++[x.getLastD 0]) (v+1)++R.erase x).Perm M:=by rw[BQ ht,<-f,gq];exact(xF _ (Bk a).symm).trans hp
   obtain⟨b,d,u,s,r,p⟩:=yf h n (t++[x.getLastD 0]) (R.erase x) (by rw[ur a];lia) (by simp;lia) o;exact⟨b,d,by rw[u,GS ht],s,r,p⟩
  .exact⟨t,R,rfl,ht,hp,λx a e=>q ⟨x,a,e⟩⟩
theorem FM{M:List Tx}(i:∀x∈M,x.length=v+1)(a:∀y,oc v M y=ic M y){p:Tx}(s:p.length=v):∃t R,t.take v=p/\v<=t.length/\(wins t (v+1)++R).Perm M/\en v t=p/\(∀x∈R,x.take v≠p)/\∀y,oc v R y=ic R y:=by
 have m:wins p (v+1)=[]:=mC.mp (by rw[jG ∅];lia);obtain⟨t,R,d,g,b,h⟩:=yf i M.length p M rfl ∅ (by rw[m];exact .refl _);rw[show p.take v=p from ki ∅]at d;have u:oc v R (en v t)=0:=by
  rcases uw (oc v R (en v t))with q|q
  .exact q
  .obtain⟨x,l,j⟩:=QA.mp q;exact absurd j (h x l)
 have c:=wo g (en v t);have r:=vx (v:=v) b (en v t);have o:=vy b (en v t);have w:=a (en v t);rw[wb]at r;rw[wJ]at o;rw[d]at c;unfold b2 at c;rw[if_pos rfl]at c;have f:p=en v t:=by
  by_cases q:p=en v t
  .exact q
  .rw[if_neg q]at c;lia
 refine⟨t,R,d,g,b,f.symm,by rw[f];exact h,λy=>?_⟩;have d1:=wo g y;have d2:=vx (v:=v) b y;have n:=vy b y;rw[wb]at d2;rw[wJ]at n;rw[d,<-f]at d1;have:=a y;lia
theorem L4{t c:Tx}{i:Nat}(G:i+v<=t.length)(H:v<=c.length)(D:c.take v=gr t v i)(C:en v c=gr t v i):∃l,l.take v=t.take v/\v<=l.length/\en v l=en v t/\(wins l (v+1)).Perm (wins t (v+1)++wins c (v+1)):=by
 let T1:=t.take (i+v)
 let T2:=t.drop (i+v)
 have r:t=T1++T2:=(nL _ _).symm;have A:T1.length=i+v:=by simp[T1];lia
 have m:T1=t.take i++gr t v i:=by show t.take (i+v)=_;rw[List.take_add]
 have d:(gr t v i).length=v:=by unfold gr;simp;lia
 let s:=c.drop v
 have q:c=gr t v i++s:=by rw[<-D];exact(nL _ _).symm
 have o:∀(a b:Tx),(a++gr t v i).length=a.length+v->wins (a++gr t v i++b) (v+1)=wins (a++gr t v i) (v+1)++nw (v+1) (gr t v i) b:=by
  intro a b _;have p:∀(n:Nat) (b:Tx),b.length=n->wins (a++gr t v i++b) (v+1)=wins (a++gr t v i) (v+1)++nw (v+1) (gr t v i) b:=by
   intro n
   induction n with
   |zero=>intro b h;rw[mC.mp h];simp[nw]
   |succ n B=>
    intro b h;obtain⟨j,x,rfl⟩:∃j x,b=j++[x]:=⟨b.dropLast,b.getLast (by intro e;rw[e]at h;simp at h),(List.dropLast_concat_getLast _).symm⟩
    rw[<-gq,BQ (by simp[d];lia),B j (by simp at h;lia),CH,gq];congr 2;simp only[nw];congr 2;have e:(a++gr t v i++j).length-v=a.length+((gr t v i++j).length+1-(v+1)):=by simp[d];lia
    unfold en;rw[e,gq,List.drop_append];simp
  exact p b.length b rfl
 have z:wins t (v+1)=wins T1 (v+1)++nw (v+1) (gr t v i) T2:=by have:=o (t.take i) T2 (by simp[d]);rw[<-m]at this;rw[<-this,<-r]
 have y:wins (T1++s) (v+1)=wins T1 (v+1)++nw (v+1) (gr t v i) s:=by have:=o (t.take i) s (by simp[d]);rw[<-m]at this;exact this
 have w:wins c (v+1)=nw (v+1) (gr t v i) s:=by
  conv=>lhs;rw[q]
  exact yA ∅ (by rw[d];lia)
 have g:T1++s=t.take i++c.take (c.length-v)++gr t v i:=by rw[m,gq,<-q,gq,<-C];congr 1;exact(nL _ _).symm
 have u:wins (T1++s++T2) (v+1)=wins (T1++s) (v+1)++nw (v+1) (gr t v i) T2:=by have:=o (t.take i++c.take (c.length-v)) T2 (by simp[d];lia);rw[<-g]at this;exact this
 refine⟨T1++s++T2,?_,by simp[A];lia,?_,?_⟩
 .rw[gq,GS ∅];show(t.take (i+v)).take v=_;rw[List.take_take,Bg ∅]
 .have f:∀a:Tx,en v (a++(gr t v i++T2))=en v (gr t v i++T2):=λa=>by
   unfold en;rw[List.drop_append,GX (by simp[d];lia),iT];congr 1;simp[d];lia
  have F:T1++s++T2=(t.take i++c.take (c.length-v))++(gr t v i++T2):=by rw[g];simp only[gq]
  have E:t.take i++(gr t v i++T2)=t:=by rw[<-gq,<-m];exact r.symm
  have:=f (t.take i);rw[E]at this;rw[F,f,this]
 .rw[u,y,z,w,gq,gq];exact xF _ A5
def vV(v:Nat)(M:List Tx):Prop:=∀V:Tx->Prop,(∃x∈M,V (x.take v))->(∀x∈M,V (x.take v)\/V x.tail->V (x.take v)/\V x.tail)->∀x∈M,V (x.take v)
end
inductive WN(w:Nat):Nat->Tx->Tx->Prop
 |here (n:Nat) (t:Tx):WN w n t t
 |on {n:Nat}{t u z:Tx}:WN w n t u->z∈Jj u w->WN w (n+1) t z
def Full(w:Nat)(t:Tx)(k:Nat):Prop:=∀z∈NH t w,WN w k t z
theorem zF{i:Nat}{db:aj->R aF}{d j:Type}(b:d->j->aj)(f:d->Tx->d)(P:d->Prop):∀(c:List Tx) (a:d) (s:j),P a -> (∀x∈c,∀a s,P a->P (f a x)/\∃g,db ((b a s).set i (↥x))=.ok .next (b (f a x) g))->∃g,hZ i db (am c) (b a s)=.ok .next (b (c.foldl f a) g)/\P (c.foldl f a)
 |[],a,s,h,_=>⟨s,rfl,h⟩
 |x::c,a,s,h,step=>by obtain⟨p,m,r⟩:=step x (by simp) a s h;obtain⟨l,q,o⟩:=zF b f P c (f a x) m p λy n=>step y (by simp[n]);refine⟨l,?_,o⟩;show hZ i db (.str x::am c) _=_;rw[hZ,r];exact q
abbrev ks(m:List (Tx×Int)):List Tx:=m.map (·.1)
theorem Lw(m:List (Tx×Int))(z:Tx):(m.any λp=>decide (p.1=z))=decide (z∈ks m):=by rw[ke,nQ,decide_eq_true_eq,bV];exact⟨λ⟨p,b,a⟩=>⟨p,b,of_decide_eq_true a⟩,λ⟨p,b,a⟩=>⟨p,b,decide_eq_true a⟩⟩
theorem zR(m:List (Tx×Int))(z:Tx):(bu m z).isSome=decide (z∈ks m):=by
 rw[<-Lw];cases h:m.any λp=>decide (p.1=z)with
 |false=>rw[vD h];rfl
 |true=>obtain⟨n,e⟩:=FW h;rw[e];rfl
theorem Ig{m:List (Tx×Int)}(a:(ks m).Nodup){z:Tx}{n:Int}:bu m z=aa n↔(z,n)∈m:=by
 induction m with
 |nil=>simp[bu]
 |cons p m b=>
  change ((p::m).map (·.1)).Nodup at a;rw[bZ,jm]at a;unfold bu at b ⊢;rw[iQ];by_cases c:p.1=z
  .simp only[c,decide_true,pA,bw];constructor
   .intro e;left;rw[<-dP e,<-c]
   .rintro(e|e)
    .rw[<-e]
    .exact absurd (bV.mpr ⟨(z,n),e,rfl⟩) (by rw[<-c];exact a.1)
  .simp only[c,decide_false,bw];rw[b a.2];constructor
   .exact .inr
   .rintro(e|e)
    .exact absurd (by rw[<-e]) c
    .exact e
theorem Mn(m:List (Tx×Int)):(dk m).length=m.length:=by simp[dk]
theorem Ck{i:Nat}{db de:aj->R PV}{c b a:aj}{z:Tx}{n:Int}{m:List (Tx×Int)}(j:de c=.ok (.int n) b)(l:db b=.ok (.str z) a)(d:∃x,cP b i=aa x)(g:cP a i=aa (dk m))(h:m.length<bQ):eZ i db de c=.ok .next (a.set i (.own (.dK (dk (cK m z n))))):=by unfold eZ;obtain⟨x,f⟩:=d;rw[j,R.bind_ok,f];simp only[bP,R.bind_ok];rw[l,R.bind_ok,g];simp only[bP,R.bind_ok];show(aB (aa (Sum.inr (tS z))) a).bind _=_;simp only[bP,R.bind_ok];rw[Mn,if_pos h,vP]
def cI(ks:List Tx):List (aA×PV):=ks.map λx=>(Sum.inr (tS x),PV.bl ah)
def eV(ks:List Tx)(x:Tx):List Tx:=if x∈ks then ks else ks++[x]
theorem QO{ks:List Tx}{x z:Tx}:z∈eV ks x↔z∈ks\/z=x:=by
 unfold eV;by_cases c:x∈ks
 .rw[if_pos c];exact⟨.inl,λh=>h.elim id λe=>e ▸ c⟩
 .rw[if_neg c];simp
theorem CT{ks:List Tx}{x:Tx}(h:ks.Nodup):(eV ks x).Nodup:=by
 unfold eV;by_cases c:x∈ks
 .rw[if_pos c];exact h
 .rw[if_neg c];exact xI.mpr ⟨h,by simp,λa f b d e=>by simp at d;subst d;subst e;exact c f⟩
theorem wD{ks:List Tx}{x:Tx}:ks.length<=(eV ks x).length/\(x∉ks->ks.length<(eV ks x).length):=by
 unfold eV;by_cases c:x∈ks
 .rw[if_pos c];exact⟨aT _,λq=>absurd c q⟩
 .rw[if_neg c];simp
theorem CV(ks:List Tx)(x:Tx):((cI ks).any λa=>decide (a.1=(Sum.inr (tS x):aA)))=decide (x∈ks):=by
 unfold cI;rw[AZ,ke,nQ,decide_eq_true_eq];constructor
 .rintro⟨z,c,b⟩;have:=of_decide_eq_true b;rw[<-qp (Sum.inr.inj this)];exact c
 .intro h;exact⟨x,h,by simp⟩
theorem Oa(ks:List Tx)(x:Tx):mW (cI ks) (Sum.inr (tS x)) (.bl ah)=cI (eV ks x):=by
 unfold mW eV;rw[CV];by_cases c:x∈ks
 .rw[decide_eq_true c,if_pos rfl,if_pos c];unfold cI;rw[d9];refine ig λz _=>?_;simp only[mD];split
  .rfl
  .rfl
 .rw[decide_eq_false c,if_neg (by simp),if_neg c];unfold cI;simp
theorem Lf(ks:List Tx)(x:Tx):(i6 (cI ks) (Sum.inr (tS x))).isSome=decide (x∈ks):=by rw[<-CV];unfold i6;rw[AF,List.isSome_find?]
theorem vS(ks:List Tx):(cI ks).length=ks.length:=by simp[cI]
theorem y6{neg:Bool}{i:Nat}{db:aj->R PV}{ε a:aj}{z:Tx}{ks:List Tx}(c:db ε=.ok (.str z) a)(b:cP a i=aa (cI ks)):fU neg i db ε=.ok (.bl (neg^^decide (z∈ks))) a:=by unfold fU;rw[c,R.bind_ok,b];simp only[bP,R.bind_ok];show aB (aa (PV.bl (neg^^(i6 (cI ks) (.inr (tS z))).isSome))) a=_;rw[Lf];rfl
theorem BS{i:Nat}{db de:aj->R PV}{ε b a:aj}{z:Tx}{ks:List Tx}(h:de ε=.ok (.bl ah) b)(j:db b=.ok (.str z) a)(c:∃x,cP b i=aa x)(f:cP a i=aa (cI ks))(g:ks.length<bQ):eZ i db de ε=.ok .next (a.set i (.own (.dK (cI (eV ks z))))):=by unfold eZ;obtain⟨x,d⟩:=c;rw[h,R.bind_ok,d];simp only[bP,R.bind_ok];rw[j,R.bind_ok,f];simp only[bP,R.bind_ok];show(aB (aa (Sum.inr (tS z))) a).bind _=_;simp only[bP,R.bind_ok];rw[vS,if_pos g,Oa]
def rS(ks:List Tx)(x:Tx):List Tx:=if x.dropLast∈ks\/x.tail∈ks then eV (eV ks x.dropLast) x.tail else ks
theorem K5{ks:List Tx}{x z:Tx}(h:z∈ks):z∈rS ks x:=by
 unfold rS;split
 .exact QO.mpr (.inl (QO.mpr (.inl h)))
 .exact h
theorem ED:∀(a:List Tx) {ks:List Tx}{z:Tx},z∈ks->z∈a.foldl rS ks
 |[],_,_,h=>h
 |x::a,_,_,h=>ED a (K5 h)
theorem BK{ks:List Tx}{x:Tx}(h:ks.Nodup):(rS ks x).Nodup:=by
 unfold rS;split
 .exact CT (CT h)
 .exact h
theorem BE:∀(a:List Tx) {ks:List Tx},ks.Nodup->(a.foldl rS ks).Nodup
 |[],_,h=>h
 |x::a,_,h=>BE a (BK h)
theorem zn(ks:List Tx)(x:Tx):ks.length<=(rS ks x).length:=by
 unfold rS;split
 .exact cH wD.1 wD.1
 .exact aT _
theorem sk:∀(a ks:List Tx),ks.length<=(a.foldl rS ks).length
 |[],ks=>aT _
 |x::a,ks=>cH (zn ks x) (sk a (rS ks x))
theorem wR:∀(a ks:List Tx),(a.foldl rS ks).length=ks.length->∀x∈a,x.dropLast∈ks\/x.tail∈ks->x.dropLast∈ks/\x.tail∈ks
 |[],_,_,x,b=>by simp at b
 |y::a,ks,h,x,b=>by
  rw[lz]at h;have n:=zn ks y;have m:=sk a (rS ks y);have d:(rS ks y).length=ks.length:=∅
  have same:rS ks y=ks/\(y.dropLast∈ks\/y.tail∈ks->y.dropLast∈ks/\y.tail∈ks):=by
   unfold rS at d ⊢;by_cases c:y.dropLast∈ks\/y.tail∈ks
   .rw[if_pos c]at d ⊢;have l:=wD (ks:=ks) (x:=y.dropLast);have i:=wD (ks:=eV ks y.dropLast) (x:=y.tail);have g:y.dropLast∈ks:=G2 λq=>by have:=l.2 q;lia
    have j:eV ks y.dropLast=ks:=by unfold eV;rw[if_pos g]
    rw[j]at i d ⊢;have f:y.tail∈ks:=G2 λq=>by have:=i.2 q;lia
    exact⟨by unfold eV;rw[if_pos f],λ_=>⟨g,f⟩⟩
   .rw[if_neg c];exact⟨rfl,λq=>absurd q c⟩
  rcases bw.mp b with rfl|b
  .exact same.2
  .rw[same.1]at h;exact wR a ks h x b
theorem Cb{V:Tx->Prop}:∀(b ks:List Tx),(∀x∈b,V x.dropLast\/V x.tail->V x.dropLast/\V x.tail)->(∀z∈ks,V z)->∀z∈b.foldl rS ks,V z
 |[],_,_,h,z,d=>h z d
 |x::b,ks,g,h,z,d=>by
  refine Cb b (rS ks x) (λy a=>g y (by simp[a])) (λy a=>?_) z d;unfold rS at a;split at a
  .rename_i c;have f:=g x (by simp) (c.imp (h _) (h _));rcases QO.mp a with a|rfl
   .rcases QO.mp a with a|rfl
    .exact h y a
    .exact f.1
   .exact f.2
  .exact h y a
theorem yk:∀(a ks:List Tx),(a.foldl rS ks).length=ks.length->a.foldl rS ks=ks
 |[],_,_=>rfl
 |y::a,ks,h=>by
  rw[lz]at h ⊢;have l:=zn ks y;have j:=sk a (rS ks y);have e:rS ks y=ks:=by
   have i:(rS ks y).length=ks.length:=∅
   have b:=wR [y] ks i y (by simp);unfold rS;by_cases c:y.dropLast∈ks\/y.tail∈ks
   .obtain⟨g,f⟩:=b c;have d:eV ks y.dropLast=ks:=by unfold eV;rw[if_pos g]
    rw[if_pos c,d];unfold eV;rw[if_pos f]
   .rw[if_neg c]
  rw[e]at h ⊢;exact yk a ks h
def fE(a:List Tx):List Tx:=a.map nP++a.map List.tail
theorem Gb{b ks:List Tx}(h:∀z∈ks,z∈fE b){x:Tx}(c:x∈b):∀z∈rS ks x,z∈fE b:=λz a=>by
 unfold rS at a;split at a
 .rcases QO.mp a with a|rfl
  .rcases QO.mp a with a|rfl
   .exact h z a
   .exact lq _ (bV.mpr ⟨x,c,rfl⟩)
  .exact gm _ (bV.mpr ⟨x,c,rfl⟩)
 .exact h z a
structure Rch(ls ks:List Tx):Prop where
 nd:ks.Nodup
 sub:∀z∈ks,z∈fE ls
 start:∀x r,ls=x::r->x.dropLast∈ks
 least:∀V:Tx->Prop,(∀x∈ls,V x.dropLast\/V x.tail->V x.dropLast/\V x.tail)->(∀x r,ls=x::r->V x.dropLast)->∀z∈ks,V z
theorem Rch.few{ls ks:List Tx}(h:Rch ls ks):ks.length<=2*ls.length:=by have:=len_sub h.nd h.sub;unfold fE at this;simp at this;lia
theorem Rch.next{a ks:List Tx}(h:Rch a ks):Rch a (a.foldl rS ks):=by
 refine⟨BE a h.nd,?_,λx r e=>ED a (h.start x r e),λV d i=>Cb a ks d (h.least V d i)⟩;have b:∀(l:List Tx) (ks:List Tx),(∀x∈l,x∈a)->(∀z∈ks,z∈fE a)->∀z∈l.foldl rS ks,z∈fE a:=by
  intro l
  induction l with
  |nil=>exact λks _ h=>h
  |cons x l f=>exact λks c h=>f (rS ks x) (λy g=>c y (by simp[g])) (Gb h (c x (by simp)))
 exact b a ks (λ_ h=>h) h.sub
section
variable{a:Ad}
theorem xf(x:Tx):cu (.str x) ae (aa (-1))=aa (.str x.dropLast):=by show aa (PV.str (fX x ae (aa (-1))))=_;rw[Er]
theorem B0(x:Tx):cu (.str x) (aa 1) ae=aa (.str x.tail):=by show aa (PV.str (fX x (aa ((1:Nat):Int)) ae))=_;rw[Em,List.drop_one]
def sU:aj->R PV:=cg cu (dV 3) (cz) (ca (d1 dJ (dC (.int 1))))
def sw:aj->R PV:=cg cu (dV 3) (ca (dC (.int 1))) (cz)
def rI:aj->R aF:=b_ (mP (dB (fU ak 1 sU)) (dB (fU ak 1 sw))) (aD (eZ 1 sU (dC (.bl ah))) (eZ 1 sw (dC (.bl ah)))) (cX)
def rC:aj->R Bool:=dB (d2 (dR λi j=>decide (i<j)) (dV 2) (l_ 1))
def rB:aj->R aF:=aD (br 2 (l_ 1)) (eU 3 (bI (dV 0)) rI)
theorem Ou:yaB a=aD (dS 1 (su (cg cu (d2 bL (dV 0) (dC (.int 0))) (cz) (ca (d1 dJ (dC (.int 1))))) (dC (.bl ah)))) (aD (br 2 (dC (.int 0))) (aD (λb=>cV (dZ rC rB 1000 b)) (j5 1))):=rfl
def c_(W:PV)(ks:List Tx)(n:Nat)(b:Slot):aj:=[.val W,.own (.dK (cI ks)),⇑n,b]
theorem Fz(W:PV)(ks:List Tx)(n:Nat)(x:Tx):sU (c_ W ks n (↥x))=.ok (.str x.dropLast) (c_ W ks n (↥x)):=by have h:=xf x;have b:dJ (.int 1)=aa (.int (-1)):=rfl;simp[sU,c_,cg,cz,ca,dV,d1,dC,R.bind,aB,b,oP,h]
theorem Ee(W:PV)(ks:List Tx)(n:Nat)(x:Tx):sw (c_ W ks n (↥x))=.ok (.str x.tail) (c_ W ks n (↥x)):=by have h:=B0 x;simp[sw,c_,cg,cz,ca,dV,dC,R.bind,aB,oP,h]
theorem Gd(W:PV)(d:List Tx)(s:d.length<=100)(q:gg W=aa (am d))(ks:List Tx)(h:Rch d ks)(n:Nat)(f:Slot):∃j,eU 3 (bI (dV 0)) rI (c_ W ks n f)=.ok .next (c_ W (d.foldl rS ks) n j):=by
 obtain⟨j,e,_⟩:=zF (i:=3) (db:=rI) (λks f=>c_ W ks n f) rS (λks=>ks.Nodup/\∀z∈ks,z∈fE d) d ks f ⟨h.nd,h.sub⟩
  (by
   rintro x p ks f ⟨g,l⟩;refine⟨⟨BK g,Gb l p⟩,↥x,?_⟩;have r:ks.length<=200:=by have:=len_sub g l;unfold fE at this;simp at this;lia
   have o:=yH (y6 (neg:=ak) (i:=1) (Fz W ks n x) rfl);have m:=yH (y6 (neg:=ak) (i:=1) (Ee W ks n x) rfl);rw[um]at o m;have b:mP (dB (fU ak 1 sU)) (dB (fU ak 1 sw)) (c_ W ks n (↥x))=.ok (decide (x.dropLast∈ks\/x.tail∈ks)) (c_ W ks n (↥x)):=by
    unfold mP;rw[o,R.bind_ok];by_cases c:x.dropLast∈ks
    .rw[decide_eq_true c,decide_eq_true (.inl c)]
    .rw[decide_eq_false c];simp only;rw[m];congr 1;simp[c]
   show rI (c_ W ks n (↥x))=_;unfold rI rS;by_cases c:x.dropLast∈ks\/x.tail∈ks
   .rw[decide_eq_true c]at b;rw[if_pos c];refine(L1 b).trans ?_;have g:=BS (i:=1) (de:=dC (.bl ah)) (ε:=c_ W ks n (↥x)) rfl (Fz W ks n x) ⟨_,rfl⟩ rfl (by unfold bQ;lia);refine(cr g).trans ?_;have u:(eV ks x.dropLast).length<=ks.length+1:=by unfold eV;split <;> simp
    exact BS (i:=1) (de:=dC (.bl ah)) (ε:=c_ W (eV ks x.dropLast) n (↥x)) rfl (Ee W (eV ks x.dropLast) n x) ⟨_,rfl⟩ rfl (by unfold bQ;lia)
   .rw[decide_eq_false c]at b;rw[if_neg c];exact(L_ b).trans rfl)
 refine⟨j,EB ?_ e⟩;unfold bI;rw[C9 (v:=W) rfl,R.bind_ok,q];rfl
theorem vE(W:PV)(ks:List Tx)(n:Nat)(b:Slot):rC (c_ W ks n b)=.ok (decide (n<ks.length)) (c_ W ks n b):=by
 have d:l_ 1 (c_ W ks n b)=.ok (.int (ks.length:Nat)) (c_ W ks n b):=by show R.ok (PV.int ((cI ks).length:Nat)) _=_;rw[vS]
 have c:decide ((n:Int)<(ks.length:Nat))=decide (n<ks.length):=by
  by_cases q:n<ks.length
  .rw[decide_eq_true q,decide_eq_true ∅]
  .rw[decide_eq_false q,decide_eq_false ∅]
 refine yH (qE (x:=.int n) (C9 rfl) d ?_);show aa (PV.bl (decide ((n:Int)<(ks.length:Nat))))=_;rw[c]
theorem Nd(W:PV)(b:List Tx)(v:b.length<=100)(w:gg W=aa (am b)):∀(j:Nat) (ks:List Tx) (n l:Nat) (g:Slot),2*b.length<=ks.length+j->j+2<=l->n<ks.length->Rch b ks -> ∃d r i,Rch b d/\(∀x∈b,x.dropLast∈d\/x.tail∈d->x.dropLast∈d/\x.tail∈d)/\dZ rC rB l (c_ W ks n g)=.ok .next (c_ W d r i):=by
 intro j
 induction j with
 |zero=>
  intro ks n l g G F s h;obtain⟨f,rfl⟩:∃f,l=f+1+1:=⟨l-2,∅⟩
  obtain⟨i,e⟩:=Gd W b v w ks h ks.length g;have I:=h.few;have H:=h.next.few;have D:=sk b ks;have p:=yk b ks ∅;have u:=wR b ks (by rw[p]);rw[p]at e;have c:=vE W ks n g;rw[decide_eq_true s]at c;have m:rB (c_ W ks n g)=.ok .next (c_ W ks ks.length i):=by
   unfold rB;have k:br 2 (l_ 1) (c_ W ks n g)=.ok .next (c_ W ks ks.length g):=by refine oQ (x:=.int (ks.length:Nat)) (ε1:=c_ W ks n g) ?_;show R.ok (PV.int ((cI ks).length:Nat)) _=_;rw[vS]
   exact(cr k).trans e
  have o:=vE W ks ks.length i;rw[decide_eq_false (eL _)]at o;exact⟨ks,ks.length,i,h,u,(sV c m).trans (qP o)⟩
 |succ j E=>
  intro ks n l g G F s h;obtain⟨f,rfl⟩:∃f,l=f+1:=⟨l-1,∅⟩
  obtain⟨i,e⟩:=Gd W b v w ks h ks.length g;have D:=sk b ks;have c:=vE W ks n g;rw[decide_eq_true s]at c;have m:rB (c_ W ks n g)=.ok .next (c_ W (b.foldl rS ks) ks.length i):=by
   unfold rB;have k:br 2 (l_ 1) (c_ W ks n g)=.ok .next (c_ W ks ks.length g):=by refine oQ (x:=.int (ks.length:Nat)) (ε1:=c_ W ks n g) ?_;show R.ok (PV.int ((cI ks).length:Nat)) _=_;rw[vS]
   exact(cr k).trans e
  by_cases q:(b.foldl rS ks).length=ks.length
  .have p:=yk b ks q;have u:=wR b ks q;rw[p]at m;obtain⟨y,rfl⟩:∃y,f=y+1:=⟨f-1,∅⟩
   have o:=vE W ks ks.length i;rw[decide_eq_false (eL _)]at o;exact⟨ks,ks.length,i,h,u,(sV c m).trans (qP o)⟩
  .obtain⟨d,r,z,C,B,A⟩:=E (b.foldl rS ks) ks.length f i ∅ ∅ ∅ h.next;exact⟨d,r,z,C,B,(sV c m).trans A⟩
theorem OI(W:PV)(x:Tx)(r:List Tx)(w:r.length<=50)(u:gg W=aa (am (x::r)))(f:bL W (.int 0)=aa (.str x)):∃ks,Rch (x::r) ks/\(∀y∈x::r,y.dropLast∈ks\/y.tail∈ks->y.dropLast∈ks/\y.tail∈ks)/\tp a [.val W]=.ok (.own (.dK (cI ks))) [.val W]:=by
 have v:Rch (x::r) [x.dropLast]:=⟨by simp,λz b=>by simp at b;rw[b];simp[fE],λy q e=>by cases e;simp,λV _ p z b=>by simp at b;rw[b];exact p x r rfl⟩
 obtain⟨ks,n,h,j,i,o⟩:=Nd W (x::r) (by simp;lia) u (2*(x::r).length) [x.dropLast] 0 1000 .none ∅ (by simp;lia) (by simp) v;refine⟨ks,j,i,?_⟩;have c:=xf x;have s:dJ (.int 1)=aa (.int (-1)):=rfl;have m:dS 1 (su (cg cu (d2 bL (dV 0) (dC (.int 0))) (cz) (ca (d1 dJ (dC (.int 1))))) (dC (.bl ah))) [.val W,.none,.none,.none]=.ok .next [.val W,.own (.dK (cI [x.dropLast])),.none,.none]:=by simp[dS,su,cg,cz,ca,d2,d1,dV,dC,R.bind,aB,f,s,oP,c,gB,cI]
 have l:br 2 (dC (.int 0)) [.val W,.own (.dK (cI [x.dropLast])),.none,.none]=.ok .next (c_ W [x.dropLast] 0 .none):=rfl;have d:yaB a [.val W,.none,.none,.none]=.ok (.ret (.own (.dK (cI ks)))) [.val W,.none,⇑n,h]:=by rw[Ou];refine(cr m).trans ?_;refine(cr l).trans ?_;refine(cr (d1:=λg=>cV (dZ rC rB 1000 g)) (by show cV _=_;rw[o];rfl)).trans ?_;exact Dl rfl
 unfold tp;generalize yaB a=D at d;generalize cI ks=A at d;simp[bH,fz,bF,dy,d,back,aB,R.bind,fW]
end
def kE(m:List (Tx×Int))(x:Tx):List (Tx×Int):=cK (cK m x.dropLast ((bu m x.dropLast).getD 0+1)) x.tail ((bu (cK m x.dropLast ((bu m x.dropLast).getD 0+1)) x.tail).getD 0-1)
def b1(p:Prop)[Decidable p]:Int:=if p then 1 else 0
theorem MN(m:List (Tx×Int))(x y:Tx):(bu (kE m x) y).getD 0=(bu m y).getD 0+b1 (x.dropLast=y)-b1 (x.tail=y):=by
 unfold kE b1;rw[lT,lT,lT];by_cases b:y=x.tail
 .subst b;by_cases a:x.tail=x.dropLast
  .rw[if_pos rfl,if_pos a,if_pos a.symm,if_pos rfl,a];simp
  .rw[if_pos rfl,if_neg a,if_neg (eD a),if_pos rfl];simp
 .rw[if_neg b,if_neg (eD b)];by_cases a:y=x.dropLast
  .subst a;rw[if_pos rfl,if_pos rfl];simp
  .rw[if_neg a,if_neg (eD a)];simp
theorem Dm(m:List (Tx×Int))(x y:Tx):y∈ks (kE m x)↔y∈ks m\/y=x.dropLast\/y=x.tail:=by
 have k:∀(m:List (Tx×Int)) (z:Tx),z∈ks m↔(bu m z).isSome=ah:=λm z=>by rw[zR,decide_eq_true_eq]
 rw[k,k];unfold kE;generalize (bu (cK m x.dropLast ((bu m x.dropLast).getD 0+1)) x.tail).getD 0-1=n1;generalize (bu m x.dropLast).getD 0+1=n2;rw[lT,lT];by_cases b:y=x.tail
 .rw[if_pos b];simp[b]
 .rw[if_neg b];by_cases a:y=x.dropLast
  .rw[if_pos a];simp[a]
  .rw[if_neg a];simp[b,a]
def ik(a:List Tx):List (Tx×Int):=a.foldl kE []
def exc(ls:List Tx)(y:Tx):Int:=(ls.map λx=>b1 (x.dropLast=y)-b1 (x.tail=y)).sum
theorem D9:∀(a:List Tx) (m:List (Tx×Int)) (y:Tx),(bu (a.foldl kE m) y).getD 0=(bu m y).getD 0+exc a y
 |[],m,y=>by simp[exc]
 |x::a,m,y=>by rw[lz,D9 a,MN];simp only[exc,bZ,f8];lia
theorem Os(a:List Tx)(y:Tx):(bu (ik a) y).getD 0=exc a y:=by unfold ik;rw[D9];show 0+_=_;lia
theorem E5:∀(a:List Tx) (m:List (Tx×Int)) (y:Tx),y∈ks (a.foldl kE m)↔y∈ks m\/y∈fE a
 |[],m,y=>by simp[fE]
 |x::a,m,y=>by
  rw[lz,E5 a,Dm];simp only[fE,bZ,fY,bw];constructor
  .rintro((h|h|h)|h|h)
   .exact .inl h
   .exact .inr (.inl (.inl h))
   .exact .inr (.inr (.inl h))
   .exact .inr (.inl (.inr h))
   .exact .inr (.inr (.inr h))
  .rintro(h | (h|h)|h|h)
   .exact .inl (.inl h)
   .exact .inl (.inr (.inl h))
   .exact .inr (.inl h)
   .exact .inl (.inr (.inr h))
   .exact .inr (.inr h)
theorem BV(a:List Tx)(y:Tx):y∈ks (ik a)↔y∈fE a:=by unfold ik;rw[E5];simp
theorem Dw:∀(a:List Tx) (m:List (Tx×Int)),(ks m).Nodup->(ks (a.foldl kE m)).Nodup
 |[],_,h=>h
 |x::a,m,h=>Dw a _ (ot (ot h))
theorem Fo(a:List Tx):(ks (ik a)).Nodup:=Dw a [] (by simp)
section
variable{a:Ad}
def tT:aj->R PV:=cg cu (dV 2) (cz) (ca (d1 dJ (dC (.int 1))))
def qT:aj->R PV:=cg cu (dV 2) (ca (dC (.int 1))) (cz)
def xB:aj->R aF:=aD (eZ 1 tT (d2 aZ (g9 1 tT (dC (.int 0))) (dC (.int 1)))) (eZ 1 qT (d2 jc (g9 1 qT (dC (.int 0))) (dC (.int 1))))
theorem LI:yag a=aD (dS 1 (qw)) (aD (λb=>cV (eU 2 (bI (dV 0)) xB b)) (j5 1)):=rfl
def gW(W:PV)(m:List (Tx×Int))(s:Slot):aj:=[.val W,.own (.dK (dk m)),s]
theorem Cq(W:PV)(m:List (Tx×Int))(x:Tx):tT (gW W m (↥x))=.ok (.str x.dropLast) (gW W m (↥x)):=by have h:=xf x;have b:dJ (.int 1)=aa (.int (-1)):=rfl;simp[tT,gW,cg,cz,ca,dV,d1,dC,R.bind,aB,b,oP,h]
theorem FR(W:PV)(m:List (Tx×Int))(x:Tx):qT (gW W m (↥x))=.ok (.str x.tail) (gW W m (↥x)):=by have h:=B0 x;simp[qT,gW,cg,cz,ca,dV,dC,R.bind,aB,oP,h]
theorem BG{i:Nat}{db:aj->R PV}{b:aj}{z:Tx}{m:List (Tx×Int)}{n:Int}(d:db b=.ok (.str z) b)(c:cP b i=aa (dk m)):g9 i db (dC (.int n)) b=.ok (.int ((bu m z).getD n)) b:=by
 unfold g9;rw[c];simp only[bP,R.bind_ok];rw[d,R.bind_ok];show((R.ok (PV.int n) b).bind _)=_;rw[R.bind_ok,c];simp only[bP,R.bind_ok];show aB (aa ((i6 (dk m) (.inr (tS z))).getD (.int n))) b=_;rw[sr];cases bu m z <;> rfl
theorem Oy(W:PV)(b:List Tx)(K:b.length<=100)(E:gg W=aa (am b)):vA a [.val W]=.ok (.own (.dK (dk (ik b)))) [.val W]:=by
 obtain⟨d,e,_⟩:=zF (i:=2) (db:=xB) (λm s=>gW W m s) kE (λm=>(ks m).Nodup/\∀z∈ks m,z∈fE b) b [] .none ⟨by simp,by simp⟩
  (by
   rintro x r m s ⟨j,g⟩;have y:(ks (kE m x)).Nodup:=ot (ot j);have u:x.dropLast∈fE b:=by unfold fE;exact lq _ (List.mem_map_of_mem r)
   have B:x.tail∈fE b:=by unfold fE;exact gm _ (List.mem_map_of_mem r)
   refine⟨⟨y,λz l=>?_⟩,↥x,?_⟩
   .rcases(Dm m x z).mp l with h|h|h
    .exact g z h
    .rw[h];exact u
    .rw[h];exact B
   .have few:∀{q:List (Tx×Int)},(ks q).Nodup->(∀z∈ks q,z∈fE b)->q.length<=200:=λ{q} n s=>by
     have:=len_sub n s;unfold fE at this;simp at this;lia
    have J:=few j g;have L:(1000:Nat)<=bQ:=by decide
    have G:=BG (i:=1) (n:=0) (Cq W m x) rfl;have e1:d2 aZ (g9 1 tT (dC (.int 0))) (dC (.int 1)) (gW W m (↥x))=.ok (.int ((bu m x.dropLast).getD 0+1)) (gW W m (↥x)):=by unfold d2;rw[G,R.bind_ok];rfl
    have p:=Ck (i:=1) e1 (Cq W m x) ⟨_,rfl⟩ rfl (m:=m) ∅;generalize f:cK m x.dropLast ((bu m x.dropLast).getD 0+1)=q at p;have w:(ks q).Nodup:=by rw[<-f];exact ot j
    have v:∀z∈ks q,z∈fE b:=λz l=>by
     have:(bu q z).isSome=ah:=by rw[zR];exact decide_eq_true l
     rw[<-f,lT]at this;by_cases c:z=x.dropLast
     .rw[c];exact u
     .rw[if_neg c,zR,decide_eq_true_eq]at this;exact g z this
    have I:=few w v;have F:=BG (i:=1) (n:=0) (FR W q x) rfl;have H:d2 jc (g9 1 qT (dC (.int 0))) (dC (.int 1)) (gW W q (↥x))=.ok (.int ((bu q x.tail).getD 0-1)) (gW W q (↥x)):=by unfold d2;rw[F,R.bind_ok];rfl
    have d:=Ck (i:=1) H (FR W q x) ⟨_,rfl⟩ rfl (m:=q) ∅;show xB (gW W m (↥x))=_;unfold xB;refine(cr p).trans ?_;refine Eq.trans (show eZ 1 qT _ _=_ from d) ?_;unfold kE;rw[f];rfl)
 have o:yag a [.val W,.none,.none]=.ok (.ret (.own (.dK (dk (ik b))))) [.val W,.none,d]:=by
  rw[LI];refine(cr (show dS 1 qw [.val W,.none,.none]=.ok .next (gW W [] .none)from rfl)).trans ?_;have C:eU 2 (bI (dV 0)) xB (gW W [] .none)=.ok .next (gW W (ik b) d):=by
   unfold eU;have:bI (dV 0) (gW W [] .none)=.ok (am b) (gW W [] .none):=by unfold bI;show(R.ok W _).bind _=_;rw[R.bind_ok,E];rfl
   rw[this,R.bind_ok];exact e
  refine(cr (d1:=λε=>cV (eU 2 (bI (dV 0)) xB ε)) (by show cV _=_;rw[C];rfl)).trans ?_;exact Dl rfl
 unfold vA;generalize yag a=D at o;generalize dk (ik b)=A at o;simp[bH,fz,bF,dy,o,back,aB,R.bind,fW]
end
theorem Lx{a:aj}{i:Nat}{s:Slot}(h:a[i]?=aa s):a.set i s=a:=by
 apply ug;intro j;by_cases b:i=j
 .subst b;rw[h_ (dG.mp h).1,h]
 .rw[ff b]
theorem FU{b:Type}{d:aj->R b}{x:PV}{ε:aj}{i:Nat}{a:PO}{r:b}(c:ε[i]?=aa (.own a))(f:d [.val x,.own a]=.ok r [.val x,.own a]):dX (eJ [i] d x ε)=.ok r ε:=by simp[eJ,e_,c,dX,R.bind,aB,cN,fe,f,ii,fP,gh,Lx c]
section
variable{a:Ad}
def f2(a:Ad):aj->R aF:=br 2 (dF (cR [1] (bI (dF (Pg 1))) (dB (d2 (dR λi j=>decide (j<i)) (me 1 (dV 0)) (dC (.int 0)))) (dV 0)))
def f3:aj->R aF:=b_ (dB (d2 (dR λi j=>decide (j<i)) (dL bS (aI (dV 2) (aU))) (dC (.int 1)))) (cC (dL g8 (aI (dC (.str [116,119,111])) (aI (d2 bL (dV 2) (dC (.int 0))) (aI (d2 bL (dV 2) (dC (.int 1))) (aU)))))) (cX)
def f4:aj->R aF:=b_ (sA (dB (d2 (eqT ak) (dL bS (aI (dV 2) (aU))) (dC (.int 1)))) (dB (d2 (dR λi j=>decide (j<i)) (me 1 (d2 bL (dV 2) (dC (.int 0)))) (dC (.int 1))))) (cC (dL g8 (aI (dC (.str [109,111,114,101])) (aI (d2 bL (dV 2) (dC (.int 0))) (aU))))) (cX)
theorem Hc{G:aj->R Slot}{W:PV}{ε:aj}{i:Nat}{b:PO}(f:ε[0]?=aa (.val W))(d:G [.val W]=.ok (.own b) [.val W])(c:i<ε.length):dS i (kx (aV G (gV (dV 0) (Pu.bN)))) ε=.ok .next (ε.set i (.own b)):=by simp[dS,kx,aV,gV,Pu.bN,dV,f,R.bind,aB,cN,fe,d,ii,fP,gh,zA,c]
theorem MR(y:Tx)(r:List Tx):bL (.lst (am (y::r))) (.int 0)=aa (.str y):=by show fq (.str y::am r) 0=_;rw[tu (by decide) (by simp)];rfl
end
theorem CU{v:Nat}:∀{ls:List Tx},(∀y∈ls,y.length=v+1)->∀y,exc ls y=(oc v ls y:Int)-(ic ls y:Int)
 |[],_,y=>rfl
 |x::ls,h,y=>by
  have a:=CU (λz b=>h z (by simp[b])) (ls:=ls) y;have c:x.take v=x.dropLast:=by rw[G1,h x (by simp)];rfl
  have e:exc (x::ls) y=b1 (x.dropLast=y)-b1 (x.tail=y)+exc ls y:=by simp[exc]
  rw[e,a];unfold oc ic b1;simp only[bZ,f8,c];split <;> split <;> lia
section
variable{v:Nat}
def covW(v:Nat)(ts:List Tx):List Tx:=ts.flatMap λt=>wins t (v+1)
structure Cov(v:Nat)(ts M:List Tx):Prop where
 long:∀t∈ts,v<t.length
 perm:(covW v ts).Perm M
theorem covW_cons(t:Tx)(ts:List Tx):covW v (t::ts)=wins t (v+1)++covW v ts:=rfl
theorem covW_app(b a:List Tx):covW v (b++a)=covW v b++covW v a:=by unfold covW;rw[G0]
theorem grow_many{M:List Tx}(W:∀x∈M,x.length=v+1)(H:vV v M):∀(n:Nat) (b R:List Tx),R.length<=n->b≠[]->(∀t∈b,v<t.length)->(covW v b++R).Perm M->(∀y,oc v R y=ic R y)->∃g,g.length=b.length/\Cov v g M:=by
 intro n
 induction n with
 |zero=>intro b R S _ d f _;rw[mC.mp (show R.length=0 by lia),ie]at f;exact⟨b,rfl,d,f⟩
 |succ n O=>
  intro b R S cy d f A;by_cases L:R=[]
  .rw[L,ie]at f;exact⟨b,rfl,d,f⟩
  .obtain⟨I,w⟩:=G3 R L;obtain⟨s,C⟩:=G3 b cy;have F:∀t∈b,∀x∈wins t (v+1),x∈M:=λt d x a=>f.mem_iff.mp (lq _ (xN.mpr ⟨t,d,a⟩));have m:∃t∈b,∃i,i+v<=t.length/\∃x∈R,x.take v=gr t v i\/x.tail=gr t v i:=by
    refine G2 λno=>?_;have o:∀t∈b,∀i,i+v<=t.length->∀x∈R,¬(x.take v=gr t v i\/x.tail=gr t v i):=λt d i h x a q=>no ⟨t,d,i,h,x,a,q⟩;have:=H (λy=>∃t∈b,∃i,i+v<=t.length/\gr t v i=y)
     ⟨gr s (v+1) 0,F s C _ (QC.mpr ⟨0,by have:=d s C;lia,rfl⟩),s,C,0,by have:=d s C;lia,by rw[sI]⟩
     (λx a q=>by
      rcases fY.mp (f.mem_iff.mpr a)with a|a
      .obtain⟨t,l,X⟩:=xN.mp a;obtain⟨j,hj,rfl⟩:=QC.mp X;exact⟨⟨t,l,j,∅,by rw[sI]⟩,⟨t,l,j+1,∅,by rw[y3]⟩⟩
      .rcases q with⟨t,l,i,h,e⟩|⟨t,l,i,h,e⟩
       .exact absurd (.inl e.symm) (o t l i h x a)
       .exact absurd (.inr e.symm) (o t l i h x a))
     I (f.mem_iff.mp (gm _ w))
    obtain⟨t,l,i,h,e⟩:=this;exact o t l i h I w (.inl e.symm)
   obtain⟨t,J,i,h,x,a,Q⟩:=m;have Bw:0<oc v R (gr t v i):=by
    rcases Q with q|q
    .exact QA.mpr ⟨x,a,q⟩
    .rw[A];exact QS.mpr ⟨x,a,q⟩
   have G:∀x∈R,x.length=v+1:=λx a=>W x (f.mem_iff.mp (gm _ a));obtain⟨c,R2,c1,c2,D,c4,c5,c6⟩:=FM G A (p:=gr t v i) (by unfold gr;simp;lia);have K:R2.length<R.length:=by
    have T:=D.length_eq;rw[cZ]at T;rcases uw (wins c (v+1)).length with z|z
    .rw[mC.mp z,iT]at D;obtain⟨y,P,e⟩:=QA.mp Bw;exact absurd e (c5 y (D.mem_iff.mpr P))
    .lia
   obtain⟨B,d1,d2,d3,N⟩:=L4 h c2 c1 c4;obtain⟨E,bs,rfl⟩:=List.append_of_mem J;have be:v<B.length:=by have:=N.length_eq;have h0:=d t J;rw[cZ,jG ∅,jG ∅]at this;lia
   have eX:(covW v (E++B::bs)++R2).Perm M:=by
    refine Be.trans ?_ f;rw[covW_app,covW_app,covW_cons,covW_cons];have e1:(covW v E++(wins B (v+1)++covW v bs)++R2).Perm (covW v E++(wins t (v+1)++wins c (v+1)++covW v bs)++R2):=((N.append_right _).append_left _).append_right _;refine e1.trans ?_;have e2:(wins c (v+1)++(covW v bs++R2)).Perm (covW v bs++R):=by refine Be.trans ?_ (D.append_left (covW v bs));rw[<-gq,<-gq];exact List.perm_append_comm.append_right _
    simp only[gq];exact(e2.append_left _).append_left _
   obtain⟨g,Z,Y⟩:=O (E++B::bs) R2 ∅ (by simp) (λu r=>by
    rcases fY.mp r with r|r
    .exact d u (by simp[r])
    .rcases bw.mp r with rfl|r
     .exact be
     .exact d u (by simp[r])) eX c6
   exact⟨g,by rw[Z];simp,Y⟩
def pS(v:Nat)(K M:List Tx):Nat:=(K.map λy=>oc v M y-ic M y).sum
theorem sum_one{K:List Tx}(b:K.Nodup){f g:Tx->Nat}{s:Tx}(d:s∈K)(i:f s=g s+1)(c:∀y∈K,y≠s->f y=g y):(K.map f).sum=(K.map g).sum+1:=by
 induction K with
 |nil=>cases d
 |cons x K h=>
  rw[jm]at b;rw[bZ,bZ,f8,f8];by_cases e:s=x
  .subst e;rw[i,ig λy a=>c y (by simp[a]) λz=>b.1 (z ▸ a)];lia
  .rw[c x (by simp) (λz=>e z.symm),h b.2 ((bw.mp d).resolve_left e) λy a=>c y (by simp[a])];lia
theorem sum_pos{K:List Tx}{f:Tx->Nat}(h:0<(K.map f).sum):∃y∈K,0<f y:=by
 induction K with
 |nil=>simp at h
 |cons x K a=>
  rw[bZ,f8]at h;rcases uw (f x)with z|z
  .obtain⟨y,c,b⟩:=a ∅;exact⟨y,by simp[c],b⟩
  .exact⟨x,by simp,z⟩
theorem sum_zero{K:List Tx}{f:Tx->Nat}(h:(K.map f).sum=0):∀y∈K,f y=0:=λy a=>by
 induction K with
 |nil=>cases a
 |cons x K b=>
  rw[bZ,f8]at h;rcases bw.mp a with rfl|a
  .lia
  .exact b ∅ a
theorem sum_le{K:List Tx}{f g:Tx->Nat}(h:∀y∈K,f y<=g y):(K.map f).sum<=(K.map g).sum/\((K.map f).sum=(K.map g).sum->∀y∈K,f y=g y):=by
 induction K with
 |nil=>simp
 |cons x K b=>
  have i:=h x (by simp);obtain⟨d,c⟩:=b λy a=>h y (by simp[a]);rw[bZ,bZ,f8,f8];refine⟨∅,λe y a=>?_⟩;rcases bw.mp a with rfl|a
  .lia
  .exact c ∅ y a
theorem sum_addN{K:List Tx}(f g:Tx->Nat):(K.map λy=>f y+g y).sum=(K.map f).sum+(K.map g).sum:=by
 induction K with
 |nil=>rfl
 |cons x K a=>rw[bZ,bZ,bZ,f8,f8,f8,a];lia
theorem one_sumN{K:List Tx}(a:K.Nodup)(s:Tx):(K.map λy=>b2 (s=y)).sum=if s∈K then 1 else 0:=by
 induction K with
 |nil=>rfl
 |cons x K b=>
  rw[jm]at a;rw[bZ,f8,b a.2];by_cases e:s=x
  .subst e;rw[if_neg a.1];simp[b2]
  .simp[b2,e]
theorem zsum:∀K:List Tx,(K.map λ_=>0).sum=0
 |[]=>rfl
 |x::K=>by rw[bZ,f8,zsum K]
theorem oc_sum{K:List Tx}(a:K.Nodup):∀{M:List Tx},(∀x∈M,x.take v∈K)->(K.map (oc v M)).sum=M.length
 |[],_=>by exact zsum K
 |x::M,h=>by
  have b:=oc_sum a (M:=M) λy c=>h y (by simp[c]);have e:(K.map (oc v (x::M)))=K.map λy=>b2 (x.take v=y)+oc v M y:=ig λy _=>by simp[oc,b2]
  rw[e,sum_addN,one_sumN a,if_pos (h x (by simp)),b,cS];lia
theorem ic_sum{K:List Tx}(a:K.Nodup):∀{M:List Tx},(∀x∈M,x.tail∈K)->(K.map (ic M)).sum=M.length
 |[],_=>by exact zsum K
 |x::M,h=>by
  have b:=ic_sum a (M:=M) λy c=>h y (by simp[c]);have e:(K.map (ic (x::M)))=K.map λy=>b2 (x.tail=y)+ic M y:=ig λy _=>by simp[ic,b2]
  rw[e,sum_addN,one_sumN a,if_pos (h x (by simp)),b,cS];lia
theorem bal_of{K M:List Tx}(d:K.Nodup)(c:∀x∈M,x.take v∈K/\x.tail∈K)(h:pS v K M=0)(y:Tx):oc v M y=ic M y:=by
 by_cases b:y∈K
 .have l:=sum_zero h;have:=(sum_le (K:=K) (f:=oc v M) (g:=ic M) λy b=>by have:=l y b;lia).2 (by rw[oc_sum d λx a=>(c x a).1,ic_sum d λx a=>(c x a).2]);exact this y b
 .have j:oc v M y=0:=by
   rcases uw (oc v M y)with z|z
   .exact z
   .obtain⟨x,a,e⟩:=QA.mp z;exact absurd (e ▸ (c x a).1) b
  have i:ic M y=0:=by
   rcases uw (ic M y)with z|z
   .exact z
   .obtain⟨x,a,e⟩:=QS.mp z;exact absurd (e ▸ (c x a).2) b
  rw[j,i]
theorem trails{K:List Tx}(l:K.Nodup):∀(p:Nat) (M:List Tx),(∀x∈M,x.length=v+1)->(∀x∈M,x.take v∈K/\x.tail∈K)->pS v K M=p -> ∃b R,b.length=p/\(∀t∈b,v<t.length)/\(covW v b++R).Perm M/\∀y,oc v R y=ic R y
 |0,M,hM,hK,h=>⟨[],M,rfl,(λt C=>by cases C),.refl _,bal_of l hK h⟩
 |p+1,M,hM,hK,h=>by
  obtain⟨s,E,Bw⟩:=sum_pos (K:=K) (f:=λy=>oc v M y-ic M y) (by have:(K.map λy=>oc v M y-ic M y).sum=p+1:=h;lia);obtain⟨B,m,J⟩:=QA.mp (show 0<oc v M s by lia);have D:s.length=v:=by rw[<-J,lw,hM B m];lia
  have I:wins s (v+1)=[]:=mC.mp (by rw[jG ∅];lia);obtain⟨t,R,r,W,i,T⟩:=yf hM M.length s M rfl ∅ (by rw[I];exact .refl _);rw[show s.take v=s from ki ∅]at r;have j:oc v R (en v t)=0:=by
   rcases uw (oc v R (en v t))with q|q
   .exact q
   .obtain⟨x,H,G⟩:=QA.mp q;exact absurd G (T x H)
  have a:∀y,oc v M y+b2 (en v t=y)+ic R y=ic M y+b2 (s=y)+oc v R y:=λy=>by have O:=wo W y;have N:=vx (v:=v) i y;have L:=vy i y;rw[wb]at N;rw[wJ]at L;rw[r]at O;lia
  have A:en v t≠s:=λe=>by have:=a s;rw[e]at j this;rw[j]at this;lia
  have P:v<t.length:=by
   rcases Nat.lt_or_ge v t.length with z|z
   .exact z
   .exfalso;refine A ?_;have:t.length=v:=∅
    rw[<-r];show t.drop (t.length-v)=t.take v;rw[this,A0,pi,ki ∅]
  have w:∀x∈R,x∈M:=λx d=>i.mem_iff.mp (gm _ d);have Y:pS v K R=p:=by
   have:=sum_one l (f:=λy=>oc v M y-ic M y) (g:=λy=>oc v R y-ic R y) E (by
    have c:=a s;unfold b2 at c;rw[if_neg A,if_pos rfl]at c;show oc v M s-ic M s=oc v R s-ic R s+1;lia) (λy Z F=>by
    have c:=a y;unfold b2 at c;rw[if_neg (show ¬s=y from λz=>F z.symm)]at c;show oc v M y-ic M y=oc v R y-ic R y;by_cases e:en v t=y
    .rw[if_pos e]at c;rw[e]at j;lia
    .rw[if_neg e]at c;lia)
   have h':(K.map λy=>oc v M y-ic M y).sum=p+1:=h;show(K.map λy=>oc v R y-ic R y).sum=p;lia
  obtain⟨b,X,b1,o,S,Q⟩:=trails l p R (λx d=>hM x (w x d)) (λx d=>hK x (w x d)) Y;refine⟨t::b,X,by simp[b1],λu n=>?_,?_,Q⟩
  .rcases bw.mp n with rfl|n
   .exact P
   .exact o u n
  .rw[covW_cons,gq];exact(S.append_left _).trans i
theorem cov_few{K M:List Tx}(j:K.Nodup)(b:∀x∈M,x.length=v+1)(n:∀x∈M,x.take v∈K/\x.tail∈K)(c:vV v M)(q:M≠[]):∃a,a.length=max 1 (pS v K M)/\Cov v a M:=by
 cases m:pS v K M with
 |zero=>
  have h:=bal_of j n m;obtain⟨x,l⟩:=G3 M q;obtain⟨t,R,D,C,i,B,A,y⟩:=FM b h (p:=x.take v) (by rw[lw,b x l];lia);have r:v<t.length:=by
   rcases Nat.lt_or_ge v t.length with z|z
   .exact z
   .exfalso;have:wins t (v+1)=[]:=mC.mp (by rw[jG ∅];lia);rw[this,iT]at i;exact A x (i.mem_iff.mpr l) rfl
  obtain⟨a,g,f⟩:=grow_many b c R.length [t] R (aT _) (by simp) (λu o=>by rw[eN.mp o];exact r) (by rw[covW_cons];simpa[covW]using i) y;exact⟨a,by rw[g];rfl,f⟩
 |succ p=>obtain⟨a,R,b1,b2,w,s⟩:=trails j (p+1) M b n m;obtain⟨d,g,f⟩:=grow_many b c R.length a R (aT _) (by rintro rfl;simp at b1) b2 w s;exact⟨d,by rw[g,b1];lia,f⟩
theorem pS_app(K M N:List Tx):pS v K (M++N)<=pS v K M+pS v K N:=by unfold pS;rw[<-sum_addN];exact(sum_le λy _=>by rw[wb,wJ];lia).1
theorem pS_text{K:List Tx}(b:K.Nodup){t:Tx}(h:v<=t.length):pS v K (wins t (v+1))<=1:=by have a:pS v K (wins t (v+1))<=(K.map λy=>b2 (t.take v=y)).sum:=(sum_le λy _=>by have:=wo h y;lia).1;rw[one_sumN b]at a;split at a <;> lia
theorem pS_cov{K:List Tx}(a:K.Nodup):∀{ts:List Tx},(∀t∈ts,v<t.length)->pS v K (covW v ts)<=ts.length
 |[],_=>by show pS v K []<=0;have:pS v K []=(K.map λ_=>0).sum:=rfl;rw[this,zsum];exact aT _
 |t::ts,h=>by have f:=pS_cov a (ts:=ts) λu b=>h u (by simp[b]);have d:=pS_text a (t:=t) (v:=v) (by have:=h t (by simp);lia);have c:=pS_app (v:=v) K (wins t (v+1)) (covW v ts);rw[covW_cons,cS];lia
theorem pS_perm{K M N:List Tx}(h:M.Perm N):pS v K M=pS v K N:=by unfold pS;rw[ig λy _=>by rw[vx h,vy h]]
structure Min(v:Nat)(M:List Tx)(k:Nat):Prop where
 ex:∃ts,ts.length=k/\Cov v ts M
 low:∀ts,Cov v ts M->k<=ts.length
theorem Min.uniq{M:List Tx}{k j:Nat}(b:Min v M k)(a:Min v M j):k=j:=by obtain⟨d,g,f⟩:=b.ex;obtain⟨c,b1,b2⟩:=a.ex;have:=b.low c b2;have:=a.low d f;lia
theorem min_conn{K M:List Tx}(c:K.Nodup)(f:∀x∈M,x.length=v+1)(g:∀x∈M,x.take v∈K/\x.tail∈K)(a:vV v M)(d:M≠[]):Min v M (max 1 (pS v K M)):=by
 refine⟨cov_few c f g a d,λb h=>?_⟩;have i:=pS_cov c h.long;rw[pS_perm h.perm]at i;have j:1<=b.length:=by
  cases b with
  |nil=>have:=h.perm;exact absurd (List.nil_perm.mp this) d
  |cons=>simp
 lia
theorem min_nil:Min v [] 0:=⟨⟨[],rfl,(λt a=>by cases a),.refl _⟩,λ_ _=>jM _⟩
theorem min_parts{ks M:List Tx}(N:∀x∈M,x.length=v+1)(D:∀x∈M,x.take v∈ks\/x.tail∈ks->x.take v∈ks/\x.tail∈ks){k j:Nat}(r:Min v (M.filter λx=>decide (x.take v∈ks)) k)(o:Min v (M.filter λx=>!decide (x.take v∈ks)) j):Min v M (k+j):=by
 have I:(M.filter (λx=>decide (x.take v∈ks))++M.filter (λx=>!decide (x.take v∈ks))).Perm M:=G4 _ _;obtain⟨A,H,s⟩:=r.ex;obtain⟨w,b1,b2⟩:=o.ex;refine⟨⟨A++w,by simp[H,b1],λt b=>?_,?_⟩,λa h=>?_⟩
 .rcases fY.mp b with z|z
  .exact s.long t z
  .exact b2.long t z
 .rw[covW_app];exact(s.perm.append b2.perm).trans I
 .have d:∀t∈a,∀x∈wins t (v+1),(x.take v∈ks↔t.take v∈ks):=λt b x c=>by
   obtain⟨j,L,rfl⟩:=QC.mp c;rw[sI];have step:∀i,i+(v+1)<=t.length->(gr t v i∈ks↔gr t v (i+1)∈ks):=λi n=>by have E:gr t (v+1) i∈M:=h.perm.mem_iff.mp (xN.mpr ⟨t,b,QC.mpr ⟨i,n,rfl⟩⟩);have:=D _ E;rw[sI,y3]at this;exact⟨λz=>(this (.inl z)).2,λz=>(this (.inr z)).1⟩
   have all:∀i,i+v<=t.length->(gr t v i∈ks↔t.take v∈ks):=λi=>by
    induction i with
    |zero=>intro _;simp[gr]
    |succ i l=>intro n;rw[<-step i ∅];exact l ∅
   exact all j ∅
  have f:∀(q:Tx->Bool) (a:List Tx),(∀t∈a,∀x∈wins t (v+1),q (x.take v)=q (t.take v))->(covW v a).filter (λx=>q (x.take v))=covW v (a.filter λt=>q (t.take v)):=λq a=>by
   induction a with
   |nil=>intro _;rfl
   |cons t a l=>
    intro m;rw[covW_cons,Bd,l λu C=>m u (by simp[C])];cases g:q (t.take v)with
    |true=>rw[List.filter_cons_of_pos (p:=λt:Tx=>q (t.take v)) g,covW_cons,ut.mpr λx c=>by rw[m t (by simp) x c];exact g]
    |false=>rw[List.filter_cons_of_neg (p:=λt:Tx=>q (t.take v)) (by simp[g]),List.filter_eq_nil_iff.mpr λx c=>by rw[m t (by simp) x c];simp[g]];rfl
  have G:Cov v (a.filter λt=>decide (t.take v∈ks)) (M.filter λx=>decide (x.take v∈ks)):=⟨λt b=>h.long t (jH.mp b).1,by rw[<-f (λy=>decide (y∈ks)) a λt b x c=>decide_eq_decide.mpr (d t b x c)];exact h.perm.filter _⟩
  have F:Cov v (a.filter λt=>!decide (t.take v∈ks)) (M.filter λx=>!decide (x.take v∈ks)):=⟨λt b=>h.long t (jH.mp b).1,by rw[<-f (λy=>!decide (y∈ks)) a λt b x c=>by rw[decide_eq_decide.mpr (d t b x c)]];exact h.perm.filter _⟩
  have K:=r.low _ G;have J:=o.low _ F;have B:=(G4 (λt:Tx=>decide (t.take v∈ks)) a).length_eq;rw[cZ]at B;lia
end
theorem drop_take{v:Nat}{x:Tx}(h:x.length=v+1):x.dropLast=x.take v:=by rw[G1,h];rfl
theorem conn_part{v:Nat}{x:Tx}{r ks:List Tx}(A:∀y∈x::r,y.length=v+1)(h:Rch (x::r) ks)(l:∀y∈x::r,y.dropLast∈ks\/y.tail∈ks->y.dropLast∈ks/\y.tail∈ks):vV v ((x::r).filter λy=>decide (y.take v∈ks)):=by
 have j:∀y∈x::r,y.take v=y.dropLast:=λy a=>(drop_take (A y a)).symm;have p:∀y,y∈((x::r).filter λy=>decide (y.take v∈ks))↔y∈x::r/\y.dropLast∈ks:=λy=>by
  rw[jH];constructor
  .rintro⟨f,d⟩;exact⟨f,by rw[<-j y f];exact of_decide_eq_true d⟩
  .rintro⟨f,d⟩;exact⟨f,decide_eq_true (by rw[j y f];exact d)⟩
 intro V ⟨y,a,s⟩ u z w;have i:=(p y).mp a;have g:=(p z).mp w;rw[j y i.1]at s;rw[j z g.1];have o:∀y∈x::r,y.dropLast∈ks->V y.dropLast\/V y.tail->V y.dropLast/\V y.tail:=λy f d q=>by have:=u y ((p y).mpr ⟨f,d⟩);rw[j y f]at this;exact this q
 by_cases c:V x.dropLast
 .exact h.least (λq=>q∈ks->V q) (λy a q=>by
   refine⟨λn=>?_,λn=>?_⟩
   .have b:=l y a (.inl n);rcases q with q|q
    .exact q n
    .exact(o y a n (.inr (q b.2))).1
   .have b:=l y a (.inr n);rcases q with q|q
    .exact(o y a b.1 (.inl (q b.1))).2
    .exact q n) (λ_ _ e=>by cases e;exact λ_=>c) _ g.2 g.2
 .have:=h.least (λq=>q∈ks->¬V q) (λy a q=>by
   refine⟨λn m=>?_,λn m=>?_⟩
   .have b:=l y a (.inl n);have d:=o y a n (.inl m);rcases q with q|q
    .exact q n m
    .exact q b.2 d.2
   .have b:=l y a (.inr n);have d:=o y a b.1 (.inr m);rcases q with q|q
    .exact q b.1 d.1
    .exact q n m) (λ_ _ e=>by cases e;exact λ_=>c) _ i.2 i.2
  exact absurd s this
section
variable{a:Ad}
theorem vals_dk:∀m:List (Tx×Int),mQ (dk m)=aa (m.map (·.2))
 |[]=>rfl
 | (x,n)::m=>by show(mQ (dk m)).map (n::·)=_;rw[vals_dk m];rfl
theorem dk_exc(b:List Tx):(ik b).map (·.2)=(ks (ik b)).map (exc b):=by
 have c:=Fo b;have d:∀y,(bu (ik b) y).getD 0=exc b y:=Os b;generalize ik b=m at c d;have:∀p∈m,p.2=exc b p.1:=λp f=>by rw[<-d];obtain⟨k,n⟩:=p;have:=(Ig c).mpr f;rw[this];rfl
 show _=(m.map (·.1)).map _;rw[d9];exact ig this
theorem pos_sum(K:List Tx)(f g:Tx->Nat):(((K.map λy=>(f y:Int)-(g y:Int)).filter λn=>decide (0<n))).sum=((K.map λy=>f y-g y).sum:Nat):=by
 induction K with
 |nil=>rfl
 |cons y K b=>
  rw[bZ,bZ,f8];by_cases h:0<(f y:Int)-(g y:Int)
  .rw[List.filter_cons_of_pos (by simpa using h),f8,b];lia
  .rw[List.filter_cons_of_neg (by simpa using h),b];lia
theorem ints_dP(l:List Int):qH.intsQ (l.map .int)=aa l:=by
 induction l with
 |nil=>rfl
 |cons i l b=>show(qH.intsQ (l.map .int)).map (i::·)=_;rw[b];rfl
def fewK(b:List Tx):List Tx:=ks (ik b)
theorem few_ret{m:List (aA×PV)}{is:List Int}(f:mQ m=aa is){W:PV}{s:Int}(b:qH [.lst ((is.filter λn=>decide (0<n)).map .int)]=aa (.int s)){r:PV}(c:nq [.int 1,.int s]=aa r):(cC (dL nq (aI (dC (.int 1)) (aI (dL qH (aI (dF (oE 1)) (aU))) (aU))))) [.val W,.own (.dK m)]=.ok (.ret (.val r)) [.val W,.own (.dK m)]:=by
 have d:oE 1 [.val W,.own (.dK m)]=.ok (.lst ((is.filter λn=>decide (0<n)).map .int)) [.val W,.own (.dK m)]:=by unfold oE;show(aB (aa m) _).bind _=_;simp only[bP,R.bind_ok,f]
 generalize ((is.filter λn=>decide (0<n)).map PV.int)=LL at b d;generalize PV.int s=SS at b c;generalize PV.int 1=C1 at c ⊢;generalize oE 1=DP at d;simp![d,b,c]
theorem grd_ret11{d:aj->R aF}{b:PV}{c e1:Slot}(h:d [.val b,.none]=.ok (.ret c) [.val b,e1])(f:(match c with|.own o=>fW o|_=>ah)=ah):bH 1 [] (bF 1 d) [.val b]=.ok c [.val b]:=by simp[bH,fz,bF,dy,h,back,aB,R.bind]
theorem fewest_for_eq{v:Nat}(b:List Tx)(h:∀y∈b,y.length=v+1)(c:b.length<=100):xj a [.val (.lst (am b))]=.ok (⇑((max 1 (pS v (fewK b) b):Nat):Int)) [.val (.lst (am b))]:=by
 have d:=Oy (a:=a) (.lst (am b)) b c rfl;have f:qH [.lst ((((ik b).map (·.2)).filter λn=>decide (0<n)).map .int)]=aa (.int ((pS v (fewK b) b:Nat):Int)):=by show(qH.intsQ _).map _=_;rw[ints_dP];show aa (PV.int _)=_;rw[dk_exc,ig λy _=>CU h y,pos_sum];rfl
 have g:nq [.int 1,.int ((pS v (fewK b) b:Nat):Int)]=aa (.int ((max 1 (pS v (fewK b) b):Nat):Int)):=by show aa (PV.int (if((pS v (fewK b) b:Nat):Int) > 1 then _ else _))=_;congr 2;split <;> lia
 refine grd_ret11 (e1:=.own (.dK (dk (ik b)))) ?_ rfl;unfold yah;refine(cr (Hc (i:=1) (ε:=[.val (.lst (am b)),.none]) rfl d (by simp))).trans ?_;exact few_ret (vals_dk _) f g
def ftC:aj->R Bool:=(dB (d2 (dR λi j=>decide (j<i)) (dL bS (aI (dV 1) (aU))) (dC (.int 0))))
def ftB(a:Ad):aj->R aF:=(aD (dS 3 (kx (aV (tp a) (gV (dV 1) (Pu.bN))))) (aD (br 2 (d2 aZ (dV 2) (bd (aV (xj a) (gV (dF (cR [3] (bI (dV 1)) (dB (fU ak 1 (cg cu (dV 0) (cz) (ca (d1 dJ (dC (.int 1))))))) (dV 0))) (Pu.bN)))))) (br 1 (dF (cR [3] (bI (dV 1)) (dB (fU ah 1 (cg cu (dV 0) (cz) (ca (d1 dJ (dC (.int 1))))))) (dV 0))))))
def hdB(neg:Bool)(ks:List Tx):PV->Bool
 |.str y=>neg^^decide (y.dropLast∈ks)
 |_=>ak
theorem hd_comp(neg:Bool)(W:PV)(b ks:List Tx)(j:gg W=aa (am b))(V d:Slot):dF (cR [3] (bI (dV 1)) (dB (fU neg 1 (cg cu (dV 0) (cz) (ca (d1 dJ (dC (.int 1))))))) (dV 0)) [V,.val W,d,.own (.dK (cI ks))]=.ok (.lst (am (b.filter λy=>neg^^decide (y.dropLast∈ks)))) [V,.val W,d,.own (.dK (cI ks))]:=by
 have c:=lV (cap:=[3]) (dt:=dB (fU neg 1 (cg cu (dV 0) (cz) (ca (d1 dJ (dC (.int 1))))))) (de:=dV 0) (ε:=[V,.val W,d,.own (.dK (cI ks))]) (hdB neg ks) (λx=>x) (am b)
  (by
   intro x l;obtain⟨y,_,rfl⟩:=bV.mp l;refine⟨FU (i:=3) rfl ?_,λ_=>FU (i:=3) rfl rfl⟩;have p:cg cu (dV 0) (cz) (ca (d1 dJ (dC (.int 1)))) [↥y,.own (.dK (cI ks))]=.ok (.str y.dropLast) [↥y,.own (.dK (cI ks))]:=by have g:dJ (.int 1)=aa (.int (-1)):=rfl;have f:=xf y;generalize y.dropLast=YD at f;generalize PV.int 1=C1 at g;simp![cg,ca,cz,g,f]
   have o:=y6 (neg:=neg) (i:=1) (ks:=ks) p rfl;unfold dB;rw[o];rfl) []
 have m:((am b).filter (hdB neg ks)).map (λx=>x)=am (b.filter λy=>neg^^decide (y.dropLast∈ks)):=by rw[List.map_id'];unfold am;rw[uq];rfl
 rw[iT,m]at c;generalize am (b.filter λy=>neg^^decide (y.dropLast∈ks))=FF at c;generalize (dB (fU neg 1 (cg cu (dV 0) (cz) (ca (d1 dJ (dC (.int 1)))))))=DT at c;generalize n:(dV 0:aj->R PV)=DE at c;generalize am b=PL at c j;generalize cI ks=DK at c;have h:bI (dV 1) [V,.val W,d,.own (.dK DK)]=.ok PL [V,.val W,d,.own (.dK DK)]:=by simp[bI,dV,R.bind,aB,j]
 generalize bI (dV 1)=DI at h;simp[dF,cR,h,c,R.bind,qi,aB]
theorem ft_cond{W:PV}{n:Nat}(d:bS [W]=aa (.int n))(V c b:Slot):ftC [V,.val W,c,b]=.ok (decide (0<n)) [V,.val W,c,b]:=by have:decide ((0:Int)<(n:Nat))=decide (0<n):=decide_eq_decide.mpr ∅;rw[<-this];generalize ((n:Nat):Int)=NN at d;simp![ftC,d]
theorem ft_while{v:Nat}(V:Slot):∀(n:Nat) (d:List Tx) (W:PV) (c j:Nat) (g:Slot),d.length<=n->n<j->d.length<=20->(∀y∈d,y.length=v+1)->gg W=aa (am d)->bS [W]=aa (.int (d.length:Nat))->(∀x r,d=x::r->bL W (.int 0)=aa (.str x)) -> ∃k T Q,Min v d k/\dZ ftC (ftB a) j [V,.val W,⇑c,g]=.ok .next [V,.val T,⇑((c+k:Nat):Int),Q]:=by
 intro n
 induction n with
 |zero=>
  intro d W c j g Y hf _ o E G _;obtain⟨f,rfl⟩:∃f,j=f+1:=⟨j-1,∅⟩
  have e:d=[]:=pq ∅;subst e;refine⟨0,W,g,min_nil,?_⟩;have p:=ft_cond G V (⇑c) g;exact qP p
 |succ n ih=>
  intro d W c j g Y hf P o E G L;obtain⟨f,rfl⟩:∃f,j=f+1:=⟨j-1,∅⟩
  cases d with
  |nil=>refine⟨0,W,g,min_nil,?_⟩;have p:=ft_cond G V (⇑c) g;exact qP p
  |cons x r=>
   have p:=ft_cond G V (⇑c) g;rw[decide_eq_true (by simp)]at p;simp only[cS]at Y P;obtain⟨ks,hR,X,B⟩:=OI (a:=a) W x r ∅ E (L x r rfl);have D:∀y∈x::r,y.dropLast=y.take v:=λy b=>drop_take (o y b);have eA:((x::r).filter λy=>ak^^decide (y.dropLast∈ks))=(x::r).filter λy=>decide (y.take v∈ks):=List.filter_congr λy b=>by rw[D y b,um]
   have eB:((x::r).filter λy=>ah^^decide (y.dropLast∈ks))=(x::r).filter λy=>!decide (y.take v∈ks):=List.filter_congr λy b=>by rw[D y b,Bb]
   have S:=conn_part o hR X;have A:x∈(x::r).filter λy=>decide (y.take v∈ks):=jH.mpr ⟨by simp,decide_eq_true (by rw[<-D x (by simp)];exact hR.start x r rfl)⟩;have u:∀y∈(x::r).filter (λy=>decide (y.take v∈ks)),y.length=v+1:=λy b=>o y (jH.mp b).1;have J:∀y∈(x::r).filter (λy=>!decide (y.take v∈ks)),y.length=v+1:=λy b=>o y (jH.mp b).1;have w:=(G4 (λy:Tx=>decide (y.take v∈ks)) (x::r)).length_eq;rw[cZ,cS]at w;have hA1:1<=((x::r).filter λy=>decide (y.take v∈ks)).length:=xO A;have i:=fewest_for_eq (a:=a) ((x::r).filter λy=>decide (y.take v∈ks)) u ∅;have m:=min_conn (v:=v) (K:=fewK ((x::r).filter λy=>decide (y.take v∈ks))) (M:=(x::r).filter λy=>decide (y.take v∈ks)) (Fo _) u (λy b=>by rw[<-drop_take (u y b)];unfold fewK;rw[BV,BV];exact⟨lq _ (bV.mpr ⟨y,b,rfl⟩),gm _ (bV.mpr ⟨y,b,rfl⟩)⟩) S (List.ne_nil_of_mem A);generalize hkA:max 1 (pS v (fewK ((x::r).filter λy=>decide (y.take v∈ks))) ((x::r).filter λy=>decide (y.take v∈ks)))=kA at i m;have Z:kA<=20:=by
    have C:Cov v ((x::r).filter λy=>decide (y.take v∈ks)) ((x::r).filter λy=>decide (y.take v∈ks)):=⟨λt ht=>by rw[u t ht];lia,by
     have:∀l:List Tx,(∀y∈l,y.length=v+1)->covW v l=l:=λl=>by
      induction l with
      |nil=>intro _;rfl
      |cons y l H=>intro h;rw[covW_cons,H λz hz=>h z (by simp[hz]),j6 _ _ ∅,h y (by simp),show v+1+1-(v+1)=1 by lia];show [(y.drop 0).take (v+1)]++l=_;rw[pi,ki (by rw[h y (by simp)];lia)];rfl
     rw[this _ u]⟩
    have:=m.low _ C;lia
   have s:=hd_comp ak W (x::r) ks E V (⇑c);have cB:=hd_comp ah W (x::r) ks E V (⇑((c+kA:Nat):Int));rw[eA]at s;rw[eB]at cB;have F:aZ (.int c) (.int kA)=aa (.int ((c+kA:Nat):Int)):=by show aa (PV.int _)=_;congr 2
   obtain⟨kB,T,Q,I,hw⟩:=ih ((x::r).filter λy=>!decide (y.take v∈ks)) (.lst (am ((x::r).filter λy=>!decide (y.take v∈ks)))) (c+kA) f (.own (.dK (cI ks))) ∅ ∅ ∅ J rfl (by show aa (PV.int _)=_;rw[iI]) (λy l e=>by rw[e];exact MR y l);refine⟨kA+kB,T,Q,min_parts o (λy b q=>by rw[<-D y b]at q ⊢;exact X y b q) m I,?_⟩;have hb:ftB a [V,.val W,⇑c,g]=.ok .next [V,.val (.lst (am ((x::r).filter λy=>!decide (y.take v∈ks)))),⇑((c+kA:Nat):Int),.own (.dK (cI ks))]:=by
    unfold ftB;refine(cr (ε1:=[V,.val W,⇑c,.own (.dK (cI ks))]) ?_).trans ?_
    .generalize cI ks=DK at B;simp![B]
    refine(cr (ε1:=[V,.val W,⇑((c+kA:Nat):Int),.own (.dK (cI ks))]) ?_).trans ?_
    .generalize (dF (cR [3] (bI (dV 1)) (dB (fU ak 1 (cg cu (dV 0) (cz) (ca (d1 dJ (dC (.int 1))))))) (dV 0)))=DA at s;generalize am ((x::r).filter λy=>decide (y.take v∈ks))=PA at s i;generalize PV.int ((c+kA:Nat):Int)=CK at F;generalize PV.int kA=KA at F i;generalize PV.int c=CC at F s;generalize cI ks=DK at s;generalize O:dV 2=D2;have N:D2 [V,.val W,.val CC,.own (.dK DK)]=.ok CC [V,.val W,.val CC,.own (.dK DK)]:=by rw[<-O];rfl
     simp[br,d2,N,bd,aV,gV,Pu.bN,s,i,F,R.bind,aB,ii,gh,cN,fe,fP,tQ]
    .exact(oQ cB).trans rfl
   rw[sV p hb,hw,xJ]
theorem fewest_texts_eq{w:Nat}{c:List Tx}(g:Good bR w c)(o:1<=w)(n:w<=4)(q:c.Pairwise (λa b=>dv a b=ah)):∃k,Min (w-1) c k/\vT a [.val (bi w c)]=.ok (⇑k) [.val (bi w c)]:=by
 have j:qo a [.val (bi w c)]=.ok (.val .non) [.val (bi w c)]:=Fa (a:=a) (g.vw o n q);have u:=g.few;obtain⟨k,m,l,s,i⟩:=ft_while (a:=a) (v:=w-1) (.val (bi w c)) c.length c (.tup (am c)) 0 1000 .none (aT _) ∅ ∅ (λy p=>by rw[g.len y p];lia) rfl (by simp[bS,iI]) (λx r e=>by rw[e];show fq (.str x::am r) 0=_;rw[tu (by decide) (by simp)];rfl);refine⟨k,s,?_⟩;rw[uj]at i;have h:bL (bi w c) (.int 1)=aa (.tup (am c)):=rfl;have d:yai a [.val (bi w c),.none,.none,.none]=.ok (.ret (⇑k)) [.val (bi w c),.val m,⇑k,l]:=by show aD _ (aD _ (aD _ (aD (λf=>cV (dZ ftC (ftB a) 1000 f)) (cC (dV 2))))) _=_;refine(cr (ε1:=[.val (bi w c),.none,.none,.none]) (by generalize bi w c=VV at j;simp![j])).trans ?_;refine(cr (ε1:=[.val (bi w c),.val (.tup (am c)),.none,.none]) (by generalize am c=PL at h;generalize bi w c=VV at h;simp![h])).trans ?_;refine(cr (ε1:=[.val (bi w c),.val (.tup (am c)),⇑0,.none]) (by rfl)).trans ?_;refine(cr (d1:=λf=>cV (dZ ftC (ftB a) 1000 f)) (ε1:=[.val (bi w c),.val m,⇑k,l]) ?_).trans rfl;show cV (dZ ftC (ftB a) 1000 [.val (bi w c),.val (.tup (am c)),⇑((0:Nat):Int),.none])=_;rw[i];rfl
 unfold vT;generalize yai a=DD at d ⊢;generalize bi w c=VV at d ⊢;generalize PV.int k=KK at d ⊢;simp[bH,fz,bF,dy,d,back,fW,aB,R.bind]
end
end Sh
namespace Mx
open L2 Pu
def ovD(a w:Tx):Nat->Nat
 |0=>0
 |k+1=>if w.take (k+1) <:+ a then k+1 else ovD a w k
def ov(a w:Tx):Nat:=ovD a w (w.length-1)
theorem pick_sub:∀(m l:List Tx),(∀x,l.count x<=m.count x)->∃a:List Tx,a.Sublist m/\a.Perm l
 |[],l,h=>by
  have:l=[]:=by
   cases l with
   |nil=>rfl
   |cons x l=>have:=h x;simp at this
  subst this;exact⟨[],.slnil,.nil⟩
 |y::m,l,h=>by
  by_cases d:y∈l
  .obtain⟨a,c,b⟩:=pick_sub m (l.erase y) λx=>by
    have:=h x;by_cases e:y=x
    .subst e;rw[Bi];rw[uu]at this;lia
    .rw[Bj (λz=>e z.symm)];rw[Bl e]at this;exact this
   exact⟨y::a,c.cons_cons y,(b.cons y).trans (Bk d).symm⟩
  .obtain⟨a,c,b⟩:=pick_sub m l λx=>by
    have:=h x;by_cases e:y=x
    .subst e;rw[List.count_eq_zero.mpr d];lia
    .rw[Bl e]at this;exact this
   exact⟨a,c.cons y,b⟩
theorem BC{w:Nat}{d:List Tx}(f:1<=w)(i:1<=d.length)(j:∀x∈d,x.length=w/\∀c∈x,c∈bR)(h:d.Pairwise (λa b=>dv a b=ah)){z:Tx}(g:∀c∈z,c∈bR):z∈fA w d↔aC (wins z w)=d:=by
 rw[zT f i j,jH,oG,List.isPerm_iff];constructor
 .rintro⟨_,p⟩;rw[Co p,wM h]
 .intro e;have p:(wins z w).Perm d:=by rw[<-e];exact(ef _).symm
  have l:=p.length_eq;rw[jG f]at l;exact⟨⟨∅,g⟩,p⟩
theorem Hw{w:Nat}{a:List Tx}(b:1<=w)(d:1<=a.length)(f:∀x∈a,x.length=w/\∀c∈x,c∈bR){z:Tx}(h:z∈fA w a):z.length=w-1+a.length/\∀c∈z,c∈bR:=by rw[zT b d f,jH,oG]at h;exact h.1
end Mx
namespace Sh
open L2 Pu Mx
theorem abc_of{t:Tx}{w:Nat}(a:1<=w)(f:w<=t.length)(h:∀x∈wins t w,∀c∈x,c∈bR):∀c∈t,c∈bR:=by
 intro c d;obtain⟨i,g,rfl⟩:=List.mem_iff_getElem.mp d;have b:min i (t.length-w)<t.length+1-w:=∅
 refine h ((t.drop (min i (t.length-w))).take w) ?_ _ ?_
 .rw[j6 t w a];exact bV.mpr ⟨_,o0.mpr b,rfl⟩
 .refine List.mem_iff_getElem.mpr ⟨i-min i (t.length-w),by simp;lia,?_⟩;rw[A7,A6];congr 1;lia
def hasT(w:Nat)(k:List Tx):Bool:=decide (fA w k≠[])
theorem has_iff{w:Nat}{d:List Tx}(g:Good bR w d)(f:1<=w)(l:d.Pairwise (λa b=>dv a b=ah)):(∃t,(wins t w).Perm d)↔hasT w d=ah:=by
 have n:∀x∈d,x.length=w/\∀c∈x,c∈bR:=λx i=>⟨g.len x i,g.abc x i⟩
 unfold hasT;rw[decide_eq_true_iff];constructor
 .rintro⟨t,j⟩ e;have p:=j.length_eq;rw[jG f]at p;have q:=g.some;have m:=abc_of (t:=t) f ∅ (λx i=>g.abc x (j.mem_iff.mp i));have:=(BC f g.some n l m).mpr (by rw[Co j];exact(wM l));rw[e]at this;cases this
 .intro h;obtain⟨z,r,e⟩:=List.exists_cons_of_ne_nil h;have o:z∈fA w d:=by rw[e];simp
  have m:=(Hw f g.some n o).2;have:=(BC f g.some n l m).mp o;exact⟨z,by rw[<-this];exact(ef _).symm⟩
section
variable{a:Ad}
theorem in_tup(x:Tx)(k:List Tx):kq ak (.str x) (.tup (am k))=aa (.bl (decide (x∈k))):=by
 show(dD (.str x)).bind (λv=>(i_ (am k)).map λb=>PV.bl (ak^^nc v b))=_;rw[DQ];show aa (PV.bl (ak^^nc (tV x) (bU k)))=_;rw[um];congr 2;unfold nc bU;rw[AZ,ke,nQ,decide_eq_true_eq];constructor
 .rintro⟨z,d,c⟩;have:x=z:=by simpa[Ac,eq_comm]using c
  rw[this];exact d
 .intro h;exact⟨x,h,by simp[Ac]⟩
theorem sortSetTP_eq{k:List Tx}(h:k.length<=1000):oM [.tup (am k)]=aa (.lst (am (aC (bJ k)))):=by show(fG (am k)).bind _=_;rw[n9,jP,if_pos];have:(bJ k).length<=k.length:=(Nc k).length_le_of_subset λz b=>(lX _ _).mp b;lia
end
def less(m l:List Tx):List Tx:=l.foldl List.erase m
theorem less_perm:∀(l m:List Tx),(∀x,l.count x<=m.count x)->(less m l++l).Perm m
 |[],m,_=>by rw[ie];exact pr m
 |y::l,m,h=>by
  have b:y∈m:=by have:=h y;rw[uu]at this;exact uv.mp ∅
  have a:=less_perm l (m.erase y) λx=>by
   have:=h x;by_cases e:y=x
   .subst e;rw[Bi];rw[uu]at this;lia
   .rw[Bj (λz=>e z.symm)];rw[Bl e]at this;exact this
  exact(List.perm_middle.trans (a.cons y)).trans (Bk b).symm
structure Trail(w:Nat)(ws:List Tx)(t:Tx):Prop where
 long:w<=t.length
 abc:∀c∈t,c∈bR
 sub:unD w ws t=ah
def kids(w:Nat)(ws:List Tx)(t:Tx):List Tx:=(bR.map λc=>t++[c]).filter (unD w ws)
def GG:Nat->Nat
 |0=>1
 |k+1=>1+3*GG k
theorem GG_pos:∀k,1<=GG k
 |0=>aT _
 |k+1=>by unfold GG;lia
def phi(w:Nat)(a:List Tx)(t:Tx):Nat:=GG (a.length-(t.length+1-w))
def phis(w:Nat)(a:List Tx)(Q:List Tx):Nat:=(Q.map (phi w a)).sum
theorem under_len{w:Nat}{a:List Tx}{t:Tx}(b:1<=w)(h:unD w a t=ah):t.length+1-w<=a.length:=by have c:=KB.mp h;rw[<-jG b];obtain⟨g,f,d⟩:=pick_sub a (wins t w) c;rw[<-d.length_eq];exact f.length_le
theorem kids_mem{w:Nat}{b:List Tx}{t u:Tx}:u∈kids w b t↔(∃c∈bR,u=t++[c])/\unD w b u=ah:=by
 unfold kids;rw[jH,bV];constructor
 .rintro⟨⟨c,a,rfl⟩,h2⟩;exact⟨⟨c,a,rfl⟩,h2⟩
 .rintro⟨⟨c,a,rfl⟩,h2⟩;exact⟨⟨c,a,rfl⟩,h2⟩
theorem kids_trail{w:Nat}{b:List Tx}{t u:Tx}(f:Trail w b t)(h:u∈kids w b t):Trail w b u:=by
 obtain⟨⟨c,g,rfl⟩,i⟩:=kids_mem.mp h;refine⟨by simp;have:=f.long;lia,λd a=>?_,i⟩;rcases fY.mp a with a|a
 .exact f.abc d a
 .rw[eN.mp a];exact g
theorem kids_phi{w:Nat}(g:1<=w){a:List Tx}{t:Tx}(m:Trail w a t):phis w a (kids w a t)+1<=phi w a t:=by
 have d:∀u∈kids w a t,phi w a u+0<=GG (a.length-(t.length+1-w)-1)/\1<=a.length-(t.length+1-w):=λu b=>by obtain⟨⟨c,_,rfl⟩,o⟩:=kids_mem.mp b;have n:=under_len g o;have:=m.long;rw[cZ,nK]at n;refine⟨?_,∅⟩;unfold phi;rw[cZ,nK,show a.length-(t.length+1+1-w)=a.length-(t.length+1-w)-1 by lia];lia
 have q:(kids w a t).length<=3:=by unfold kids;exact cH (xM _ _) (by simp[bR])
 cases f:kids w a t with
 |nil=>have:=GG_pos (a.length-(t.length+1-w));unfold phis phi;simp;exact this
 |cons u r=>
  have p:=(d u (by rw[f];simp)).2;have v:∀(l:List Tx),(∀u∈l,phi w a u<=GG (a.length-(t.length+1-w)-1))->phis w a l<=l.length*GG (a.length-(t.length+1-w)-1):=λl=>by
   induction l with
   |nil=>intro _;simp[phis]
   |cons x l j=>intro h;have s:=j λu b=>h u (by simp[b]);have B:=h x (by simp);unfold phis at s ⊢;rw[bZ,f8,cS,Nat.succ_mul];lia
  rw[<-f];have A:=v (kids w a t) λu b=>by have:=(d u b).1;lia
  have z:(kids w a t).length*GG (a.length-(t.length+1-w)-1)<=3*GG (a.length-(t.length+1-w)-1):=Nat.mul_le_mul_right _ q;have y:phi w a t=1+3*GG (a.length-(t.length+1-w)-1):=by
   unfold phi;obtain⟨k,i⟩:∃k,a.length-(t.length+1-w)=k+1:=⟨_,(Nat.sub_add_cancel p).symm⟩
   rw[i];rfl
  lia
theorem phis_app(w:Nat)(a Q R:List Tx):phis w a (Q++R)=phis w a Q+phis w a R:=by unfold phis;rw[ph,List.sum_append_nat]
theorem phis_len(w:Nat)(a:List Tx):∀Q:List Tx,Q.length<=phis w a Q
 |[]=>jM _
 |q::Q=>by have:=phis_len w a Q;have b:=GG_pos (a.length-(q.length+1-w));show Q.length+1<=phi w a q+phis w a Q;unfold phi;lia
def restT(w:Nat)(ws:List Tx)(t:Tx):List Tx:=less ws (aC (wins t w))
def trP(w:Nat)(ws:List Tx)(t:Tx):PV:=cq (t,restT w ws t)
theorem rest_perm{w:Nat}{a:List Tx}{t:Tx}(h:unD w a t=ah):(restT w a t++wins t w).Perm a:=by
 have b:=KB.mp h;have:=less_perm (aC (wins t w)) a λx=>by rw[(ef _).count_eq];exact b x
 exact((ef _).symm.append_left _).trans this
theorem less_sub:∀(l m:List Tx),(less m l).Sublist m
 |[],m=>List.Sublist.refl m
 |y::l,m=>(less_sub l (m.erase y)).trans List.erase_sublist
theorem rest_sub(w:Nat)(a:List Tx)(t:Tx):(restT w a t).Sublist a:=less_sub _ _
section
variable{a:Ad}
theorem rem_loop6(i g f d c:Slot):∀(l m:List Tx) (n:Slot),(∀x,l.count x<=m.count x)->∃o,hZ 6 (li 5 (dV 6)) (am l) [i,g,f,d,c,.own (.lst (am m)),n]=.ok .next [i,g,f,d,c,.own (.lst (am (less m l))),o]
 |[],m,n,_=>⟨n,rfl⟩
 |y::l,m,n,h=>by
  have p:y∈m:=by have:=h y;rw[uu]at this;exact uv.mp ∅
  obtain⟨o,q⟩:=rem_loop6 i g f d c l (m.erase y) (↥y) λx=>by
   have:=h x;by_cases e:y=x
   .subst e;rw[Bi];rw[uu]at this;lia
   .rw[Bj (λz=>e z.symm)];rw[Bl e]at this;exact this
  have j:fG (am m)=aa m:=n9 m;have s:li 5 (dV 6) [i,g,f,d,c,.own (.lst (am m)),↥y]=.ok .next [i,g,f,d,c,.own (.lst (am (m.erase y))),↥y]:=by generalize am m=MM at j;simp![li,j,p]
  refine⟨o,?_⟩;have u:am (y::l)=.str y::am l:=rfl;rw[u,hZ];show(match li 5 (dV 6) [i,g,f,d,c,.own (.lst (am m)),↥y]with
   |.ok .next b=>hZ 6 (li 5 (dV 6)) (am l) b
   |.ok .cont b=>hZ 6 (li 5 (dV 6)) (am l) b
   |.ok .brk b=>.ok .next b
   |r=>r)=_
  rw[s];exact q
def trC:aj->R Bool:=(dB (p_ (Pu.eqT ah) 3 (dF (dL jX (aU)))))
theorem trC_eq(Q:List Tx)(i h g f d c:Slot):trC [i,h,g,.own (.lst (am Q)),f,d,c]=.ok (decide (Q≠[])) [i,h,g,.own (.lst (am Q)),f,d,c]:=by
 have b:=FI ah Q [];rw[show am []=[] from rfl]at b;have j:(ah^^decide (Q=[]))=decide (Q≠[]):=by by_cases z:Q=[] <;> simp[z]
 rw[j]at b;generalize decide (Q≠[])=B at b;generalize am Q=PQ at b;simp![trC,p_,b]
def exD1(a:Ad):aj->R PV:=(dF (cR [4,0,1] (bI (dC (.str [97,98,99]))) (dB (bd (aV (oS a) (gV (d2 aZ (dV 1) (dV 0)) (gV (dV 2) (gV (dV 3) (Pu.bN))))))) (d2 aZ (dV 1) (dV 0))))
def kidB(w:Nat)(ws:List Tx)(t:Tx):PV->Bool
 |.str y=>unD w ws (t++y)
 |_=>ak
def kidV(t:Tx):PV->PV
 |.str y=>.str (t++y)
 |v=>v
theorem kid_blk{w:Nat}{ws:List Tx}{t:Tx}(j:t.length<=58)(c:Nat)(h g f d:Slot):dX (eJ [4,0,1] (dB (bd (aV (oS a) (gV (d2 aZ (dV 1) (dV 0)) (gV (dV 2) (gV (dV 3) (Pu.bN))))))) (.str [c]) [⇑w,.val (.tup (am ws)),h,g,↥t,f,d])=.ok (unD w ws (t++[c])) [⇑w,.val (.tup (am ws)),h,g,↥t,f,d] /\ dX (eJ [4,0,1] (d2 aZ (dV 1) (dV 0)) (.str [c]) [⇑w,.val (.tup (am ws)),h,g,↥t,f,d])=.ok (.str (t++[c])) [⇑w,.val (.tup (am ws)),h,g,↥t,f,d]:=by
 have b:=Oj (a:=a) w ws (t++[c]) (by simp;lia);have i:aZ (.str t) (.str [c])=aa (.str (t++[c])):=wa (by simp[bQ];lia);generalize unD w ws (t++[c])=B at b;generalize t++[c]=TC at b i;generalize am ws=PW at b;generalize ((w:Nat):Int)=WI at b;constructor
 .simp![eJ,e_,dX,i,b]
 .simp![eJ,e_,dX,i]
theorem comp_anyT{DI:aj->R (List PV)}{cap:List Nat}{DT:aj->R Bool}{DE:aj->R PV}{ε:aj}{xs b:List PV}(c:DI ε=.ok xs ε)(d:i9 cap DT DE xs [] ε=.ok b ε):dF (cR cap DI DT DE) ε=.ok (.lst b) ε:=by simp[dF,cR,c,d,R.bind,qi,aB]
theorem ex_eq{w:Nat}{ws:List Tx}{t:Tx}(m:t.length<=58)(g f d b:Slot):exD1 a [⇑w,.val (.tup (am ws)),g,f,↥t,d,b]=.ok (.lst (am (kids w ws t))) [⇑w,.val (.tup (am ws)),g,f,↥t,d,b]:=by
 have i:=lV (cap:=[4,0,1]) (dt:=(dB (bd (aV (oS a) (gV (d2 aZ (dV 1) (dV 0)) (gV (dV 2) (gV (dV 3) (Pu.bN)))))))) (de:=(d2 aZ (dV 1) (dV 0))) (ε:=[⇑w,.val (.tup (am ws)),g,f,↥t,d,b]) (kidB w ws t) (kidV t) (am (bR.map λc=>[c]))
  (by intro v l;obtain⟨y,j,rfl⟩:=bV.mp l;obtain⟨c,_,rfl⟩:=bV.mp j;obtain⟨p,o⟩:=kid_blk (a:=a) (w:=w) (ws:=ws) m c g f d b;exact⟨p,λ_=>o⟩) []
 have n:((am (bR.map λc=>[c])).filter (kidB w ws t)).map (kidV t)=am (kids w ws t):=by unfold kids am;rw[d9,uq,uq,d9,d9];rfl
 rw[iT,n]at i;have h:gg (.str [97,98,99])=aa (am (bR.map λc=>[c])):=rfl;refine comp_anyT (xs:=am (bR.map λc=>[c])) ?_ i;generalize am (bR.map λc=>[c])=AL at h;generalize PV.str [97,98,99]=AB at h;simp[bI,dC,h,R.bind,aB]
def trB(a:Ad):aj->R aF:=(aD (br 4 (qz 3)) (aD (dS 5 (dL l8 (aI (dV 1) (aU)))) (aD (eU 6 (bI (bd (aV (iH a) (gV (dV 4) (gV (dV 0) (Pu.bN)))))) (li 5 (dV 6))) (aD (lZ 2 (dL g8 (aI (dV 4) (aI (fF (λxs=>iE (gY xs)) 5) (aU))))) (tq 3 (exD1 a))))))
theorem imms_tx:∀l:List Tx,iG (am l)=ah
 |[]=>rfl
 |x::l=>by show(imm (.str x)&&iG (am l))=ah;rw[imms_tx l];rfl
theorem trB_eq{w:Nat}(u:1<=w){ws:List Tx}{t:Tx}(p:Trail w ws t)(i:t.length<=58)(Q:List Tx)(mk:List PV)(v:mk.length<=200000)(y:Q.length<=200000)(n j d:Slot):∃m o,trB a [⇑w,.val (.tup (am ws)),.own (.lst mk),.own (.lst (am (t::Q))),n,j,d]=.ok .next [⇑w,.val (.tup (am ws)),.own (.lst (mk++[trP w ws t])),.own (.lst (am (Q++kids w ws t))),↥t,m,o]:=by
 have h:=tE (a:=a) t w ∅;have s:=KB.mp p.sub;obtain⟨b,q⟩:=rem_loop6 (⇑w) (.val (.tup (am ws))) (.own (.lst mk)) (.own (.lst (am Q))) (↥t) (aC (wins t w)) ws d λx=>by rw[(ef _).count_eq];exact s x
 have z:(kids w ws t).length<=3:=by unfold kids;exact cH (xM _ _) (by simp[bR])
 refine⟨.own (.lst (am (restT w ws t))),b,?_⟩;unfold trB;refine(cr (ε1:=[⇑w,.val (.tup (am ws)),.own (.lst mk),.own (.lst (am Q)),↥t,j,d]) ?_).trans ?_
 .show br 4 (qz 3) [_,_,_,.own (.lst (.str t::am Q)),_,_,_]=_;generalize am Q=PQ;generalize am ws=PW;simp![qz]
 refine(cr (ε1:=[⇑w,.val (.tup (am ws)),.own (.lst mk),.own (.lst (am Q)),↥t,.own (.lst (am ws)),d]) ?_).trans ?_
 .have:l8 [.tup (am ws)]=aa (.lst (am ws)):=rfl;generalize am ws=PW at this;generalize am Q=PQ;simp![this]
 refine(cr (ε1:=[⇑w,.val (.tup (am ws)),.own (.lst mk),.own (.lst (am Q)),↥t,.own (.lst (am (restT w ws t))),b]) ?_).trans ?_
 .refine EB (xs:=am (aC (wins t w))) (ε1:=[⇑w,.val (.tup (am ws)),.own (.lst mk),.own (.lst (am Q)),↥t,.own (.lst (am ws)),d]) ?_ q;have l:gg (.tup (am (aC (wins t w))))=aa (am (aC (wins t w))):=rfl;generalize am (aC (wins t w))=SW at h l;generalize am ws=PW;generalize am Q=PQ;generalize ((w:Nat):Int)=WI at h;simp![bI,h,l]
 refine(cr (ε1:=[⇑w,.val (.tup (am ws)),.own (.lst (mk++[trP w ws t])),.own (.lst (am Q)),↥t,.own (.lst (am (restT w ws t))),b]) ?_).trans ?_
 .have r:iE (gY [.lst (am (restT w ws t))])=aa (.tup (am (restT w ws t))):=by
   show(if imm (.tup (am (restT w ws t)))then aa _ else ae)=_;rw[if_pos (show imm (.tup (am (restT w ws t)))=ah from imms_tx _)]
  have g:mk.length<bQ:=by unfold bQ;lia
  have f:fF (λxs=>iE (gY xs)) 5 [⇑w,.val (.tup (am ws)),.own (.lst mk),.own (.lst (am Q)),↥t,.own (.lst (am (restT w ws t))),b]=.ok (.tup (am (restT w ws t))) [⇑w,.val (.tup (am ws)),.own (.lst mk),.own (.lst (am Q)),↥t,.own (.lst (am (restT w ws t))),b]:=by unfold fF;show(aB (aa (am (restT w ws t))) _).bind _=_;simp only[bP,R.bind_ok];rw[r];rfl
  show lZ 2 _ _=.ok .next [_,_,.own (.lst (mk++[.tup [.str t,.tup (am (restT w ws t))]])),_,_,_,_];generalize am (restT w ws t)=PR at f;generalize am ws=PW at f;generalize am Q=PQ at f;generalize fF (λxs=>iE (gY xs)) 5=DO at f;simp[lZ,dL,aI,aU,dV,g8,dm,R.bind,aB,f,g]
 .have c:=ex_eq (a:=a) (w:=w) (ws:=ws) i (.own (.lst (mk++[trP w ws t]))) (.own (.lst (am Q))) (.own (.lst (am (restT w ws t)))) b;have g:(am Q).length+(am (kids w ws t)).length<=bQ:=by rw[iI,iI];unfold bQ;lia
  have e:am (Q++kids w ws t)=am Q++am (kids w ws t):=by simp[am]
  rw[e];generalize am (kids w ws t)=PK at c g;generalize am (restT w ws t)=PR at c;generalize am ws=PW at c;generalize am Q=PQ at c g;generalize exD1 a=DX at c;simp[tq,dm,R.bind,aB,c,g]
theorem tr_while{w:Nat}(x:1<=w)(O:w<=4){b:List Tx}(X:b.length<=9):∀(n:Nat) (Q:List Tx) (mk:List PV) (o:Nat) (m l j:Slot),phis w b Q<=n->n<o->mk.length+n<=200000->(∀t∈Q,Trail w b t) -> ∃(D:List Tx) (y B I:Slot),(∀t∈D,Trail w b t)/\(∀q∈Q,∀t,q <+: t->Trail w b t->t∈D)/\D.length<=n/\dZ trC (trB a) o [⇑w,.val (.tup (am b)),.own (.lst mk),.own (.lst (am Q)),m,l,j]=.ok .next [⇑w,.val (.tup (am b)),.own (.lst (mk++D.map (trP w b))),.own (.lst []),y,B,I]:=by
 intro n
 induction n with
 |zero=>
  intro Q mk o m l j L M _ A;obtain⟨f,rfl⟩:∃f,o=f+1:=⟨o-1,∅⟩
  have e:Q=[]:=by have:=phis_len w b Q;exact pq ∅
  subst e;refine⟨[],m,l,j,(λt i=>by cases i),(λq p=>by cases p),by simp,?_⟩;have s:=trC_eq [] (⇑w) (.val (.tup (am b))) (.own (.lst mk)) m l j;rw[rh,ie];exact qP s
 |succ n z=>
  intro Q mk o m l j L M S A;obtain⟨f,rfl⟩:∃f,o=f+1:=⟨o-1,∅⟩
  cases Q with
  |nil=>
   refine⟨[],m,l,j,(λt i=>by cases i),(λq p=>by cases p),by simp,?_⟩;have s:=trC_eq [] (⇑w) (.val (.tup (am b))) (.own (.lst mk)) m l j;rw[rh,ie];exact qP s
  |cons t Q=>
   have i:=A t (by simp);have T:=under_len x i.sub;have W:=kids_phi x i;have P:phis w b (t::Q)=phi w b t+phis w b Q:=rfl;have K:=phis_len w b Q;obtain⟨E,C,N⟩:=trB_eq (a:=a) x i (by have:=i.long;lia) Q mk ∅ ∅ m l j;obtain⟨D,H,G,F,d1,d2,Y,J⟩:=z (Q++kids w b t) (mk++[trP w b t]) f (↥t) E C (by rw[phis_app];lia) ∅ (by rw[cZ,nK];lia) (λu g=>by
    rcases fY.mp g with g|g
    .exact A u (by simp[g])
    .exact kids_trail i g)
   refine⟨t::D,H,G,F,λu g=>?_,λq p u v g=>?_,by rw[cS];lia,?_⟩
   .rcases bw.mp g with rfl|g
    .exact i
    .exact d1 u g
   .rcases bw.mp p with rfl|p
    .obtain⟨r,rfl⟩:=v;cases r with
     |nil=>rw[ie];simp
     |cons c r=>
      refine iN _ (d2 (q++[c]) (gm _ (kids_mem.mpr ⟨⟨c,g.abc c (by simp),rfl⟩,?_⟩)) _ ⟨r,by simp⟩ g);have:∀(r:Tx) (u:Tx),unD w b (u++r)=ah->unD w b u=ah:=λr=>by
       induction r with
       |nil=>intro u h;rwa[ie]at h
       |cons d r z=>intro u h;rw[show u++d::r=(u++[d])++r by simp]at h;exact IX x (z (u++[d]) h)
      exact this r (q++[c]) (by simpa using g.sub)
    .exact iN _ (d2 q (lq _ p) u v g)
   .have s:=trC_eq (t::Q) (⇑w) (.val (.tup (am b))) (.own (.lst mk)) m l j;rw[decide_eq_true (by simp)]at s;rw[sV s N,J];simp
end
theorem GG_mono:∀{m n:Nat},m<=n->GG m<=GG n
 |m,0,h=>by rw[Nat.le_zero.mp h];exact aT _
 |m,n+1,h=>by
  rcases Nat.lt_or_eq_of_le h with h|h
  .have:=GG_mono (Nat.le_of_lt_succ h);have a:GG (n+1)=1+3*GG n:=rfl;lia
  .rw[h];exact aT _
theorem imms_qr:∀l:List QrK,iG (l.map cq)=ah
 |[]=>rfl
 |k::l=>by show(imm (cq k)&&iG (l.map cq))=ah;rw[imms_qr l];show(iG [.str k.1,.tup (am k.2)]&&ah)=ah;show((imm (.str k.1)&&(imm (.tup (am k.2))&&ah))&&ah)=ah;rw[show imm (.tup (am k.2))=ah from imms_tx k.2];rfl
section
variable{a:Ad}
theorem trails_eq{w:Nat}(C:1<=w)(N:w<=4){b:List Tx}(K:b.length<=9)(n:∀x∈b,x.length=w/\∀c∈x,c∈bR):∃L:List QrK,(∀p∈L,Trail w b p.1/\p.2=restT w b p.1)/\(∀t,Trail w b t->(t,restT w b t)∈L)/\oO a [⇑w,.val (.tup (am b))]=.ok (.val (.lst (L.map cq))) [⇑w,.val (.tup (am b))]:=by
 have j:∀x∈b,wins x w=[x]:=λx g=>by
  rw[j6 _ _ C,(n x g).1,show w+1-w=1 by lia];show [(x.drop 0).take w]=[x]
  rw[pi,ki (by rw[(n x g).1];lia)]
 have H:∀x∈aC (bJ b),Trail w b x:=λx g=>by
  have f:x∈b:=(lX b x).mp ((ef _).mem_iff.mp g);refine⟨by rw[(n x f).1];lia,(n x f).2,KB.mpr λy=>?_⟩;rw[j x f];by_cases e:x=y
  .subst e;rw[List.count_singleton_self];exact uv.mpr f
  .rw[List.count_eq_zero.mpr (by simp;exact λz=>e z.symm)];lia
 have Z:(aC (bJ b)).length<=9:=by rw[(ef _).length_eq];exact cH (EU b) K
 have m:phis w b (aC (bJ b))<=99000:=by
  have:∀l:List Tx,(∀x∈l,x.length=w)->phis w b l<=l.length*9841:=λl=>by
   induction l with
   |nil=>intro _;simp[phis]
   |cons x l P=>
    intro h;have A:=P λy Q=>h y (by simp[Q]);have M:phi w b x<=GG 8:=by unfold phi;rw[h x (by simp)];exact GG_mono ∅
    have h3:GG 8=9841:=by decide
    unfold phis at A ⊢;rw[bZ,f8,cS,Nat.succ_mul];lia
  have A:=this (aC (bJ b)) λx g=>by have f:x∈b:=(lX b x).mp ((ef _).mem_iff.mp g);exact(n x f).1
  have M:(aC (bJ b)).length*9841<=9*9841:=Nat.mul_le_mul_right _ Z;lia
 obtain⟨D,r,q,o,d1,d2,d3,G⟩:=tr_while (a:=a) C N K 99000 (aC (bJ b)) [] 100000 .none .none .none m (by decide) (by simp) H;have X:∀t,Trail w b t->t∈D:=λt d=>by
  refine d2 (t.take w) ?_ t (List.take_prefix _ _) d;have Y:t.take w∈wins t w:=by have rO:=d.long;rw[j6 _ _ C];refine bV.mpr ⟨0,o0.mpr ∅,by rw[pi]⟩
  refine(ef _).mem_iff.mpr ((lX b _).mpr (uv.mp ?_));have:=KB.mp d.sub (t.take w);have M:=uv.mpr Y;lia
 refine⟨ko (D.map λt=>(t,restT w b t)),λp S=>?_,λt d=>?_,?_⟩
 .obtain⟨t,d,rfl⟩:=bV.mp ((B8 _).mem_iff.mp S);exact⟨d1 t d,rfl⟩
 .exact(B8 _).mem_iff.mpr (bV.mpr ⟨t,X t d,rfl⟩)
 .rw[iT]at G;have E:=sortSetTP_eq (k:=b) ∅;have O:D.map (trP w b)=(D.map λt=>(t,restT w b t)).map cq:=by rw[d9];rfl
  rw[O]at G;have F:nr (oW [.lst ((D.map λt=>(t,restT w b t)).map cq)])=aa (.lst ((ko (D.map λt=>(t,restT w b t))).map cq)):=by
   have A:oW [.lst ((D.map λt=>(t,restT w b t)).map cq)]=aa (.lst ((ko (D.map λt=>(t,restT w b t))).map cq)):=by show(sF _).bind _=_;rw[DJ];show(if(D.map λt=>(t,restT w b t)).length<=1000000 then aa (PO.lst _)else ae)=_;rw[if_pos (by rw[cM];lia)]
   rw[A];show(if iG ((ko (D.map λt=>(t,restT w b t))).map cq)=ah then aa (PO.lst _)else ae)=_;rw[if_pos (imms_qr _)]
  have i:i9 [] dYes (dV 0) (am (aC (bJ b))) [] [⇑w,.val (.tup (am b)),.own (.lst []),.none,.none,.none,.none]=.ok (am (aC (bJ b))) [⇑w,.val (.tup (am b)),.own (.lst []),.none,.none,.none,.none]:=by have:=lV (cap:=[]) (dt:=dYes) (de:=dV 0) (ε:=[⇑w,.val (.tup (am b)),.own (.lst []),.none,.none,.none,.none]) (λ_=>ah) (λv=>v) (am (aC (bJ b))) (λv _=>⟨rfl,λ_=>rfl⟩) [];rw[iT,List.map_id',ut.mpr (λ_ _=>rfl)]at this;exact this
  have u:yay a [⇑w,.val (.tup (am b)),.none,.none,.none,.none,.none]=.ok (.ret (.val (.lst ((ko (D.map λt=>(t,restT w b t))).map cq)))) [⇑w,.val (.tup (am b)),.own (.lst ((D.map λt=>(t,restT w b t)).map cq)),.own (.lst []),r,q,o]:=by
   show aD _ (aD _ (aD (λε=>cV (dZ trC (trB a) 100000 ε)) _)) _=_;refine(cr (ε1:=[⇑w,.val (.tup (am b)),.own (.lst []),.none,.none,.none,.none]) (by rfl)).trans ?_;refine(cr (ε1:=[⇑w,.val (.tup (am b)),.own (.lst []),.own (.lst (am (aC (bJ b)))),.none,.none,.none]) ?_).trans ?_
   .have s:bI (dF (dL oM (aI (dV 1) (aU)))) [⇑w,.val (.tup (am b)),.own (.lst []),.none,.none,.none,.none]=.ok (am (aC (bJ b))) [⇑w,.val (.tup (am b)),.own (.lst []),.none,.none,.none,.none]:=by
     have I:gg (.lst (am (aC (bJ b))))=aa (am (aC (bJ b))):=rfl;generalize am (aC (bJ b))=SU at E I;generalize am b=PW at E;simp![bI,E,I]
    generalize am (aC (bJ b))=SU at s i;generalize bI (dF (dL oM (aI (dV 1) (aU))))=DI at s;generalize W:(dV 0:aj->R PV)=D0 at i;generalize T:(dYes:aj->R Bool)=DY at i;generalize am b=PW at s i;simp[dS,cR,s,i,R.bind]
   refine(cr (d1:=λε=>cV (dZ trC (trB a) 100000 ε)) (ε1:=[⇑w,.val (.tup (am b)),.own (.lst ((D.map λt=>(t,restT w b t)).map cq)),.own (.lst []),r,q,o]) ?_).trans ?_
   .show cV (dZ trC (trB a) 100000 _)=_;rw[G];rfl
   .generalize ((D.map λt=>(t,restT w b t)).map cq)=MK at F;generalize ((ko (D.map λt=>(t,restT w b t))).map cq)=SQ at F;generalize am b=PW;have J:fF (λB=>nr (oW B)) 2 [⇑w,.val (.tup PW),.own (.lst MK),.own (.lst []),r,q,o]=.ok (.lst SQ) [⇑w,.val (.tup PW),.own (.lst MK),.own (.lst []),r,q,o]:=by unfold fF;show(aB (aa MK) _).bind _=_;simp only[bP,R.bind_ok];rw[F];rfl
    generalize fF (λB=>nr (oW B)) 2=DO at J;simp[cC,dF,J,R.bind,qi,aB]
  unfold oO;generalize yay a=DD at u ⊢;generalize ((ko (D.map λt=>(t,restT w b t))).map cq)=SQ at u ⊢;generalize am b=PW at u ⊢;simp[bH,fz,bF,dy,u,back,fW,aB,R.bind]
end
def subs:List Tx->List (List Tx)
 |[]=>[[]]
 |x::l=>subs l++(subs l).map (x::·)
theorem subs_len:∀l:List Tx,(subs l).length=2^l.length
 |[]=>rfl
 |x::l=>by rw[subs,cZ,cM,subs_len l,cS,Nat.pow_succ];lia
theorem subs_mem:∀{l m:List Tx},m.Sublist l->m∈subs l
 |[],m,h=>by rw[List.sublist_nil.mp h];simp[subs]
 |x::l,m,h=>by
  cases h with
  |cons _ h=>exact lq _ (subs_mem h)
  |cons_cons _ h=>exact gm _ (bV.mpr ⟨_,subs_mem h,rfl⟩)
theorem len_subL{l m:List (List Tx)}(a:l.Nodup)(h:∀x∈l,x∈m):l.length<=m.length:=by
 induction l generalizing m with
 |nil=>simp
 |cons x l d=>rw[jm]at a;have c:x∈m:=h x (by simp);have:=d (m:=m.erase x) a.2 λy b=>(List.mem_erase_of_ne (λz=>a.1 (by rw[<-z];exact b))).mpr (h y (by simp[b]));rw[ur c]at this;have f:0<m.length:=xO c;rw[cS];lia
abbrev Knw:=List (List Tx×Nat)
def knP(m:Knw):List (gU×PV):=m.map λp=>(gT p.1,.int (p.2:Nat))
theorem txKey_iff{x y:List Tx}:gT x=gT y↔x=y:=by
 constructor
 .intro h;have:∀{x y:List Tx},gT x=gT y->x=y:=by
   intro x
   induction x with
   |nil=>intro y h;cases y with|nil=>rfl|cons=>cases h
   |cons a x c=>
    intro y h;cases y with
    |nil=>cases h
    |cons b y=>injection h with h1 h2;injection h1 with h1;rw[qp h1,c h2]
  exact this h
 .rintro rfl;rfl
def getK(m:Knw)(k:List Tx):Option Nat:=(m.find? λq=>decide (q.1=k)).map (·.2)
theorem kn_val(m:Knw)(k:List Tx):jC (knP m) (gT k)=(getK m k).map λn=>PV.int (n:Nat):=by unfold jC getK knP;rw[List.find?_map,Option.map_map,Option.map_map];congr 1;congr 1;funext q;exact decide_eq_decide.mpr txKey_iff
theorem kn_put{m:Knw}{k:List Tx}(h:k∉m.map (·.1))(n:Nat):qa (knP m) (gT k) (.int n)=knP (m++[(k,n)]):=by
 unfold qa;rw[if_neg]
 .simp[knP]
 .intro z;obtain⟨q,a,e⟩:=nQ.mp z;obtain⟨p,b,rfl⟩:=bV.mp a;have:=txKey_iff.mp (of_decide_eq_true e);exact h (bV.mpr ⟨p,b,this⟩)
theorem tkey_tx(k:List Tx):mf (.tup (am k))=aa (gT k):=by
 show n_ (am k)=_
 induction k with
 |nil=>rfl
 |cons x k b=>show(gB (.str x)).bind _=_;show(aa (Sum.inr (tS x):aA)).bind _=_;have a:n_ (List.map PV.str k)=aa (gT k):=b;rw[jP];show(n_ (List.map PV.str k)).map _=_;rw[a];rfl
structure Kn(v:Nat)(W:List Tx)(m:Knw):Prop where
 nd:(m.map (·.1)).Nodup
 sub:∀p∈m,p.1.Sublist W
 min:∀p∈m,Min v p.1 p.2
theorem Kn.len{v:Nat}{W:List Tx}{m:Knw}(h:Kn v W m)(c:W.length<=9):m.length<=512:=by
 have:=len_subL (m:=subs W) h.nd λx a=>by obtain⟨p,b,rfl⟩:=bV.mp a;exact subs_mem (h.sub p b)
 rw[cM,subs_len]at this;exact cH this (Nat.pow_le_pow_right (by decide) c)
theorem getK_some{v:Nat}{W:List Tx}{m:Knw}(h:Kn v W m){k:List Tx}{n:Nat}(e:getK m k=aa n):Min v k n:=by unfold getK at e;obtain⟨p,b,rfl⟩:=ly.mp e;have c:=List.mem_of_find?_eq_some b;have a:=List.find?_some b;simp only[decide_eq_true_eq]at a;rw[<-a];exact h.min p c
theorem getK_none{m:Knw}{k:List Tx}(e:getK m k=ae):k∉m.map (·.1):=λz=>by unfold getK at e;rw[GY,Bh]at e;obtain⟨p,a,rfl⟩:=bV.mp z;exact e p a (decide_eq_true rfl)
theorem getK_last{m:Knw}{k:List Tx}{n:Nat}(h:k∉m.map (·.1)):getK (m++[(k,n)]) k=aa n:=by unfold getK;rw[List.find?_append,Bh.mpr λq a=>by simpa using λe=>h (bV.mpr ⟨q,a,e⟩)];simp
theorem cov_self{v:Nat}{l:List Tx}(h:∀y∈l,y.length=v+1):Cov v l l:=by
 refine⟨λt c=>by rw[h t c];lia,?_⟩;have:covW v l=l:=by
  induction l with
  |nil=>rfl
  |cons y l a=>rw[covW_cons,a λz b=>h z (by simp[b]),j6 _ _ ∅,h y (by simp),show v+1+1-(v+1)=1 by lia];show [(y.drop 0).take (v+1)]++l=_;rw[pi,ki (by rw[h y (by simp)];lia)];rfl
 rw[this]
theorem min_first{v:Nat}{a:List Tx}{x:Tx}(q:x∈a)(s:∀y∈a,y.length=v+1/\∀c∈y,c∈bR){b:Nat}(n:∃d,d.length=b/\Cov v d a)(f:∀t,Trail (v+1) a t->x∈wins t (v+1)->∃k,Min v (restT (v+1) a t) k/\b<=1+k):Min v a b:=by
 refine⟨n,λd h=>?_⟩;obtain⟨t,g,i⟩:=xN.mp (h.perm.mem_iff.mpr q);have j:(wins t (v+1)++covW v (d.erase t)).Perm a:=by have:(covW v (t::d.erase t)).Perm (covW v d):=(Bk g).symm.flatMap_right _;rw[covW_cons]at this;exact this.trans h.perm
 have m:unD (v+1) a t=ah:=KB.mpr λy=>by rw[<-j.count_eq,Bf];lia
 have l:=h.long t g;have o:Trail (v+1) a t:=⟨l,abc_of (w:=v+1) ∅ l λy p=>(s y (j.mem_iff.mp (lq _ p))).2,m⟩
 obtain⟨k,z,E⟩:=f t o i;have A:Cov v (d.erase t) (restT (v+1) a t):=⟨λu r=>h.long u (List.mem_of_mem_erase r),by have D:=rest_perm m;have C:=j.trans D.symm;have B:(wins t (v+1)++covW v (d.erase t)).Perm (wins t (v+1)++restT (v+1) a t):=C.trans A5;exact(List.perm_append_left_iff _).mp B⟩
 have:=z.low _ A;rw[ur g]at this;have F:0<d.length:=xO g;lia
theorem cov_cons{v:Nat}{a:List Tx}{t:Tx}(d:Trail (v+1) a t){c:List Tx}(h:Cov v c (restT (v+1) a t)):Cov v (t::c) a:=by
 refine⟨λu b=>?_,?_⟩
 .rcases bw.mp b with rfl|b
  .exact d.long
  .exact h.long u b
 .rw[covW_cons];exact(h.perm.append_left _).trans (A5.trans (rest_perm d.sub))
section
variable{a:Ad}
def cwB(a:Ad)(rc:aj->R Slot)(b C1:PV):aj->R aF:=(b_ (dB (d2 (kq ak) (d2 bL (dV 1) (dC b)) (bd (aV (iH a) (gV (dV 4) (gV (dV 0) (Pu.bN))))))) (br 3 (dL qd (aI (dV 3) (aI (d2 aZ (dC C1) (bd (aV (rc) (gV (dV 0) (gV (dV 5) (gO 2 (Pu.bN))))))) (aU))))) (cX))
theorem cwB_no{rc:aj->R Slot}{g C1 c d v3 b v5 X f:PV}{o:PO}(j:bL d g=aa X)(h:iH a [.val b,.val c]=.ok (.val f) [.val b,.val c])(i:kq ak X f=aa (.bl ak)):cwB a rc g C1 [.val c,.val d,.own o,.val v3,.val b,.val v5]=.ok .next [.val c,.val d,.own o,.val v3,.val b,.val v5]:=by simp![cwB,j,h,i]
theorem cwB_yes{rc:aj->R Slot}{h C1 b d v3 c v5 X g V M N:PV}{o f:PO}(n:bL d h=aa X)(i:iH a [.val c,.val b]=.ok (.val g) [.val c,.val b])(l:kq ak X g=aa (.bl ah))(j:rc [.val b,.val v5,.own o]=.ok (.val V) [.val b,.val v5,.own f]) (p:aZ C1 V=aa M) (m:qd [v3,M]=aa N):cwB a rc h C1 [.val b,.val d,.own o,.val v3,.val c,.val v5]=.ok .next [.val b,.val d,.own f,.val N,.val c,.val v5]:=by simp![cwB,n,i,l,j,p,m]
theorem cw_loop{rc:aj->R Slot}{w:Nat}(H:1<=w){W d:List Tx}{x:Tx}{r:List Tx}(T:d=x::r)(h9:d.length<=9)(hl:∀y∈d,y.length=w/\∀c∈y,c∈bR)(fK:d.Sublist W)(w4:w<=4) (X:∀(j:List Tx) (m:Knw),j.Sublist W->j.length<d.length->Kn (w-1) W m->∃k n,Min (w-1) j k/\Kn (w-1) W n/\(∀p∈n,p∈m\/p.1.length<=j.length)/\rc [⇑w,.val (.tup (am j)),.own (.dT (knP m))]=.ok (⇑k) [⇑w,.val (.tup (am j)),.own (.dT (knP n))]):∀(L:List QrK) (m:Knw) (b:Nat) (s q:Slot),(∀p∈L,Trail w d p.1/\p.2=restT w d p.1)->Kn (w-1) W m->(∃i,i.length=b/\Cov (w-1) i d) -> ∃n G I vh,Kn (w-1) W n/\(∀p∈n,p∈m\/p.1.length<d.length)/\G<=b/\(∃i,i.length=G/\Cov (w-1) i d)/\(∀p∈L,x∈wins p.1 w->∃k,Min (w-1) p.2 k/\G<=1+k) /\ j9 4 5 (cwB a rc (.int 0) (.int 1)) (L.map cq) [⇑w,.val (.tup (am d)),.own (.dT (knP m)),⇑b,s,q]=.ok .next [⇑w,.val (.tup (am d)),.own (.dT (knP n)),⇑(G:Nat),I,vh]
 |[],m,b,s,q,_,E,F=>⟨m,b,s,q,E,λp g=>.inl g,aT _,F,(λp g=>by cases g),rfl⟩
 | (t,j)::L,m,b,s,q,hL,E,F=>by
  obtain⟨pZ,Y⟩:=hL (t,j) (by simp);have D:Trail w d t:=pZ;clear pZ;have u:j=restT w d t:=Y;subst u;have rO:w<=t.length:=D.long;have hul:=under_len H D.sub;have hi:bL (.tup (am d)) (.int 0)=aa (.str x):=by rw[T];show fq (.str x::am r) 0=_;rw[tu (by decide) (by simp)];rfl
  have lO:=tE (a:=a) t w ∅;have B:=in_tup x (aC (wins t w));have A:decide (x∈aC (wins t w))=decide (x∈wins t w):=decide_eq_decide.mpr (ef _).mem_iff;rw[A]at B;have G7:∀{f:aj},cwB a rc (.int 0) (.int 1) [⇑w,.val (.tup (am d)),.own (.dT (knP m)),⇑b,↥t,.val (.tup (am (restT w d t)))]=.ok .next f->j9 4 5 (cwB a rc (.int 0) (.int 1)) (((t,restT w d t)::L).map cq) [⇑w,.val (.tup (am d)),.own (.dT (knP m)),⇑b,s,q]=j9 4 5 (cwB a rc (.int 0) (.int 1)) (L.map cq) f:=λ{f} h=>by
   rw[bZ];show j9 4 5 (cwB a rc (.int 0) (.int 1)) (.tup [.str t,.tup (am (restT w d t))]::L.map cq) _=_;rw[j9];show(match cwB a rc (.int 0) (.int 1) [⇑w,.val (.tup (am d)),.own (.dT (knP m)),⇑b,↥t,.val (.tup (am (restT w d t)))]with
    |.ok .next f=>j9 4 5 (cwB a rc (.int 0) (.int 1)) (L.map cq) f
    |.ok .cont f=>j9 4 5 (cwB a rc (.int 0) (.int 1)) (L.map cq) f
    |.ok .brk f=>.ok .next f
    |r=>r)=_
   rw[h]
  by_cases C:x∈wins t w
  .rw[decide_eq_true C]at B;have Z:(restT w d t).length<d.length:=by have:=(rest_perm D.sub).length_eq;rw[cZ]at this;have h1:0<(wins t w).length:=xO C;lia
   obtain⟨k,m1,hk,pY,hmm,hrc⟩:=X (restT w d t) m ((rest_sub w d t).trans fK) Z E;have eO:aZ (.int 1) (.int k)=aa (.int ((1+k:Nat):Int)):=by show aa (PV.int _)=_;congr 2
   have xY:qd [.int b,.int ((1+k:Nat):Int)]=aa (.int ((min b (1+k):Nat):Int)):=by show aa (PV.int (if((1+k:Nat):Int)<(b:Nat)then _ else _))=_;congr 2;split <;> lia
   have J:=cwB_yes (a:=a) (v5:=.tup (am (restT w d t))) hi lO B hrc eO xY;have vf:∃i,i.length=min b (1+k)/\Cov (w-1) i d:=by
    by_cases eF:b<=1+k
    .rw[Bg eF];exact F
    .rw[Nat.min_eq_right ∅];obtain⟨i,h1,h2⟩:=hk.ex;have hv:w-1+1=w:=∅
     exact⟨t::i,by rw[cS,h1];lia,cov_cons (v:=w-1) (by rw[hv];exact D) (by rw[hv];exact h2)⟩
   obtain⟨S,b2,M,K,Q,P,q3,O,N,gL⟩:=cw_loop H T h9 hl fK w4 X L m1 (min b (1+k)) (↥t) (.val (.tup (am (restT w d t)))) (λp g=>hL p (by simp[g])) pY vf;refine⟨S,b2,M,K,Q,λp g=>?_,∅,O,λp g l=>?_,?_⟩
   .rcases P p g with z|z
    .rcases hmm p z with z|z
     .exact .inl z
     .exact .inr ∅
    .exact .inr z
   .rcases bw.mp g with rfl|g
    .exact⟨k,hk,∅⟩
    .exact N p g l
   .rw[G7 J];exact gL
  .rw[decide_eq_false C]at B;have J:=cwB_no (a:=a) (rc:=rc) (C1:=.int 1) (v3:=.int b) (v5:=.tup (am (restT w d t))) (o:=.dT (knP m)) hi lO B;obtain⟨S,b2,M,K,Q,P,q3,O,N,gL⟩:=cw_loop H T h9 hl fK w4 X L m b (↥t) (.val (.tup (am (restT w d t)))) (λp g=>hL p (by simp[g])) E F;refine⟨S,b2,M,K,Q,P,q3,O,λp g l=>?_,?_⟩
   .rcases bw.mp g with rfl|g
    .exact absurd l C
    .exact N p g l
   .rw[G7 J];exact gL
def cwI(a:Ad)(rc:aj->R Slot)(d c:PV):aj->R aF:=(b_ (dB (l7 ah 2 (dV 1))) (aD (br 3 (dL bS (aI (dV 1) (aU)))) (aD (λb=>cV (qG 4 5 (bI (bd (aV (oO a) (gV (dV 0) (gV (dV 1) (Pu.bN)))))) (cwB a rc d c) b)) (sJ 2 (dV 1) (dV 3)))) (cX))
theorem cw_def(rc:aj->R Slot):yas a rc=aD (b_ (dB (d2 (Pu.eqT ak) (dV 1) (dL g8 (aU)))) (cC (dC (.int 0))) (cX)) (aD (cwI a rc (.int 0) (.int 1)) (cC (qX 2 (dV 1)))):=rfl
theorem cw_grd{d:aj->R aF}{c b:PV}{o g:PO}{f e3 e4 e5:Slot}(h:d [.val c,.val b,.own o,.none,.none,.none]=.ok (.ret f) [.val c,.val b,.own g,e3,e4,e5])(l:(match f with|.val _=>ah|_=>ak)=ah)(j:fW g=ah)(i:fW o=ah):bH 3 [2] (bF 3 d) [.val c,.val b,.own o]=.ok f [.val c,.val b,.own g]:=by simp[bH,fz,bF,dy,h,back,aB,R.bind,j,i]
theorem covers_eq{w:Nat}(w1:1<=w)(w4:w<=4){W:List Tx}(hW:W.length<=9)(Z:∀y∈W,y.length=w/\∀c∈y,c∈bR):∀(n q:Nat) (d:List Tx) (m:Knw),d.length<=n->n<q->d.Sublist W->Kn (w-1) W m -> ∃k i,Min (w-1) d k/\Kn (w-1) W i/\(∀p∈i,p∈m\/p.1.length<=d.length)/\iJ a q [⇑w,.val (.tup (am d)),.own (.dT (knP m))]=.ok (⇑k) [⇑w,.val (.tup (am d)),.own (.dT (knP i))]:=by
 intro n
 induction n with
 |zero=>
  intro q d m hn hf C B;obtain⟨f,rfl⟩:∃f,q=f+1:=⟨q-1,∅⟩
  have e:d=[]:=pq ∅;subst e;refine⟨0,m,min_nil,B,λp g=>.inl g,?_⟩;have J:=Fq ak ([]:List Tx) [];rw[decide_eq_true rfl]at J;have s:Pu.eqT ak (.tup (am [])) (.tup [])=aa (.bl ah):=J;show bH 3 [2] (bF 3 (yas a (iJ a f))) _=_;refine cw_grd (e3:=.none) (e4:=.none) (e5:=.none) ?_ rfl rfl rfl;rw[cw_def];generalize am ([]:List Tx)=T0 at s;generalize cwI a (iJ a f) (.int 0) (.int 1)=CI;have M:g8 []=aa (.tup []):=rfl;simp![M,s]
 |succ n ih=>
  intro q d m hn hf C B;obtain⟨f,rfl⟩:∃f,q=f+1:=⟨q-1,∅⟩
  cases v:d with
  |nil=>have:=ih (f+1) d m (by rw[v];simp) ∅ C B;rw[v]at this;exact this
  |cons x r=>
  rw[<-v];have h9:d.length<=9:=cH C.length_le hW;have G:∀y∈d,y.length=w/\∀c∈y,c∈bR:=λy A=>Z y (C.mem A);have S:w-1+1=w:=∅
  have J:=Fq ak d [];rw[decide_eq_false (by rw[v];simp)]at J;have s:Pu.eqT ak (.tup (am d)) (.tup [])=aa (.bl ak):=J;have M:g8 []=aa (.tup []):=rfl;have j:=tkey_tx d;have K:=kn_val m d;cases P:getK m d with
  |some k=>
   rw[P]at K;refine⟨k,m,getK_some B P,B,λp g=>.inl g,?_⟩;show bH 3 [2] (bF 3 (yas a (iJ a f))) _=_;refine cw_grd (e3:=.none) (e4:=.none) (e5:=.none) ?_ rfl rfl rfl;rw[cw_def];have o:jC (knP m) (gT d)=aa (.int k):=K;have eY:dB (l7 ah 2 (dV 1)) [⇑w,.val (.tup (am d)),.own (.dT (knP m)),.none,.none,.none]=.ok ak [⇑w,.val (.tup (am d)),.own (.dT (knP m)),.none,.none,.none]:=by generalize gT d=KW at j o;generalize am d=PW at j;generalize knP m=KM at o;simp![l7,gR,j,o]
   have l:cwI a (iJ a f) (.int 0) (.int 1) [⇑w,.val (.tup (am d)),.own (.dT (knP m)),.none,.none,.none]=.ok .next [⇑w,.val (.tup (am d)),.own (.dT (knP m)),.none,.none,.none]:=by unfold cwI b_;rw[eY];rfl
   generalize cwI a (iJ a f) (.int 0) (.int 1)=CI at l;generalize gT d=KW at j o;generalize am d=PW at j s l ⊢;generalize knP m=KM at o l ⊢;simp![M,s,l,qX,gR,j,o]
  |none=>
   rw[P]at K;have o:jC (knP m) (gT d)=ae:=K;obtain⟨L,hL1,hL2,N⟩:=trails_eq (a:=a) w1 w4 h9 G;obtain⟨i,b,F,E,O,q2,q3,q4,q5,Y⟩:=cw_loop (a:=a) (rc:=iJ a f) w1 v h9 G C w4 (λus m1 T hul pY=>ih f us m1 ∅ ∅ T pY) L m d.length .none .none hL1 B ⟨d,rfl,cov_self λy A=>by rw[(G y A).1,S]⟩;have xY:Min (w-1) d b:=min_first (x:=x) (by rw[v];simp) (λy A=>⟨by rw[(G y A).1,S],(G y A).2⟩) q4 λt ht hx=>by rw[S]at ht hx ⊢;exact q5 _ (hL2 t ht) hx
   have Q:d∉i.map (·.1):=λz=>by
    obtain⟨p,g,e⟩:=bV.mp z;rcases q2 p g with h|h
    .exact getK_none P (bV.mpr ⟨p,h,e⟩)
    .rw[e]at h;lia
   have D:=kn_put Q b;have I:=kn_val (i++[(d,b)]) d;rw[getK_last Q]at I;have BA:jC (knP (i++[(d,b)])) (gT d)=aa (.int b):=I;have pV:=O.len hW;refine⟨b,i++[(d,b)],xY,⟨?_,λp g=>?_,λp g=>?_⟩,λp g=>?_,?_⟩
   .rw[ph];exact xI.mpr ⟨O.nd,by simp,λu hu z hz e=>by simp at hz;subst hz;subst e;exact Q hu⟩
   .rcases fY.mp g with g|g
    .exact O.sub p g
    .rw[eN.mp g];exact C
   .rcases fY.mp g with g|g
    .exact O.min p g
    .rw[eN.mp g];exact xY
   .rcases fY.mp g with g|g
    .rcases q2 p g with z|z
     .exact .inl z
     .exact .inr ∅
    .rw[eN.mp g];exact .inr (aT _)
   .show bH 3 [2] (bF 3 (yas a (iJ a f))) _=_;refine cw_grd (e3:=⇑b) (e4:=F) (e5:=E) ?_ rfl rfl rfl;rw[cw_def];have eY:dB (l7 ah 2 (dV 1)) [⇑w,.val (.tup (am d)),.own (.dT (knP m)),.none,.none,.none]=.ok ah [⇑w,.val (.tup (am d)),.own (.dT (knP m)),.none,.none,.none]:=by generalize gT d=KW at j o;generalize am d=PW at j;generalize knP m=KM at o;simp![l7,gR,j,o]
    have a_:bS [.tup (am d)]=aa (.int (d.length:Nat)):=by simp[bS,iI]
    have H:bI (bd (aV (oO a) (gV (dV 0) (gV (dV 1) (Pu.bN))))) [⇑w,.val (.tup (am d)),.own (.dT (knP m)),⇑(d.length:Nat),.none,.none]=.ok (L.map cq) [⇑w,.val (.tup (am d)),.own (.dT (knP m)),⇑(d.length:Nat),.none,.none]:=by have jr:gg (.lst (L.map cq))=aa (L.map cq):=rfl;generalize L.map cq=LQ at N jr;generalize am d=PW at N;generalize ((w:Nat):Int)=WI at N;simp![bI,N,jr]
    have X:sJ 2 (dV 1) (dV 3) [⇑w,.val (.tup (am d)),.own (.dT (knP i)),⇑b,F,E]=.ok .next [⇑w,.val (.tup (am d)),.own (.dT (knP (i++[(d,b)]))),⇑b,F,E]:=by
     have be:(knP i).length<bQ:=by unfold knP;rw[cM];unfold bQ;lia
     generalize knP (i++[(d,b)])=KP at D;generalize gT d=KW at j D;generalize am d=PW at j;generalize knP i=KM at D be;generalize PV.int b=BB at D;simp![sJ,gR,j,be,D]
    have l:cwI a (iJ a f) (.int 0) (.int 1) [⇑w,.val (.tup (am d)),.own (.dT (knP m)),.none,.none,.none]=.ok .next [⇑w,.val (.tup (am d)),.own (.dT (knP (i++[(d,b)]))),⇑b,F,E]:=by
     unfold cwI b_;rw[eY];simp only[R.bind_ok];refine(cr (ε1:=[⇑w,.val (.tup (am d)),.own (.dT (knP m)),⇑(d.length:Nat),.none,.none]) ?_).trans ?_
     .generalize PV.int (d.length:Nat)=LN at a_;generalize am d=PW at a_;generalize knP m=KM;simp![a_]
     refine(cr (d1:=λε=>cV (qG 4 5 (bI (bd (aV (oO a) (gV (dV 0) (gV (dV 1) (Pu.bN)))))) (cwB a (iJ a f) (.int 0) (.int 1)) ε)) (ε1:=[⇑w,.val (.tup (am d)),.own (.dT (knP i)),⇑b,F,E]) ?_).trans X;show cV (qG 4 5 _ _ _)=_;unfold qG;rw[H];simp only[R.bind_ok];rw[Y];rfl
    generalize cwI a (iJ a f) (.int 0) (.int 1)=CI at l;generalize knP (i++[(d,b)])=KP at BA l ⊢;generalize gT d=KW at j BA;generalize am d=PW at j s l ⊢;generalize knP m=KM at l ⊢;simp![M,s,l,qX,gR,j,BA]
end
end Sh
namespace K27
open L2 Pu Mx Sh
section
variable{a:Ad}
theorem Dn(d:List Int)(w:Nat)(u:w<=4)(q p o n m:Slot):∀(i:List PV) (b:List Tx) (g:List PV),g.length+6*i.length<=400 -> ∃(f:List Tx) (l:List PV),f.length=i.length/\(∀x∈f,x.length=w/\∀c∈x,c∈bR)/\i9 [0,1,5] dYes (bd (aV (jy a) (gV (dV 1) (gO 2 (gV (dV 3) (gV (dV 3) (Pu.bN))))))) i (am b) [bp d,.own (.lst g),q,p,o,⇑w,n,m]=.ok (am (b++f)) [bp d,.own (.lst l),q,p,o,⇑w,n,m]
 |[],b,g,_=>⟨[],g,rfl,(λx C=>by cases C),by simp[i9]⟩
 |x::i,b,g,h=>by
  simp only[cS]at h;obtain⟨t,l,H,G,z,I,j⟩:=wv (a:=a) d g w w ∅ ∅ ∅;obtain⟨f,v,B,A,s⟩:=Dn d w u q p o n m i (b++[t]) l ∅;refine⟨t::f,v,by simp[B],λy r=>?_,?_⟩
  .rcases bw.mp r with rfl|r
   .exact⟨∅,z⟩
   .exact A y r
  .have F:am (b++[t])=am b++[.str t]:=by simp[am]
   have E:b++t::f=b++[t]++f:=by simp
   rw[E,<-s,F];generalize am b=AC;clear s;generalize ((w:Nat):Int)=WI at j;have D:bp d=.val (.lst (d.map .int)):=rfl;rw[D]at j ⊢;generalize d.map PV.int=NS at j;simp![i9,eJ,e_,dX,dYes,j]
structure Wn(w:Nat)(ls:List Tx):Prop where
 win:∀x∈ls,x.length=w/\∀c∈x,c∈bR
 some:1<=ls.length
 few:ls.length<=7
theorem Wn.wins{w:Nat}(d:1<=w){t:Tx}(j:w<=t.length)(i:t.length<=w+6)(h:∀c∈t,c∈bR):Wn w (aC (Mx.wins t w)):=by have p:=ef (Mx.wins t w);refine⟨λx b=>?_,by rw[p.length_eq,jG d];lia,by rw[p.length_eq,jG d];lia⟩;have b:=p.mem_iff.mp b;rw[j6 _ _ d]at b;obtain⟨k,f,rfl⟩:=bV.mp b;have f:=o0.mp f;exact⟨by simp;lia,λc g=>h c (List.mem_of_mem_drop (List.mem_of_mem_take g))⟩
def n8(a:Ad)(k:Int):aj->R PV:=(bd (aV (iH a) (gV (bd (aV (jy a) (gV (dV 0) (gO 1 (gV (dV 5) (gV (d2 aZ (dV 5) (dC (.int k))) (Pu.bN))))))) (gV (dV 5) (Pu.bN)))))
theorem De(d:List Int)(h:List PV)(y:h.length<=400){w:Nat}(v:1<=w)(u:w<=4)(k:Nat)(z:k<=6)(o n m l j:Slot):∃(g:List PV) (t:Tx),g.length<=h.length+12/\w<=t.length/\t.length<=w+k/\(∀c∈t,c∈bR)/\n8 a (k:Nat) [bp d,.own (.lst h),o,n,m,⇑w,l,j]=.ok (.tup (am (aC (wins t w)))) [bp d,.own (.lst g),o,n,m,⇑w,l,j]:=by
 obtain⟨t,g,r,q,p,x,f⟩:=wv (a:=a) d h w (w+k) ∅ ∅ ∅;have i:=tE (a:=a) t w ∅;have b:aZ (.int w) (.int k)=aa (.int ((w+k:Nat):Int)):=by show aa (PV.int _)=_;congr 2
 refine⟨g,t,∅,r,q,p,?_⟩;unfold n8;generalize am (aC (wins t w))=SW at i;generalize ((w+k:Nat):Int)=WK at f b;generalize ((w:Nat):Int)=WI at f i b;generalize ((k:Nat):Int)=KI at b;have s:bp d=.val (.lst (d.map .int)):=rfl;rw[s]at f ⊢;generalize d.map PV.int=NS at f;simp![b,f,i]
def A1(a:Ad):aj->R aF:=(b_ (dB (d2 (Pu.eqT ak) (dV 2) (dC (.int 0)))) (br 6 (d2 aZ (dV 6) (n8 a 3))) (cX))
theorem Ky(l:List Int)(c:List PV)(G:c.length<=400)(m:Int){w:Nat}(q:1<=w)(A:w<=4){b:List Tx}(o:Wn w b)(K:b.length<=3)(j i g:Slot):∃(f:List PV) (u:List Tx),f.length<=c.length+12/\Wn w u/\A1 a [bp l,.own (.lst c),⇑m,j,i,⇑w,.val (.tup (am b)),g]=.ok .next [bp l,.own (.lst f),⇑m,j,i,⇑w,.val (.tup (am u)),g]:=by
 have y:=nk ak m 0;by_cases h:m=0
 .have r:Pu.eqT ak (.int m) (.int 0)=aa (.bl ah):=by rw[y,decide_eq_true h];rfl
  obtain⟨f,t,F,C,J,B,I⟩:=De (a:=a) l c G q A 3 ∅ (⇑m) j i (.val (.tup (am b))) g;have v:=Wn.wins q C ∅ B;have H:(aC (wins t w)).length<=4:=by rw[(ef _).length_eq,jG q];lia
  have p:aZ (.tup (am b)) (.tup (am (aC (wins t w))))=aa (.tup (am (b++aC (wins t w)))):=by
   show(if am b≠[]/\am (aC (wins t w))≠[]/\(am b).length+(am (aC (wins t w))).length<=1000 then aa (PV.tup (am b++am (aC (wins t w))))else ae)=_;have E:am b≠[]:=λz=>by have s:=congrArg o_ z;rw[iI,jL]at s;have:=o.some;lia
   have D:am (aC (wins t w))≠[]:=λz=>by have s:=congrArg o_ z;rw[iI,jL]at s;have:=v.some;lia
   rw[if_pos ⟨E,D,by rw[iI,iI];lia⟩,Pa]
  refine⟨f,b++aC (wins t w),F,⟨λx d=>?_,by rw[cZ];have:=o.some;lia,by rw[cZ];lia⟩,?_⟩
  .rcases fY.mp d with d|d
   .exact o.win x d
   .exact v.win x d
  .have n:n8 a 3 [bp l,.own (.lst c),⇑m,j,i,⇑w,.val (.tup (am b)),g]=_:=I;unfold A1;generalize am (b++aC (wins t w))=PA at p;generalize am (aC (wins t w))=PS at p n;generalize am b=PL at p n;generalize n8 a 3=DS at n;simp[b_,dB,d2,dV,dC,r,R.bind,aB,km,br,n,p]
 .have r:Pu.eqT ak (.int m) (.int 0)=aa (.bl ak):=by rw[y,decide_eq_false h];rfl
  refine⟨c,b,∅,o,?_⟩;unfold A1;generalize am b=PL;simp[b_,dB,d2,dV,dC,r,R.bind,aB,km,cX]
def A2(a:Ad):aj->R aF:=(b_ (dB (d2 (Pu.eqT ak) (dV 2) (dC (.int 1)))) (br 6 (dL gY (aI (dF (cR [0,1,5] (dL jD (aI (d2 aZ (dC (.int 1)) (bd (aV (gI a) (gV (dV 0) (gO 1 (gV (dC (.int 6)) (Pu.bN))))))) (aU))) (dYes) (bd (aV (jy a) (gV (dV 1) (gO 2 (gV (dV 3) (gV (dV 3) (Pu.bN))))))))) (aU)))) (cX))
theorem NW(i:List Int)(g:List PV)(G:g.length<=300)(m:Int){w:Nat}(D:1<=w)(x:w<=4){d:List Tx}(A:Wn w d)(o n l:Slot):∃(j:List PV) (b:List Tx),Wn w b/\A2 a [bp i,.own (.lst g),⇑m,o,n,⇑w,.val (.tup (am d)),l]=.ok .next [bp i,.own (.lst j),⇑m,o,n,⇑w,.val (.tup (am b)),l]:=by
 have s:=nk ak m 1;by_cases h:m=1
 .have p:Pu.eqT ak (.int m) (.int 1)=aa (.bl ah):=by rw[s,decide_eq_true h];rfl
  obtain⟨u,F,E,C⟩:=mh (a:=a) i g 6 (by decide) ∅;obtain⟨k,B⟩:∃k:Nat,1+u=(k:Nat):=⟨(1+u).toNat,∅⟩
  have v:(eQ 0 k).length=k:=by simp[eQ]
  obtain⟨b,j,z,y,f⟩:=Dn (a:=a) i w x (⇑m) o n (.val (.tup (am d))) l (eQ 0 k) [] (g++[.int 0]) (by rw[v];simp;lia);rw[v]at z;rw[iT,show am []=[] from rfl]at f;have q:aZ (.int 1) (.int u)=aa (.int k):=by show aa (PV.int (1+u))=_;rw[B]
  have c:jD [.int k]=aa (eQ 0 k):=wG ∅;have r:gY [.lst (am b)]=aa (.tup (am b)):=rfl;refine⟨j,b,⟨y,∅,∅⟩,?_⟩;unfold A2;generalize eQ 0 k=RG at f c;generalize ((k:Nat):Int)=KI at q c;generalize am b=PM at f r;generalize am d=PL at f;generalize ((w:Nat):Int)=WI at f;simp![p,C,q,c,cR,f,r]
 .have p:Pu.eqT ak (.int m) (.int 1)=aa (.bl ak):=by rw[s,decide_eq_false h];rfl
  refine⟨g,d,A,?_⟩;unfold A2;generalize am d=PL;generalize (br 6 (dL gY (aI (dF (cR [0,1,5] (dL jD (aI (d2 aZ (dC (.int 1)) (bd (aV (gI a) (gV (dV 0) (gO 1 (gV (dC (.int 6)) (Pu.bN))))))) (aU))) (dYes) (bd (aV (jy a) (gV (dV 1) (gO 2 (gV (dV 3) (gV (dV 3) (Pu.bN))))))))) (aU))))=DD;simp[b_,dB,d2,dV,dC,p,R.bind,aB,km,cX]
def A3:aj->R aF:=(b_ (sA (dB (d2 (dR λi j=>decide (j<i)) (dV 2) (dC (.int 1)))) (dB (d2 (dR λi j=>decide (j<i)) (d2 bL (dV 4) (dC (.int 0))) (dC (.int 1))))) (br 6 (d2 bL (dV 4) (dC (.int 1)))) (cX))
theorem JS(o n l j:Slot)(m:Int){b w:Nat}(s:w=max 2 b){c d:List Tx}(r:Wn b c)(q:Wn w d):∃p:List Tx,Wn w p/\A3 [o,n,⇑m,l,.val (bi b c),⇑w,.val (.tup (am d)),j]=.ok .next [o,n,⇑m,l,.val (bi b c),⇑w,.val (.tup (am p)),j]:=by
 have f:bL (bi b c) (.int 0)=aa (.int b):=rfl;have g:bL (bi b c) (.int 1)=aa (.tup (am c)):=rfl;by_cases i:1<m
 .by_cases h:(1:Int)<(b:Nat)
  .have e:w=b:=∅
   refine⟨c,by rw[e];exact r,?_⟩;generalize ((b:Nat):Int)=W0 at f h;generalize am c=P0 at g;generalize am d=PL;generalize bi b c=VV at f g;simp![A3,i,h,f,g]
  .refine⟨d,q,?_⟩;generalize ((b:Nat):Int)=W0 at f h;generalize am d=PL;generalize bi b c=VV at f g;simp![A3,i,h,f]
 .refine⟨d,q,?_⟩;generalize am d=PL;generalize bi b c=VV;simp![A3,i]
theorem OT{w:Nat}{c:List Tx}(g:Good bR w c)(j:1<=w)(o:c.Pairwise (λa b=>dv a b=ah)){k:Nat}(h:Min (w-1) c k):k=1↔fA w c≠[]:=by
 have l:w-1+1=w:=∅
 have f:=has_iff g j o;unfold hasT at f;rw[decide_eq_true_iff]at f;rw[<-f];have v:c≠[]:=λz=>by have:=g.some;rw[z]at this;simp at this
 constructor
 .intro e;obtain⟨d,i,q⟩:=h.ex;rw[e]at i;obtain⟨t,rfl⟩:=List.length_eq_one_iff.mp i;have:=q.perm;rw[covW_cons,l]at this;exact⟨t,by simpa[covW]using this⟩
 .rintro⟨t,m⟩;have x:=m.length_eq;rw[jG j]at x;have i:=g.some;have p:Cov (w-1) [t] c:=⟨λu n=>by rw[eN.mp n];lia,by rw[covW_cons,l];simpa[covW]using m⟩
  have s:=h.low _ p;obtain⟨d,A,y⟩:=h.ex;have r:d≠[]:=λz=>by have:=y.perm;rw[z]at this;exact v (List.nil_perm.mp this)
  have:1<=d.length:=List.length_pos_iff.mpr r;simp at s;lia
theorem IY{d e:aj->R PV}{b:aj}{x y:PV}(f:d b=.ok x b)(c:e b=.ok y b)(h:Pu.eqT ah x y=aa (.bl ak)):dB (d2 (Pu.eqT ah) d e) b=.ok ak b:=by simp[dB,d2,f,c,h,R.bind,aB,km]
theorem CM{G:aj->R Slot}{d:aj->R PV}{b:aj}{x y:PV}(h:d b=.ok x b)(c:G [.val x]=.ok (.val y) [.val x]):bd (aV G (gV d Pu.bN)) b=.ok y b:=by simp[bd,aV,gV,Pu.bN,h,c,R.bind,aB,ii,gh,cN,fe,fP,tQ]
theorem Cw{f:List PV->Option α}{d:aj->R PV}{b:aj}{x:PV}{z:α}(h:d b=.ok x b)(c:f [x]=aa z):dL f (aI d aU) b=.ok z b:=by simp[dL,aI,aU,h,c,R.bind,aB]
theorem IU{d:aj->R PO}{b:aj}{l:List PV}(h:d b=.ok (.lst l) b):dF d b=.ok (.lst l) b:=by simp[dF,h,R.bind,qi,aB]
theorem Lc{d e:aj->R PV}{b:aj}{x y:PV}(h:d b=.ok x b)(c:e b=.ok y b):dL g8 (aI d (aI e aU)) b=.ok (.tup [x,y]) b:=by simp[dL,aI,aU,h,c,R.bind,aB,g8]
theorem qE{f:PV->PV->Option PV}{d e:aj->R PV}{b:aj}{x y z:PV}(h:d b=.ok x b)(g:e b=.ok y b)(c:f x y=aa z):d2 f d e b=.ok z b:=by simp[d2,h,g,c,R.bind,aB]
theorem Ng{d:aj->R Bool}{b:aj}(c:d b=.ok ak b):b_ d (cC (dC (.bl ak))) cX b=.ok .next b:=by simp[b_,c,R.bind,cX]
theorem Ki{G:aj->R Slot}{d e:aj->R PV}{m l j i g f c b:Slot}{x y z:PV}{o:PO}(h:d [m,l,j,i,g,f,c,b]=.ok x [m,l,j,i,g,f,c,b])(p:e [m,l,j,i,g,f,c,b]=.ok y [m,l,j,i,g,f,c,b])(n:G [.val x,.val y,.own (.dT [])]=.ok (.val z) [.val x,.val y,.own o]):bd (mS G (kw d (kw e (gN (wO) (Pu.bN))))) [m,l,j,i,g,f,c,b]=.ok z [m,l,j,i,g,f,c,b]:=by simp[bd,mS,kw,gN,wO,Pu.bN,yW,h,p,n,R.bind,aB,ii,gh,cN,fe,fP,tQ]
theorem Lz(d:List Int):sD a [bp d]=.ok (.val (.bl ah)) [bp d]:=by
 obtain⟨m,_,_,hd⟩:=mh (a:=a) d [] 4 (by decide) (by simp);obtain⟨p,p0,p5,z⟩:=mh (a:=a) d ([]++[.int 0]) 3 (by decide) (by simp);obtain⟨sp,rfl⟩:∃n:Nat,p=n:=⟨p.toNat,∅⟩
 obtain⟨h,q,A,w01,w04,_,Q,hs0,h6,_,L,hv⟩:=Ma (a:=a) d ([]++[.int 0]++[.int 0]) sp 6 ∅ (by decide) (by decide) (by simp);simp only[iT,uk,cS,jL]at hd z hv L;have s:sd a [bp d,.own (.lst [.int 0,.int 0]),⇑sp,⇑6]=.ok (.val (bi h q)) [bp d,.own (.lst A),⇑sp,⇑6]:=hv;obtain⟨w,hw⟩:∃w,w=max 2 h:=⟨_,rfl⟩
 have r:1<=w:=∅
 have u:w<=4:=∅
 have h0:Wn h q:=⟨λx v=>⟨Q.len x v,Q.abc x v⟩,Q.some,∅⟩
 have G:nq [.int 2,.int h]=aa (.int w):=by show aa (PV.int (if((h:Nat):Int) > 2 then _ else _))=_;congr 2;split <;> lia
 obtain⟨z1,t1,hz1,J,t12,I,mL⟩:=De (a:=a) d A ∅ r u 2 ∅ (⇑m) (⇑sp) (.val (bi h q)) .none .none;have pR:=Wn.wins r J ∅ I;obtain⟨z2,l2,hz2,mJ,r8⟩:=Ky (a:=a) d z1 ∅ m r u pR (by rw[(ef _).length_eq,jG r];lia) (⇑sp) (.val (bi h q)) .none;obtain⟨o,l3,iB,P⟩:=NW (a:=a) d z2 ∅ m r u mJ (⇑sp) (.val (bi h q)) .none;obtain⟨b,B,O⟩:=JS (bp d) (.own (.lst o)) (⇑sp) .none m hw h0 iB;have H:=ef b;have g:Good bR w (aC b):=⟨λx v=>(B.win x (H.mem_iff.mp v)).1,λx v=>(B.win x (H.mem_iff.mp v)).2,by rw[H.length_eq];exact B.some,by rw[H.length_eq];have:=B.few;lia⟩
 have M:=tI b;obtain⟨k,hk,hf⟩:=fewest_texts_eq (a:=a) g r u M;have hn:=Io (a:=a) g r u M;obtain⟨l,m2,fj,_,_,N⟩:=covers_eq (a:=a) r u (W:=aC b) g.few (λy Z=>⟨g.len y Z,g.abc y Z⟩) 9 10 (aC b) [] g.few (by decide) (List.Sublist.refl _) ⟨by simp,(λp z=>by cases z),(λp z=>by cases z)⟩;have k8:l=k:=fj.uniq hk;subst k8;have nY:l9 [.tup (am b)]=aa (.lst (am (aC b))):=by show(fG (am b)).bind _=_;rw[n9,jP,if_pos (by have:=B.few;lia)]
 have p6:gY [.lst (am (aC b))]=aa (.tup (am (aC b))):=rfl;have D:=OT g r M hk;have K:bL (bi h q) (.int 0)=aa (.int h):=rfl;have i1:bL (bi w (aC b)) (.int 1)=aa (.tup (am (aC b))):=rfl;have xX:yaq a [bp d,.none,.none,.none,.none,.none,.none,.none]=.ok (.ret (.val (.bl ah))) [bp d,.own (.lst o),⇑m,⇑sp,.val (bi w (aC b)),⇑w,.val (.tup (am b)),⇑l]:=by
  show aD _ (aD _ (aD _ (aD _ (aD _ (aD (br 6 (n8 a 2)) (aD (A1 a) (aD (A2 a) (aD A3 (aD _ (aD _ (aD _ _))))))))))) _=_;refine(cr (ε1:=[bp d,.own (.lst []),.none,.none,.none,.none,.none,.none]) (by simp![])).trans ?_;refine(cr (ε1:=[bp d,.own (.lst [.int 0]),⇑m,.none,.none,.none,.none,.none]) (by simp![hd])).trans ?_;refine(cr (ε1:=[bp d,.own (.lst [.int 0,.int 0]),⇑m,⇑sp,.none,.none,.none,.none]) (by simp![z])).trans ?_;refine(cr (ε1:=[bp d,.own (.lst A),⇑m,⇑sp,.val (bi h q),.none,.none,.none]) (by generalize bi h q=V0 at s;generalize ((sp:Nat):Int)=SP at s;simp![s])).trans ?_;refine(cr (ε1:=[bp d,.own (.lst A),⇑m,⇑sp,.val (bi h q),⇑w,.none,.none]) (by generalize bi h q=V0 at K;generalize PV.int w=WI at G;generalize PV.int h=W0 at K G;generalize PV.int 2=C2 at G;simp![K,G])).trans ?_;have C:n8 a 2 [bp d,.own (.lst A),⇑m,⇑sp,.val (bi h q),⇑w,.none,.none]=_:=mL;refine(cr (oQ C)).trans ?_;refine(cr r8).trans ?_;refine(cr P).trans ?_;refine(cr O).trans ?_;have v5:dV 5 [bp d,.own (.lst o),⇑m,⇑sp,.val (bi h q),⇑w,.val (.tup (am b)),.none]=.ok (.int w) [bp d,.own (.lst o),⇑m,⇑sp,.val (bi h q),⇑w,.val (.tup (am b)),.none]:=rfl;have v6:dV 6 [bp d,.own (.lst o),⇑m,⇑sp,.val (bi h q),⇑w,.val (.tup (am b)),.none]=.ok (.tup (am b)) [bp d,.own (.lst o),⇑m,⇑sp,.val (bi h q),⇑w,.val (.tup (am b)),.none]:=rfl;refine(cr (ε1:=[bp d,.own (.lst o),⇑m,⇑sp,.val (bi w (aC b)),⇑w,.val (.tup (am b)),.none]) (oQ (Lc v5 (Cw (IU (Cw v6 nY)) p6)))).trans ?_;have v4:dV 4 [bp d,.own (.lst o),⇑m,⇑sp,.val (bi w (aC b)),⇑w,.val (.tup (am b)),.none]=.ok (bi w (aC b)) [bp d,.own (.lst o),⇑m,⇑sp,.val (bi w (aC b)),⇑w,.val (.tup (am b)),.none]:=rfl;refine(cr (ε1:=[bp d,.own (.lst o),⇑m,⇑sp,.val (bi w (aC b)),⇑w,.val (.tup (am b)),⇑l]) (oQ (CM v4 hf))).trans ?_;have Y:dV 4 [bp d,.own (.lst o),⇑m,⇑sp,.val (bi w (aC b)),⇑w,.val (.tup (am b)),⇑l]=.ok (bi w (aC b)) [bp d,.own (.lst o),⇑m,⇑sp,.val (bi w (aC b)),⇑w,.val (.tup (am b)),⇑l]:=rfl;have u5:dV 5 [bp d,.own (.lst o),⇑m,⇑sp,.val (bi w (aC b)),⇑w,.val (.tup (am b)),⇑l]=.ok (.int w) [bp d,.own (.lst o),⇑m,⇑sp,.val (bi w (aC b)),⇑w,.val (.tup (am b)),⇑l]:=rfl;have X:dV 7 [bp d,.own (.lst o),⇑m,⇑sp,.val (bi w (aC b)),⇑w,.val (.tup (am b)),⇑l]=.ok (.int l) [bp d,.own (.lst o),⇑m,⇑sp,.val (bi w (aC b)),⇑w,.val (.tup (am b)),⇑l]:=rfl;have S:∀(c:PV) (T:aj),dC c T=.ok c T:=λ_ _=>rfl;have e1:=nk ak (l:Nat) 1;have e2:dR (λi j=>decide (j<i)) (.int ((fA w (aC b)).length:Nat)) (.int 0)=aa (.bl (decide ((0:Int)<((fA w (aC b)).length:Nat)))):=rfl;have e3:=Ob ah (ak^^decide (((l:Nat):Int)=1)) (decide ((0:Int)<((fA w (aC b)).length:Nat)));have hb:(ak^^decide (((l:Nat):Int)=1))=decide ((0:Int)<((fA w (aC b)).length:Nat)):=by
   rw[um];refine decide_eq_decide.mpr ?_;have h1:(((l:Nat):Int)=1)↔l=1:=∅
   have h2:((0:Int)<((fA w (aC b)).length:Nat))↔fA w (aC b)≠[]:=by rw[<-List.length_pos_iff];lia
   rw[h1,h2];exact D
  rw[decide_eq_true hb]at e3;have e4:Pu.eqT ak (.int l) (.int l)=aa (.bl ah):=by rw[nk,decide_eq_true rfl];rfl
  refine(cr (Ng (IY (qE X (S _ _) e1) (qE (CM Y hn) (S _ _) e2) e3))).trans ?_;have F:iJ a 10 [⇑w,.val (.tup (am (aC b))),.own (.dT [])]=.ok (⇑l) [⇑w,.val (.tup (am (aC b))),.own (.dT (knP m2))]:=N;have Qt:=Ki u5 (qE Y (S _ _) i1) F;have E:=qE (f:=Pu.eqT ak) X Qt e4;unfold cC;rw[E];rfl
 simp[sD,bH,fz,bF,dy,xX,back,fW,aB,R.bind]
end
open L2 Pu Sh
def zW(K:ax)(a:Ad):Bool:=rG K a.SlitError wl "ValueError.__new__" && (tw a).all (λx=>rG K x wl "ValueError.__new__" && subB K a.SlitError x&&El K x&&(tw a).all (λd=>jk K (.ref x) (.ref d) == aa (x == d))&&jk K (.ref x) (.type "ValueError") == aa ah)&&yb K
section
variable{K:ax}{h g:az}{i:Str->Option ai}{a:Ad}
theorem CW(h:zW K a=ah):rG K a.SlitError wl "ValueError.__new__"=ah/\(∀x∈tw a,rG K x wl "ValueError.__new__"=ah/\subB K a.SlitError x=ah/\El K x=ah/\(∀d∈tw a,jk K (.ref x) (.ref d)=aa (x == d))/\jk K (.ref x) (.type "ValueError")=aa ah)/\yb K=ah:=by unfold zW at h;simp only[iA,nN,beq_iff_eq,decide_eq_true_eq]at h;obtain⟨⟨j,c⟩,f⟩:=h;exact⟨j,λx b=>⟨(c x b).1.1.1.1,(c x b).1.1.1.2,(c x b).1.1.2,(c x b).1.2,(c x b).2⟩,f⟩
structure Top(K:ax)(a:Ad):Prop where
 yar:dE K "_law_cell_at" yr
 yau:dE K "_law_mixed" ye
 yat:dE K "_law_draw" zi
 yaw:dE K "_law_seen" vn
 yav:dE K "_law_pick" z7
 yax:dE K "_law_text" yY
 yaA:dE K "_law_view" yG
 yan:dE K "is_whole_number" yN
 yao:dE K "is_width" Ao
 yaj:dE K "has_only" vU
 yap:dE K "is_window" zS
 yad:dE K "are_windows" vW
 yam:dE K "is_view_with" zM
 yal:dE K "is_view" zt
 yae:dE K "check_view" Ap
 yaB:dE K "reached_pieces" yy
 yag:dE K "excesses" yi
 yah:dE K "fewest_for" wz
 yai:dE K "fewest_texts" sY
 yac:dE K "add_endings" yU
 yaf:dE K "counted" yD
 yaC:dE K "texts" xl
 yak:dE K "how_many" y8
 yaz:dE K "_law_under" xi
 yay:dE K "_law_trails" tN
 yas:dE K "_law_covers" yK
 yaq:dE K "law" se
 yaD:eE K cG "all"=aa ae
 yaE:eE K cG "any"=aa ae
 yaF:eE K cG "bool"=aa ae
 yaG:eE K cG "int"=aa ae
 yaH:eE K cG "isinstance"=aa ae
 yaI:eE K cG "len"=aa ae
 yaJ:eE K cG "list"=aa ae
 yaK:eE K cG "max"=aa ae
 yaL:eE K cG "min"=aa ae
 yaM:eE K cG "range"=aa ae
 yaN:eE K cG "set"=aa ae
 yaO:eE K cG "sorted"=aa ae
 yaP:eE K cG "str"=aa ae
 yaQ:eE K cG "sum"=aa ae
 yaR:eE K cG "tuple"=aa ae
 yaT:∃t,eE K cG "LETTERS"=aa (aa (.str (tS [97,98,99]) t))
 yaU:∃t,eE K cG "MOST_WINDOWS"=aa (aa (.int 9 t))
 yaV:∃t,eE K cG "WIDEST"=aa (aa (.int 4 t))
 yab:eE K cG "SlitError"=aa (aa (.ref a.SlitError))
 yaa:eE K cG "NoView"=aa (aa (.ref a.NoView))
 ck:zW K a=ah
 z0:o5 K "least_ending"=ae
theorem JC(T:Top K a)(X:K.In g)(G:g.Ns cG i):dO K i g a where
 yar:=T.yar.at X G
 yau:=T.yau.at X G
 yat:=T.yat.at X G
 yaw:=T.yaw.at X G
 yav:=T.yav.at X G
 yax:=T.yax.at X G
 yaA:=T.yaA.at X G
 yan:=T.yan.at X G
 yao:=T.yao.at X G
 yaj:=T.yaj.at X G
 yap:=T.yap.at X G
 yad:=T.yad.at X G
 yam:=T.yam.at X G
 yal:=T.yal.at X G
 yae:=T.yae.at X G
 yaB:=T.yaB.at X G
 yag:=T.yag.at X G
 yah:=T.yah.at X G
 yai:=T.yai.at X G
 yac:=T.yac.at X G
 yaf:=T.yaf.at X G
 yaC:=T.yaC.at X G
 yak:=T.yak.at X G
 yaz:=T.yaz.at X G
 yay:=T.yay.at X G
 yas:=T.yas.at X G
 yaq:=T.yaq.at X G
 yaD:=jq X G T.yaD
 yaE:=jq X G T.yaE
 yaF:=jq X G T.yaF
 yaG:=jq X G T.yaG
 yaH:=jq X G T.yaH
 yaI:=jq X G T.yaI
 yaJ:=jq X G T.yaJ
 yaK:=jq X G T.yaK
 yaL:=jq X G T.yaL
 yaM:=jq X G T.yaM
 yaN:=jq X G T.yaN
 yaO:=jq X G T.yaO
 yaP:=jq X G T.yaP
 yaQ:=jq X G T.yaQ
 yaR:=jq X G T.yaR
 yaT:=T.yaT.imp λ_ e=>pC X G e
 yaU:=T.yaU.imp λ_ e=>pC X G e
 yaV:=T.yaV.imp λ_ e=>pC X G e
 yab:=pC X G T.yab
 yaa:=pC X G T.yaa
 yaS:=IV X (pC X G T.yaa) ((CW T.ck).2.1 a.NoView (by simp[tw])).1
theorem KC{l:AH}{w:aG}{d:ag}(X:K.In h)(G:h.Ns cG i)(b:i "law"=aa (.ref d))(T:Top K a):∃c:iz,(∀(s:ao) (v:ai),BindsTo s c ⟨[v],[]⟩ [("_law_script",v)])/\∀g:az,K.In g->g.Ns cG i->kt l.prog w K i g (cJ l.prog w) 16 d c ["_law_script"] (cp K (sD a)):=by
 obtain⟨f,oc,x,kV,y,u,B,A,z,r,o,n,m,j⟩:=T.yaq;have e:=b.symm.trans (pC X G o);cases e;exact⟨_,λs v=>.of_eq rfl,λg p q=>LM (JC T p q) (E7 n m j)⟩
theorem J3{l:AH}{q:aS}{j:List Str}{XP:(Str->Option ai)->az->Prop}{o:aG->az->Prop}{d:DefRec}{K:Params->ax}(y:l.most=aa 63)(u:d.params.defaults=[])(m:d.name = "law")(A:∀(w:aG) (h:az),o w h->(K w.params).In h) {a:Ad} (T:∀w:aG,Top (K w.params) a):PySem.W.WalkO q j XP o l.row.toRowW d [] (λf p=>PySem.call f p) :=
 L2.QR (n:=63) (k:=16) (x:="_law_script") (K:=K) (CX:=λw=>cJ l.prog w) (sp:=λw=>cp (K w.params) (sD a)) y (by decide) u ⟨rfl,by decide,by decide⟩ (λw h Y=>⟨A w h Y,λc P e=>by rw[(T w).z0]at e;cases e⟩)
  (λw i F h C G r=>KC C G (by rw[<-m];exact r) (T w))
  (λw H b v E _ B=>OH (N3 (CW (T w).ck).2.2 B) (Lz  v))
  (λw H s e D z=>by obtain⟨_,_,_,_,_,_,_,_,_,_,_,f⟩:=z;exact f)
theorem QN{l:AH}{q:aS}{b:List Str}{XP:(Str->Option ai)->az->Prop}{j:aG->az->Prop}{d:DefRec}{K:Params->ax}{yab yaa:ag}(o:l.most=aa 63)(n:d.params.defaults=[])(c:d.name = "law")(p:∀(w:aG) (h:az),j w h->(K w.params).In h) (T:∀w:aG,Top (K w.params) ⟨yab,yaa,yaa,yaa,yaa,yaa,yaa,yaa,yaa,yaa,yaa,yaa,0,0⟩):PySem.W.WalkO q b XP j l.row.toRowW d [] (λf m=>PySem.call f m):=J3 o n c p T
end
end K27
def PySem.W.Fast.tw12067716387951324464:Nat:=0
def PySem.W.Fast.tw281874503776441256:Nat:=0
def PySem.W.Fast.tw15566151205099124298:Nat:=0
def PySem.W.Fast.tw8535986975450224085:Nat:=0
def PySem.W.Fast.tw1296132087681552525:Nat:=0
def PySem.W.Fast.tw9234395810006048222:Nat:=0
def PySem.W.Fast.tw16252307032688623083:Nat:=0
def PySem.W.Fast.tw6486774978297959394:Nat:=0
def PySem.W.Fast.tw34293471264584175:Nat:=0
def PySem.W.Fast.tw9073363707280480453:Nat:=0
def PySem.W.Fast.tw13663116494924578688:Nat:=0
def PySem.W.Fast.tw12903966164099913619:Nat:=0
def PySem.W.Fast.tw1969156642449210316:Nat:=0
def PySem.W.Fast.tw3201376928162856092:Nat:=0
def PySem.W.Fast.tw6609298026760299364:Nat:=0
def PySem.W.Fast.tw14612867469506198121:Nat:=0
def PySem.W.Fast.tw4209862711653177020:Nat:=0
def PySem.W.Fast.tw9302563631117878222:Nat:=0
def PySem.W.Fast.tw5448204401232021221:Nat:=0
def PySem.W.Fast.tw8748848063735086240:Nat:=0
def PySem.W.Fast.tw5170681784827541432:Nat:=0
def PySem.W.Fast.tw12254761440199530206:Nat:=0
def PySem.W.Fast.tw8059828985439316039:Nat:=0
def PySem.W.Fast.tw18279089333693354478:Nat:=0
def PySem.W.Fast.tw549334882604406972:Nat:=0
def PySem.W.Fast.tw12876223181555552707:Nat:=0
def PySem.W.Fast.tw15273682227615917170:Nat:=0
def PySem.W.Fast.tw1551658976951694012:Nat:=0
def PySem.W.Fast.tw362461509729481322:Nat:=0
def PySem.W.Fast.tw8933596131161168179:Nat:=0
def PySem.W.Fast.tw17672232958741259346:Nat:=0
def PySem.W.Fast.tw2920852107866754795:Nat:=0
def PySem.W.Fast.tw10745183542488435102:Nat:=0
def PySem.W.Fast.tw1650230169297488046:Nat:=0
def PySem.W.Fast.tw2031430086586308644:Nat:=0
def PySem.W.Fast.tw6987841213869319798:Nat:=0
def PySem.W.Fast.tw2078124481530844429:Nat:=0
def PySem.W.Fast.tw1269239558187346744:Nat:=0
def PySem.W.Fast.tw11789803781594590656:Nat:=0
def PySem.W.Fast.tw18297386094432961432:Nat:=0
def PySem.W.Fast.tw5274134597149761683:Nat:=0
def PySem.W.Fast.tw2496147838910573586:Nat:=0
def PySem.W.Fast.tw16310472621374911207:Nat:=0
def PySem.W.Fast.tw7406007796802213735:Nat:=0
def PySem.W.Fast.tw14952153212567173019:Nat:=0
def PySem.W.Fast.tw5863228860324984098:Nat:=0
def PySem.W.Fast.tw4166888854787615182:Nat:=0
def PySem.W.Fast.tw7110939838456166412:Nat:=0
def PySem.W.Fast.tw10042395656981208099:Nat:=0
def PySem.W.Fast.tw8902990642196942590:Nat:=0
def PySem.W.Fast.tw3889194978996049332:Nat:=0
def PySem.W.Fast.tw1750351973306482417:Nat:=0
def PySem.W.Fast.tw12075762233675889571:Nat:=0
def PySem.W.Fast.tw10449900798966461806:Nat:=0
def PySem.W.Fast.tw2473738118941080335:Nat:=0
def PySem.W.Fast.tw14948964869623843377:Nat:=0
def PySem.W.Fast.tw2627294521257925549:Nat:=0
def PySem.W.Fast.tw9053411397194906336:Nat:=0
def PySem.W.Fast.tw6026772304254591148:Nat:=0
def PySem.W.Fast.tw4653919914769690329:Nat:=0
open PySem PySem.W PyProof.Rows
set_option maxRecDepth 100000 in
set_option maxHeartbeats 0 in
theorem PySem.Challenge.cw_slitview_k27_whole_fewest_texts_holds : PySem.Challenge.rw_slitview_k27_whole_fewest_texts.Holds := by
 w_on; o_law; k_head; (case hw=>w_witness2)
 k_fill
 refine' K27.QN (l:=PySem.Challenge.rw_slitview_k27_whole_fewest_texts) rfl rfl rfl (fun w h Y=>PySem.W.kIn_of Y) ?T
 case T =>
  intro w
  refine' { yar:=?yar,yau:=?yau,yat:=?yat,yaw:=?yaw,yav:=?yav,yax:=?yax,yaA:=?yaA,yan:=?yan,yao:=?yao,yaj:=?yaj,yap:=?yap,yad:=?yad,yam:=?yam,yal:=?yal,yae:=?yae,yaB:=?yaB,yag:=?yag,yah:=?yah,yai:=?yai,yac:=?yac,yaf:=?yaf,yaC:=?yaC,yak:=?yak,yaz:=?yaz,yay:=?yay,yas:=?yas,yaq:=?yaq,yaD:=?yaD,yaE:=?yaE,yaF:=?yaF,yaG:=?yaG,yaH:=?yaH,yaI:=?yaI,yaJ:=?yaJ,yaK:=?yaK,yaL:=?yaL,yaM:=?yaM,yaN:=?yaN,yaO:=?yaO,yaP:=?yaP,yaQ:=?yaQ,yaR:=?yaR,yaT:=?yaT,yaU:=?yaU,yaV:=?yaV,yab:=?yab,yaa:=?yaa,ck:=?ck,z0:=?z0 }
  (case yab=>k_is)
  (case yaa=>k_is)
  (case yar=>and_intros)
  (case yau=>and_intros)
  (case yat=>and_intros)
  (case yaw=>and_intros)
  (case yav=>and_intros)
  (case yax=>and_intros)
  (case yaA=>and_intros)
  (case yan=>and_intros)
  (case yao=>and_intros)
  (case yaj=>and_intros)
  (case yap=>and_intros)
  (case yad=>and_intros)
  (case yam=>and_intros)
  (case yal=>and_intros)
  (case yae=>and_intros)
  (case yaB=>and_intros)
  (case yag=>and_intros)
  (case yah=>and_intros)
  (case yai=>and_intros)
  (case yac=>and_intros)
  (case yaf=>and_intros)
  (case yaC=>and_intros)
  (case yak=>and_intros)
  (case yaz=>and_intros)
  (case yay=>and_intros)
  (case yas=>and_intros)
  (case yaq=>and_intros)
  (case yaD=>k_is)
  (case yaE=>k_is)
  (case yaF=>k_is)
  (case yaG=>k_is)
  (case yaH=>k_is)
  (case yaI=>k_is)
  (case yaJ=>k_is)
  (case yaK=>k_is)
  (case yaL=>k_is)
  (case yaM=>k_is)
  (case yaN=>k_is)
  (case yaO=>k_is)
  (case yaP=>k_is)
  (case yaQ=>k_is)
  (case yaR=>k_is)
  (case yaT=>refine' Pu.QI ?e; (case e=>k_is))
  (case yaU=>refine' Pu.QM ?e; (case e=>k_is))
  (case yaV=>refine' Pu.QM ?e; (case e=>k_is))
  (case ck=>kernel_rfl)
  (case z0=>kernel_rfl)
