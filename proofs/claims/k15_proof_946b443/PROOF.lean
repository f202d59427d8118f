import PyProof.Rows.All
import Wide.All
import OpenK.AllK
import Wide.FinOn
import Lean
import PyProof.EqAt
import PyProof.EqKinds
import PyProof.TupleCall
import KE.KIntText
import KE.KDictList
import KE.KDictSum
import PyProof.Rows.Range3
import PyProof.DictWalks
import KE.KMinKey
import KE.KSortTup
import PyProof.EnumStmt
import PyProof.EnumMake
import PyProof.EnumFor
import PyProof.Draws
import PyProof.Rows.TupDisplay
import PySem.Challenge.RW_slitview_k15_whole_no_shorter
noncomputable section
set_option compiler.extract_closed false
local macro_rules | `(tactic| eq_refl) => `(tactic| first | exact Or.inl rfl | exact Or.inr (Or.inl rfl) | exact Or.inr (Or.inr rfl))
local macro_rules | `(∅) => `(by first | lia | omega)
set_option Elab.async false
set_option bootstrap.genMatcherCode false
set_option genSizeOf false
set_option linter.all false
set_option maxRecDepth 100000
local macro_rules | `(tactic| ac_nf) => `(tactic| exact ⟨rfl,rfl,rfl,by decide +kernel,rfl,by decide +kernel,by decide +kernel⟩)
open Option renaming some->aa,none->ae,bind_some->hU,map_eq_some_iff->tX,getD_none->AX
open PySem renaming Addr->af,Value->ah,Shared->am,wpAny_bind->ap,wpAny->aq,model->ar,Heap->ax,Expr->ay,wpAny_pure->aB,World->aC,Program->aG,Around->aH,eval->aK,starEach->aM,Stmt->aX,sizeLine->aY,mainGlobals->bG,Scope->cy,rawInt->cH,compareOp->cM,backTo->cV,bootBuiltins->c8,wpAny_mono->c9,cellsFrom->dR,bindArgs->ef,NameKind->eD,binaryOp->fL,FuncData->fM,strKind->gy,SetTable->hG,Paired->iR,swapsWith->iV,mem_of_lookup->iX,hashStr->jB,wpAny_holding->jG,isTrue->kj,wpAny_truthy_bool->kl,pyIter->kn,IsPart->ko,wpAny_newObj_type->kq,Keyword->kr,wpAny_rule->ku,setNext->kw,setField->kx,builtinsNs->kW,sizeLine_eq->kZ,codeAny->k6,codeAny_builtin->lf,behindInMarks->l_,foldedSetIterable->ma,attributeBase->mh,plainId_quiet->mn,reduceHash->nQ,sysModules->nR,Arguments->nU,wpAny_field->nV,getItem->nW,sliceBounds->nX,callerA->n5,relayAll->n9,wpAny_setState_of->og,wpAny_askSetting->oi,codeAmong->p8,wpAny_call_entry->qc,pickOrder->qh,wpAny_setField->qi,eqIsQuiet->qk,wpAny_tryCatch->ql,wpAny_Name->sZ,wpAny_passesOwn->s_,recursionLimit->ti,codeAny_mono->tm,wpAny_Call_Name_kw->tp,wpAny_loadPart'->tu,keywordEach->tw,call_meets->tx,wpAny_specialOf->tz,closureFor->tE,wpAny_of_eq->tK,setsByText->tL,wpAny_seqItems->tO,wpAny_ite_split->tP,letOwnedTupleGo->wo,IsRangeIter->wp,subscripted->wx,wpAny_forIn_list->wT,wpAny_letGo->wV,wpAny_loadName_local->AN,noFill_tuple_add->AS,wpAny_pyIter_list->A8,wpAny_isInstance->Bc
open Bool renaming true->ai,false->ak,false_ne_true->dQ,and_eq_true->eV,false_eq_true->jK,eq_iff_iff->kY,or_eq_true->tJ,not_eq_true'->Bj
open PySem.W renaming Frag->au,nsIn->cX,kitOne->gx,fnOf->g_,tabIn->iS,mg_of->i6,mg_none_of->i9,kia_one->jE,excIn->oj,keepIn->p_,findIn->tf,codeIn->tt,codeHdIn->tD,OpenLaw->wB,kla_obj->wS,methodObj->AM
open PyProof.Rows renaming wpS_bind->aA,wpS_pure->aE,pendingOf->aR,SortSt->be,StrsAre->cR,seqObj->cY,wpS_mono->eH,wpS_forRange->eJ,SortKind->fN,size_push'->gz,envOfC->g9,wpS_get->i7,pairsOf->jO,AllBare->kh,wpS_modify->kA,wpS_lift->ol,get?_update_seq->tR,callWith_type1->wt,listUpdate_at->wL,callWith_builtin1->Jh,slot_tuple_getitem->Ji
open Nat renaming le_refl->aT,le_trans->bX,ne_of_lt->cC,lt_of_lt_of_le->d_,lt_irrefl->eC,zero_le->jH,le_of_eq->jI,lt_succ_of_lt->jM,le_of_lt->ki,ne_of_gt->kX,lt_succ_self->lg,add_assoc->mq,le_succ->tF,zero_add->tU,succ_mul->wz,lt_trans->wA,lt_of_le_of_lt->wC,mul_le_mul->wJ,add_right_comm->Bi,lt_or_eq_of_le->Bu
open PySem.Heap renaming get?_push_of_some->a8,lt_size->bj,get?_push_size->bW,SameBut->iU,get?_update_other->nZ,get?_update_self->n_,get?_none_of_le->sY,size_push->wD,get?_update_ne->Be,size_update->Bh
open List renaming mem_cons->bw,size_toArray->bQ,range->cq,getElem?_eq_some_iff->cD,replicate->cQ,length_append->cW,getElem?_set_ne->dP,length_cons->eh,getElem?_eq_getElem->eE,mem_map->eF,mem_singleton->eG,length_map->fg,getElem?_set_self->fK,getElem?_append_left->f_,nil_append->gb,mem_append->g8,map_map->hV,mem_cons_of_mem->iy,lookup_cons->iz,not_mem_nil->iA,cons_append->iB,mem_cons_self->iT,append_nil->iW,getElem?_map->iY,length_nil->iZ,length_set->i5,mem_append_right->jD,eq_nil_of_length_eq_zero->jJ,append_assoc->jL,take_of_length_le->kt,nodup_cons->k7,length_take->k8,map_cons->lc,all_eq_true->lh,length->me,getElem?_append_right->mf,foldl_cons->mi,mem_reverse->mr,all_cons->nY,take_append_drop->n6,filterMap_cons->p9,length_drop->qa,find?_cons->qe,mem_of_getElem?->tq,all_map->tG,range_succ->tI,getElem?_eq_none->tQ,drop_eq_getElem_cons->tT,getElem_of_mem->tW,filter_eq_self->tZ,length_erase_of_mem->t0,mem_filter->wm,mem_append_left->wn,length_singleton->wy,lookup->wE,range_succ_eq_map->wF,map_append->wG,drop_zero->wH,toList_toArray->wI,ext_getElem?->wK,take_zero->wM,singleton_append->wP,drop_eq_nil_iff->wQ,lt_irrefl->wU,drop_of_length_le->wW,replicate_succ->A2,lookup_append->A4,drop_succ_cons->A5,drop_append_of_le_length->A6,getElem?_range->A7,map_congr_left->A9,getElem_mem->A_,pairwise_append->Bk,getElem_drop->Bl,getElem_take->Bm,reverse_append->Bn,reverse_perm->Bo,pairwise_reverse->Bp,take_length->Bq,take_append_of_le_length->Bv,findIdx?_eq_some_iff_getElem->Jj
open Option.some renaming inj->dO
open PySem.Str renaming empty->eU,length->k_,ofString->qb
open Array renaming toList_append->fh,length_toList->km,getElem_extract->kB,getElem?_eq_some_iff->n8,toList_push->qg,getElem?_eq_getElem->tN,getElem?_toList->wR,perm_iff_toList_perm->Br
open Ne renaming symm->f9
open PySem.Obj renaming mapSeq->ga,mapFields->mo,data_mapFields->wN,isFreed_of_fields->Bg
open PyProof.Rows.KeyOrd renaming kle_of_klt->i8,kle_refl->jN,kle_trans->qj
open PySem.Builtin.Tuple renaming tupleHashOf->jC,tupleExact->ww
open False renaming elim->jF
open Int renaming toNat_natCast->k9,emod_lt_of_pos->Bt
open PySem.Heap.SameBut renaming update->mj
open PySem.Around renaming under_plainId->ml
open PySem.Value renaming isStrOf->nO
open PySem.SetTable renaming grown->oh,below->Jl
open PySem.F renaming plain_min_loop->om,slot_tuple_add->AT,entry_tuple_add->AU,args_tuple_add_2->AV,plainAttrs_list->Bf,entry_min_loop->Bs,slot_tuple_hash->Jm
open PySem.SeqAt renaming EqAt->qd
open List.Perm renaming refl->qf,append_left->Bb
open PySem.Calls renaming spliced_cons->tj,spliced_nil->wu,Name_function_global->AO,evalArgs_plain->AZ
open PySem.PassesOwn renaming never->tY
open PySem.Builtin.Range renaming rangeSize->wq
open PySem.Builtin.Slice renaming slicePlaces->wv,sliceAdjust->AW
open Nat.succ renaming inj->wO
open PySem.Builtin.Str renaming occurrences->AQ
open PySem.SeqAt.EqAt renaming str_str->AY
open PySem.Builtin.List renaming listTooLong->A0
open PyProof.Rows.F renaming plain_set_update_loop->Ba,entry_set_update_loop->Jk
open PySem.SetTable.below renaming go->Bd
open Std.Legacy renaming Range->JX
open PySem PySem.Spec PyProof.Rows
namespace L2
abbrev bz:=Sum Int Str
def zy:bz->ah->Bool
 |.inl k,v=>Value.isInt k v
 |.inr x,v=>nO x v
def IQ(w:aC):bz->Int
 |.inl k=>hashInt k
 |.inr x=>jB w x
theorem ka:∀{k:bz}{v:ah},zy k v=ai->(∃i t,k=Sum.inl i/\v=Value.int i t)\/(∃x t,k=Sum.inr x/\v=Value.str x t)
 |.inl i,v,h=>by obtain⟨t,e⟩:=Value.isInt_shape (k:=i) (v:=v) h;exact .inl ⟨i,t,rfl,e⟩
 |.inr x,v,h=>by obtain⟨t,e⟩:=Value.isStrOf_shape (x:=x) (v:=v) h;exact .inr ⟨x,t,rfl,e⟩
theorem HZ(a b:Int):decide ((Sum.inl a:bz)=Sum.inl b)=(a == b):=by
 by_cases e:a=b
 .subst e;simp
 .have h:¬(Sum.inl a:bz)=Sum.inl b:=λq=>e (Sum.inl.inj q);rw[decide_eq_false h];exact(beq_eq_false_iff_ne.mpr e).symm
theorem Iq(a b:Str):decide ((Sum.inr a:bz)=Sum.inr b)=decide (a=b):=by
 by_cases e:a=b
 .subst e;simp
 .have h:¬(Sum.inr a:bz)=Sum.inr b:=λq=>e (Sum.inr.inj q);rw[decide_eq_false h,decide_eq_false e]
theorem Df(a:Int)(b:Str):decide ((Sum.inl a:bz)=Sum.inr b)=ak:=decide_eq_false (λq=>nomatch q)
theorem Dr(a:Str)(b:Int):decide ((Sum.inr a:bz)=Sum.inl b)=ak:=decide_eq_false (λq=>nomatch q)
def yZ(c:aG)(w:aC):PySem.KeyKind c w bz where
 is:=zy
 hash:=IQ w
 inj:=λv a b l f=>by
  rcases ka l with⟨i,t,rfl,rfl⟩|⟨x,t,rfl,rfl⟩
  .rcases ka f with⟨j,u,rfl,e⟩|⟨y,u,rfl,e⟩
   .injection e with e1 _;rw[e1]
   .exact nomatch e
  .rcases ka f with⟨j,u,rfl,e⟩|⟨y,u,rfl,e⟩
   .exact nomatch e
   .injection e with e1 _;rw[e1]
 byValue:=λk v h=>by rcases ka h with⟨i,t,rfl,rfl⟩|⟨x,t,rfl,rfl⟩ <;> rfl
 pyHash:=λd h=>by
  rcases ka d with⟨i,t,rfl,rfl⟩|⟨x,t,rfl,rfl⟩
  .exact wpAny_pyHash_int h
  .exact wpAny_pyHash_str h
 eqBool:=λg d h=>by
  rcases ka g with⟨i,t,rfl,rfl⟩|⟨x,t,rfl,rfl⟩
  .rcases ka d with⟨j,u,rfl,rfl⟩|⟨y,u,rfl,rfl⟩
   .rw[HZ]at h;exact wpAny_eqBool_int h
   .rw[Df]at h;exact SeqAt.EqAt.int_str i t y u _ _ _ _ h
  .rcases ka d with⟨j,u,rfl,rfl⟩|⟨y,u,rfl,rfl⟩
   .rw[Dr]at h;exact SeqAt.EqAt.str_int x t j u _ _ _ _ h
   .rw[Iq]at h;exact wpAny_eqBool_str h
 «strs»:=λk x t v h=>by
  rcases ka h with⟨i,u,rfl,e⟩|⟨y,u,rfl,e⟩
  .exact nomatch e
  .injection e with e1 _;subst e1;cases v <;> rfl
inductive V where
 |non|bl (b:Bool)|int (i:Int)|str (x:Str)|byt (b:Array UInt8)|flt (b:UInt64)|ref (a:af)|ty (n:String)
 deriving DecidableEq
def RelV:V->ah->Prop
 |.non,u=>u=Value.none
 |.bl b,u=>u=Value.bool b
 |.int i,u=>∃t,u=Value.int i t
 |.str x,u=>∃t,u=Value.str x t
 |.byt b,u=>∃t,u=Value.bytes b t
 |.flt b,u=>∃t,u=Value.float b t
 |.ref a,u=>u=Value.ref a
 |.ty n,u=>u=Value.type n
abbrev bq:List V->List ah->Prop:=iR RelV
theorem bq.length{xs:List V}{a:List ah}(r:bq xs a):xs.length=a.length:=Paired.length r
theorem bq.get:∀{a:List V}{b:List ah}{i:Nat}{x:V},bq a b->a[i]?=aa x->∃u,b[i]?=aa u/\RelV x u
 |_,_,_,_,.nil,e=>by simp at e
 |_,_,0,_,.cons r _,e=>by simp at e;subst e;exact⟨_,rfl,r⟩
 |_,_,i+1,x,.cons _ t,e=>by obtain⟨u,d,c⟩:=bq.get (i:=i) (x:=x) t (by simpa using e);exact⟨u,by simpa using d,c⟩
theorem bq.append:∀{b a:List V}{d c:List ah},bq b d->bq a c->bq (b++a) (d++c)
 |_,_,_,_,.nil,s=>s
 |_,_,_,_,.cons r t,s=>.cons r (bq.append t s)
theorem bq.take:∀{a:List V}{b:List ah} (n:Nat),bq a b->bq (a.take n) (b.take n)
 |_,_,0,_=>.nil
 |_,_,_+1,.nil=>.nil
 |_,_,n+1,.cons r t=>.cons r (bq.take n t)
theorem bq.drop:∀{a:List V}{b:List ah} (n:Nat),bq a b->bq (a.drop n) (b.drop n)
 |_,_,0,r=>r
 |_,_,_+1,.nil=>.nil
 |_,_,n+1,.cons _ t=>bq.drop n t
def nN:Option V->Option ah->Prop
 |some v,aa u=>RelV v u
 |none,ae=>True
 |_,_=>False
def KV{a:Type}:List (a×V)->List (a×ah)->Prop:=iR λ(p:a×V) (q:a×ah)=>p.1=q.1/\RelV p.2 q.2
def kV:bz->V
 |.inl i=>.int i
 |.inr x=>.str x
inductive HO where
 |lst (xs:List V)
 |tup (xs:List V)
 |dK (kvs:List (bz×V))|dT (kvs:List (List bz×V))|dN (kvs:List ((Str×List Str)×V))
 |set (S:Int->Bool) (n:Nat)
 |ins (C dx:af) (fs:List (Str×V))
 |own (x:af)
 |xd (fs:List (Str×V))
 |met (f x:af)
 |rng (lo hi:Int)
 |frz (o:Obj) (u:HO)
 |tbl (q:Str)
 |ext (φ:ax->Prop)
abbrev Hp:=af->Option HO
def upd(H:Hp)(a:af)(o:HO):Hp:=λb=>if b=a then aa o else H b
theorem cB{H:Hp}{a:af}{o:HO}:upd H a o a=aa o:=by unfold upd;rw[if_pos rfl]
theorem bS{H:Hp}{a b:af}{o:HO}(h:b≠a):upd H a o b=H b:=by unfold upd;rw[if_neg h]
theorem B6{H:Hp}{a b:af}{o u:HO}(h:H a=aa o)(c:H b=aa u)(d:o≠u):a≠b:=by intro e;subst e;rw[h]at c;exact d (dO c)
theorem lL{H:Hp}{a b:af}{o:HO}(h:H a=aa o)(c:H b=ae):a≠b:=by
 intro e;subst e;rw[h]at c;cases c
def AL(h:ax)(a:af)(b:Array ah):Prop:=IsTup h a b/\∃o,h.get? a=aa o/\o.dict=ae
theorem AL.new(h:ax)(its:Array ah):AL (h.push {cls:=.type "tuple",data:=.seq its}) h.objs.size its:=⟨IsTup.new _ _,_,bW _ rfl,rfl⟩
section
variable(P:aG)(w:aC)
def xW(k:Str×List Str):Int:=nQ (jC [jB w k.1,nQ (jC (k.2.map (jB w)))])
def lJ(H:Hp)(k:Str×List Str)(a:af):Prop:=∃b,H a=aa (.tup [.str k.1,.ref b])/\H b=aa (.tup (k.2.map .str))
def cN(H:Hp)(h:ax)(a:af):HO->Prop
 |.lst d=>d.length<=aY/\∃(g:List ah) (n:Nat),bq d g/\h.get? a=aa {cls:=.type "list",data:=.seq g.toArray n}
 |.tup d=>d.length<=aY/\∃g:List ah,bq d g/\AL h a g.toArray
 |.dK b=>b.length<=aY/\(a == nR)=ak/\∃A,KV b A/\h.DictOf (yZ P w) a A
 |.dT b=>b.length<=aY/\(a == nR)=ak/\∃d:List (List bz×af×ah),
   iR (λ(p:List bz×V) (q:List bz×af×ah)=>p.1=q.1/\H q.2.1=aa (.tup (p.1.map kV))/\RelV p.2 q.2.2) b d /\
   ∃o j y,h.get? a=aa o/\o.ExactDict/\o.data=.dict j y/\j.toList=d.map (entryOfKey (tupleKind (yZ P w)))/\(d.map (·.1)).Nodup
 |.dN b=>b.length<=aY/\(a == nR)=ak/\∃d:List ((Str×List Str)×af×ah),
   iR (λ(p:(Str×List Str)×V) (q:(Str×List Str)×af×ah)=>p.1=q.1/\lJ H p.1 q.2.1/\RelV p.2 q.2.2) b d /\
   ∃o j y,h.get? a=aa o/\o.ExactDict/\o.data=.dict j y/\j.toList=d.map (λx=>⟨xW w x.1,.ref x.2.1,x.2.2⟩)/\(d.map (·.1)).Nodup
 |.set S n=>h.SetOf (intKind P w) a S n
 |.ins C l fs=>H l=aa (.own a)/\fs.length<=1000/\l≠a/\h.get? a=aa (PySem.W.instObj C l) /\
   ∃i,h.Ns1 l i/\(∀f,nN (fs.lookup f) (i f))/\PySem.Within i (fs.map (·.1))
 |.own _=>∃o,h.get? a=aa o
 |.xd fs=>∃i,h.Ns1 a i/\∀f,nN (fs.lookup f) (i f)
 |.rng E G=>∃t u v,h.get? a=aa {cls:=.type "range",data:=.fields #[.int E t,.int G u,.int 1 v]}
 |.frz o u=>h.get? a=aa o/\cN H h a u
 |.tbl q=>∃r:Array ah,h.get? a=aa {cls:=.none,data:=.fields r}/\TriplesOk r.toList/\∀s z,p8 s r.toList=aa z->∃c,z=.ref c/\H c=aa (.own a)/\h.CodeRec z q
 |.met f x=>h.get? a=aa (AM (.ref f) (.ref x))
 |.ext m=>m h/\(∃o,h.get? a=aa o)/\∀D B:ax,m D->(∀o,D.get? a=aa o->B.get? a=aa o)->m B
def cJ(H:Hp)(h:ax):Prop:=∀a o,H a=aa o->cN P w H h a o
end
section
variable{P:aG}{w:aC}{H j:Hp}{h i:ax}{a:af}{o:HO}
theorem cN.lt(x:cN P w H h a o):a<h.objs.size:=by
 cases o with
 |lst c=>obtain⟨_,_,_,_,e⟩:=x;exact bj e
 |tup c=>obtain⟨_,_,_,p,_⟩:=x;exact p.lt
 |dK b=>obtain⟨_,_,_,_,o,_,_,e,_⟩:=x;exact bj e
 |dT b=>obtain⟨_,_,_,_,o,_,_,e,_⟩:=x;exact bj e
 |dN b=>obtain⟨_,_,_,_,o,_,_,e,_⟩:=x;exact bj e
 |set S n=>obtain⟨o,_,_,_,e,_⟩:=x;exact bj e
 |ins C r fs=>obtain⟨_,_,_,e,_⟩:=x;exact bj e
 |own y=>obtain⟨_,e⟩:=x;exact bj e
 |xd fs=>obtain⟨_,⟨_,_,_,e,_⟩,_⟩:=x;exact bj e
 |rng l m=>obtain⟨_,_,_,e⟩:=x;exact bj e
 |frz g u=>obtain⟨e,_⟩:=x;exact bj e
 |tbl q=>obtain⟨_,e,_⟩:=x;exact bj e
 |met f y=>exact bj (show h.get? a=aa _ from x)
 |ext d=>obtain⟨_,⟨_,e⟩,_⟩:=x;exact bj e
theorem Paired.mapP{l g:Type}{F G:l->g->Prop}:∀{d:List l}{c:List g},iR F d c->(∀a b,F a b->G a b)->iR G d c
 |_,_,.nil,_=>.nil
 |_,_,.cons r t,f=>.cons (f _ _ r) (Paired.mapP t f)
theorem cN.stay(x:cN P w H h a o)(k:∀b u,(b=a\/H b=aa (.own a))->h.get? b=aa u->i.get? b=aa u)(O:∀b,H b=aa (.own a)->j b=aa (.own a)) (M:∀b A,H b=aa (.tup A)->j b=aa (.tup A)):cN P w j i a o:=by
 induction o with
 |lst A=>obtain⟨z,B,n,r,e⟩:=x;exact⟨z,B,n,r,k _ _ (.inl rfl) e⟩
 |tup A=>obtain⟨z,B,r,⟨l,e,c⟩,X,E,Q⟩:=x;exact⟨z,B,r,⟨l,k _ _ (.inl rfl) e,c⟩,X,k _ _ (.inl rfl) E,Q⟩
 |dK D=>obtain⟨z,y,I,r,l,m,s,e,c⟩:=x;exact⟨z,y,I,r,l,m,s,k _ _ (.inl rfl) e,c⟩
 |dT D=>obtain⟨z,y,A,r,l,m,s,e,c⟩:=x;exact⟨z,y,A,Paired.mapP r λp q z=>⟨z.1,M _ _ z.2.1,z.2.2⟩,l,m,s,k _ _ (.inl rfl) e,c⟩
 |dN D=>obtain⟨z,y,A,r,l,m,s,e,c⟩:=x;exact⟨z,y,A,Paired.mapP r λp q z=>⟨z.1,(let ⟨b,G,h2⟩:=z.2.1;⟨b,M _ _ G,M _ _ h2⟩),z.2.2⟩,l,m,s,k _ _ (.inl rfl) e,c⟩
 |set S n=>obtain⟨l,m,s,t,e,c⟩:=x;exact⟨l,m,s,t,k _ _ (.inl rfl) e,c⟩
 |ins C dx fs=>obtain⟨d,z,Y,e,L,⟨K,m,s,E,c⟩,r⟩:=x;exact⟨O _ d,z,Y,k _ _ (.inl rfl) e,L,⟨K,m,s,k _ _ (.inr d) E,c⟩,r⟩
 |own y=>obtain⟨l,e⟩:=x;exact⟨l,k _ _ (.inl rfl) e⟩
 |xd fs=>obtain⟨L,⟨K,m,s,e,c⟩,r⟩:=x;exact⟨L,⟨K,m,s,k _ _ (.inl rfl) e,c⟩,r⟩
 |rng lo hi=>obtain⟨t,u,v,e⟩:=x;exact⟨t,u,v,k _ _ (.inl rfl) e⟩
 |frz l u Z=>obtain⟨e,q⟩:=x;exact⟨k _ _ (.inl rfl) e,Z q⟩
 |tbl q=>
  obtain⟨W,e,t,g⟩:=x;refine⟨W,k a _ (.inl rfl) e,t,λJ cv hc=>?_⟩;obtain⟨c,rfl,G,Q,o,I,T,E,e3,r⟩:=g J cv hc;cases E;exact⟨c,rfl,O c G,c,o,I,T,rfl,k c _ (.inr G) e3,r⟩
 |met f y=>have e:h.get? a=aa (AM (.ref f) (.ref y)):=x;show i.get? a=aa (AM (.ref f) (.ref y));exact k a _ (.inl rfl) e
 |ext φ=>obtain⟨p,⟨o,e⟩,N⟩:=x;exact⟨N _ _ p λo q=>k _ _ (.inl rfl) q,⟨o,k _ _ (.inl rfl) e⟩,N⟩
theorem cJ.lt(x:cJ P w H h)(e:H a=aa o):a<h.objs.size:=(x a o e).lt
theorem cJ.fresh(x:cJ P w H h)(e:h.objs.size<=a):H a=ae:=by
 cases q:H a with
 |none=>rfl
 |some u=>exact absurd (d_ (x.lt q) e) (eC _)
theorem cJ.kept(x:cJ P w H h)(k:∀b u,h.get? b=aa u->i.get? b=aa u):cJ P w H i:=λa o e=>(x a o e).stay (λb u _ q=>k b u q) (λ_ q=>q) λ_ _ q=>q
theorem cJ.laid(x:cJ P w H h)(k:∀b u,h.get? b=aa u->i.get? b=aa u)(g:h.objs.size<=a)(new:cN P w (upd H a o) i a o):cJ P w (upd H a o) i:=λb u e=>by
 have d:=x.fresh g;by_cases f:b=a
 .subst f;rw[cB]at e;cases e;exact new
 .rw[bS f]at e;exact(x b u e).stay (λc v _ q=>k c v q) (λc q=>by rw[bS (lL q d)];exact q) λc l q=>by rw[bS (lL q d)];exact q
end
def Rd(H:Hp)(a:af)(u:HO):Prop:=H a=aa u\/∃o,H a=aa (.frz o u)
theorem Rd.ok{P:aG}{w:aC}{H:Hp}{h:ax}{a:af}{u:HO}(r:Rd H a u)(x:cJ P w H h):cN P w H h a u:=by
 rcases r with r|⟨o,r⟩
 .exact x a u r
 .obtain⟨_,q⟩:=x a _ r;exact q
def o6:Option HO->Prop
 |some (.lst _)=>True
 |some (.dK _)=>True
 |some (.dT _)=>True
 |some (.dN _)=>True
 |some (.set _ _)=>True
 |some (.ins _ _ _)=>True
 |some (.ext _)=>True
 |_=>False
section
variable{P:aG}{w:aC}{H:Hp}{h a:ax}{x e:af}{d:HO}
theorem cJ.write(ok:cJ P w H h)(j:o6 (H x))(p:e=x\/H e=aa (.own x))(k:∀b u,b≠e->h.get? b=aa u->a.get? b=aa u)(s:∃u,a.get? e=aa u)(new:cN P w (upd H x d) a x d):cJ P w (upd H x d) a:=λb u q=>by
 have f:∀c y,H c=aa (.own y)->c≠x:=λc y r z=>by subst z;rw[r]at j;exact j
 have g:∀c i,H c=aa (.tup i)->c≠x:=λc i r z=>by subst z;rw[r]at j;exact j
 by_cases n:b=x
 .subst n;rw[cB]at q;cases q;exact new
 .rw[bS n]at q;by_cases l:b=e
  .have o:H b=aa (.own x):=by
    rcases p with z|z
    .exact absurd (l.trans z) n
    .rw[l];exact z
   rw[q]at o;cases o;obtain⟨v,t⟩:=s;exact⟨v,by rw[l];exact t⟩
  .refine(ok b u q).stay (λc v m r=>k c v ?_ r) (λc r=>by rw[bS (f c b r)];exact r) λc i r=>by rw[bS (g c i r)];exact r
   rcases m with rfl|m
   .exact l
   .rintro rfl;rcases p with z|z
    .exact f c b m z
    .rw[m]at z;cases z;exact n rfl
end
structure Un(fs ex:List af)(H H':Hp)(h h':ax):Prop where
 keep:∀b o,h.get? b=aa o->H b=ae->b∉fs->b∉ex->h'.get? b=aa o
 slot:∀b o,h.get? b=aa o->H b=ae->b∈fs->b∉ex->∃sl,h'.get? b=aa {o with slots:=sl}
 free:∀b o,h.get? b=aa o->H b=ae->b∉ex->H' b=ae
 there:∀b o,h.get? b=aa o->b∉ex->∃o',h'.get? b=aa o'
 tups:∀b xs,H b=aa (.tup xs)->H' b=aa (.tup xs)
 frzs:∀b o u,H b=aa (.frz o u)->H' b=aa (.frz o u)
 tbls:∀b q,H b=aa (.tbl q)->H' b=aa (.tbl q)
section
variable{fs d ex f:List af}{H g j:Hp}{h c i h':ax}{a x e:af}{o:HO}
theorem Un.any(u:Un fs ex H g h c){b:af}{l:Obj}(q:h.get? b=aa l)(n:H b=ae)(m:b∉ex):∃r,c.get? b=aa {l with slots:=r}:=by
 by_cases p:b∈fs
 .exact u.slot b l q n p m
 .exact⟨l.slots,u.keep b l q n p m⟩
theorem Un.kept(k:∀b u,h.get? b=aa u->h'.get? b=aa u):Un fs ex H H h h' :=⟨λb l q _ _ _=>k b l q,λb l q _ _ _=>⟨l.slots,k b l q⟩,λ_ _ _ n _=>n,λb l q _=>⟨l,k b l q⟩,λ_ _ q=>q,λ_ _ _ q=>q,λ_ _ q=>q⟩
theorem Un.refl:Un fs ex H H h h:=Un.kept λ_ _ q=>q
theorem Un.laid(k:∀b u,h.get? b=aa u->h'.get? b=aa u)(p:h.objs.size<=a)(l:H a=ae):Un fs ex H (upd H a o) h h' where
 keep:=λb u q _ _ _=>k b u q
 slot:=λb u q _ _ _=>⟨u.slots,k b u q⟩
 free:=λb u q n _=>by rw[bS (cC (d_ (bj q) p))];exact n
 there:=λb u q _=>⟨u,k b u q⟩
 tups:=λb m q=>by rw[bS (lL q l)];exact q
 frzs:=λb u m q=>by rw[bS (lL q l)];exact q
 tbls:=λb r q=>by rw[bS (lL q l)];exact q
theorem Un.write(l:o6 (H x))(A:e=x\/H e=aa (.own x))(k:∀b u,b≠e->h.get? b=aa u->h'.get? b=aa u)(w:∃u,h'.get? e=aa u):Un fs ex H (upd H x o) h h':=by
 have s:∀b,H b=ae->b≠x:=λb n z=>by subst z;rw[n]at l;exact l
 have t:∀b,H b=ae->b≠e:=λb n z=>by
  subst z;rcases A with r|r
  .exact s b n r
  .rw[n]at r;cases r
 have m:∀b u,H b=aa u->¬o6 (aa u)->b≠x:=λb u q y z=>by subst z;rw[q]at l;exact y l
 refine⟨λb u q n _ _=>k b u (t b n) q,λb u q n _ _=>⟨u.slots,k b u (t b n) q⟩,λb u q n _=>by rw[bS (s b n)];exact n,λb u q _=>?_,
  λb v q=>by rw[bS (m b _ q λz=>z)];exact q,λb u v q=>by rw[bS (m b _ q λz=>z)];exact q,λb B q=>by rw[bS (m b _ q λz=>z)];exact q⟩
 by_cases p:b=e
 .subst p;exact w
 .exact⟨u,k b u p q⟩
end
def sA(h:ax)(H:Hp):List af:=(cq h.objs.size).filter λa=>(H a).isSome
def j7(h:ax)(H:Hp):ax:=PySem.W.hideAll h (sA h H)
theorem BI(h:ax)(H:Hp):(j7 h H).objs.size=h.objs.size:=PySem.W.hideAll_size _ _
theorem E3{h:ax}{H:Hp}{b:af}{o:Obj}(e:h.get? b=aa o)(n:H b=ae):(j7 h H).get? b=aa o :=PySem.W.hideAll_get _ e λa=>by have q:(H b).isSome=ai:=(wm.mp a).2;rw[n]at q;simp at q
theorem Je{h:ax}{H:Hp}{b:af}{o:Obj}(e:(j7 h H).get? b=aa o):h.get? b=aa o/\H b=ae:=by
 have a:h.get? b=aa o:=PySem.W.of_hideAll (sA h H) e;refine⟨a,?_⟩;cases q:H b with
 |none=>rfl
 |some x=>
  have c:b∈sA h H:=wm.mpr ⟨List.mem_range.mpr (bj a),by simp[q]⟩;have z:(j7 h H).get? b=ae:=PySem.W.hideAll_none (sA h H) c;rw[z]at e;cases e
def Gy(g h:ax)(L:af):List (af×Obj):=(cq h.objs.size).filterMap λa=>if a=L\/(g.get? a).isSome=ai then ae else(h.get? a).map λo=>(a,o)
def rest(g h:ax)(L d:af):List (af×Obj):=(Gy g h L).filter λp=>decide (p.1≠d)
structure Mod(K:au)(mg:Str->Option ah)(base:ax):Prop where
 kin:K.In base
 glob:base.Ns bG mg
 blt:∃mb,base.Ns kW mb/\∀x:Str,x≠"__name__"->mb x=c8 x
 nolimit:base.NoLimit
 bm:∃bm ob,mg "__builtins__"=aa (.ref bm)/\bm≠kW/\base.get? bm=aa ob/\ob.cls=.type "module"/\ob.dict=aa kW/\ob.data=.plain
set_option genInjectivity false in
structure Cx where
 prog:aG
 w:aC
 K:au
 mg:Str->Option ah
 base:ax
 A:aH
 N:List Str
 s₀:am
 H₀:Hp
 env:Env
 outer:List Env
 stack:List Env
 ex:List af
 fn:Str->Bool
 calm:Bool
 pn:List (af×Obj)
 xe:ah->am->Prop
def dY(l:List Env):List af:=l.filterMap (·.frame)
abbrev Cx.fs(X:Cx):List af:=dY X.outer
def gm(a:cy)(x:Str):Prop:=a.names.lookup x=aa .local\/a.names.lookup x=aa .cell\/a.names.lookup x=aa .free
def Loc(a:cy)(x:Str):Prop:=a.names.lookup x=aa .local\/a.names.lookup x=aa .cell
def Look(a:Env)(h:ax)(m:Str->Option ah)(x:Str)(u:ah):Prop :=(a.kindOf x=aa .local/\m x=aa u)\/((a.kindOf x=aa .cell\/a.kindOf x=aa .free)/\∃c,a.cells.lookup x=aa c/\h.IsCell c (aa u))
def pR:List Str:=["least_ending"]
def rj(K:au)(H:Hp):Prop:=∀x∈pR,∀c P,iS K x=aa (c,P)->H P=aa (.tbl (x++".<locals>.<lambda>"))
set_option genInjectivity false in
structure Cx.Ok(X:Cx):Prop where
 mod:Mod X.K X.mg X.base
 kind:X.env.scope.kind=.function
 glob:X.env.globals=bG
 blt:X.env.builtins=kW
 above:X.s₀.heap.objs.size<=X.env.locals
 inj:∀x y c,X.env.cells.lookup x=aa c->X.env.cells.lookup y=aa c->x=y
 has:∀x,(X.env.kindOf x=aa .cell\/X.env.kindOf x=aa .free)->∃c,X.env.cells.lookup x=aa c
 cab:∀x c,X.fn x=ai->X.env.cells.lookup x=aa c->X.s₀.heap.objs.size<=c
 hd:X.calm=ai->X.A.handled=ae
 frames:X.A.frames=aa X.stack
 stk:X.stack=X.outer\/(X.stack=X.env::X.outer/\X.env.frame=aa X.env.locals)
 exf:∀b∈X.ex,b≠X.env.locals/\∀x c,X.env.cells.lookup x=aa c->c≠b
 bs:∀b o,X.base.get? b=aa o->X.s₀.heap.get? b=aa o/\X.H₀ b=ae
 bsz:X.base.objs.size<=X.s₀.heap.objs.size
 noex:∀b o,X.base.get? b=aa o->b∉X.ex
 exfs:∀b∈X.ex,b∉X.fs
 funs:X.s₀.heap.FunFrames X.base X.outer
 frf:∀b∈X.fs,X.H₀ b=ae
 tab:rj X.K X.H₀
structure Inv(X:Cx)(ag:List (af×Obj))(σ:List (Option V))(H:Hp)(s:am):Prop where
 ok:X.Ok
 os:s.os=X.s₀.os
 bare:kh s.gens
 base:Un X.fs X.ex X.H₀ H X.s₀.heap s.heap
 loc:∃m,s.heap.Ns X.env.locals m/\∀(i:Nat) (x:Str) (v:V),X.N[i]?=aa x->σ[i]?=aa (aa v)->gm X.env.scope x->∃u,RelV v u/\Look X.env s.heap m x u
 cell:∀x c,X.env.cells.lookup x=aa c->∃v,s.heap.IsCell c v
 free:H X.env.locals=ae
 freeC:∀x c,X.env.cells.lookup x=aa c->H c=ae
 pin:∀p∈X.pn++ag,s.heap.get? p.1=aa p.2/\H p.1=ae/\p.1≠X.env.locals/\p.1∉X.fs/\∀v,p.2.data≠.cell v
 hok:cJ X.prog X.w H s.heap
 len:σ.length=X.N.length
section
variable{X:Cx}{f:List (af×Obj)}{g:List (Option V)}{H w:Hp}{s:am}{h':ax}
theorem Cx.Ok.nofr(ok:X.Ok){b:af}{o:Obj}(e:X.base.get? b=aa o):b∉X.fs:=λa=>by
 have:=(ok.funs.mem a).1;rw[e]at this;cases this
theorem Inv.bs(I:Inv X f g H s):∀b o,X.base.get? b=aa o->s.heap.get? b=aa o/\H b=ae:=λb o e=>⟨I.base.keep b o (I.ok.bs b o e).1 (I.ok.bs b o e).2 (I.ok.nofr e) (I.ok.noex b o e),I.base.free b o (I.ok.bs b o e).1 (I.ok.bs b o e).2 (I.ok.noex b o e)⟩
theorem Inv.bk(I:Inv X f g H s):∀b o,X.base.get? b=aa o->s.heap.get? b=aa o:=λb o e=>(I.bs b o e).1
theorem Inv.mod(I:Inv X f g H s):Mod X.K X.mg X.base:=I.ok.mod
theorem Inv.kIn(I:Inv X f g H s):X.K.In s.heap:=I.ok.mod.kin.keeps I.bk
theorem Inv.lt(I:Inv X f g H s):X.env.locals<s.heap.objs.size:=let ⟨_,hn,_⟩:=I.loc;hn.lt
theorem Inv.sz(I:Inv X f g H s):X.s₀.heap.objs.size<=s.heap.objs.size:=bX I.ok.above (ki I.lt)
theorem Inv.nofs(I:Inv X f g H s){a:af}(h:s.heap.objs.size<=a):a∉X.fs:=λc=>by obtain⟨_,o,b,_⟩:=I.ok.funs.mem c;exact absurd (d_ (bj b) (bX I.sz h)) (eC _)
theorem Inv.cne(I:Inv X f g H s):∀x c,X.env.cells.lookup x=aa c->c≠X.env.locals:=λx c e z=>by
 obtain⟨v,o,b,d⟩:=I.cell x c e;obtain⟨m,⟨i,j,l,h,a,_⟩,_⟩:=I.loc;rw[z,h]at b;cases b;rw[a]at d;cases d
theorem Inv.tab(I:Inv X f g H s):rj X.K H:=λx a c P h=>I.base.tbls P _ (I.ok.tab x a c P h)
theorem Inv.funs(I:Inv X f g H s):s.heap.FunFrames X.base X.outer:=by
 have all:∀(l:List Env),(∀b∈dY l,b∈X.fs)->X.s₀.heap.FunFrames X.base l->s.heap.FunFrames X.base l:=by
  intro l
  induction l with
  |nil=>intro _ _;trivial
  |cons u r i=>intro h p;obtain⟨q,⟨L,o,a,n,m,t⟩,j⟩:=p;have d:L∈X.fs:=h L (by unfold dY;rw[p9,a];exact iT);obtain⟨v,e⟩:=I.base.slot L o m (I.ok.frf L d) d λz=>I.ok.exfs L z d;exact⟨q,⟨L,_,a,n,e,t⟩,i (λb c=>h b (by unfold dY;rw[p9,a];exact iy _ c)) j⟩
 exact all X.outer (λ_ c=>c) I.ok.funs
theorem Inv.stack(I:Inv X f g H s):s.heap.FunFrames X.base X.stack:=by
 rcases I.ok.stk with e|⟨e,b⟩
 .rw[e];exact I.funs
 .rw[e];obtain⟨m,a,_⟩:=I.loc;refine .cons (by rw[I.ok.kind];decide) b a ?_ I.funs;exact sY (bX I.ok.bsz I.ok.above)
theorem Inv.stkSub(I:Inv X f g H s):∀b∈dY X.stack,b∈X.env.locals::X.fs:=λb a=>by
 rcases I.ok.stk with e|⟨e,c⟩
 .rw[e]at a;exact iy _ a
 .rw[e]at a;unfold dY at a;rw[p9,c]at a;exact a
theorem Inv.stkFree(I:Inv X f g H s):∀b∈dY X.stack,H b=ae:=λb a=>by
 rcases bw.mp (I.stkSub b a)with e|a
 .rw[e];exact I.free
 .obtain⟨_,o,c,_⟩:=I.ok.funs.mem a;exact I.base.free b o c (I.ok.frf b a) λz=>I.ok.exfs b z a
theorem Inv.step{g':Array GenState}{t':Nat}{d':Drawn}{ch:List af}(I:Inv X f g H s)(M:∀b∈ch,(b∈X.ex\/X.s₀.heap.objs.size<=b)/\b≠X.env.locals/\(∀x c,X.env.cells.lookup x=aa c->c≠b)/\∀p∈X.pn++f,p.1≠b)(keep:∀b o,b≠X.env.locals->b∉X.fs->b∉ch->s.heap.get? b=aa o->H b=ae->h'.get? b=aa o)(A:∀b o,b≠X.env.locals->b∈X.fs->b∉ch->s.heap.get? b=aa o->H b=ae->∃P,h'.get? b=aa {o with slots:=P}) (free:∀b o,b∉ch->s.heap.get? b=aa o->H b=ae->w b=ae)(B:∀b o,b∉ch->s.heap.get? b=aa o->∃K,h'.get? b=aa K)(G:∀b y,H b=aa (.tup y)->w b=aa (.tup y)) (N:∀b o u,H b=aa (.frz o u)->w b=aa (.frz o u)) (J:∀b q,H b=aa (.tbl q)->w b=aa (.tbl q))(ns:∀m,s.heap.Ns X.env.locals m->h'.Ns X.env.locals m) (Q:cJ X.prog X.w w h') (hg:kh g'):Inv X f g w {s with heap:=h',gens:=g',drawn:=d',toks:=t'}:=by
 have L:∀b o,X.s₀.heap.get? b=aa o->b≠X.env.locals:=λb o e=>cC (d_ (bj e) I.ok.above);have t:∀b o,X.s₀.heap.get? b=aa o->b∉X.ex->b∉ch:=λb o e a C=>by
  rcases(M b C).1 with z|z
  .exact a z
  .exact absurd (d_ (bj e) z) (eC _)
 have j:∀x c,X.env.cells.lookup x=aa c->∀v,s.heap.IsCell c v->h'.IsCell c v:=λx c e v ⟨o,E,S⟩=>by
  have h:c∉ch:=λz=>(M c z).2.2.1 x c e rfl;by_cases hc:c∈X.fs
  .obtain⟨P,q⟩:=A c o (I.cne x c e) hc h E (I.freeC x c e);exact⟨_,q,S⟩
  .exact⟨o,keep c o (I.cne x c e) hc h E (I.freeC x c e),S⟩
 refine⟨I.ok,I.os,hg,⟨λb o e n C a=>?_,λb o e n C a=>?_,λb o e n a=>?_,λb o e a=>?_,λb y e=>G b y (I.base.tups b y e),λb o y e=>N b o y (I.base.frzs b o y e),λb ps e=>?_⟩,?_,λx c e=>?_,?_,λx c e=>?_,λp Z=>?_,Q,I.len⟩
 .exact keep b o (L b o e) C (t b o e a) (I.base.keep b o e n C a) (I.base.free b o e n a)
 .obtain⟨P,D⟩:=I.base.slot b o e n C a;obtain⟨O,T⟩:=A b _ (L b o e) C (t b o e a) D (I.base.free b o e n a);exact⟨O,T⟩
 .obtain⟨K,D⟩:=I.base.there b o e a;exact free b K (t b o e a) D (I.base.free b o e n a)
 .obtain⟨K,D⟩:=I.base.there b o e a;exact B b K (t b o e a) D
 .exact J b _ (I.base.tbls b ps e)
 .obtain⟨m,hn,hl⟩:=I.loc;refine⟨m,ns m hn,λi x v D T e3=>?_⟩;obtain⟨u,r,l⟩:=hl i x v D T e3;refine⟨u,r,?_⟩;rcases l with l|⟨k,c,e,z⟩
  .exact .inl l
  .exact .inr ⟨k,c,e,j x c e _ z⟩
 .obtain⟨v,z⟩:=I.cell x c e;exact⟨v,j x c e v z⟩
 .obtain⟨m,⟨o,_,_,E,_⟩,_⟩:=I.loc;exact free _ o (λz=>(M _ z).2.1 rfl) E I.free
 .obtain⟨v,o,E,S⟩:=I.cell x c e;exact free c o (λz=>(M c z).2.2.1 x c e rfl) E (I.freeC x c e)
 .obtain⟨e,n,Y,W,d⟩:=I.pin p Z;have h:p.1∉ch:=λz=>(M p.1 z).2.2.2 p Z rfl;exact⟨keep p.1 p.2 Y W h e n,free p.1 p.2 h e n,Y,W,d⟩
theorem Inv.un{t':Nat}(I:Inv X f g H s)(u:Un X.fs [] H w s.heap h')(a:cJ X.prog X.w w h'):Inv X f g w {s with heap:=h',toks:=t'}:=by
 obtain⟨m,⟨o,y,A,i,r⟩,_⟩:=id I.loc;obtain⟨t,q⟩:=u.any i I.free (by simp);exact I.step (g':=s.gens) (d':=s.drawn) (ch:=[]) (λ_ z=>nomatch z) (λb o _ c _ e n=>u.keep b o e n c (by simp)) (λb o _ c _ e n=>u.slot b o e n c (by simp)) (λb o _ e n=>u.free b o e n (by simp)) (λb o _ e=>u.there b o e (by simp)) u.tups u.frzs u.tbls (λx p=>by
  obtain⟨v,d,h,j,l⟩:=p;rw[i]at j;cases j;exact⟨_,d,h,q,l⟩) a I.bare
theorem Inv.call{g':Array GenState}{t':Nat}{d':Drawn}{ch:List af}(I:Inv X f g H s)(u:Un (dY X.stack) ch H w s.heap h')(d:cJ X.prog X.w w h')(A:kh g')(l:∀b∈ch,(b∈X.ex\/X.s₀.heap.objs.size<=b)/\b≠X.env.locals/\(∀x c,X.env.cells.lookup x=aa c->c≠b)/\∀p∈X.pn++f,p.1≠b):Inv X f g w {s with heap:=h',gens:=g',drawn:=d',toks:=t'}:=by
 obtain⟨m,⟨o,G,J,q,r⟩,_⟩:=id I.loc;obtain⟨C,h⟩:=u.any q I.free λz=>(l _ z).2.1 rfl;exact I.step (ch:=ch) l (λb o h B a e n=>u.keep b o e n (λz=>(bw.mp (I.stkSub b z)).elim h B) a) (λb o _ _ a e n=>u.any e n a) (λb o a e n=>u.free b o e n a) (λb o a e=>u.there b o e a) u.tups u.frzs u.tbls (λE y=>by
  obtain⟨D,i,j,t,v⟩:=y;rw[q]at t;cases t;exact⟨_,i,j,h,v⟩) d A
theorem Inv.turned{t':Nat}{it:af}(I:Inv X f g H s)(k:∀b o,b≠it->s.heap.get? b=aa o->h'.get? b=aa o)(j:H it=ae)(h:it≠X.env.locals)(B:it∈X.ex\/X.s₀.heap.objs.size<=it) (A:∀x c,X.env.cells.lookup x=aa c->c≠it) (y:∀p∈X.pn++f,p.1≠it):Inv X f g H {s with heap:=h',toks:=t'}:=by
 have d:∀b u,H b=aa u->b≠it:=λb u e z=>by rw[z,j]at e;cases e
 refine I.step (g':=s.gens) (d':=s.drawn) (ch:=[it]) (λb t=>?_) (λb o _ _ a e _=>k b o (λz=>a (by simp[z])) e) (λb o _ _ a e _=>⟨o.slots,k b o (λz=>a (by simp[z])) e⟩) (λ_ _ _ _ n=>n)
  (λb o a e=>⟨o,k b o (λz=>a (by simp[z])) e⟩) (λ_ _ e=>e) (λ_ _ _ e=>e) (λ_ _ e=>e) (λm l=>?_) (λb u e=>?_) I.bare
 .have e:b=it:=by simpa using t
  subst e;exact⟨B,h,A,y⟩
 .obtain⟨o,C,D,i,r⟩:=l;exact⟨o,C,D,k _ o (f9 h) i,r⟩
 .refine(I.hok b u e).stay (λc v a q=>k c v ?_ q) (λ_ q=>q) λ_ _ q=>q;rcases a with z|z
  .rw[z];exact d b u e
  .exact d c _ z
theorem Inv.tok(I:Inv X f g H s)(t:Nat):Inv X f g H {s with toks:=t}:=I.un (h':=s.heap) (t':=t) Un.refl I.hok
theorem Inv.kept{t':Nat}(I:Inv X f g H s)(k:∀b u,s.heap.get? b=aa u->h'.get? b=aa u):Inv X f g H {s with heap:=h',toks:=t'}:=I.un (Un.kept k) (I.hok.kept k)
theorem Inv.laid{a:af}{o:HO}{t':Nat}(I:Inv X f g H s)(k:∀b u,s.heap.get? b=aa u->h'.get? b=aa u)(c:s.heap.objs.size<=a)(new:cN X.prog X.w (upd H a o) h' a o):Inv X f g (upd H a o) {s with heap:=h',toks:=t'}:=I.un (Un.laid k c (I.hok.fresh c)) (I.hok.laid k c new)
theorem Inv.write{x e:af}{o:HO}{h:Nat}(I:Inv X f g H s)(c:o6 (H x))(d:e=x\/H e=aa (.own x))(k:∀b u,b≠e->s.heap.get? b=aa u->h'.get? b=aa u)(a:∃u,h'.get? e=aa u)(new:cN X.prog X.w (upd H x o) h' x o):Inv X f g (upd H x o) {s with heap:=h',toks:=h}:=I.un (Un.write c d k a) (I.hok.write c d k a new)
theorem Inv.pins_of{a:List (af×Obj)}(I:Inv X f g H s)(h:∀p∈a,s.heap.get? p.1=aa p.2/\H p.1=ae/\p.1≠X.env.locals/\p.1∉X.fs/\∀v,p.2.data≠.cell v):Inv X a g H s :=⟨I.ok,I.os,I.bare,I.base,I.loc,I.cell,I.free,I.freeC,λp b=>(g8.mp b).elim (λz=>I.pin p (wn _ z)) (h p),I.hok,I.len⟩
theorem xI{N:List Str}(c:N.Nodup){i j:Nat}{x:Str}(a:N[i]?=aa x)(b:N[j]?=aa x):i=j:=by obtain⟨m,h⟩:=cD.mp a;obtain⟨l,d⟩:=cD.mp b;exact(List.getElem_inj c).mp (h.trans d.symm)
theorem zR{M:Model}{A:aH}{E:ah->am->Prop}{i:Nat}{x:Str}{v:V}{u:ah}{Q:Unit->am->Prop}(I:Inv X f g H s)(hN:X.N.Nodup)(S:X.N[i]?=aa x)(D:Loc X.env.scope x)(r:RelV v u)(h:∀s',Inv X f (g.set i (aa v)) H s'->(∃a,iU a s.heap s'.heap/\(a=X.env.locals\/X.env.cells.lookup x=aa a))->Q () s') (hf:X.fn x=ai\/X.env.scope.names.lookup x=aa .local:=by first|exact .inl rfl|exact .inr rfl|assumption):aq M A (storeName X.env x u) Q E s:=by
 obtain⟨m,hn,hl⟩:=id I.loc;have wY:(X.env.scope.kind == .class||(X.env.scope.kind == .module&&X.env.locals != X.env.globals))=ak:=by rw[I.ok.kind];rfl
 have K:i<g.length:=by rw[I.len];exact(cD.mp S).1
 have cne:=I.cne;have t:∀{a:af}{h':ax},(∃o,s.heap.get? a=aa o/\H a=ae)->iU a s.heap h'->cJ X.prog X.w H h':=λ{a h'} ha l b ob e=>by
  obtain⟨_,_,qo⟩:=ha;refine(I.hok b ob e).stay (λc W C q=>(l.2 c ?_).trans q) (λ_ q=>q) λ_ _ q=>q;rintro rfl;rcases C with rfl|C
  .rw[qo]at e;cases e
  .rw[qo]at C;cases C
 rcases D with J|J
 .refine wpAny_storeName_local J hn (λh' hn' l=>?_) wY;obtain⟨oL,_,_,qz,_⟩:=id hn;refine h _ ⟨I.ok,I.os,I.bare,⟨λb o e n O D=>?_,λb o e n O D=>?_,I.base.free,λb o e D=>?_,I.base.tups,I.base.frzs,I.base.tbls⟩,⟨_,hn',λj y v' B G e3=>?_⟩,λy c e=>?_,I.free,I.freeC,λp hp=>?_,t ⟨oL,qz,I.free⟩ l,by simpa using I.len⟩ ⟨_,l,.inl rfl⟩
  .exact(l.2 b (cC (d_ (bj e) I.ok.above))).trans (I.base.keep b o e n O D)
  .obtain⟨sl,B⟩:=I.base.slot b o e n O D;exact⟨sl,(l.2 b (cC (d_ (bj e) I.ok.above))).trans B⟩
  .obtain⟨o',B⟩:=I.base.there b o e D;exact⟨o',(l.2 b (cC (d_ (bj e) I.ok.above))).trans B⟩
  .by_cases L:j=i
   .subst L;rw[S]at B;cases B;rw[fK K]at G;cases G;exact⟨u,r,.inl ⟨J,by simp⟩⟩
   .rw[dP (f9 L)]at G;obtain⟨u',r',q⟩:=hl j y v' B G e3;refine⟨u',r',?_⟩;rcases q with⟨k,e⟩|⟨k,c,e,z⟩
    .refine .inl ⟨k,?_⟩;have:y≠x:=λe=>L (xI hN B (e ▸ S));simp[this,e]
    .exact .inr ⟨k,c,e,z.sameBut l (cne y c e)⟩
  .obtain⟨W,z⟩:=I.cell y c e;exact⟨W,z.sameBut l (cne y c e)⟩
  .obtain⟨e,n,Y,nf,d⟩:=I.pin p hp;exact⟨(l.2 p.1 Y).trans e,n,Y,nf,d⟩
 .have N:X.fn x=ai:=by
   rcases hf with z|z
   .exact z
   .rw[z]at J;cases J
  obtain⟨c,C⟩:=I.ok.has x (.inl J);obtain⟨W,z⟩:=I.cell x c C;refine wpAny_storeName_cell I.ok.kind J C z (λh' fj l=>?_);obtain⟨oc,mw,P⟩:=id z;refine h {s with heap:=h'} ⟨I.ok,I.os,I.bare,⟨λb o e n O D=>?_,λb o e n O D=>?_,I.base.free,λb o e D=>?_,I.base.tups,I.base.frzs,I.base.tbls⟩,⟨m,hn.sameBut l (f9 (cne x c C)),λj y v' B G e3=>?_⟩,λy Z e=>?_,I.free,I.freeC,λp hp=>?_,t ⟨oc,mw,I.freeC x c C⟩ l,by simpa using I.len⟩ ⟨c,l,.inr C⟩
  .exact(l.2 b (cC (d_ (bj e) (I.ok.cab x c N C)))).trans (I.base.keep b o e n O D)
  .obtain⟨sl,B⟩:=I.base.slot b o e n O D;exact⟨sl,(l.2 b (cC (d_ (bj e) (I.ok.cab x c N C)))).trans B⟩
  .obtain⟨o',B⟩:=I.base.there b o e D;exact⟨o',(l.2 b (cC (d_ (bj e) (I.ok.cab x c N C)))).trans B⟩
  .by_cases L:j=i
   .subst L;rw[S]at B;cases B;rw[fK K]at G;cases G;exact⟨u,r,.inr ⟨.inl J,c,C,fj⟩⟩
   .rw[dP (f9 L)]at G;obtain⟨u',r',q⟩:=hl j y v' B G e3;refine⟨u',r',?_⟩;rcases q with q|⟨k,Z,e,z'⟩
    .exact .inl q
    .refine .inr ⟨k,Z,e,z'.sameBut l ?_⟩;rintro rfl;exact L (xI hN B (I.ok.inj _ _ _ e C ▸ S))
  .by_cases T:Z=c
   .subst T;exact⟨_,fj⟩
   .obtain⟨w2,z2⟩:=I.cell y Z e;exact⟨w2,z2.sameBut l T⟩
  .obtain⟨e,n,Y,nf,d⟩:=I.pin p hp;refine⟨(l.2 p.1 ?_).trans e,n,Y,nf,d⟩;intro q;rw[q,mw]at e;have q':oc=p.2:=dO e;exact d W (by rw[<-q'];exact P)
theorem zC{M:Model}{A:aH}{E:ah->am->Prop}{i:Nat}{x:Str}{v:V}{u:ah}{Q:Unit->am->Prop}(I:Inv X f g H s)(j:X.N.Nodup)(c:X.N[i]?=aa x)(b:Loc X.env.scope x)(r:RelV v u)(h:∀a,Inv X f (g.set i (aa v)) H a->Q () a) (d:X.fn x=ai\/X.env.scope.names.lookup x=aa .local:=by first|exact .inl rfl|exact .inr rfl|assumption):aq M A (storeName X.env x u) Q E s :=zR I j c b r (λa l _=>h a l) d
theorem Inv.call'{s':am}{ch:List af}(I:Inv X f g H s)(i:s'.os=s.os)(u:Un (dY X.stack) ch H w s.heap s'.heap)(a:cJ X.prog X.w w s'.heap)(j:kh s'.gens)(h:∀b∈ch,(b∈X.ex\/X.s₀.heap.objs.size<=b)/\b≠X.env.locals/\(∀x c,X.env.cells.lookup x=aa c->c≠b)/\∀p∈X.pn++f,p.1≠b):Inv X f g w s':=by obtain⟨h',g',d',t',d⟩:=s';have e:d=s.os:=i;subst e;exact I.call (g':=g') (t':=t') (d':=d') u a j h
end
abbrev XK:=ah->Option af->Hp->Prop
abbrev St:=List (Option V)
abbrev VK:=V->Hp->Prop
abbrev TE:=St->Hp->VK->Prop
abbrev TT:=St->Hp->(Bool->Hp->Prop)->Prop
abbrev TA:=St->Hp->(List V->Hp->Prop)->Prop
structure iL where
 nx:St->Hp->Prop
 rt:VK
 bk:St->Hp->Prop:=λ_ _=>False
 ct:St->Hp->Prop:=λ_ _=>False
abbrev TS:=iL->St->Hp->Prop
def EP(X:Cx)(d:List (af×Obj))(b:St)(Q:VK)(u:ah)(c:am):Prop:=∃v a,Inv X d b a c/\RelV v u/\Q v a
def TP(X:Cx)(f:List (af×Obj))(c:St)(Q:Bool->Hp->Prop)(b:Bool)(d:am):Prop:=∃a,Inv X f c a d/\Q b a
def AP(X:Cx)(g:List (af×Obj))(c:St)(Q:List V->Hp->Prop)(d:List ah)(f:am):Prop:=∃a b,Inv X g c b f/\bq a d/\Q a b
def SP(X:Cx)(c:List (af×Obj))(D:iL)(f:Flow)(s':am):Prop :=
 match f with
 |.next=>∃a b,Inv X c a b s'/\D.nx a b
 |.brk=>∃a b,Inv X c a b s'/\D.bk a b
 |.cont=>∃a b,Inv X c a b s'/\D.ct a b
 |.ret u=>∃v a b,Inv X c a b s'/\RelV v u/\D.rt v b
def PE(X:Cx)(e:ay)(t:TE):Prop :=
 ∀(b:List (af×Obj)) (s:am) (a:St) (H:Hp) (Q:VK),Inv X b a H s->t a H Q->aq (ar X.prog X.w) X.A (aK e X.env) (EP X b a Q) X.xe s
def PT(X:Cx)(e:ay)(t:TT):Prop :=
 ∀(b:List (af×Obj)) (s:am) (a:St) (H:Hp) (Q:Bool->Hp->Prop),Inv X b a H s->t a H Q->aq (ar X.prog X.w) X.A (kj e X.env (aK e X.env)) (TP X b a Q) X.xe s
def PW(X:Cx)(e:ay)(t:TT):Prop :=
 ∀(c:Sem ah) (b:List (af×Obj)) (s:am) (a:St) (H:Hp) (Q:Bool->Hp->Prop),Inv X b a H s->t a H Q->aq (ar X.prog X.w) X.A (kj e X.env c) (TP X b a Q) X.xe s
def PA(X:Cx)(d:List ay)(t:TA):Prop :=
 ∀(b:Pos) (c:List (af×Obj)) (s:am) (a:St) (H:Hp) (Q:List V->Hp->Prop),Inv X c a H s->t a H Q->aq (ar X.prog X.w) X.A (spliced (cV b (aM d X.env))) (AP X c a Q) X.xe s
def PS(X:Cx)(c:aX)(t:TS):Prop :=
 ∀(b:List (af×Obj)) (s:am) (a:St) (H:Hp) (D:iL),Inv X b a H s->t D a H->aq (ar X.prog X.w) X.A (exec c X.env) (SP X b D) X.xe s
def jz(X:Cx)(c:List aX)(t:TS):Prop :=
 ∀(b:List (af×Obj)) (s:am) (a:St) (H:Hp) (D:iL),Inv X b a H s->t D a H->aq (ar X.prog X.w) X.A (execs c X.env) (SP X b D) X.xe s
theorem aO{b:Type}{t:Sem b}{Q c:b->am->Prop}{M:Model}{A:aH}{E:ah->am->Prop}{s:am}(h:aq M A t Q E s)(d:∀a s,Q a s->c a s):aq M A t c E s:=c9 h d λ_ _ x=>x
section
variable{X:Cx}
def Ai(i:Nat):TE:=λa H Q=>∃v,a[i]?=aa (aa v)/\Q v H
def tC(v:V):TE:=λ_ H Q=>Q v H
theorem iK{i:Nat}{x:Str}{f:Pos}(p:X.N[i]?=aa x)(j:gm X.env.scope x)(d:(x==("__debug__":Str))=ak:=by decide)(q:(x==("__classdict__":Str))=ak:=by decide):PE X (.Name x f) (Ai i):=by
 intro t s g H Q I h;obtain⟨v,e,h⟩:=h;obtain⟨m,n,o⟩:=I.loc;obtain⟨u,r,l⟩:=o i x v p e j;have b:EP X t g Q u s:=⟨v,H,I,r,h⟩
 rcases l with⟨a,hm⟩|⟨a,c,hc,t4⟩
 .exact sZ (AN I.ok.kind a n hm b) d
 .rcases a with a|a
  .exact sZ (wpAny_loadName_cell I.ok.kind a hc t4 b) d
  .exact sZ (wpAny_loadName_free I.ok.kind a hc t4 b q) d
theorem Is{i j f}:PE X (.Constant (.int i) j f) (tC (.int i)):=λ_ _ _ H _ I h=>wpAny_Constant_int ⟨.int i,H,I.tok _,⟨_,rfl⟩,h⟩
theorem Gc{b j f}:PE X (.Constant (.bool b) j f) (tC (.bl b)):=λ_ _ _ H _ I h=>Constant_bool ⟨.bl b,H,I,rfl,h⟩
theorem Fa{x j f}:PE X (.Constant (.str x) j f) (tC (.str x)):=λ_ _ _ H _ I h=>Calls.Constant_str ⟨.str x,H,I.tok _,⟨_,rfl⟩,h⟩
def Gl(X:Cx)(x:Str):Prop:=X.env.kindOf x=aa .globalImplicit
theorem wb{E:ah->am->Prop}{g:List (af×Obj)}{s:am}{a:St}{H:Hp}{x:Str}{u:ah}{f:Pos}{Q:ah->am->Prop}(I:Inv X g a H s)(c:Gl X x)(b:X.mg x=aa u)(h:Q u s)(d:(x==("__debug__":Str))=ak:=by decide):aq (ar X.prog X.w) X.A (aK (.Name x f) X.env) Q E s :=AO I.ok.kind c (Calls.loadGlobal_global (by rw[I.ok.glob];exact I.mod.glob.keeps I.bk) b h) d
theorem l0{E:ah->am->Prop}{m:List (af×Obj)}{s:am}{a:St}{H:Hp}{x:Str}{u:ah}{f:Pos}{Q:ah->am->Prop}(I:Inv X m a H s)(g:Gl X x)(d:X.mg x=ae)(b:c8 x=aa u)(h:Q u s)(c:x≠"__name__":=by decide) (i:(x==("__debug__":Str))=ak:=by decide):aq (ar X.prog X.w) X.A (aK (.Name x f) X.env) Q E s:=by obtain⟨n,l,j⟩:=I.mod.blt;exact AO I.ok.kind g (Calls.loadGlobal_builtin (by rw[I.ok.glob];exact I.mod.glob.keeps I.bk) d (by rw[I.ok.blt];exact l.keeps I.bk) ((j x c).trans b) h) i
theorem zz{x:Str}{v:V}{u:ah}{f:Pos}(b:Gl X x)(a:X.mg x=aa u)(r:RelV v u)(c:(x==("__debug__":Str))=ak:=by decide):PE X (.Name x f) (tC v) :=λ_ _ _ H _ I h=>wb I b a ⟨v,H,I,r,h⟩ c
theorem EG{x:Str}{v:V}{u:ah}{f:Pos}(d:Gl X x)(c:X.mg x=ae)(a:c8 x=aa u)(r:RelV v u)(b:x≠"__name__":=by decide)(g:(x==("__debug__":Str))=ak:=by decide):PE X (.Name x f) (tC v) :=λ_ _ _ H _ I h=>l0 I d c a ⟨v,H,I,r,h⟩ b g
variable{a b:ay}{g p:TE}{f:Pos}
def PC(X:Cx)(j:CmpOp)(a b:ay)(t:TE):Prop :=
 ∀(i:List (af×Obj)) (s:am) (h:St) (H:Hp) (Q:VK),Inv X i h H s->t h H Q ->
  aq (ar X.prog X.w) X.A (aK a X.env) (λv d=>aq (ar X.prog X.w) X.A (aK b X.env) (λu c=>aq (ar X.prog X.w) X.A (cM j v u) (EP X i h Q) X.xe c) X.xe d) X.xe s
theorem IF(b:ay){c:CmpOp}(h:c≠.In)(d:c≠.NotIn):l_ c b=ak:=by
 have j:(c == CmpOp.In)=ak:=by cases c <;> first|rfl|exact absurd rfl h
 have i:(c == CmpOp.NotIn)=ak:=by cases c <;> first|rfl|exact absurd rfl d
 cases b <;> simp[l_,j,i]
def tB(t:TE):TT:=λd H Q=>t d H λx h=>∃c,x=.bl c/\Q c h
theorem HD{i:CmpOp}{t:TE}(h:PC X i a b t)(j:l_ i b=ak:=by first|exact IF _ (by decide) (by decide)|rfl):PT X (.Compare a [i] [b] f) (tB t):=by
 intro w s l H Q I o;refine wpAny_isTrue_Compare1 (aO (h w s l H _ I o) λv C j=>aO j λu B r=>aO r λc A ⟨x,z,y,m,n⟩=>?_) j;obtain⟨d,rfl,q⟩:=n;cases m;exact kl ⟨z,y,q⟩
theorem Hc{e:ay}{t:TE}(h:PE X e t)(n:∀c,kj e X.env c=(do let v <-c;standAt e.pos;holding [v] (truthy v)):=by intro _;rfl):PT X e (tB t):=by
 intro o s i H Q I m;refine isTrue_plain (aO (h o s i H _ I m) λv w ⟨x,u,r,j,l⟩=>?_) (n _);obtain⟨d,rfl,q⟩:=l;cases j;exact kl ⟨u,r,q⟩
variable{n o:TT}{rest:List ay}
def Cj(t u:TT):TT:=λd H Q=>t d H λc h=>if c=ai then Q ai h else u d h Q
def Ia(t:TT):TT:=λd H Q=>t d H λc h=>Q (!c) h
theorem EX(i:PT X a n):PW X (.BoolOp .Or [a] f) n:=by
 intro l j s d H Q I h;refine isTrue_or (aO (i j s d H Q I h) λc m e=>?_);cases c with
 |false=>exact isTrue_or_nil e
 |true=>exact e
theorem Gi(u:PT X a n)(t:PW X (.BoolOp .Or (b::rest) f) o):PW X (.BoolOp .Or (a::b::rest) f) (Cj n o):=by
 intro q j s d H Q I h;refine isTrue_or (aO (u j s d H _ I h) λc r ⟨m,l,i⟩=>?_);cases c with
 |true=>exact⟨m,l,i⟩
 |false=>exact t q j r d m Q l i
theorem C_(i:PT X a n):PT X (.UnaryOp .Not a f) (Ia n):=by intro j s d H Q I h;exact isTrue_not (i j s d H (λc l=>Q (!c) l) I h)
def C4(g p:TE):TE:=λd H Q=>g d H λx h=>∃c,x=.bl c/\if c=ai then p d h Q else Q (.bl ak) h
def Fw(g:TE):TE:=λd H Q=>g d H λx h=>∃c,x=.bl c/\Q (.bl (!c)) h
theorem DZ{op}{t:TE}(h:PE X a t):PE X (.BoolOp op [a] f) t:=λi s c H Q I d=>BoolOp_one (h i s c H Q I d)
theorem BQ(u:PE X a g)(t:PE X (.BoolOp .And (b::rest) f) p):PE X (.BoolOp .And (a::b::rest) f) (C4 g p):=by
 intro j s i H Q I h;refine BoolOp_and (aO (u j s i H _ I h) λv q ⟨x,m,l,r,d⟩=>?_);obtain⟨c,rfl,d⟩:=d;cases r;refine kl ?_;cases c with
 |true=>exact t j q i m Q l d
 |false=>exact⟨.bl ak,m,l,rfl,d⟩
theorem Hw(l:PE X a g):PE X (.UnaryOp .Not a f) (Fw g):=by
 intro m s i H Q I h;refine UnaryOp_ (aO (l m s i H _ I h) λv t ⟨x,r,q,j,d⟩=>?_);obtain⟨c,rfl,d⟩:=d;cases j;exact not_of (kl ⟨.bl (!c),r,q,rfl,d⟩)
end
def bK(K:au)(H:Hp)(a:af)(c:List V):Prop :=
 Rd H a (.lst c) \/
  ∃(o:Obj) (b:Array ah) (n:Nat),K.lookup a=aa o/\o.cls=.type "list"/\o.dict=ae/\o.data=.seq b n/\b.size<=aY/\bq c b.toList
def bO(K:au)(H:Hp)(a:af)(c:List V):Prop :=
 Rd H a (.tup c) \/
  ∃(o:Obj) (b:Array ah) (n:Nat),K.lookup a=aa o/\o.cls=.type "tuple"/\o.data=.seq b n/\b.size<=aY/\bq c b.toList
def Jg:ah->Option V
 |.none=>aa .non
 |.bool b=>aa (.bl b)
 |.int i _=>aa (.int i)
 |.str x _=>aa (.str x)
 |.bytes b _=>aa (.byt b)
 |.float b _=>aa (.flt b)
 |.ref a=>aa (.ref a)
 |.type n=>aa (.ty n)
 |_=>ae
theorem RelV.abs{x:V}{u:ah}(r:RelV x u):Jg u=aa x:=by
 cases x with
 |non=>cases r;rfl
 |bl _=>cases r;rfl
 |int _=>obtain⟨t,rfl⟩:=r;rfl
 |str _=>obtain⟨t,rfl⟩:=r;rfl
 |byt _=>obtain⟨t,rfl⟩:=r;rfl
 |flt _=>obtain⟨t,rfl⟩:=r;rfl
 |ref _=>cases r;rfl
 |ty _=>cases r;rfl
theorem RelV.inj{x y:V}{u:ah}(r:RelV x u)(q:RelV y u):x=y:=dO (r.abs.symm.trans q.abs)
theorem bq.inj:∀{b a:List V}{c:List ah},bq b c->bq a c->b=a
 |_,_,_,.nil,.nil=>rfl
 |_,_,_,.cons r t,.cons f d=>by rw[r.inj f,bq.inj t d]
section
variable{X:Cx}{g:List (af×Obj)}{c:St}{H:Hp}{s:am}{a:af}{b f:List V}
theorem bK.of{K:au}(h:H a=aa (.lst b)):bK K H a b:=.inl (.inl h)
theorem bO.of{K:au}(h:H a=aa (.tup b)):bO K H a b:=.inl (.inl h)
theorem Inv.list(I:Inv X g c H s)(h:bK X.K H a b):∃its:List ah,bq b its/\PlainL s.heap a its.toArray/\b.length<=aY:=by
 rcases h with h|⟨o,its,n,i,l,j,d,m,r⟩
 .obtain⟨z,its,n,r,e⟩:=h.ok I.hok;exact⟨its,r,⟨_,n,e,rfl,rfl,rfl⟩,z⟩
 .refine⟨its.toList,r,⟨o,n,I.kIn a o i,l,j,by simpa using d⟩,?_⟩;have e:=r.length;simp only[km]at e;lia
theorem Inv.tuple(I:Inv X g c H s)(h:bO X.K H a b):∃d:List ah,bq b d/\IsTup s.heap a d.toArray/\b.length<=aY:=by
 rcases h with h|⟨o,d,n,j,l,i,m,r⟩
 .obtain⟨z,d,r,p,_⟩:=h.ok I.hok;exact⟨d,r,p,z⟩
 .refine⟨d.toList,r,⟨o,I.kIn a o j,l,n,by simpa using i⟩,?_⟩;have e:=r.length;simp only[km]at e;lia
theorem Inv.list_inj(I:Inv X g c H s)(h:bK X.K H a b)(q:bK X.K H a f):b=f:=by
 obtain⟨j,r,⟨o,n,e,_,_,d⟩,_⟩:=I.list h;obtain⟨i,p,⟨t,u,l,_,_,m⟩,_⟩:=I.list q;rw[e]at l;cases l;rw[d]at m;injection m with d1 _;have:j=i:=by simpa using congrArg Array.toList d1
 subst this;exact r.inj p
theorem Inv.tuple_inj(I:Inv X g c H s)(h:bO X.K H a b)(q:bO X.K H a f):b=f:=by
 obtain⟨j,r,⟨o,e,_,n,d⟩,_⟩:=I.tuple h;obtain⟨i,p,⟨t,l,_,u,m⟩,_⟩:=I.tuple q;rw[e]at l;cases l;rw[d]at m;injection m with d1 _;have:j=i:=by simpa using congrArg Array.toList d1
 subst this;exact r.inj p
end
abbrev Cx.wish(X:Cx)(E:ah->am->Prop):Cx:={X with xe:=E}
abbrev Cx.nox(X:Cx):Cx:=X.wish λ_ _=>False
theorem Cx.Ok.wish{X:Cx}(ok:X.Ok)(E:ah->am->Prop):(X.wish E).Ok :=⟨ok.mod,ok.kind,ok.glob,ok.blt,ok.above,ok.inj,ok.has,ok.cab,ok.hd,ok.frames,ok.stk,ok.exf,ok.bs,ok.bsz,ok.noex,ok.exfs,ok.funs,ok.frf,ok.tab⟩
theorem Cx.Ok.unwish{X:Cx}{E:ah->am->Prop}(ok:(X.wish E).Ok):X.Ok :=⟨ok.mod,ok.kind,ok.glob,ok.blt,ok.above,ok.inj,ok.has,ok.cab,ok.hd,ok.frames,ok.stk,ok.exf,ok.bs,ok.bsz,ok.noex,ok.exfs,ok.funs,ok.frf,ok.tab⟩
section
variable{X:Cx}{a:List (af×Obj)}{b:St}{H:Hp}{s:am}{E:ah->am->Prop}
theorem Inv.wish(I:Inv X a b H s)(E:ah->am->Prop):Inv (X.wish E) a b H s:=⟨I.ok.wish E,I.os,I.bare,I.base,I.loc,I.cell,I.free,I.freeC,I.pin,I.hok,I.len⟩
theorem Inv.unwish(I:Inv (X.wish E) a b H s):Inv X a b H s:=⟨I.ok.unwish,I.os,I.bare,I.base,I.loc,I.cell,I.free,I.freeC,I.pin,I.hok,I.len⟩
theorem SP.unwish{D:iL}{f:Flow}{g:am}(h:SP (X.wish E) a D f g):SP X a D f g:=by
 cases f with
 |next=>obtain⟨c,d,I,q⟩:=h;exact⟨c,d,I.unwish,q⟩
 |brk=>obtain⟨c,d,I,q⟩:=h;exact⟨c,d,I.unwish,q⟩
 |cont=>obtain⟨c,d,I,q⟩:=h;exact⟨c,d,I.unwish,q⟩
 |ret u=>obtain⟨v,c,d,I,r,q⟩:=h;exact⟨v,c,d,I.unwish,r,q⟩
end
section
variable{X:Cx}{j:aX}{rest:List aX}{t u:TS}{e:ay}{i:TE}{g:Pos}
def Ef:TS:=λD a H=>D.nx a H
def C8(t u:TS):TS:=λD a H=>t {D with nx:=u D} a H
theorem CP:jz X [] Ef:=λ_ _ a H _ I h=>wpAny_execs_nil ⟨a,H,I,h⟩
theorem BY(m:PS X j t)(l:jz X rest u):jz X (j::rest) (C8 t u):=by
 intro b s c H D I h;refine wpAny_execs_cons (aO (m b s c H {D with nx:=u D} I h) λf d q=>?_);cases f with
 |next=>obtain⟨a,o,n,q⟩:=q;exact l b d a o D n q
 |ret v=>exact q
 |brk=>exact q
 |cont=>exact q
theorem CK(b:PS X j t):jz X [j] t:=by
 intro c s a H D I h;refine wpAny_execs_cons (aO (b c s a H D I h) λf d q=>?_);cases f with
 |next=>exact wpAny_execs_nil q
 |ret v=>exact q
 |brk=>exact q
 |cont=>exact q
theorem Inv.quiet{b:List (af×Obj)}{a:St}{H:Hp}{s:am}(I:Inv X b a H s):interactive X.env=ak:=by simp[interactive,I.ok.kind]
def FO(i:TE):TS:=λD a H=>i a H λ_ b=>D.nx a b
theorem vj(d:PE X e i)(c:iV e ae g.line X.env=pure ak:=by rfl):PS X (.Expr e g) (FO i):=by intro f s a H D I h;exact wpAny_Expr_any (aO (d f s a H _ I h) λv n ⟨x,m,l,o,b⟩=>⟨a,m,l,b⟩) I.quiet c
def Fl(i:TE):TS:=λD a H=>i a H D.rt
theorem rD(d:PE X e i):PS X (.Return (aa e) g) (Fl i):=by intro f s a H D I h;exact wpAny_Return_some (aO (d f s a H _ I h) λv n ⟨x,m,l,b,c⟩=>⟨x,a,m,l,b,c⟩)
def IA(c:TT)(t u:TS):TS:=λD a H=>c a H λb d=>if b=ai then t D a d else u D a d
theorem Im{c:ay}{a b:List aX}{m:TT}(r:PT X c m)(w:jz X a t)(v:jz X b u):PS X (.If c a b g) (IA m t u):=by
 intro l s f H D I h;refine wpAny_If (aO (r l s f H _ I h) λd n ⟨q,p,o⟩=>?_);cases d with
 |true=>exact w l n f q D p o
 |false=>exact v l n f q D p o
end
abbrev TG:=V->St->Hp->(St->Hp->Prop)->Prop
def PG(X:Cx)(a:ay)(t:TG):Prop :=
 ∀(d:List (af×Obj)) (s:am) (c:St) (H:Hp) (v:V) (u:ah) (Q:St->Hp->Prop),Inv X d c H s->RelV v u->t v c H Q ->
  aq (ar X.prog X.w) X.A (assign a X.env u) (λ_ s'=>∃b f,Inv X d b f s'/\Q b f) X.xe s
section
variable{X:Cx}{a:Pos}
def xw(i:Nat):TG:=λv b H Q=>Q (b.set i (aa v)) H
theorem AK{i:Nat}{x:Str}(f:X.N.Nodup)(c:X.N[i]?=aa x)(b:Loc X.env.scope x)(d:X.fn x=ai\/X.env.scope.names.lookup x=aa .local:=by first|exact .inl rfl|exact .inr rfl|assumption):PG X (.Name x a) (xw i):=by intro m s j H v u Q I r h;exact wpAny_assign_Name (zC I f c b r (λl g=>⟨_,H,g,h⟩) d)
def C1(c:TE)(g:TG):TS:=λD b H=>c b H λx d=>g x b d D.nx
theorem Ap{i:Nat}{x:Str}{e:ay}{c:TE}{b:Pos}(p:X.N.Nodup)(m:X.N[i]?=aa x)(j:Loc X.env.scope x)(o:PE X e c)(l:iV e (aa (.Name x b)) a.line X.env=pure ak:=by rfl)(n:X.fn x=ai\/X.env.scope.names.lookup x=aa .local:=by first|exact .inl rfl|exact .inr rfl|assumption):PS X (.Assign [.Name x b] e a) (C1 c (xw i)):=by intro q s d H D I h;refine wpAny_Assign_Name (aO (o q s d H _ I h) λv z ⟨y,u,t,f,g⟩=>?_) l;exact zC t p m j f (λw r=>⟨_,u,r,g⟩) n
end
structure It where
 go:Nat->Hp->Prop
 yld:Nat->Hp->V->Hp->Prop
 stop:Nat->Hp->Prop
def iQ(X:Cx)(a:List (af×Obj))(H:Hp)(b:af):Prop :=
 H b=ae/\b≠X.env.locals/\b∉X.fs/\(b∈X.ex\/X.s₀.heap.objs.size<=b)/\(∀x c,X.env.cells.lookup x=aa c->c≠b)/\∀p∈X.pn++a,p.1≠b
theorem Inv.fpOk{X:Cx}{d:List (af×Obj)}{g:St}{H f:Hp}{s:am}{b:af}(I:Inv X d g H s)(a:s.heap.objs.size<=b)(i:f b=ae):iQ X d f b:=by
 refine⟨i,kX (d_ I.lt a),I.nofs a,.inr (bX I.sz a),λx c e z=>?_,λp h z=>?_⟩
 .obtain⟨v,q⟩:=I.cell x c e;exact absurd (d_ q.lt (by rw[z];exact a)) (eC _)
 .exact absurd (d_ (bj (I.pin p h).1) (by rw[z];exact a)) (eC _)
structure m8(P:aG)(w:aC)(K:au)(tg:ay)(J:It)(fp:List af)(it:af)(tn:Nat->ax->Prop):Prop where
 mem:it∈fp
 obj:∀i h,tn i h->∀b∈fp,∃o,h.get? b=aa o/\∀v,o.data≠.cell v
 keep:∀i h h',tn i h->(∀b∈fp,∀o,h.get? b=aa o->h'.get? b=aa o)->tn i h'
 item:∀(X:Cx),X.prog=P->X.w=w->X.K=K->X.calm=ai->∀(i:Nat) (ag:List (af×Obj)) (s:am) (σ:St) (H:Hp) (E:ah->am->Prop),Inv X ag σ H s->(∀b∈fp,iQ X ag H b)->tn i s.heap->J.go i H ->
  aq (ar P w) X.A (pyNext (.ref it)) (λr s1=>∃u,r=aa u /\ aq (ar P w) X.A (wo tg (.ref it) u) (λ_ s2=>∃x H',Inv X ag σ H' s2/\RelV x u/\J.yld i H x H'/\tn (i+1) s2.heap/\∀b∈fp,H' b=ae) E s1) E s
 done:∀(X:Cx),X.prog=P->X.w=w->X.K=K->X.calm=ai->∀(i:Nat) (ag:List (af×Obj)) (s:am) (σ:St) (H:Hp) (E:ah->am->Prop),Inv X ag σ H s->(∀b∈fp,iQ X ag H b)->tn i s.heap->J.stop i H ->
  aq (ar P w) X.A (pyNext (.ref it)) (λr s1=>r=ae/\Inv X ag σ H s1) E s
 self:∀(A:aH) (i:Nat) (s:am) (Q:ah->am->Prop) (E:ah->am->Prop),tn i s.heap->Q (.ref it) s->aq (ar P w) A (kn (.ref it)) Q E s
abbrev TI:=St->Hp->(It->Hp->Prop)->Prop
def oK(X:Cx)(i:List (af×Obj))(j:St)(l:ay)(R:It->Hp->Prop)(a:ah)(f:am):Prop :=
 ∃(g:af) (h:List af) (d:Nat->ax->Prop) (J:It) (c:Hp),a=.ref g/\Inv X i j c f/\m8 X.prog X.w X.K l J h g d/\d 0 f.heap/\(∀b∈h,iQ X i c b)/\R J c
def PI(X:Cx)(f a:ay)(d:TI):Prop :=
 ∀(c:List (af×Obj)) (s:am) (b:St) (H:Hp) (R:It->Hp->Prop),Inv X c b H s->d b H R ->
  aq (ar X.prog X.w) X.A (aK a X.env) (λv g=>aq (ar X.prog X.w) X.A (kn v) (oK X c b f R) X.xe g) X.xe s
theorem oH{M:Model}{A:aH}{E:ah->am->Prop}{s:am}{c:ay}{d:af}{u:ah}{o:Obj}{n:String}{b:Array ah}{Q:Unit->am->Prop}(f:s.heap.get? d=aa o)(j:o.cls=.type n)(i:o.data=.fields b)(g:["enumerate","zip","dict_itemiterator","dict_reverseitemiterator","odict_iterator","itertools.zip_longest","itertools.pairwise"].contains n=ak) (a:Q () s):aq M A (wo c (.ref d) u) Q E s:=by
 unfold wo;cases c <;> first
  |exact aB a
  | (cases u <;> first
    |exact aB a
    | (refine ap (wpAny_load f ?_)
       rw[j,i];show aq M A (if(["enumerate","zip","dict_itemiterator","dict_reverseitemiterator","odict_iterator","itertools.zip_longest","itertools.pairwise"].contains n&&b[0]? == aa (cH _))=ai then _ else _) Q E s;rw[if_neg (by intro h;rw[g,Bool.false_and]at h;cases h)];exact aB a))
def uy(K:au)(a:af):It :=⟨λi H=>∃b x,bK K H a b/\b[i]?=aa x,λi H x c=>c=H/\∀b,bK K H a b->b[i]?=aa x,λi H=>∃b,bK K H a b/\b.length<=i⟩
def vA(K:au)(a:af):It :=⟨λi H=>∃b x,bO K H a b/\b[i]?=aa x,λi H x c=>c=H/\∀b,bO K H a b->b[i]?=aa x,λi H=>∃b,bO K H a b/\b.length<=i⟩
def pA(a:Int)(n:Nat):It:=⟨λi _=>i<n,λi H x b=>b=H/\x=.int (a+i),λi _=>n<=i⟩
theorem FI{P:aG}{w:aC}{K:au}{S:ay}(a g:af):m8 P w K S (uy K a) [g] g (λi h=>h.IsListIter g a i) where
 mem:=by simp
 obj:=λi h f b j=>by
  have e:b=g:=by simpa using j
  subst e;obtain⟨o,e,c,d⟩:=f;exact⟨o,e,λv z=>by rw[d]at z;cases z⟩
 keep:=λi h n f k=>f.at λo e=>k g (by simp) o e
 item:=by intro X B y C M i O s L H E I m f A;subst B y C;obtain⟨Q,x,l,t⟩:=A;obtain⟨r,q,p,W⟩:=I.list l;obtain⟨u,Z,T⟩:=q.get t;obtain⟨J,G,f2,f3,f4,D⟩:=m g (by simp);refine wpAny_pyNext_list_item f p.isList (x:=u) (by simpa using Z) λn N sb=>?_;have I1:Inv X O L H {s with heap:=n}:=I.turned (t':=s.toks) (λb o j e=>(sb.2 b j).trans e) J G f3 f4 D;obtain⟨o,e,c,d⟩:=id N;exact⟨u,rfl,oH (s:={s with heap:=n}) e c d (by decide) ⟨x,H,I1,T,⟨rfl,λys Y=>by rw[I.list_inj Y l];exact t⟩,N,λb j=>(m b j).1⟩⟩
 done:=by intro X B y C M i O s L H E I m f A;subst B y C;obtain⟨Q,l,t⟩:=A;obtain⟨r,q,p,W⟩:=I.list l;obtain⟨J,G,f2,f3,f4,D⟩:=m g (by simp);have hl:=q.length;exact wpAny_pyNext_list_end (I.ok.hd M) f p.isList (by simp;lia) λn eb=>⟨rfl,I.turned (t':=s.toks) (λb o j e=>eb b o j e) J G f3 f4 D⟩
 self:=λ_ _ _ _ _ f h=>wpAny_pyIter_listiter f h
theorem HA{P:aG}{w:aC}{K:au}{S:ay}(a j:af):m8 P w K S (vA K a) [j] j (λi h=>h.IsTupleIter j a i) where
 mem:=by simp
 obj:=λi h f b l=>by
  have e:b=j:=by simpa using l
  subst e;obtain⟨o,e,c,d⟩:=f;exact⟨o,e,λv z=>by rw[d]at z;cases z⟩
 keep:=λi h q f k=>f.at λo e=>k j (by simp) o e
 item:=by intro X B y C M i O s L H E I n f A;subst B y C;obtain⟨Q,x,m,t⟩:=A;obtain⟨g,r,p,W⟩:=I.tuple m;obtain⟨u,Z,T⟩:=r.get t;obtain⟨J,G,f2,f3,f4,D⟩:=n j (by simp);refine wpAny_pyNext_tuple_item f (show s.heap.IsTuple a g.toArray from p) (x:=u) (by simpa using Z) λq N sb=>?_;have I1:Inv X O L H {s with heap:=q}:=I.turned (t':=s.toks) (λb o l e=>(sb.2 b l).trans e) J G f3 f4 D;obtain⟨o,e,c,d⟩:=id N;exact⟨u,rfl,oH (s:={s with heap:=q}) e c d (by decide) ⟨x,H,I1,T,⟨rfl,λys Y=>by rw[I.tuple_inj Y m];exact t⟩,N,λb l=>(n b l).1⟩⟩
 done:=by intro X B y C M i O s L H E I n f A;subst B y C;obtain⟨Q,m,t⟩:=A;obtain⟨g,r,p,W⟩:=I.tuple m;obtain⟨J,G,f2,f3,f4,D⟩:=n j (by simp);have hl:=r.length;exact wpAny_pyNext_tuple_end (I.ok.hd M) f (show s.heap.IsTuple a g.toArray from p) (by simp;lia) λq eb=>⟨rfl,I.turned (t':=s.toks) (λb o l e=>eb b o l e) J G f3 f4 D⟩
 self:=λ_ _ _ _ _ f h=>wpAny_pyIter_tupleiter f h
theorem EA{P:aG}{w:aC}{K:au}{J:ay}(c:af)(f:Int)(n:Nat):m8 P w K J (pA f n) [c] c (λi h=>wp h c (f+(i:Nat)*1) ((n:Int)-(i:Nat)) 1) where
 mem:=by simp
 obj:=λi h a b d=>by
  have e:b=c:=by simpa using d
  subst e;exact⟨_,a,λv z=>by
   have G:Data.fields _=Data.cell v:=z;cases G⟩
 keep:=λi h j a k=>k c (by simp) _ a
 item:=by intro X q l r p i D s A H E I g a m;subst q l r;obtain⟨y,x,f2,f3,f4,u⟩:=g c (by simp);have W:=Walks.range (prog:=X.prog) (w:=X.w) (I.ok.hd p) c f 1 n;refine W.item i s _ _ m a λv j B M C L=>?_;obtain⟨t,rfl⟩:=M;have O:Inv X D A H {s with heap:=j,toks:=B}:=I.turned (λb o d e=>L b o (by simpa using d) e) y x f3 f4 u;refine⟨_,rfl,oH (s:={s with heap:=j,toks:=B}) (n:="range_iterator") C rfl rfl (by decide) ⟨.int (f+i),H,O,⟨t,?_⟩,⟨rfl,rfl⟩,C,λb d=>(g b d).1⟩⟩;rw[Int.mul_one]
 done:=by intro X q l r p i D s A H E I g a m;subst q l r;obtain⟨y,x,f2,f3,f4,u⟩:=g c (by simp);exact wpAny_pyNext_range_end (I.ok.hd p) a (by have:n<=i:=m;lia) λj N=>⟨rfl,I.turned (t':=s.toks) (λb o d e=>N b o d e) y x f3 f4 u⟩
 self:=λ_ _ _ _ _ a h=>wpAny_pyIter_rangeiter a h
section
variable{X:Cx}{c:ay}
theorem xn{h:List (af×Obj)}{f:St}{H:Hp}{s:am}{R:It->Hp->Prop}{E:ah->am->Prop}{a d:Int}{t u v:Tok}{g:Nat}(I:Inv X h f H s)(p:-(2^62)<=a)(n:a<2^62)(m:-(2^62)<=d)(l:d<2^62)(q:R (pA a (d-a).toNat) H):aq (ar X.prog X.w) X.A (kn (.ref s.heap.objs.size)) (oK X h f c R) E {s with heap:=s.heap.push {cls:=.type "range",data:=.fields #[.int a t,.int d u,.int 1 v]},toks:=g}:=by
 refine wpAny_pyIter_range (IsRange.new ..) (small_one p n m l) ?_;have i:Inv X h f H {s with heap:=s.heap.push {cls:=.type "range",data:=.fields #[.int a t,.int d u,.int 1 v]},toks:=g}:=I.kept λb o e=>a8 _ e;refine⟨(s.heap.push {cls:=.type "range",data:=.fields #[.int a t,.int d u,.int 1 v]}).objs.size,[(s.heap.push {cls:=.type "range",data:=.fields #[.int a t,.int d u,.int 1 v]}).objs.size],_,_,H,rfl,i.kept (t':=g) λb o e=>a8 _ e,EA _ a (d-a).toNat,?_,λb j=>?_,q⟩
 .have w:a+((0:Nat):Int)*1=a:=by simp
  have r:(((d-a).toNat:Nat):Int)-((0:Nat):Int)=wq a d 1:=by rw[rangeSize_one];split <;> lia
  show wp _ _ (a+((0:Nat):Int)*1) ((((d-a).toNat:Nat):Int)-((0:Nat):Int)) 1;rw[w,r];exact bW _ rfl
 .have e:b=(s.heap.push {cls:=.type "range",data:=.fields #[.int a t,.int d u,.int 1 v]}).objs.size:=by simpa using j
  subst e;exact i.fpOk (aT _) (i.hok.fresh (aT _))
def Cb(d:TA):TI:=λa H R=>d a H λb f=>∃j:Int,b=[.int j]/\-(2^62)<=j/\j<2^62/\R (pA 0 j.toNat) f
def EU(d:TA):TI:=λa H R=>d a H λb f=>∃i j:Int,b=[.int i,.int j]/\(-(2^62)<=i/\i<2^62/\-(2^62)<=j/\j<2^62)/\R (pA i (j-i).toNat) f
theorem IK{a:ay}{f:TA}{p b:Pos}(u:Gl X "range")(o:X.mg "range"=ae)(v:PA X [a] f)(n:aM [a] X.env=[(ak,aK a X.env)]:=by rfl):PI X c (.Call (.Name "range" p) [a] [] b) (Cb f):=by
 intro w s g H R I h;refine Call_ (l0 I u o boot_range (wt (aO (v b w s g H _ I h) λz A ⟨y,B,x,l,d⟩=>?_) n rfl));obtain⟨j,e,d,m,q⟩:=d;subst e;cases l with
 |cons r i=>
  cases i;obtain⟨t,rfl⟩:=r;exact call_range_1 (xn x ∅ ∅ d m (by simpa using q))
theorem D4{a b:ay}{l:TA}{p d:Pos}(A:Gl X "range")(z:X.mg "range"=ae)(B:PA X [a,b] l)(y:aM [a,b] X.env=[(ak,aK a X.env),(ak,aK b X.env)]:=by rfl)(m:aM [b] X.env=[(ak,aK b X.env)]:=by rfl):PI X c (.Call (.Name "range" p) [a,b] [] d) (EU l):=by
 intro C s n H R I h;refine Call_ (l0 I A z boot_range (wt (aO (B d C s n H _ I h) λG K ⟨E,L,D,o,g⟩=>?_) (by rw[y,m]) (by rw[m];rfl)));obtain⟨i,j,e,⟨g,x,w,v⟩,q⟩:=g;subst e;cases o with
 |cons r f=>
  cases f with
  |cons u f=>
   cases f;obtain⟨t,rfl⟩:=r;obtain⟨J,rfl⟩:=u;exact call_range_2 (xn D g x w v q)
def Hj(j:TI)(g:TG)(l:TS):TS:=λD a H=>j a H λJ o=>∃W:Nat->Nat->St->Hp->Prop,(∃m,W 0 m a o)/\∀i m a H,W i m a H ->
 (J.stop i H/\D.nx a H)\/(J.go i H/\∃N:St->Hp->Prop,(∀b d,N b d->∃h,h<m/\W (i+1) h b d)/\∀x d,J.yld i H x d->g x a d λf n=>l {D with nx:=N,ct:=N,bk:=D.nx} f n)
def pH(a:List af)(h:ax):List (af×Obj):=a.filterMap λb=>(h.get? b).map λo=>(b,o)
theorem sE{a:List af}{h:ax}{b:af}{o:Obj}(d:b∈a)(e:h.get? b=aa o):(b,o)∈pH a h:=List.mem_filterMap.mpr ⟨b,d,by rw[e];rfl⟩
theorem EL{a:List af}{h:ax}{p:af×Obj}(d:p∈pH a h):p.1∈a/\h.get? p.1=aa p.2:=by
 obtain⟨b,f,e⟩:=List.mem_filterMap.mp d;cases q:h.get? b with
 |none=>rw[q]at e;cases e
 |some o=>rw[q]at e;have g:(b,o)=p:=dO e;subst g;exact⟨f,q⟩
theorem Inv.pinned{f:List (af×Obj)}{g:St}{H:Hp}{s:am}{a:List af}(I:Inv X f g H s)(m:∀b∈a,iQ X f H b)(l:∀b∈a,∃o,s.heap.get? b=aa o/\∀v,o.data≠.cell v):Inv X (f++pH a s.heap) g H s :=
 I.pins_of λp j=>(g8.mp j).elim (λz=>I.pin p (jD _ z)) λz=>by
  obtain⟨h,e⟩:=EL z;obtain⟨q,n,f2,_⟩:=m p.1 h;obtain⟨o,i,d⟩:=l p.1 h;rw[e]at i;cases i;exact⟨e,q,n,f2,d⟩
theorem Inv.unpinned{b d:List (af×Obj)}{a:St}{H:Hp}{s:am}(I:Inv X (b++d) a H s):Inv X b a H s:=I.pins_of λp f=>I.pin p (jD _ (wn _ f))
theorem Fk{q:ay}{C:List aX}{wi:TI}{g:TG}{tb:TS}{Y:Pos}(L:PassesOwn (ar X.prog X.w) X.A X.env X.xe)(hc:X.calm=ai)(hi:PI X c q wi)(hg:PG X c g)(t:jz X C tb)(hs:∀x,ma q X.env x=pure x:=by intro _;rfl):PS X (.For c q C [] Y) (Hj wi g tb):=by
 intro E s σ H D I h;refine wpAny_For (aO (hi E s σ H _ I h) λv s1 h1=>aO h1 λitv s2 h2=>?_) hs;obtain⟨it,O,tn,J,H2,e,I2,T,aL,f2,W,⟨m0,w0⟩,G⟩:=h2;subst e;have p:∀{A:Hp},(∀b∈O,A b=ae)->∀b∈O,iQ X E A b:=λhn b t=>⟨hn b t,(f2 b t).2⟩
 refine codeAny_forLoop_any (λn s'=>∃i l A,Inv X E l A s'/\tn i s'.heap/\(∀b∈O,A b=ae)/\W i n l A) ?_ m0 ⟨0,σ,H2,I2,aL,λb t=>(f2 b t).1,w0⟩;rintro n s3 ⟨i,j,P,I3,a_,M,w3⟩;rcases G i n j P w3 with⟨stop,qn⟩|⟨go,N,hN,step⟩
 .refine s_ L (aO (T.done X rfl rfl rfl hc i E s3 j P X.xe I3 (p M) a_ stop) λr s4 ⟨Z,I4⟩=>?_);subst Z;exact wpAny_execs_nil ⟨j,P,I4,qn⟩
 .refine s_ L (aO (T.item X rfl rfl rfl hc i E s3 j P X.xe I3 (p M) a_ go) λr s4 ⟨u,Z,h4⟩=>?_);subst Z;refine s_ L (aO h4 λ_ s5 ⟨x,H5,I5,r5,y5,bt,fr5⟩=>?_);have I5':=I5.pinned (p fr5) (T.obj _ _ bt);refine s_ L (aO (hg _ s5 j H5 x u _ I5' r5 (step x H5 y5)) λ_ s6 ⟨Q,H6,I6,q6⟩=>?_);refine s_ L (aO (t _ s6 Q H6 _ I6 q6) λf S B=>?_);have w:∀{a:St}{z:Hp},Inv X (E++pH O s5.heap) a z S->N a z->∃m,m<n/\∃i l A,Inv X E l A S/\tn i S.heap/\(∀b∈O,A b=ae)/\W i m l A:=λ{a z} y K=>by obtain⟨m',hm,w7⟩:=hN a z K;refine⟨m',hm,i+1,a,z,y.unpinned,T.keep _ _ _ bt λb t o e=>(y.pin (b,o) (jD _ (jD _ (sE t e)))).1,λb t=>?_,w7⟩;obtain⟨o,e,d⟩:=T.obj _ _ bt b t;exact(y.pin (b,o) (jD _ (jD _ (sE t e)))).2.1
  cases f with
  |next=>obtain⟨a,z,y,K⟩:=B;exact w y K
  |cont=>obtain⟨a,z,y,K⟩:=B;exact w y K
  |brk=>obtain⟨a,z,y,B⟩:=B;exact⟨a,z,y.unpinned,B⟩
  |ret v=>obtain⟨x7,a,z,y,r7,B⟩:=B;exact⟨x7,a,z,y.unpinned,r7,B⟩
end
abbrev R2:=V->V->Hp->VK->Prop
def bp(X:Cx)(f:ah->ah->Sem ah)(r:R2):Prop :=
 ∀(b:List (af×Obj)) (s:am) (a:St) (H:Hp) (x y:V) (v u:ah) (Q:VK),Inv X b a H s->RelV x v->RelV y u->r x y H Q ->
  aq (ar X.prog X.w) X.A (f v u) (EP X b a Q) X.xe s
def sU(X:Cx)(f:ah->Sem ah)(r:V->Hp->VK->Prop):Prop :=
 ∀(b:List (af×Obj)) (s:am) (a:St) (H:Hp) (x:V) (v:ah) (Q:VK),Inv X b a H s->RelV x v->r x H Q ->
  aq (ar X.prog X.w) X.A (f v) (EP X b a Q) X.xe s
def fQ(X:Cx)(f:ah)(r:List V->Hp->VK->Prop):Prop :=
 ∀(d:List (af×Obj)) (s:am) (a:St) (H:Hp) (b:List V) (c:List ah) (Q:VK),Inv X d a H s->bq b c->r b H Q ->
  aq (ar X.prog X.w) X.A (call f c) (EP X d a Q) X.xe s
def rz(r:R2)(c b:TE):TE:=λa H Q=>c a H λx f=>b a f λy d=>r x y d Q
def G9(r:V->Hp->VK->Prop)(b:TE):TE:=λa H Q=>b a H λx c=>r x c Q
def rI(C:Int->Int->Prop)(g:Int->Int->V):R2:=λx y H Q=>∃i j,x=.int i/\y=.int j/\C i j/\Q (g i j) H
def iG(g:Int->Int->V):R2:=λx y H Q=>∃i j,x=.int i/\y=.int j/\Q (g i j) H
def rU(g:Int->V):V->Hp->VK->Prop:=λx H Q=>∃i,x=.int i/\Q (g i) H
section
variable{X:Cx}{a b c:ay}{d m n:TE}{l:Pos}
theorem v4(E:PE X a d)(D:PE X b m){q:List (af×Obj)}{s:am}{g:St}{H:Hp}{R:V->V->Hp->Prop}(I:Inv X q g H s)(h:d g H λx r=>m g r λy i=>R x y i) {Q:ah->am->Prop}{f:ah->ah->Sem ah}(C:∀v u p x y i,Inv X q g i p->RelV x v->RelV y u->R x y i->aq (ar X.prog X.w) X.A (f v u) Q X.xe p):aq (ar X.prog X.w) X.A (aK a X.env) (λv o=>aq (ar X.prog X.w) X.A (aK b X.env) (λu j=>aq (ar X.prog X.w) X.A (f v u) Q X.xe j) X.xe o) X.xe s:=by refine aO (E q s g H _ I h) λv t ⟨x,r,J,z,B⟩=>?_;refine aO (D q t g r _ J B) λu p ⟨y,i,G,w,A⟩=>?_;exact C v u p x y i G z w A
theorem BH{f:Operator}{r:R2}(p:bp X (fL f) r)(w:PE X a d)(t:PE X b m):PE X (.BinOp a f b l) (rz r d m):=by intro z s g H Q I h;exact wpAny_BinOp (v4 w t I h λv u i x y B A o j q=>p z i g B x y v u Q A o j q)
theorem Hn{g:UnaryOp}{r:V->Hp->VK->Prop}(q:sU X (unaryOp g) r)(t:PE X a d):PE X (.UnaryOp g a l) (G9 r d):=by intro i s f H Q I h;exact UnaryOp_ (aO (t i s f H _ I h) λv j ⟨x,w,u,o,p⟩=>q i j f w x v Q u o p)
theorem vB{f:ah->ah->Sem ah}{C:Int->Int->Prop}{g:Int->Int->Int}(o:∀(i j:Int) (t u:Tok) (s:am) (Q:ah->am->Prop) (E:ah->am->Prop),C i j->Q (.int (g i j) s.toks) {s with toks:=s.toks+1}->aq (ar X.prog X.w) X.A (f (.int i t) (.int j u)) Q E s):bp X f (rI C λi j=>.int (g i j)):=by intro B s A H x y v u Q I w r h;obtain⟨i,j,rfl,rfl,z,q⟩:=h;obtain⟨t,rfl⟩:=w;obtain⟨p,rfl⟩:=r;exact o i j t p s _ _ z ⟨.int (g i j),H,I.tok _,⟨_,rfl⟩,q⟩
theorem zb{f:ah->ah->Sem ah}{g:Int->Int->Int}(o:∀(i j:Int) (t u:Tok) (s:am) (Q:ah->am->Prop) (E:ah->am->Prop),Q (.int (g i j) s.toks) {s with toks:=s.toks+1}->aq (ar X.prog X.w) X.A (f (.int i t) (.int j u)) Q E s):bp X f (iG λi j=>.int (g i j)):=by intro A s z H x y v u Q I w r h;obtain⟨i,j,rfl,rfl,q⟩:=h;obtain⟨t,rfl⟩:=w;obtain⟨p,rfl⟩:=r;exact o i j t p s _ _ ⟨.int (g i j),H,I.tok _,⟨_,rfl⟩,q⟩
theorem sX{f:ah->ah->Sem ah}{g:Int->Int->Bool}(o:∀(i j:Int) (t u:Tok) (s:am) (Q:ah->am->Prop) (E:ah->am->Prop),Q (.bool (g i j)) s->aq (ar X.prog X.w) X.A (f (.int i t) (.int j u)) Q E s):bp X f (iG λi j=>.bl (g i j)):=by intro A s z H x y v u Q I w r h;obtain⟨i,j,rfl,rfl,q⟩:=h;obtain⟨t,rfl⟩:=w;obtain⟨p,rfl⟩:=r;exact o i j t p s _ _ ⟨.bl (g i j),H,I,rfl,q⟩
def yA(i j:Int):Prop:=0<=j/\j<=1000000/\i.natAbs<2^64
def vr(i j:Int):Prop:=(-(2^64)<i/\i<2^64)\/(-(2^64)<j/\j<2^64)
theorem vr.ok{i j:Int}(h:vr i j):IntMulOk i j:=by
 rcases h with⟨h1,h2⟩|⟨h1,h2⟩
 .exact .of_left (intBits_le_64 h1 h2)
 .exact .of_right (intBits_le_64 h1 h2)
theorem JK:bp X (fL .Add) (iG λi j=>.int (i+j)):=zb λ_ _ _ _ _ _ _ q=>add_int q
theorem uo:bp X (fL .Sub) (iG λi j=>.int (i-j)):=zb λ_ _ _ _ _ _ _ q=>sub_int q
theorem Jz:bp X (fL .Mult) (rI vr λi j=>.int (i*j)):=vB λ_ _ _ _ _ _ _ f q=>mul_int q f.ok
theorem oP:bp X (fL .Mod) (rI (λ_ j=>0<j) λi j=>.int (i % j)):=vB λi j _ _ _ _ _ f q=>by have g:(0:Int)<j:=f;exact mod_int' ∅ (by rw[Int.fmod_eq_emod_of_nonneg i ∅];exact q)
theorem Hq:bp X (fL .Pow) (rI yA λi j=>.int (i^j.toNat)):=vB λ_ _ _ _ _ _ _ f q=>pow_int_small f.1 f.2.1 f.2.2 q
theorem B2{f:ah->Sem ah}{g:Int->Int}(j:∀(i:Int) (t:Tok) (s:am) (Q:ah->am->Prop) (E:ah->am->Prop),Q (.int (g i) s.toks) {s with toks:=s.toks+1}->aq (ar X.prog X.w) X.A (f (.int i t)) Q E s):sU X f (rU λi=>.int (g i)):=by intro r s p H x v Q I o h;obtain⟨i,rfl,q⟩:=h;obtain⟨t,rfl⟩:=o;exact j i t s _ _ ⟨.int (g i),H,I.tok _,⟨_,rfl⟩,q⟩
theorem D1:sU X (unaryOp .USub) (rU λi=>.int (-i)):=B2 λ_ _ _ _ _ q=>neg_int q
end
def lW:V->V->Bool
 |.non,.non=>ai|.non,.int _=>ai|.int _,.non=>ai|.non,.bl _=>ai|.bl _,.non=>ai|.non,.str _=>ai|.str _,.non=>ai
 |.int _,.int _=>ai|.bl _,.bl _=>ai|.str _,.str _=>ai|.byt _,.byt _=>ai
 |.int _,.str _=>ai|.str _,.int _=>ai|.bl _,.str _=>ai|.str _,.bl _=>ai
 |_,_=>ak
def zp:R2:=λx y H Q=>lW x y=ai/\Q (.bl (decide (x=y))) H
def yH:R2:=λx y H Q=>lW x y=ai/\Q (.bl (!decide (x=y))) H
theorem ze{i j:Int}:decide (V.int i=V.int j)=(i == j):=by rw[kY];simp
theorem yL{i j:Bool}:decide (V.bl i=V.bl j)=(i == j):=by rw[kY];simp
theorem ye{i j:Str}:decide (V.str i=V.str j)=(i == j):=by rw[kY];simp
theorem AE{i j:Array UInt8}:decide (V.byt i=V.byt j)=(i.toList == j.toList):=by
 rw[kY];cases i;cases j;simp
section
variable{X:Cx}{a b c:ay}{l g o:TE}{m:Pos}
theorem b9{h:List (af×Obj)}{d:St}{H:Hp}{s:am}{Q:VK}{k f:Bool}(I:Inv X h d H s)(q:Q (.bl k) H)(e:k=f):EP X h d Q (.bool f) s:=by subst e;exact⟨.bl k,H,I,rfl,q⟩
theorem JG:bp X (cM .Eq) zp:=by
 intro w s r H x y v u Q I p d h;obtain⟨n,q⟩:=h;cases x with
 |non=>
  cases p;cases y with
  |non=>cases d;exact PySem.EqNone.eq_none_none (b9 I q (by simp))
  |bl j=>cases d;exact PySem.EqNone.eq_none_bool (b9 I q (by simp))
  |int j=>obtain⟨f,rfl⟩:=d;exact PySem.EqNone.eq_none_int (b9 I q (by simp))
  |str j=>obtain⟨f,rfl⟩:=d;exact PySem.EqNone.eq_none_str (b9 I q (by simp))
  |_=>exact absurd (show ak=ai from n) dQ
 |bl i=>
  cases p;cases y with
  |non=>cases d;exact PySem.EqNone.eq_bool_none (b9 I q (by simp))
  |bl j=>cases d;exact eq_bool (b9 I q yL)
  |str j=>obtain⟨f,rfl⟩:=d;exact PySem.EqMixed.eq_bool_str (b9 I q (by simp))
  |_=>exact absurd (show ak=ai from n) dQ
 |int i=>
  obtain⟨t,rfl⟩:=p;cases y with
  |non=>cases d;exact PySem.EqNone.eq_int_none (b9 I q (by simp))
  |int j=>obtain⟨f,rfl⟩:=d;exact eq_int (b9 I q ze)
  |str j=>obtain⟨f,rfl⟩:=d;exact PySem.EqMixed.eq_int_str (b9 I q (by simp))
  |_=>exact absurd (show ak=ai from n) dQ
 |str i=>
  obtain⟨t,rfl⟩:=p;cases y with
  |non=>cases d;exact PySem.EqNone.eq_str_none (b9 I q (by simp))
  |bl j=>cases d;exact PySem.EqMixed.eq_str_bool (b9 I q (by simp))
  |int j=>obtain⟨f,rfl⟩:=d;exact PySem.EqMixed.eq_str_int (b9 I q (by simp))
  |str j=>obtain⟨f,rfl⟩:=d;exact eq_str (b9 I q ye)
  |_=>exact absurd (show ak=ai from n) dQ
 |byt i=>
  obtain⟨t,rfl⟩:=p;cases y with
  |byt j=>obtain⟨f,rfl⟩:=d;exact PySem.W.eq_bytes (b9 I q AE)
  |_=>exact absurd (show ak=ai from n) dQ
 |_=>cases y <;> exact absurd (show ak=ai from n) dQ
theorem JU:bp X (cM .NotEq) yH:=by
 intro w s r H x y v u Q I p d h;obtain⟨n,q⟩:=h;cases x with
 |non=>
  cases p;cases y with
  |non=>cases d;exact PySem.EqNone.ne_none_none (b9 I q (by simp))
  |bl j=>cases d;exact PySem.EqNone.ne_none_bool (b9 I q (by simp))
  |int j=>obtain⟨f,rfl⟩:=d;exact PySem.EqNone.ne_none_int (b9 I q (by simp))
  |str j=>obtain⟨f,rfl⟩:=d;exact PySem.EqNone.ne_none_str (b9 I q (by simp))
  |_=>exact absurd (show ak=ai from n) dQ
 |bl i=>
  cases p;cases y with
  |non=>cases d;exact PySem.EqNone.ne_bool_none (b9 I q (by simp))
  |bl j=>cases d;exact ne_bool (b9 I q (congrArg not yL))
  |str j=>obtain⟨f,rfl⟩:=d;exact PySem.EqMixed.ne_bool_str (b9 I q (by simp))
  |_=>exact absurd (show ak=ai from n) dQ
 |int i=>
  obtain⟨t,rfl⟩:=p;cases y with
  |non=>cases d;exact PySem.EqNone.ne_int_none (b9 I q (by simp))
  |int j=>obtain⟨f,rfl⟩:=d;exact ne_int (b9 I q (congrArg not ze))
  |str j=>obtain⟨f,rfl⟩:=d;exact PySem.EqMixed.ne_int_str (b9 I q (by simp))
  |_=>exact absurd (show ak=ai from n) dQ
 |str i=>
  obtain⟨t,rfl⟩:=p;cases y with
  |non=>cases d;exact PySem.EqNone.ne_str_none (b9 I q (by simp))
  |bl j=>cases d;exact PySem.EqMixed.ne_str_bool (b9 I q (by simp))
  |int j=>obtain⟨f,rfl⟩:=d;exact PySem.EqMixed.ne_str_int (b9 I q (by simp))
  |str j=>obtain⟨f,rfl⟩:=d;exact ne_str (b9 I q (congrArg not ye))
  |_=>exact absurd (show ak=ai from n) dQ
 |byt i=>
  obtain⟨t,rfl⟩:=p;cases y with
  |byt j=>obtain⟨f,rfl⟩:=d;exact PySem.W.ne_bytes (b9 I q (congrArg not AE))
  |_=>exact absurd (show ak=ai from n) dQ
 |_=>cases y <;> exact absurd (show ak=ai from n) dQ
theorem Hv:bp X (cM .Lt) (iG λi j=>.bl (decide (i<j))):=sX λ_ _ _ _ _ _ _ q=>lt_int q
theorem mJ:bp X (cM .LtE) (iG λi j=>.bl (decide (i<=j))):=sX λ_ _ _ _ _ _ _ q=>le_int q
theorem Ey:bp X (cM .Gt) (iG λi j=>.bl (decide (j<i))):=sX λ_ _ _ _ _ _ _ q=>gt_int q
theorem Fu:bp X (cM .GtE) (iG λi j=>.bl (decide (j<=i))):=sX λ_ _ _ _ _ _ _ q=>ge_int q
theorem JC:bp X (cM .In) (λx y H Q=>∃i j,x=.str i/\y=.str j/\Q (.bl (!(AQ j i 0 j.length 1).isEmpty)) H):=by intro r s n H x y v u Q I f d h;obtain⟨i,j,rfl,rfl,q⟩:=h;obtain⟨t,rfl⟩:=f;obtain⟨p,rfl⟩:=d;exact in_str (b9 I q rfl)
theorem bp.or{f:ah->ah->Sem ah}{r n:R2}(h:bp X f r)(t:bp X f n):bp X f (λx y H Q=>r x y H Q\/n x y H Q):=by
 intro p s d H x y v u Q I j i q;rcases q with q|q
 .exact h p s d H x y v u Q I j i q
 .exact t p s d H x y v u Q I j i q
theorem G6{d:CmpOp}{r:R2}(p:bp X (cM d) r)(z:PE X a l)(w:PE X b g)(t:l_ d b=ak):PE X (.Compare a [d] [b] m) (rz r l g):=by intro A s f H Q I h;exact wpAny_Compare1 (v4 z w I h λv u i x y C B n j q=>p A i f C x y v u Q B n j q) t
def yR(t:TE):TT:=λd H Q=>t d H λx f=>∃k,x=.bl k/\Q k f
theorem D9{f:CmpOp}{r:R2}(C:bp X (cM f) r)(G:PE X a l)(E:PE X b g)(D:l_ f b=ak):PT X (.Compare a [f] [b] m) (yR (rz r l g)):=by
 intro i s d H Q I h;refine wpAny_isTrue_Compare1 (aO (G i s d H _ I h) λv n ⟨x,O,L,t,B⟩=>aO (E i n d O _ L B) λu j ⟨y,N,K,q,A⟩=>aO (C i j d N x y v u _ K t q A) λc P ⟨z,M,J,p,k,e,w⟩=>?_) D;subst e;cases p;exact kl ⟨M,J,w⟩
def uB(r i:R2)(l g o:TE):TE:=λd H Q=>l d H λx p=>g d p λy n=>r x y n λz f=>∃k,z=.bl k /\
 (if k=ai then o d f λh j=>i y h j Q else Q (.bl ak) f)
theorem Gj{n f:CmpOp}{r q:R2}(S:bp X (cM n) r)(gc:bp X (cM f) q)(Z:PE X a l)(Y:PE X b g)(W:PE X c o)(T:lastMarks [n,f] [b,c]=ak:=by with_unfolding_all rfl):PE X (.Compare a [n,f] [b,c] m) (uB r q l g o):=by
 intro j s i H Q I h;refine Compare_chain (aO (Z j s i H _ I h) λv J ⟨x,H1,I1,M,P⟩=>chain_link (aO (Y j J i H1 _ I1 P) λu G ⟨y,H2,I2,p,O⟩=>aO (S j G i H2 x y v u _ I2 M p O) λd E ⟨z,A,w,L,k,e,t⟩=>?_)) T;subst e;cases L;refine kl ?_;cases k with
 |false=>exact ite_ff ⟨.bl ak,A,w,rfl,t⟩
 |true=>exact ite_tt (chain_last (aO (W j E i A _ w t) λC D ⟨B,H4,I4,K,N⟩=>gc j D i H4 y B u C Q I4 p K N))
theorem GF{n f:CmpOp}{r q:R2}(Y:bp X (cM n) r)(gc:bp X (cM f) q)(ha:PE X a l)(hb:PE X b g)(hc:PE X c o)(Z:lastMarks [n,f] [b,c]=ak:=by with_unfolding_all rfl):PT X (.Compare a [n,f] [b,c] m) (yR (uB r q l g o)):=by
 intro j s i H Q I h;refine isTrue_chain (aO (ha j s i H _ I h) λv J ⟨x,H1,I1,N,T⟩=>test_link (aO (hb j J i H1 _ I1 T) λu G ⟨y,H2,I2,p,S⟩=>aO (Y j G i H2 x y v u _ I2 N p S) λd E ⟨z,A,w,M,k,e,t⟩=>?_)) Z;subst e;cases M;refine kl ?_;cases k with
 |false=>
  obtain⟨k',e',W⟩:=t;cases e';exact ite_ff ⟨A,w,W⟩
 |true=>
  refine ite_tt (test_last (aO (hc j E i A _ w t) λC D ⟨B,H4,I4,L,P⟩=>aO (gc j D i H4 y B u C _ I4 p L P) λd' s5 ⟨z2,H5,I5,K,k2,e2,O⟩=>?_));subst e2;cases K;exact kl ⟨H5,I5,O⟩
theorem o9:(aY:Nat)<2^63:=by rw[kZ];decide
theorem Dv:bp X (fL .Add) (λx y H Q=>∃i j,x=.str i/\y=.str j/\i.length+j.length<=aY/\Q (.str (i++j)) H):=by intro z s r H x y v u Q I n f h;obtain⟨i,j,rfl,rfl,p,q⟩:=h;obtain⟨t,rfl⟩:=n;obtain⟨d,rfl⟩:=f;exact add_str (λd w=>⟨.str (i++j),H,I.tok _,⟨_,rfl⟩,q⟩) p
theorem vals1{x:V}{d:List ah}(r:bq [x] d):∃u,d=[u]/\RelV x u:=by
 cases r with
 |cons h f=>cases f;exact⟨_,rfl,h⟩
def yd(K:au)(x:V)(H:Hp)(n:Nat):Prop :=
 match x with
 |.str y=>y.length<=aY/\n=y.length
 |.byt y=>y.size<=aY/\n=y.size
 |.ref p=>(∃d,bK K H p d/\n=d.length)\/∃d,bO K H p d/\n=d.length
 |_=>False
theorem ip:fQ X (.builtin "len") (λd H Q=>∃x n,d=[x]/\yd X.K x H n/\Q (.int n) H):=by
 intro J s C H d D Q I r h;obtain⟨x,n,rfl,e,q⟩:=h;obtain⟨u,rfl,i⟩:=vals1 r;have G:=o9;have E:aY=16777216:=kZ;cases x with
 |str y=>obtain⟨t,rfl⟩:=i;obtain⟨B,f⟩:y.length<=aY/\n=y.length:=e;subst f;exact len_str ∅ ⟨.int _,H,I.tok _,⟨_,rfl⟩,q⟩
 |byt y=>obtain⟨t,rfl⟩:=i;obtain⟨B,f⟩:y.size<=aY/\n=y.size:=e;subst f;exact PySem.W.len_bytes ∅ ⟨.int _,H,I.tok _,⟨_,rfl⟩,q⟩
 |ref p=>
  cases i;have f:(∃d,bK X.K H p d/\n=d.length)\/∃d,bO X.K H p d/\n=d.length:=e;rcases f with⟨d,hx,f⟩|⟨d,hx,f⟩
  .subst f;obtain⟨w,j,v,A⟩:=I.list hx;have z:=j.length;exact Calls.call_len_list v.isList (by simp only[bQ];lia) ⟨.int d.length,H,I.tok _,⟨_,by simp only[bQ];rw[z]⟩,q⟩
  .subst f;obtain⟨w,j,v,A⟩:=I.tuple hx;have z:=j.length;exact len_tuple v (by simp only[bQ];lia) ⟨.int d.length,H,I.tok _,⟨_,by simp only[bQ];rw[z]⟩,q⟩
 |_=>exact(show False from e).elim
end
structure AB(h:ax)(x dx C:af)(mA:Str->Option ah):Prop where
 obj:h.get? x=aa (PySem.W.instObj C dx)
 ns:h.Ns1 dx mA
 ne:dx≠x
theorem GW{h:ax}{g:af}{d:Str->Option ah}(n:h.Ns1 g d):∃c,h.get? g=aa c/\∀b,PySem.W.lookIn b c=aa (d b):=by
 obtain⟨o,f,u,j,p,m,_,l⟩:=n;refine⟨o,j,λb=>?_⟩;have e:=l b;unfold nsFind findBy at e;rw[<-Array.find?_toList]at e;unfold PySem.W.lookIn;rw[p];dsimp only;split
 .rename_i y q;rw[q]at e;exact congrArg aa e
 .rename_i q;rw[q]at e;have a:f.toList.any (·.refKey)=ak:=by rw[List.any_eq_false];intro y i;obtain⟨z,t,r⟩:=m y (Array.mem_toList_iff.mp i);simp[DictEntry.refKey,r]
  have s:¬f.toList.any (·.refKey)=ai:=by rw[a];exact dQ
  rw[if_neg s];exact congrArg aa e
theorem AB.look{h:ax}{x d C:af}{c:Str->Option ah}(I:AB h x d C c):∃b,PySem.W.InstAt h x (PySem.W.instObj C d) C (aa b)/\∀a,PySem.W.lookIn a b=aa (c a) :=
 let ⟨b,ho,hl⟩:=GW I.ns
 ⟨b,⟨I.obj,rfl,rfl,ho⟩,hl⟩
theorem nN.some_of{v:V}{o:Option ah}(r:nN (aa v) o):∃u,o=aa u/\RelV v u:=by
 cases o with
 |none=>exact(show False from r).elim
 |some u=>exact⟨u,rfl,r⟩
section
variable{P:aG}{w:aC}{H i:Hp}{h g:ax}{a C b:af}{fs c:List (Str×V)}
theorem Ff(l:cJ P w H h)(e:H a=aa (.ins C b fs)):∃j,AB h a b C j/\(∀f,nN (fs.lookup f) (j f))/\PySem.Within j (fs.map (·.1))/\fs.length<=1000/\H b=aa (.own a):=by
 obtain⟨d,z,o,m,j,n,r,q⟩:=(show cN P w H h a (.ins C b fs)from l a _ e)
 exact⟨j,⟨m,n,o⟩,r,q,z,d⟩
end
structure zn(K:au)(C:af):Prop where
 pg:PySem.W.plainGet K C eU=ai
 hd:PySem.W.hasDictIn K C=ai
 po:PySem.W.plainOver K C=ai
 sa:tf K (.ref C) "__setattr__"=aa (aa (.builtin "object.__setattr__"))
theorem zn.get{K:au}{C:af}(c:zn K C)(f:Str):PySem.W.plainGet K C f=ai:=c.pg
section
variable{X:Cx}{f:List (af×Obj)}{d:St}{H:Hp}{s:am}{A:aH}{E:ah->am->Prop}{Q:ah->am->Prop}{c:ah}{b:Bool}
inductive f8(K:au)(H:Hp):V->ah->Prop where
 |non:f8 K H .non (.type "NoneType")
 |bl (x:Bool):f8 K H (.bl x) (.type "bool")
 |int (i:Int):f8 K H (.int i) (.type "int")
 |str (x:Str):f8 K H (.str x) (.type "str")
 |flt (x:UInt64):f8 K H (.flt x) (.type "float")
 |lst {a:af}{xs:List V} (e:H a=aa (.lst xs)):f8 K H (.ref a) (.type "list")
 |frz {a:af}{o:Obj}{xs:List V} (e:H a=aa (.frz o (.lst xs))):f8 K H (.ref a) (.type "list")
 |tup {a:af}{xs:List V} (e:H a=aa (.tup xs)):f8 K H (.ref a) (.type "tuple")
 |dK {a:af}{kvs:List (bz×V)} (e:H a=aa (.dK kvs)):f8 K H (.ref a) (.type "dict")
 |dT {a:af}{kvs:List (List bz×V)} (e:H a=aa (.dT kvs)):f8 K H (.ref a) (.type "dict")
 |ins {a C dx:af}{fs:List (Str×V)} (e:H a=aa (.ins C dx fs)) (cl:zn K C) (ha:tf K (.ref C) "__class__"=aa (aa (.builtin "object.__class__")))
   (hn:PySem.W.specialIn K (.builtin "object.__class__") "__get__"=aa (aa (.builtin "getset_descriptor.__get__"))) (qA:PySem.W.takesIn K (.builtin "object.__class__")=aa ai)
   (hm:PySem.W.mroIn K C (.type "object")=aa ai):f8 K H (.ref a) (.ref C)
theorem Ec{x:V}{u t:ah}(I:Inv X f d H s)(g:RelV x u)(ty:f8 X.K H x t)(e:gx X.K t c=aa b)(h:∀r,Q (.bool b) {s with toks:=r}):aq (ar X.prog X.w) A (call (.builtin "isinstance") [u,c]) Q E s:=by
 cases ty with
 |non=>cases (show u=Value.none from g);exact jE PySem.W.kitx_none I.kIn True.intro e (λz=>nomatch z) h
 |bl y=>cases (show u=Value.bool y from g);exact jE PySem.W.kitx_bool I.kIn True.intro e (λz=>nomatch z) h
 |int i=>obtain⟨t,q⟩:=(show ∃t,u=Value.int i t from g);cases q;exact jE PySem.W.kitx_int I.kIn True.intro e (λz=>nomatch z) h
 |str y=>obtain⟨t,q⟩:=(show ∃t,u=Value.str y t from g);cases q;exact jE PySem.W.kitx_str I.kIn True.intro e (λz=>nomatch z) h
 |flt y=>obtain⟨t,q⟩:=(show ∃t,u=Value.float y t from g);cases q;exact jE PySem.W.kitx_float I.kIn True.intro e (λz=>nomatch z) h
 |@lst a l ea=>
  cases (show u=Value.ref a from g);obtain⟨_,_,n,_,j⟩:=(show cN X.prog X.w H s.heap a (.lst l)from I.hok a _ ea)
  exact jE PySem.W.kitx_list I.kIn ⟨_,j,rfl⟩ e (λz=>nomatch z) h
 |@frz a ob l ea=>
  cases (show u=Value.ref a from g);obtain⟨_,_,_,n,_,j⟩:=(show cN X.prog X.w H s.heap a (.frz ob (.lst l))from I.hok a _ ea)
  exact jE PySem.W.kitx_list I.kIn ⟨_,j,rfl⟩ e (λz=>nomatch z) h
 |@tup a l ea=>
  cases (show u=Value.ref a from g);obtain⟨_,_,_,p,_⟩:=(show cN X.prog X.w H s.heap a (.tup l)from I.hok a _ ea)
  obtain⟨o,j,m,_⟩:=p;exact jE PySem.W.kitx_tuple I.kIn ⟨o,j,m⟩ e (λz=>nomatch z) h
 |@dK a kvs ea=>
  cases (show u=Value.ref a from g);obtain⟨_,_,B,_,p⟩:=(show cN X.prog X.w H s.heap a (.dK kvs)from I.hok a _ ea)
  obtain⟨o,v,w,j,m,_⟩:=p;exact jE PySem.W.kitx_dict I.kIn ⟨o,j,m.1⟩ e (λz=>nomatch z) h
 |@dT a kvs ea=>
  cases (show u=Value.ref a from g);obtain⟨_,_,l,_,o,v,w,j,m,_⟩:=(show cN X.prog X.w H s.heap a (.dT kvs)from I.hok a _ ea)
  exact jE PySem.W.kitx_dict I.kIn ⟨o,j,m.1⟩ e (λz=>nomatch z) h
 |@ins a C dx fs ea cl ha hn qA hm=>
  cases (show u=Value.ref a from g);obtain⟨G,O,_⟩:=Ff I.hok ea;obtain⟨D,J,_⟩:=O.look;exact jE (PySem.W.kitx_own (cl.get _) cl.hd ha hn qA hm) I.kIn J e (λz=>nomatch z) h
end
structure Room(k:Nat)(A:aH):Prop where
 hd:A.handled=ae
 dp:A.depth+3*k+5<ti
 un:A.units+16*k+200<cLine
theorem Room.mono{j k:Nat}{A:aH}(r:Room k A)(h:j<=k):Room j A:=⟨r.hd,by have:=r.dp;lia,by have:=r.un;lia⟩
theorem Room.deeper{k:Nat}{A:aH}(r:Room (k+1) A)(a:Env):Room k (A.deeper a) :=⟨r.hd,by have:=r.dp;show A.depth+1+3*k+5<_;lia,by have:=r.un;show A.units+3+16*k+200<_;lia⟩
theorem Room.depth{k:Nat}{A:aH}(r:Room k A):A.depth<ti:=by have:=r.dp;lia
theorem Room.units{k:Nat}{A:aH}(r:Room k A):A.units+64<cLine:=by have:=r.un;lia
def D0:TA:=λ_ H Q=>Q [] H
def Dz(d:TE)(c:TA):TA:=λa H Q=>d a H λx g=>c a g λb f=>Q (x::b) f
section
variable{X:Cx}{e:ay}{es:List ay}{c:TE}{t:TA}{a:Pos}
theorem ju:PA X [] D0:=λ_ _ _ _ H Q I h=>wu ⟨[],H,I,.nil,h⟩
theorem gT(p:PE X e c)(o:PA X es t)(n:aM (e::es) X.env=(ak,aK e X.env)::aM es X.env:=by rfl):PA X (e::es) (Dz c t):=by intro a d s b H Q I h;rw[n];show aq _ _ (spliced ((ak,aK e X.env)::cV a (aM es X.env))) _ _ s;refine tj (aO (p d s b H _ I h) λu g ⟨x,w,r,j,m⟩=>?_);exact aO (o a d g b w _ r m) λy z ⟨f,v,q,i,l⟩=>⟨x::f,v,q,.cons j i,l⟩
def Fp(t:TA):TE:=λf H Q=>t f H λb d=>b.length<=aY/\∀p,d p=ae->Q (.ref p) (upd d p (.tup b))
def B9(t:TA):TE:=λf H Q=>t f H λb d=>b.length<=aY/\∀p,d p=ae->Q (.ref p) (upd d p (.lst b))
theorem C3{x1}(h:PA X es t):PE X (.Tuple es x1 a) (Fp t):=by intro o s i H Q I m;refine wpAny_Tuple_spliced (aO (h a o s i H _ I m) λl d ⟨j,g,f,r,z,q⟩=>⟨by rw[<-r.length];exact z,?_⟩);have n:g d.heap.objs.size=ae:=f.hok.fresh (aT _);refine⟨.ref d.heap.objs.size,upd g d.heap.objs.size (.tup j),f.laid (t':=d.toks) (λb u e=>a8 _ e) (aT _) ?_,rfl,q _ n⟩;exact⟨z,l,r,⟨⟨_,bW _ rfl,rfl,_,rfl⟩,_,bW _ rfl,rfl⟩⟩
theorem Ib(h:PA X es t):PE X (.List es a) (B9 t):=by intro o s i H Q I m;refine wpAny_List_spliced (aO (h a o s i H _ I m) λl d ⟨j,g,f,r,z,q⟩=>⟨by rw[<-r.length];exact z,?_⟩);have n:g d.heap.objs.size=ae:=f.hok.fresh (aT _);refine⟨.ref d.heap.objs.size,upd g d.heap.objs.size (.lst j),f.laid (t':=d.toks) (λb u e=>a8 _ e) (aT _) ?_,rfl,q _ n⟩;exact⟨z,l,0,r,bW _ rfl⟩
end
abbrev Sp:=List V->Hp->VK->XK->Prop
abbrev ez:=List Env->Hp->am->XK->ah->am->Prop
structure rL(P:aG)(w:aC)(K:au)(mg:Str->Option ah)(base:ax)(A:aH)(outer:List Env)(s:am)(H:Hp):Prop where
 frames:A.frames=aa outer
 mod:Mod K mg base
 bs:∀b o,base.get? b=aa o->s.heap.get? b=aa o/\H b=ae
 bsz:base.objs.size<=s.heap.objs.size
 funs:s.heap.FunFrames base outer
 frf:∀b∈dY outer,H b=ae
 hok:cJ P w H s.heap
 bare:kh s.gens
 tab:rj K H
def CE(a:List Env)(P:aG)(w:aC)(H:Hp)(s:am)(Q:VK)(u:ah)(b:am):Prop :=
 ∃v c,b.os=s.os/\kh b.gens/\Un (dY a) [] H c s.heap b.heap/\cJ P w c b.heap/\RelV v u/\Q v c
def CR(c:ez)(a:List Env)(P:aG)(w:aC)(H:Hp)(s:am)(Q:VK)(E:XK)(r:Result)(b:am):Prop :=
 match r with
 |.ok (.ret u)=>CE a P w H s Q u b
 |.ok _=>False
 |.error e=>c a H s E e b
structure iJ(P:aG)(w:aC)(K:au)(mg:Str->Option ah)(base:ax)(CX:ez)(k:Nat)(f:af)(fd:fM)(ps:List Str)(sp:Sp):Prop where
 len:∀vs H Q E,sp vs H Q E->vs.length=ps.length
 run:∀(A:aH) (outer:List Env) (s:am) (H:Hp) (args:Args) (us:List ah) (vs:List V) (Q:VK) (E:XK),Room k A->rL P w K mg base A outer s H->BindsTo s fd args (ps.zip us)->bq vs us->sp vs H Q E ->
  k6 (ar P w) A (.call (.ref f) args) (CR CX outer P w H s Q E) s
section
variable{X:Cx}{f:List (af×Obj)}{a:St}{H:Hp}{s c:am}
theorem Inv.env0(I:Inv X f a H s):rL X.prog X.w X.K X.mg X.base X.A X.stack s H :=⟨I.ok.frames,I.ok.mod,I.bs,bX I.ok.bsz I.sz,I.stack,I.stkFree,I.hok,I.bare,I.tab⟩
theorem Inv.after{Q:VK}{u:ah}(I:Inv X f a H s)(h:CE X.stack X.prog X.w H s Q u c):EP X f a Q u c:=by obtain⟨v,o,m,i,un,l,r,q⟩:=h;obtain⟨n,g,d,t,j⟩:=c;obtain rfl:j=s.os:=m;exact⟨v,o,I.call (h':=n) (g':=g) (d':=d) (t':=t) (ch:=[]) un l i (λb z=>absurd z (by simp)),r,q⟩
end
def Dg(d:Sp)(a:List V)(E:XK)(t:TA):TE:=λb H Q=>t b H λc f=>d (c++a) f Q E
def Binds(K:au)(d:fM)(b:List Str)(c:List ah):Prop :=
 ∀(s:am) (a:List ah),K.In s.heap->(a++c).length=b.length->BindsTo s d ⟨a,[]⟩ (b.zip (a++c))
theorem Binds.all{K:au}{d:fM}{b:List Str}(h:∀a:List ah,a.length=b.length->ef d ⟨a,[]⟩=pure (b.zip a)):Binds K d b []:=λs a _ c=>by rw[iW]at c ⊢;exact .of_eq (h a c)
def nv(c:ez)(X:Cx)(E:XK):Prop:=∀(b:List (af×Obj)) (a:St) (H:Hp) (s:am) (e:ah) (s':am),Inv X b a H s->c X.stack H s E e s'->X.xe e s'
section
variable{X:Cx}{l:ez}{k:Nat}{f C:af}{j:fM}{d:List Str}{i:Sp}{a:List V}{c:List ah}{E:XK}{x m:Str}{p b n:Pos}{e o:ay}{g:List ay}{v:TE}{t:TA}
theorem Jd{A:List (af×Obj)}{z:St}{H:Hp}{s:am}{Q:VK}{q:List ah}{y:List V}(F:iJ X.prog X.w X.K X.mg X.base l k f j d i)(J:Room k X.A)(M:Binds X.K j d c)(L:bq a c)(G:nv l X E)(I:Inv X A z H s) (r:bq y q) (h:i (y++a) H Q E):aq (ar X.prog X.w) X.A (call (.ref f) q) (EP X A z Q) X.xe s:=by
 have B:bq (y++a) (q++c):=r.append L;have K:(q++c).length=d.length:=by rw[<-B.length];exact F.len _ _ _ _ h
 refine wpAny_call (tm (F.run X.A X.stack s H ⟨q,[]⟩ (q++c) (y++a) Q E J I.env0 (M s q I.kIn K) B h) λr D w=>?_);cases r with
 |error e=>exact G A z H s e D I w
 |ok N=>
  cases N with
  |ret u=>exact I.after w
  |next=>exact jF w
  |brk=>exact jF w
  |cont=>exact jF w
theorem yg(F:iJ X.prog X.w X.K X.mg X.base l k f j d i)(z:Room k X.A)(D:Gl X x)(A:X.mg x=aa (.ref f))(B:p_ X.K (.ref f)=ai)(K:Binds X.K j d c)(J:bq a c)(y:nv l X E)(L:PA X (e::g) t) (M:(x==("__debug__":Str))=ak:=by decide) (G:aM (e::g) X.env=(ak,aK e X.env)::aM g X.env:=by rfl) (N:(cV b (aM g X.env)).any (·.1)=ak:=by rfl):PE X (.Call (.Name x p) (e::g) [] b) (Dg i a E t):=by intro O s w H Q I h;refine tp (wb I D A ?_ M);refine PySem.W.callWith_K (h₀:=X.base) I.ok.mod.kin B (aO (L b O s w H _ I h) λS T ⟨P,W,u,r,q⟩=>⟨u.kIn,?_⟩) G N;exact Jd F z K J y u r q
end
structure cb(N P:List Str)(sc:cy):Prop where
 kind:sc.kind=.function
 co:sc.isCoroutine=ak
 gen:sc.isGenerator=ak
 nd:N.Nodup
 pre:N.take P.length=P
 par:∀x∈P,sc.names.lookup x=aa .local\/sc.names.lookup x=aa .cell
 nofree:∀y∈sc.names,y.2≠.free
theorem zr{a:Str->Option eD}{x:Str}:∀{binds:List (Str×ah)}{m:Str->Option ah},(∀v,(x,v)∉binds)->bindL a binds m x=m x
 |[],_,_=>rfl
 | (n,v)::r,m,h=>by
  unfold bindL;rw[zr λw b=>h w (iy _ b)];split
  .have:x≠n:=by rintro rfl;exact h v iT
   simp[this]
  .rfl
theorem AF{a:Str->Option eD}{x:Str}:∀{binds:List (Str×ah)}{m:Str->Option ah},(∀v,(x,v)∉binds)->bindC a binds m x=m x
 |[],_,_=>rfl
 | (n,v)::r,m,h=>by
  unfold bindC;rw[AF λw b=>h w (iy _ b)];split
  .rfl
  .have:x≠n:=by rintro rfl;exact h v iT
   simp[this]
theorem yc{a:Str->Option eD}{x:Str}{v:ah}:∀{P:List Str}{b:List ah}{i:Nat}{m:Str->Option ah},P.Nodup->P[i]?=aa x->b[i]?=aa v->a x=aa .local -> bindL a (P.zip b) m x=aa v
 |[],_,_,_,_,h,_,_=>by simp at h
 |_::_,[],_,_,_,_,h,_=>by simp at h
 |p::P,w::b,0,m,nd,h1,h2,hk=>by simp at h1 h2;subst h1;subst h2;show bindL a ((p,w)::P.zip b) m p=_;unfold bindL;rw[zr λv c=>(k7.mp nd).1 (List.of_mem_zip c).1,if_pos hk];simp
 |p::P,w::b,i+1,m,nd,h1,h2,hk=>by show bindL a ((p,w)::P.zip b) m x=_;unfold bindL;exact yc (i:=i) (k7.mp nd).2 (by simpa using h1) (by simpa using h2) hk
theorem AA{a:Str->Option eD}{x:Str}{v:ah}:∀{P:List Str}{b:List ah}{i:Nat}{m:Str->Option ah},P.Nodup->P[i]?=aa x->b[i]?=aa v->a x≠aa .local -> bindC a (P.zip b) m x=aa v
 |[],_,_,_,_,h,_,_=>by simp at h
 |_::_,[],_,_,_,_,h,_=>by simp at h
 |p::P,w::b,0,m,nd,h1,h2,hk=>by simp at h1 h2;subst h1;subst h2;show bindC a ((p,w)::P.zip b) m p=_;unfold bindC;rw[AF λv c=>(k7.mp nd).1 (List.of_mem_zip c).1,if_neg hk];simp
 |p::P,w::b,i+1,m,nd,h1,h2,hk=>by show bindC a ((p,w)::P.zip b) m x=_;unfold bindC;exact AA (i:=i) (k7.mp nd).2 (by simpa using h1) (by simpa using h2) hk
def start(N:List Str)(a:List V):St:=a.map aa++cQ (N.length-a.length) ae
def fY(g:ez)(P:aG)(w:aC)(K:au)(mg:Str->Option ah)(base:ax)(N:List Str)(b:Str)(a:cy)(f:af)(d:ah)(A:aH)(outer:List Env)(s:am)(H:Hp)(E:XK):Cx where
 prog:=P
 w:=w
 K:=K
 mg:=mg
 base:=base
 A:=A.deeper (g9 b a s.heap.objs.size f d)
 N:=N
 s₀:=s
 H₀:=H
 env:=g9 b a s.heap.objs.size f d
 outer:=outer
 stack:=g9 b a s.heap.objs.size f d::outer
 ex:=[]
 calm:=ai
 fn:=λ_=>ai
 pn:=[]
 xe:=λe s'=>aq (ar P w) (A.deeper (g9 b a s.heap.objs.size f d)) (leaving (g9 b a s.heap.objs.size f d) e) (λ_ c=>g outer H s E e c) (λh c=>g outer H s E h c) s'
theorem xY{a:cy}{n:Nat}{x:Str}(h:a.names.lookup x=aa .cell):∃c,(dR n a.names []).lookup x=aa c:=by have q:=PySem.W.cellsFrom_some a.names n [] (.inl h);exact Option.isSome_iff_exists.mp q
theorem E5{Y:ez}{P:aG}{w:aC}{K:au}{Q:Str->Option ah}{o:ax}{N B:List Str}{j:Str}{d:cy}{f:af}{M:ah}{A:aH}{g:List Env}{s T:am}{H:Hp}{E:XK}{O:List ah}{t:List V}(S:cb N B d) (hd:A.handled=ae) (m:rL P w K Q o A g s H) (hl:t.length=B.length) (r:bq t O)(x:InCallC s s.heap.objs.size (bindL (g9 j d s.heap.objs.size f M).kindOf (B.zip O) λ_=>ae) (dR (s.heap.objs.size+1) d.names []) (bindC (g9 j d s.heap.objs.size f M).kindOf (B.zip O) λ_=>ae) T):Inv (fY Y P w K Q o N j d f M A g s H E) [] (start N t) H T:=by
 have c_:B.length<=N.length:=by have:=congrArg me S.pre;rw[k8]at this;lia
 obtain⟨L,tk,rfl,X⟩:=x.done;have C:∀b:af,b∉(fY Y P w K Q o N j d f M A g s H E).ex:=λb z=>absurd (show b∈([]:List af)from z) (by simp);refine⟨⟨m.mod,S.kind,rfl,rfl,aT _,λy z c L l=>?_,λy D=>?_,λy c _ h=>?_,λ_=>hd,Around.frames_deeper m.frames,.inr ⟨rfl,rfl⟩,λb z=>absurd z (C b),m.bs,m.bsz,λb _ _=>C b,λb z=>absurd z (C b),m.funs,m.frf,m.tab⟩,rfl,m.bare,Un.kept X,⟨_,x.toInCall.ns,λi y v L l h3=>?_⟩,λy c h=>⟨_,x.cell y c h⟩,m.hok.fresh (aT _),λy c h=>?_,λp I=>absurd (show p∈([]:List (af×Obj))from I) (by simp),m.hok.kept X,?_⟩
 .exact name_of_addr x.apart (iX L) (iX l)
 .have D:d.names.lookup y=aa .cell\/d.names.lookup y=aa .free:=D;rcases D with D|D
  .exact xY D
  .exact absurd rfl (S.nofree _ (iX D))
 .exact ki (x.above y c (iX h))
 .have J:i<t.length:=by
   unfold start at l;by_cases J:i<t.length
   .exact J
   .rw[mf (by simpa using J)]at l;rw[List.getElem?_replicate]at l;split at l <;> cases l
  have ha:t[i]?=aa v:=by
   unfold start at l;rw[f_ (by simpa using J),iY]at l;cases e:t[i]? with
   |none=>rw[e]at l;cases l
   |some a=>rw[e]at l;cases l;rfl
  obtain⟨u,W,Z⟩:=r.get ha;have I:B[i]?=aa y:=by rw[<-S.pre,List.getElem?_take_of_lt ∅];exact L
  have G:B.Nodup:=by rw[<-S.pre];exact S.nd.sublist (List.take_sublist _ _)
  refine⟨u,Z,?_⟩;rcases S.par y (tq I)with k|k
  .exact .inl ⟨k,yc G I W k⟩
  .obtain⟨c,e⟩:=xY (n:=s.heap.objs.size+1) k;refine .inr ⟨.inl k,c,e,?_⟩;have q:=x.cell y c e;rw[AA G I W (by show d.names.lookup y≠_;rw[k];decide)]at q;exact q
 .exact m.hok.fresh (ki (x.above y c (iX h)))
 .unfold start;show _=N.length;rw[cW,fg,List.length_replicate];lia
theorem BS{O:ez}{P:aG}{w:aC}{K:au}{M:Str->Option ah}{h:ax}{k:Nat}{f:af}{m d:Str}{g:nU}{i:List aX}{a:cy}{dV kV G pm z ct oc:ah}{an od:Option af}{Y:Array (Option ah)}{N L:List Str}{T:Sp} (lk:K.lookup f=aa ⟨oc,od,.func (g_ m d g i a dV kV G pm an z ct),Y⟩) (bY:tt K z d=ai) (S:cb N L a)(len:∀l H Q E,T l H Q E->l.length=L.length)(hZ:∀(A:aH) (c:List Env) (s:am) (H:Hp) (l:List V) (Q:VK) (E:XK),Room k (A.deeper (g9 d a s.heap.objs.size f z))->T l H Q E -> ∃t,jz (fY O P w K M h N d a f z A c s H E) i t/\t {nx:=λ_ p=>Q .non p,rt:=Q} (start N l) H):iJ P w K M h O (k+1) f (g_ m d g i a dV kV G pm an z ct) L T:=by
 refine⟨len,λA c s H args us l Q E hr D hb r jT=>?_⟩;have hl:=len _ _ _ _ jT;have KX:K.In s.heap:=D.mod.kin.keeps λb o e=>(D.bs b o e).1;have Z:s.heap.NoLimit:=D.mod.nolimit.keeps λb o e=>(D.bs b o e).1;have Jp:∀y∈L.zip us,a.names.lookup y.1=aa .local\/(a.names.lookup y.1=aa .cell/\((dR (s.heap.objs.size+1) a.names []).lookup y.1).isSome=ai):=λ⟨n,v⟩ hy=>by
  rcases S.par n (List.of_mem_zip hy).1 with q|q
  .exact .inl q
  .exact .inr ⟨q,PySem.W.cellsFrom_some _ _ _ (.inl q)⟩
 refine codeAny_call_function hr.depth (KX _ _ lk) rfl S.co S.gen rfl (PySem.W.codeRec_of KX bY) (hb _ _ _ _ ?_);refine wpAny_newFunctionEnv_cells S.kind Jp λenv he s1 x=>?_;subst he;refine⟨Z.keeps x.toInCall.keep,codeAny_func ?_⟩;obtain⟨t,ht,hq⟩:=hZ A c s H l Q E (hr.deeper _) jT;have I:Inv (fY O P w K M h N d a f z A c s H E) [] (start N l) H s1:=E5 S hr.hd D hl r x;refine c9 (ht [] s1 (start N l) H _ I hq) (λfl W B=>?_) λe W B=>B;have C:∀{j:St}{p:Hp}{v:V}{u:ah},Inv (fY O P w K M h N d a f z A c s H E) [] j p W->RelV v u->Q v p->CE c P w H s Q u W :=λ{j p v u} J X q=>⟨v,p,J.os,J.bare,J.base,J.hok,X,q⟩
 cases fl with
 |ret u=>obtain⟨v,j,p,J,X,q⟩:=B;exact C J X q
 |next=>obtain⟨j,p,J,q⟩:=B;exact C (v:=V.non) (u:=Value.none) J rfl q
 |brk=>obtain⟨_,_,_,q⟩:=B;exact jF q
 |cont=>obtain⟨_,_,_,q⟩:=B;exact jF q
section
variable{X:Cx}{x:Str}{p a:Pos}{e:ay}{b:List ay}{t:TA}{c T:String}{r:List V->Hp->VK->Prop}
def zW(r:List V->Hp->VK->Prop)(t:TA):TE:=λd H Q=>t d H λf g=>r f g Q
theorem sN(w:fQ X (.builtin c) r)(u:Gl X x)(q:X.mg x=ae)(n:c8 x=aa (.builtin c))(y:PA X (e::b) t)(o:x≠"__name__":=by decide)(z:(x==("__debug__":Str))=ak:=by decide)(v:aM (e::b) X.env=(ak,aK e X.env)::aM b X.env:=by rfl) (A:(cV a (aM b X.env)).any (·.1)=ak:=by rfl):PE X (.Call (.Name x p) (e::b) [] a) (zW r t):=by intro f s d H Q I h;refine tp (l0 I u q n ?_ o z);exact Jh (aO (y a f s d H _ I h) λi j ⟨g,C,B,l,m⟩=>w f j d C g i Q B l m) v A
theorem vO(w:fQ X (.type T) r)(u:Gl X x)(q:X.mg x=ae)(n:c8 x=aa (.type T))(y:PA X (e::b) t)(o:x≠"__name__":=by decide)(z:(x==("__debug__":Str))=ak:=by decide)(v:aM (e::b) X.env=(ak,aK e X.env)::aM b X.env:=by rfl) (A:(cV a (aM b X.env)).any (·.1)=ak:=by rfl):PE X (.Call (.Name x p) (e::b) [] a) (zW r t):=by intro f s d H Q I h;refine tp (l0 I u q n ?_ o z);exact wt (aO (y a f s d H _ I h) λi j ⟨g,C,B,l,m⟩=>w f j d C g i Q B l m) v A
end
end L2
namespace HT
section
open PySem.SeqAt
open PySem.AutoSeq1 (wpAny_loadPart')
open PySem.MeetsSeq PySem.MeetsSeq2 PySem.MeetsSeq3
end
section
variable{a:aG}{w:aC}{A:aH}{E:ah->am->Prop}{s:am}
theorem cat_tup{t b:af}{d c:List ah}{Q:ah->am->Prop}(B:IsTup s.heap t d.toArray)(C:IsTup s.heap b c.toArray)(r:d≠[])(G:c=[]->Q (.ref t) s) (D:c≠[]->Q (.ref s.heap.objs.size) {s with heap:=s.heap.push {cls:=.type "tuple",data:=.seq (d++c).toArray}})(l:d.length+c.length<=aY):aq (ar a w) A (fL .Add (.ref t) (.ref b)) Q E s:=by
 obtain⟨⟨cls,y,data,o⟩,i,v,n,u⟩:=id B;obtain⟨⟨z,g,m,f⟩,j,x,p,q⟩:=id C;simp only at v u x q;subst v u x q;have e:d.toArray++c.toArray=(d++c).toArray:=by simp
 by_cases h:c=[]
 .exact concat_meets ⟨_,i,rfl⟩ ⟨_,j,rfl⟩ AS seq_tuple_add AT AU (AV _ _)
   (tuple_addW1 t b d.toArray c.toArray n p y g o f (by simpa using r) (by simp[h])) ⟨i,j,G h⟩
 .refine concat_meets ⟨_,i,rfl⟩ ⟨_,j,rfl⟩ AS seq_tuple_add AT AU (AV _ _)
   (tuple_addW2 t b d.toArray c.toArray n p y g o f (by simpa using r) (by simpa using h) (by rw[bQ,bQ];exact l)) ⟨i,j,?_⟩
  rw[e];exact D h
def sIx(n d:Nat):Option Int->Nat
 |none=>d
 |some v=>if v<0 then(v+(n:Int)).toNat else min v.toNat n
theorem sIx_nat(n d k:Nat):sIx n d (aa (k:Int))=min k n:=by show(if(k:Int)<0 then((k:Int)+(n:Int)).toNat else min (k:Int).toNat n)=min k n;rw[if_neg ∅,k9]
theorem sIx_le(n d:Nat)(c:d<=n)(o:Option Int):sIx n d o<=n:=by
 cases o with
 |none=>exact c
 |some v=>
  show(if v<0 then(v+(n:Int)).toNat else min v.toNat n)<=n;by_cases b:v<0
  .rw[if_pos b];lia
  .rw[if_neg b];exact Nat.min_le_right _ _
theorem xM(v:Int)(n d:Nat):(if v<0 then max (v+(n:Int)) 0 else min v (n:Int))=((sIx n d (aa v):Nat):Int):=by
 show(if v<0 then max (v+(n:Int)) 0 else min v (n:Int))=(((if v<0 then(v+(n:Int)).toNat else min v.toNat n):Nat):Int)
 by_cases b:v<0
 .simp only[if_pos b];lia
 .simp only[if_neg b];lia
theorem DQ(b c:Option Int)(n:Nat):AW b c 1 (n:Int)=(((sIx n 0 b:Nat):Int),((sIx n n c:Nat):Int)):=by
 have d:¬((1:Int)<0):=∅
 unfold AW;simp only[d,if_false];refine Prod.ext ?_ ?_
 .cases b with
  |none=>rfl
  |some v=>exact xM v n 0
 .cases c with
  |none=>rfl
  |some v=>exact xM v n n
theorem GC(i j:Nat):wv (i:Int) (j:Int) 1=j-i:=by
 unfold wv;have b:(1:Int) > 0:=∅
 simp only[b,if_true,Int.ediv_one];split <;> lia
theorem Am{v:ah}{o:Option Int}{Q:Option Int->am->Prop}(p:ko v o)(h:Q o s):aq (ar a w) A (Builtin.Slice.slicePartIndex v) Q E s:=by
 cases p with
 |none=>exact slicePart_none h
 |int i t=>exact slicePart_int h
theorem Hf{j:af}{g f:ah}{b c:Option Int}{n:Nat}{Q:Int×Int×Nat->am->Prop}(o:s.heap.IsSliceOf j g f .none)(m:ko g b)(l:ko f c)(h:Q (((sIx n 0 b:Nat):Int),1,sIx n n c-sIx n 0 b) s):aq (ar a w) A (Builtin.Slice.sliceApplied (.ref j) (pure (n:Int))) Q E s:=by
 obtain⟨q,i,p,d⟩:=id o;unfold Builtin.Slice.sliceApplied Builtin.Slice.sliceFields;refine ap (ap (nV i d (x:=g) rfl (ap (nV i d (x:=f) rfl (ap (nV i d (x:=.none) rfl (aB ?_)))))));refine ap (slicePart_none ?_);show aq _ _ (if((1:Int) == 0)=ai then _ else _) _ _ s;rw[if_neg (by decide)];refine ap (Am m (ap (Am l (ap (aB ?_)))));show aq _ _ (match AW b c 1 (n:Int)with | (b,c)=>pure (b,(1:Int),wv b c 1)) _ _ s;rw[DQ b c n];show aq _ _ (pure (((sIx n 0 b:Nat):Int),(1:Int),wv ((sIx n 0 b:Nat):Int) ((sIx n n c:Nat):Int) 1)) _ _ s;rw[GC];exact aB h
theorem FX(b:Array ah)(i k:Nat):((cq k).filterMap λ(m:Nat)=>b[((i:Int)+(m:Int)*1).toNat]?).toArray=((b.toList.drop i).take k).toArray:=by
 have e:(λ(m:Nat)=>b[((i:Int)+(m:Int)*1).toNat]?)=λm=>b[i+m]?:=by
  funext m;have:((i:Int)+(m:Int)*1).toNat=i+m:=∅
  rw[this]
 rw[e];have:=pick_run b i k;rw[List.filterMap_map]at this;have c:((λx=>b[x]?) ∘ λx=>i+x)=λm=>b[i+m]?:=rfl;rw[c]at this;rw[this]
theorem getItem_tuple_cut{t i:af}{b:Array ah}{p o:ah}{c d:Option Int}{Q:ah->am->Prop}(g:IsTup s.heap t b)(r:s.heap.IsSliceOf i p o .none)(x:ko p c)(v:ko o d)(z:¬(sIx b.size 0 c=0/\sIx b.size b.size d=b.size))(h:Q (.ref s.heap.objs.size) {s with heap:=s.heap.push {cls:=.type "tuple",data:=.seq ((b.toList.drop (sIx b.size 0 c)).take (sIx b.size b.size d-sIx b.size 0 c)).toArray}})(B:b.size<=aY):aq (ar a w) A (nW (.ref t) (.ref i)) Q E s:=by
 have f:sizeOk (.seq ((b.toList.drop (sIx b.size 0 c)).take (sIx b.size b.size d-sIx b.size 0 c)).toArray):=by show((b.toList.drop (sIx b.size 0 c)).take (sIx b.size b.size d-sIx b.size 0 c)).toArray.size<=aY;rw[bQ,k8,qa,km];lia
 have H:sIx b.size b.size d<=b.size:=sIx_le _ _ (aT _) d;obtain⟨y,u,l,C⟩:=id r;have n:s.TypeIs (.ref i) "slice":=⟨y,u,l⟩
 unfold nW
 try with_reducible refine jG ?_
 first|refine ap (aB ?_)|skip
 refine ap (wpAny_sequenceKey g.typeIs (by decide) ?_);refine ap (wpAny_callSpecial?_slot (name:=qb "__getitem__") g.typeIs Ji (qc Ji g.typeIs entry_tuple_getitem ?_ (args_tuple_getitem _ _)));show aq _ _ (Builtin.Tuple.tupleItemsOf (.ref t) >>= _) _ _ s;refine ap (tupleItemsOf_ g ?_);refine ap (wpAny_typeOf n ?_);rw[if_pos (by decide)];refine ap (Hf r x v ?_);have j:¬((((sIx b.size 0 c:Nat):Int) == 0&&(1:Int) == 1&&(sIx b.size b.size d-sIx b.size 0 c) == b.size)=ai):=by intro q;rw[eV,eV]at q;have G:((sIx b.size 0 c:Nat):Int)=0:=eq_of_beq q.1.1;have D:sIx b.size b.size d-sIx b.size 0 c=b.size:=eq_of_beq q.2;exact z ⟨∅,∅⟩
 show aq _ _ (if(((sIx b.size 0 c:Nat):Int) == 0&&(1:Int) == 1&&(sIx b.size b.size d-sIx b.size 0 c) == b.size)=ai then _ else _) _ _ s;rw[if_neg j,FX]
 first
  |exact ap (m:=ww _) (kq (aB ⟨_,rfl,aB h⟩) f)
  |exact ap (m:=ww _) (kq (ap (aB (aB ⟨_,rfl,aB h⟩))) f)
  |exact ap (ap (m:=ww _) (kq (aB (aB ⟨_,rfl,aB h⟩)) f))
  |exact ap (ap (m:=ww _) (kq (aB ⟨_,rfl,aB h⟩) f))
end
end HT
namespace L2
abbrev TO:=St->Hp->(Option Int->Hp->Prop)->Prop
def PO(X:Cx)(e:Option ay)(t:TO):Prop :=
 ∀(b:List (af×Obj)) (s:am) (a:St) (H:Hp) (Q:Option Int->Hp->Prop),Inv X b a H s->t a H Q ->
  aq (ar X.prog X.w) X.A (evalPart e X.env) (λu d=>∃o c,Inv X b a c d/\ko u o/\Q o c) X.xe s
def HC:TO:=λ_ H Q=>Q ae H
def Dk(t:TE):TO:=λa H Q=>t a H λx b=>∃i,x=.int i/\Q (aa i) b
section
variable{X:Cx}{e:ay}{f:TE}{c d:Option ay}{g j:TO}{n m:Pos}
theorem Et:PO X ae HC:=by intro b s a H Q I h;rw[evalPart_none];exact aB ⟨ae,H,I,.none,h⟩
theorem F8(h:PE X e f):PO X (aa e) (Dk f):=by intro p s a H Q I o;rw[evalPart_some];refine aO (h p s a H _ I o) λu w ⟨x,v,r,b,l⟩=>?_;obtain⟨i,rfl,q⟩:=l;obtain⟨t,rfl⟩:=b;exact⟨aa i,v,r,.int i t,q⟩
def j6(X:Cx)(r:V->Option Int->Option Int->Hp->VK->Prop):Prop :=
 ∀(l:List (af×Obj)) (s:am) (a:St) (H:Hp) (x:V) (v h b:ah) (c d:Option Int) (i:af) (Q:VK),Inv X l a H s->RelV x v->s.heap.IsSliceOf i h b .none->ko h c->ko b d->r x c d H Q ->
  ∃T o,typeLookup (.type T) "__getitem__"=pure (aa (.builtin o))/\s.TypeIs v T/\aq (ar X.prog X.w) X.A (nW v (.ref i)) (EP X l a Q) X.xe s
theorem j6.or{r p:V->Option Int->Option Int->Hp->VK->Prop}(h:j6 X r)(z:j6 X p):j6 X (λx c d H Q=>r x c d H Q\/p x c d H Q):=by
 intro y s a H x v i b c d l Q I o w u t q;rcases q with q|q
 .exact h y s a H x v i b c d l Q I o w u t q
 .exact z y s a H x v i b c d l Q I o w u t q
def GR(r:V->Option Int->Option Int->Hp->VK->Prop)(f:TE)(g j:TO):TE:=λa H Q=>f a H λx i=>g a i λl h=>j a h λu b=>r x l u b Q
theorem Fg{r:V->Option Int->Option Int->Hp->VK->Prop}(L:j6 X r)(O:PE X e f)(M:PO X c g)(J:PO X d j):PE X (.Subscript e (.Slice c d ae m) n) (GR r f g j):=by intro o s i H Q I h;refine Subscript_ (aO (O o s i H _ I h) λv z ⟨x,H1,Z,A,D⟩=>?_);refine wpAny_Slice (aO (M o z i H1 _ Z D) λt y ⟨l,H2,Y,G,C⟩=>aO (J o y i H2 _ Y C) λp a ⟨u,w,W,E,B⟩=>?_);rw[evalPart_none];refine aB ?_;have S:Inv X o i w {a with heap:=a.heap.push {cls:=.type "slice",data:=.fields #[t,p,.none]}}:=W.kept (t':=a.toks) λb ob q=>a8 _ q;obtain⟨T,id,P,K,N⟩:=L o {a with heap:=a.heap.push {cls:=.type "slice",data:=.fields #[t,p,.none]}} i w x v t p l u a.heap.objs.size Q S A (Heap.IsSliceOf.new ..) G E B;show aq (ar X.prog X.w) X.A (subscriptTail e (.Slice c d ae m) v (.ref a.heap.objs.size)) (EP X o i Q) X.xe {a with heap:=a.heap.push {cls:=.type "slice",data:=.fields #[t,p,.none]}};exact tail_any (ops:=[.ref a.heap.objs.size,v]) K P N (by with_unfolding_all rfl)
def kM(a:List V)(c d:Option Int):List V:=(a.drop (HT.sIx a.length 0 c)).take (HT.sIx a.length a.length d-HT.sIx a.length 0 c)
theorem xJ(a:List V)(c d:Option Int):(kM a c d).length<=a.length:=by unfold kM;rw[k8,qa];lia
def zL(K:au):V->Option Int->Option Int->Hp->VK->Prop:=λx c d H Q=>∃a b,x=.ref a/\bO K H a b /\
 ¬(HT.sIx b.length 0 c=0/\HT.sIx b.length b.length d=b.length)/\∀p,H p=ae->Q (.ref p) (upd H p (.tup (kM b c d)))
theorem D7:j6 X (zL X.K):=by
 intro L s D H x v G E c d J Q I w C z y h;obtain⟨a,i,rfl,A,B,q⟩:=h;cases w;obtain⟨l,r,u,t⟩:=I.tuple A;have p:l.toArray.size=i.length:=by rw[bQ];exact r.length.symm
 refine⟨"tuple",_,PyProof.Rows.slot_tuple_getitem.lookup,u.typeIs,?_⟩;refine HT.getItem_tuple_cut u C z y (by rw[p];exact B) ?_ (by rw[p];exact t);rw[p];refine⟨.ref s.heap.objs.size,_,I.laid (t':=s.toks) (o:=.tup (kM i c d)) (λb K q=>a8 _ q) (aT _) ?_,rfl,q _ (I.hok.fresh (aT _))⟩;exact⟨bX (xJ i c d) t,_,(r.drop (HT.sIx i.length 0 c)).take (HT.sIx i.length i.length d-HT.sIx i.length 0 c),AL.new _ _⟩
def yi(K:au):R2:=λx y H Q=>∃a b i h,x=.ref a/\y=.ref b/\bO K H a i/\bO K H b h/\i≠[]/\i.length+h.length<=aY /\
 (h=[]->Q (.ref a) H)/\(h≠[]->∀p,H p=ae->Q (.ref p) (upd H p (.tup (i++h))))
theorem bq.nil_iff{a:List V}{b:List ah}(r:bq a b):b=[]↔a=[]:=by
 cases r with
 |nil=>simp
 |cons _ _=>simp
theorem JE:bp X (fL .Add) (yi X.K):=by
 intro P s N H x y v u Q I C B h;obtain⟨a,b,A,t,rfl,rfl,M,L,K,r,E,D⟩:=h;cases C;cases B;obtain⟨J,l,G,_⟩:=I.tuple M;obtain⟨p,i,m,_⟩:=I.tuple L;refine HT.cat_tup G m (λz=>K (l.nil_iff.mp z)) (λz=>⟨.ref a,H,I,rfl,E (i.nil_iff.mp z)⟩) (λz=>?_) (by rw[<-l.length,<-i.length];exact r);refine⟨.ref s.heap.objs.size,_,I.laid (t':=s.toks) (o:=.tup (A++t)) (λb O q=>a8 _ q) (aT _) ?_,rfl,D (λw=>z (i.nil_iff.mpr w)) _ (I.hok.fresh (aT _))⟩;exact⟨by rw[cW];exact r,_,l.append i,AL.new _ _⟩
end
def j5(n:Nat)(i:Int):Option Nat:=if 0<=i then(if i<n then aa i.toNat else ae)else if -(n:Int)<=i then aa (i+n).toNat else ae
def dA{a:Type}(xs:List a)(i:Int):Option a:=(j5 xs.length i).bind λj=>xs[j]?
theorem Dn{n:Nat}{i:Int}{j:Nat}(h:j5 n i=aa j):seqIndex? i n=aa j/\j<n/\-(n:Int)<=i/\i<n:=by
 unfold j5 at h;by_cases b:0<=i
 .rw[if_pos b]at h;by_cases a:i<n
  .rw[if_pos a]at h;have e:i.toNat=j:=dO h;exact⟨by rw[seqIndex_of b a,e],∅,∅,a⟩
  .rw[if_neg a]at h;cases h
 .rw[if_neg b]at h;by_cases a:-(n:Int)<=i
  .rw[if_pos a]at h;have e:(i+n).toNat=j:=dO h;exact⟨by rw[seqIndex_neg ∅ a,e],∅,a,∅⟩
  .rw[if_neg a]at h;cases h
theorem ux{b:Type}{a:List b}{i:Int}{v:b}(h:dA a i=aa v):∃j,seqIndex? i a.length=aa j/\a[j]?=aa v/\j<a.length/\-(a.length:Int)<=i/\i<a.length:=by
 unfold dA at h;cases e:j5 a.length i with
 |none=>rw[e]at h;cases h
 |some j=>rw[e]at h;obtain⟨g,f,d,c⟩:=Dn e;exact⟨j,g,h,f,d,c⟩
theorem G3{a:Type}{xs:List a}{j:Nat}{v:a}(h:xs[j]?=aa v):dA xs (j:Int)=aa v:=by
 have b:j<xs.length:=(cD.mp h).1;have e:j5 xs.length (j:Int)=aa j:=by unfold j5;rw[if_pos ∅,if_pos ∅];simp
 unfold dA;rw[e];exact h
def zo(b:ay):Prop:=∀o i,wx b ak o i=operate [o,i] (nW o i)
def jY(X:Cx)(r:R2):Prop :=
 ∀(b a:ay) (d:List (af×Obj)) (s:am) (c:St) (H:Hp) (x y:V) (v u:ah) (Q:VK),Inv X d c H s->RelV x v->RelV y u->r x y H Q ->
  wx a ak v u=operate [v,u] (nW v u)->aq (ar X.prog X.w) X.A (subscriptTail b a v u) (EP X d c Q) X.xe s
def sV(X:Cx)(f:String)(r:V->List V->Hp->VK->Prop):Prop :=
 ∀(d:List (af×Obj)) (s:am) (a:St) (H:Hp) (x:V) (b:List V) (v:ah) (c:List ah) (Q:VK),Inv X d a H s->RelV x v->bq b c->r x b H Q ->
  aq (ar X.prog X.w) X.A (call (.builtin f) (v::c)) (EP X d a Q) X.xe s
section
variable{X:Cx}{a b:ay}{G E:TE}{D:Pos}
theorem jY.or{r j:R2}(h:jY X r)(n:jY X j):jY X (λx y H Q=>r x y H Q\/j x y H Q):=by
 intro c d m s f H x y v u Q I i g q l;rcases q with q|q
 .exact h c d m s f H x y v u Q I i g q l
 .exact n c d m s f H x y v u Q I i g q l
theorem EB{r:R2}(j:jY X r)(m:PE X a G)(l:PE X b E)(i:zo b):PE X (.Subscript a b D) (rz r G E):=by intro n s c H Q I h;exact Subscript_ (v4 m l I h λv u d x y p o g f q=>j a b n d c p x y v u Q o g f q (i _ _))
def zA(K:au):R2:=λx y H Q=>∃p c i v,x=.ref p/\y=.int i/\bK K H p c/\dA c i=aa v/\Q v H
def xj(K:au):R2:=λx y H Q=>∃p c i v,x=.ref p/\y=.int i/\bO K H p c/\dA c i=aa v/\Q v H
def xu:R2:=λx y H Q=>∃z i c,x=.str z/\y=.int i/\z.length<=aY/\dA z.cps.toList i=aa c/\Q (.str ⟨#[c]⟩) H
theorem JH:jY X (zA X.K):=by
 intro f g K s A H x y v u Q I N M h B;obtain⟨p,Z,i,z,rfl,rfl,O,S,q⟩:=h;cases N;obtain⟨t,rfl⟩:=M;obtain⟨n,r,m,hz⟩:=I.list O;obtain⟨j,d,Y,h3,W,T⟩:=ux S;obtain⟨w,J,l⟩:=r.get Y;have P:=r.length;have hn:=o9;have c:EP X K A Q w s:=⟨z,H,I,l,q⟩
 by_cases C:0<=i
 .have o:i.toNat=j:=by
   rw[seqIndex_of C T]at d;exact dO d
  exact item_listR m.isList C ∅ (by rw[o];simpa using J) c B
 .have o:(i+(n.toArray.size:Int)).toNat=j:=by
   rw[seqIndex_neg ∅ W]at d;rw[bQ,<-P];exact dO d
  exact subscriptTail_builtinR (x:=w) m.isList.typeIs slot_list_getitem.lookup
   (wpAny_getItem_list_neg (Q:=λr L=>r=w/\EP X K A Q r L) m.isList ∅ (by rw[bQ] <;> lia) ∅ (by rw[o];simpa using J) ⟨rfl,c⟩) B
theorem JM:jY X (xj X.K):=by
 intro c d n s l H x y v u Q I B A h J;obtain⟨p,S,i,z,rfl,rfl,K,M,q⟩:=h;cases B;obtain⟨t,rfl⟩:=A;obtain⟨C,r,m,T⟩:=I.tuple K;obtain⟨j,O,N,h3,Z,Y⟩:=ux M;obtain⟨w,P,f⟩:=r.get N;have L:=r.length;have W:=o9;have g:EP X n l Q w s:=⟨z,H,I,f,q⟩
 exact subscriptTail_builtinR (x:=w) m.typeIs slot_tuple_getitem.lookup
  (getItem_tuple (j:=j) (Q:=λr o=>r=w/\EP X n l Q r o) m ∅ ∅ (by rw[bQ,<-L];exact O) (by simpa using P) ⟨rfl,g⟩) J
theorem Fd:jY X xu:=by
 intro d f O s J H x y v u Q I m l h n;obtain⟨z,i,c,rfl,rfl,L,p,q⟩:=h;obtain⟨t,rfl⟩:=m;obtain⟨K,rfl⟩:=l;obtain⟨j,g,A,N,w,r⟩:=ux p;have o:z.cps.toList.length=z.length:=by simp[k_]
 rw[o]at g w r;have M:=o9;exact tail_any (typeIs_str s z t) slot_str_getitem.lookup (getItem_str (c:=c) (by have C:decide (i < -(2^63:Int))=ak:=decide_eq_false ∅;have B:decide (i ≥ 2^63)=ak:=decide_eq_false ∅;rw[C,B,Bool.or_false]) (by rw[g];simpa using A) ⟨.str ⟨#[c]⟩,H,I.tok _,⟨_,rfl⟩,q⟩) n
def z9(K:au):R2:=λx y H Q=>zA K x y H Q\/xj K x y H Q\/xu x y H Q
theorem iq:jY X (z9 X.K):=JH.or (JM.or Fd)
theorem Gd(c d:Option Int)(n:Nat):(nX c d ae n).1=((HT.sIx n 0 c:Nat):Int)/\(nX c d ae n).2.1=((HT.sIx n n d:Nat):Int)/\(nX c d ae n).2.2=1:=by
 refine⟨?_,?_,rfl⟩
 .cases c with
  |none=>simp[nX,HT.sIx]
  |some i=>
   simp only[nX,HT.sIx,AX,show(1:Int) > 0 by decide,if_true];by_cases h:i<0
   .simp only[h,if_true] <;> lia
   .simp only[h,if_false] <;> lia
 .cases d with
  |none=>simp[nX,HT.sIx]
  |some i=>
   simp only[nX,HT.sIx,AX,show(1:Int) > 0 by decide,if_true];by_cases h:i<0
   .simp only[h,if_true] <;> lia
   .simp only[h,if_false] <;> lia
theorem Co(c:List ah)(d f:Option Int):slicePick c.toArray d f ae=((c.drop (HT.sIx c.length 0 d)).take (HT.sIx c.length c.length f-HT.sIx c.length 0 d)).toArray:=by obtain⟨i,h,g⟩:=Gd d f c.toArray.size;unfold slicePick;rw[i,h,g];simp only[sliceRange_one,pick_run,bQ] <;> rfl
def yI(K:au):V->Option Int->Option Int->Hp->VK->Prop:=λx d f H Q=>∃a c,x=.ref a/\bK K H a c/\∀p,H p=ae->Q (.ref p) (upd H p (.lst (kM c d f)))
theorem JB:j6 X (yI X.K):=by
 intro C s w H x v z y d f A Q I i t l j h;obtain⟨a,c,rfl,p,q⟩:=h;cases i;obtain⟨m,r,g,n⟩:=I.list p;have u:=r.length;refine⟨"list",_,slot_list_getitem.lookup,g.isList.typeIs,?_⟩;refine wpAny_getItem_list_slice g.isList t l j .none (by simp) ?_ (by rw[bQ] <;> lia);rw[Co,<-u];refine⟨.ref s.heap.objs.size,_,I.laid (t':=s.toks) (o:=.lst (kM c d f)) (λb B q=>a8 _ q) (aT _) ?_,rfl,q _ (I.hok.fresh (aT _))⟩;exact⟨bX (xJ c d f) n,_,0,(r.drop (HT.sIx c.length 0 d)).take (HT.sIx c.length c.length f-HT.sIx c.length 0 d),bW _ rfl⟩
def d8:V->Bool
 |.non=>ai
 |.bl _=>ai
 |.int _=>ai
 |.str _=>ai
 |_=>ak
def cg:V->V->Bool
 |.non,.non=>ai
 |.bl a,.bl b=>a == b
 |.bl a,.int b=>(if a then 1 else 0) == b
 |.int a,.bl b=>a == (if b then 1 else 0)
 |.int a,.int b=>a == b
 |.str a,.str b=>a == b
 |_,_=>ak
theorem yJ{A:aH}{s:am}{y x:V}{u v:ah}(f:RelV y u)(c:RelV x v)(h:d8 y=ai)(g:d8 x=ai):qd A s u v (cg y x):=by
 cases y with
 |non=>
  cases f;cases x with
  |non=>cases c;exact SeqAt.EqAt.same _
  |bl b=>cases c;exact SeqAt.EqAt.none_bool b
  |int b=>obtain⟨t,rfl⟩:=c;exact SeqAt.EqAt.none_int b t
  |str b=>obtain⟨t,rfl⟩:=c;exact SeqAt.EqAt.none_str b t
  |_=>exact absurd (show ak=ai from g) dQ
 |bl a=>
  cases f;cases x with
  |non=>cases c;exact SeqAt.EqAt.bool_none a
  |bl b=>cases c;exact SeqAt.EqAt.bool_bool a b
  |int b=>obtain⟨t,rfl⟩:=c;exact SeqAt.EqAt.bool_int a b t
  |str b=>obtain⟨t,rfl⟩:=c;exact SeqAt.EqAt.bool_str a b t
  |_=>exact absurd (show ak=ai from g) dQ
 |int a=>
  obtain⟨d,rfl⟩:=f;cases x with
  |non=>cases c;exact SeqAt.EqAt.int_none a d
  |bl b=>cases c;exact SeqAt.EqAt.int_bool a d b
  |int b=>obtain⟨t,rfl⟩:=c;exact SeqAt.EqAt.int_int a d b t
  |str b=>obtain⟨t,rfl⟩:=c;exact SeqAt.EqAt.int_str a d b t
  |_=>exact absurd (show ak=ai from g) dQ
 |str a=>
  obtain⟨d,rfl⟩:=f;cases x with
  |non=>cases c;exact SeqAt.EqAt.str_none a d
  |bl b=>cases c;exact SeqAt.EqAt.str_bool a d b
  |int b=>obtain⟨t,rfl⟩:=c;exact SeqAt.EqAt.str_int a d b t
  |str b=>obtain⟨t,rfl⟩:=c;exact AY a d b t
  |_=>exact absurd (show ak=ai from g) dQ
 |_=>exact absurd (show ak=ai from h) dQ
def gu(x:V)(u:ah):Bool:=match u with
 |.none=>cg .non x
 |.bool b=>cg (.bl b) x
 |.int i _=>cg (.int i) x
 |.str z _=>cg (.str z) x
 |_=>ak
theorem rG{x y:V}{u:ah}(r:RelV y u)(f:d8 y=ai):gu x u=cg y x:=by
 cases y with
 |non=>cases r;rfl
 |bl b=>cases r;rfl
 |int i=>obtain⟨t,rfl⟩:=r;rfl
 |str z=>obtain⟨t,rfl⟩:=r;rfl
 |_=>exact absurd (show ak=ai from f) dQ
theorem u6{x:V}:∀{c:List V}{d:List ah},bq c d->c.all d8=ai->d.any (gu x)=c.any λy=>cg y x
 |_,_,.nil,_=>rfl
 |y::c,u::d,.cons r t,f=>by rw[nY,eV]at f;rw[List.any_cons,List.any_cons,rG r f.1,u6 t f.2]
theorem mR{A:aH}{s:am}{x:V}{v:ah}(h:RelV x v)(i:d8 x=ai):∀{d:List V}{g:List ah},bq d g->d.all d8=ai->∀u∈g,qd A s u v (gu x u)
 |_,_,.nil,_=>λu c=>by cases c
 |y::d,u::g,.cons r t,f=>λj c=>by
  rw[nY,eV]at f;rcases bw.mp c with rfl|c
  .rw[rG r f.1];exact yJ r h f.1 i
  .exact mR h i t f.2 j c
def pi(x:V)(c:List V):Bool:=c.any λy=>cg y x
def uZ(K:au)(d:Bool):R2:=λx y H Q=>∃p c,y=.ref p/\(bK K H p c\/bO K H p c)/\d8 x=ai/\c.all d8=ai/\Q (.bl (if d then !pi x c else pi x c)) H
theorem HF:bp X (cM .In) (uZ X.K ak):=by
 intro t s n H x y v u Q I i l h;obtain⟨p,o,rfl,d,j,fs,q⟩:=h;cases l;rcases d with d|d
 .obtain⟨c,r,f,m⟩:=I.list d;refine SeqAt.in_listAt (gu x) f.isList (λw g=>mR i j r fs w (by simpa using g)) ⟨.bl _,H,I,rfl,?_⟩;rw[show c.toArray.any (gu x)=c.any (gu x) by simp,u6 r fs];exact q
 .obtain⟨c,r,f,m⟩:=I.tuple d;refine SeqAt.in_tupleAt (gu x) f (λw g=>mR i j r fs w (by simpa using g)) ⟨.bl _,H,I,rfl,?_⟩;rw[show c.toArray.any (gu x)=c.any (gu x) by simp,u6 r fs];exact q
theorem IM:fQ X (.type "list") (λA H Q=>∃p f,A=[.ref p]/\(bK X.K H p f\/bO X.K H p f)/\∀l,H l=ae->Q (.ref l) (upd H l (.lst f))):=by
 intro K s C H A M Q I r h;obtain⟨p,f,rfl,t,q⟩:=h;obtain⟨u,rfl,J⟩:=vals1 r;cases J;have v:∀(c:List ah),bq f c->f.length<=aY->∀(d:ax) (i:Nat),(∀b B,s.heap.get? b=aa B->d.get? b=aa B) ->
   d.get? s.heap.objs.size=aa {cls:=.type "list",dict:=ae,data:=.seq c.toArray i,slots:=#[]}->EP X K C Q (.ref s.heap.objs.size) {s with heap:=d}:=λc g m d i j e=>
  ⟨.ref s.heap.objs.size,_,I.laid (t':=s.toks) j (aT _) (show cN X.prog X.w _ d _ (.lst f)from⟨m,c,i,g,e⟩),rfl,q _ (I.hok.fresh (aT _))⟩
 rcases t with t|t
 .obtain⟨c,g,w,m⟩:=I.list t;have L:=g.length;obtain⟨o,x,z,n,y⟩:=w.isList;exact call_list_seq p (.inl rfl) x z y (λd i j e=>v c g m d i j e) (by simp only[bQ] <;> lia)
 .obtain⟨c,g,w,m⟩:=I.tuple t;have L:=g.length;obtain⟨o,x,z,n,y⟩:=w;exact call_list_seq p (.inr rfl) x z y (λd i j e=>v c g m d i j e) (by simp only[bQ] <;> lia)
theorem Hs:fQ X (.type "tuple") (λm H Q=>∃p d,m=[.ref p]/\((bK X.K H p d/\∀l,H l=ae->Q (.ref l) (upd H l (.tup d)))\/(bO X.K H p d/\Q (.ref p) H))):=by
 intro t s j H m z Q I r h;obtain⟨p,d,rfl,h⟩:=h;obtain⟨u,rfl,w⟩:=vals1 r;cases w;rcases h with⟨hq,q⟩|⟨hq,q⟩
 .obtain⟨c,g,i,n⟩:=I.list hq;have A:=g.length;refine call_tuple_list i.isList (λf x=>?_) (by simp only[bQ] <;> lia);have v:Inv X t j H {s with heap:=f}:=I.kept (t':=s.toks) x;have y:Inv X t j (upd H f.objs.size (.tup d)) {s with heap:=f.push {cls:=.type "tuple",data:=.seq c.toArray}} :=v.laid (t':=s.toks) (λb o e=>a8 _ e) (aT _) (show cN X.prog X.w _ _ _ (.tup d)from⟨n,c,g,AL.new _ _⟩);exact⟨.ref f.objs.size,_,y,rfl,q _ (v.hok.fresh (aT _))⟩
 .obtain⟨c,g,i,n⟩:=I.tuple hq;exact call_tuple_same i ⟨.ref p,H,I,rfl,q⟩
def Ay(K:au)(T:String)(x:V)(H:Hp):Prop:=match x with
 |.str _=>T = "str"
 |.int _=>T = "int"
 |.ref p=>(T = "list"/\∃d,bK K H p d)\/(T = "tuple"/\∃o,K.lookup p=aa o/\o.cls=.type "tuple"/\o.dict=ae) \/
   (T = "dict"/\((∃c,H p=aa (.dK c))\/∃c,H p=aa (.dT c)))\/(T = "set"/\∃S n,H p=aa (.set S n))
 |_=>False
theorem Dt{q:List (af×Obj)}{l:St}{H:Hp}{s:am}{T:String}{x:V}{v:ah}(I:Inv X q l H s)(r:RelV x v)(ty:Ay X.K T x H):s.TypeIs v T/\∀a,v=.ref a->∃j,s.heap.get? a=aa j/\j.dict=ae:=by
 cases x with
 |str z=>
  obtain⟨t,rfl⟩:=r;cases (show T = "str" from ty);exact⟨typeIs_str s z t,λ_ e=>nomatch e⟩
 |int i=>
  obtain⟨t,rfl⟩:=r;cases (show T = "int" from ty);exact⟨typeIs_int s i t,λ_ e=>nomatch e⟩
 |ref p=>
  cases r;rcases ty with⟨rfl,xs,hq⟩|⟨rfl,o,hk,hc,f⟩|⟨rfl,hk⟩|⟨rfl,S,n,hk⟩
  .obtain⟨m,_,h,_⟩:=I.list hq;refine⟨h.isList.typeIs,λa e=>?_⟩;cases e;obtain⟨o,n,e,c,f,_⟩:=h;exact⟨o,e,f⟩
  .refine⟨⟨o,I.kIn p o hk,hc⟩,λa e=>?_⟩;cases e;exact⟨o,I.kIn _ o hk,f⟩
  .have z:∃o,s.heap.get? p=aa o/\o.ExactDict:=by
    rcases hk with⟨kvs,hk⟩|⟨kvs,hk⟩
    .obtain⟨_,_,_,_,o,_,_,e,d,_⟩:=I.hok p _ hk;exact⟨o,e,d⟩
    .obtain⟨_,_,_,_,o,_,_,e,d,_⟩:=I.hok p _ hk;exact⟨o,e,d⟩
   obtain⟨o,e,d⟩:=z;refine⟨⟨o,e,d.1⟩,λa g=>?_⟩;cases g;exact⟨o,e,d.2.1⟩
  .obtain⟨o,_,_,_,e,d,_⟩:=I.hok p _ hk;refine⟨⟨o,e,d.1⟩,λa g=>?_⟩;cases g;exact⟨o,e,d.2.1⟩
 |_=>exact jF ty
def Dh(K:au)(T:String)(r:V->List V->Hp->VK->Prop)(B:TE)(t:TA):TE:=λc H Q=>B c H λx d=>Ay K T x d/\t c d λf g=>r x f g Q
variable{o e:ay}{es:List ay}{B:TE}{t:TA}{g:Str}{m d:Pos}{T C:String}{r:V->List V->Hp->VK->Prop}
theorem sH(L:PlainAttrs T)(c:Slot T g C)(M:typeOf (.builtin C)=pure (.type "method_descriptor"))(W:sV X C r)(S:PE X o B)(Y:PA X (e::es) t)(O:mh o g X.env (aK o X.env)=aK o X.env:=by rfl)(z:((cV d (aM (e::es) X.env)).all (λx=>!x.1)&&(backToKw d (tw [] X.env)).all (λx=>x.1.isSome)&&decide ((e::es).length+([]:List kr).length+(if([]:List kr).isEmpty then 0 else 1)<30))=ai:=by rfl)(N:(m.endLine == d.line)=ai:=by rfl) (P:aM (e::es) X.env=(ak,aK e X.env)::aM es X.env:=by rfl) (A:(cV d (aM es X.env)).any (·.1)=ak:=by rfl):PE X (.Call (.Attribute o g m) (e::es) [] d) (Dh X.K T r B t):=by intro i s f H Q I h;refine wpAny_Call_method_late O z N rfl (aO (S i s f H _ I h) λv w ⟨x,H1,n,j,ty,K⟩=>?_);obtain⟨h1,Z⟩:=Dt n j ty;refine⟨T,C,L,c,M,h1,Z,?_⟩;have l:=Y d i w f H1 _ n K;rw[P]at l ⊢;refine Calls.callWith_builtin (by show(ak||(cV d (aM es X.env)).any (·.1))=ak;rw[A] <;> rfl) (AZ ?_);exact aO l λq u ⟨p,H2,I2,y,J⟩=>W i u f H2 x p v q Q I2 j y J
end
def p6(X:Cx)(f:String)(r:V->List V->Hp->VK->Prop):Prop :=
 ∀(d:List (af×Obj)) (s:am) (a:St) (H:Hp) (x:V) (b:List V) (v:ah) (c:List ah) (Q:VK),Inv X d a H s->RelV x v->bq b c->r x b H Q ->
  aq (ar X.prog X.w) X.A (call (.builtin f) (v::c)) (EP X d a Q) X.xe s
theorem bq.one:∀{x:V}{a:List ah},bq [x] a->∃u,a=[u]/\RelV x u
 |_,_,.cons r .nil=>⟨_,rfl,r⟩
section
variable{X:Cx}{d:List (af×Obj)}{a:St}{H:Hp}{s:am}{l b:af}{g c i:List V}
theorem Inv.lset{h its':List ah}{n:Nat}{f:Array ah->Array ah}{j:Nat}(I:Inv X d a H s)(v:H l=aa (.lst g))(e:s.heap.get? l=aa {cls:=.type "list",data:=.seq h.toArray n}) (r:f h.toArray=its'.toArray) (o:bq c its') (m:c.length<=aY):Inv X d a (upd H l (.lst c)) {s with heap:=s.heap.update l (ga f),toks:=j}:=by have q:=PySem.IsL.update e f;rw[r]at q;refine I.write (x:=l) (e:=l) (by rw[v];exact trivial) (.inl rfl) (λw u t p=>(nZ s.heap (ga f) (f9 t)).trans p) ⟨_,q⟩ ?_;exact⟨m,its',_,o,q⟩
theorem Inv.lnew{its:List ah}{t':Nat}(I:Inv X d a H s)(h:bq c its)(f:c.length<=aY):Inv X d a (upd H s.heap.objs.size (.lst c)) {s with heap:=s.heap.push {cls:=.type "list",data:=.seq its.toArray},toks:=t'} :=I.laid (λ_ _ q=>a8 _ q) (aT _) ⟨f,its,0,h,bW _ rfl⟩
theorem Inv.fresh(I:Inv X d a H s):H s.heap.objs.size=ae:=I.hok.fresh (aT _)
theorem Inv.lstM(I:Inv X d a H s)(h:H l=aa (.lst g)):g.length<=aY/\∃(f:List ah) (n:Nat),bq g f/\g.length=f.length/\s.heap.get? l=aa {cls:=.type "list",data:=.seq f.toArray n}:=by obtain⟨z,f,n,r,e⟩:=I.hok l _ h;exact⟨z,f,n,r,r.length,e⟩
theorem Hb{n:Nat}(h:n<=aY):A0 n=ak:=by unfold A0;exact decide_eq_false ∅
end
section
variable{X:Cx}
def FR:V->List V->Hp->VK->Prop:=λx b H Q=>∃l a y,x=.ref l/\b=[y]/\H l=aa (.lst a)/\a.length<aY/\Q .non (upd H l (.lst (a++[y])))
theorem zj:p6 X "list.append" FR:=by
 intro p s f H x i v j Q I b c h;obtain⟨l,g,y,rfl,rfl,a,m,q⟩:=h;cases b;obtain⟨u,rfl,d⟩:=c.one;obtain⟨z,its,n,r,o,e⟩:=I.lstM a;refine tx F.slot_list_append ⟨_,e,rfl⟩ F.entry_list_append (F.args_list_append_2 _ _) (PySem.list_append l its.toArray n u (by rw[bQ];lia)) ⟨e,?_⟩;refine⟨.non,_,I.lset (its':=its++[u]) a e (by simp) (r.append (.cons d .nil)) ?_,rfl,q⟩;rw[cW,wy];lia
theorem Fj{b:Type}(a:List b)(k:Nat):(cQ k a).flatten.length=k*a.length:=by
 induction k with
 |zero=>simp
 |succ k c=>rw[A2,List.flatten_cons,cW,c,wz,Nat.add_comm]
end
section
variable{a:Type}[DecidableEq a]
def gU(b:List (a×V))(k:a):Option V:=(b.find? λc=>decide (c.1=k)).map (·.2)
theorem zJ{p:a×V}{r:List (a×V)}{k:a}(e:p.1=k):gU (p::r) k=aa p.2:=by simp[gU,qe,e]
theorem yU{p:a×V}{r:List (a×V)}{k:a}(e:¬p.1=k):gU (p::r) k=gU r k:=by simp[gU,qe,e]
theorem nN.isSome_eq{o:Option V}{u:Option ah}(r:nN o u):o.isSome=u.isSome:=by
 cases o with
 |none=>cases u with
  |none=>rfl
  |some _=>exact(show False from r).elim
 |some _=>cases u with
  |none=>exact(show False from r).elim
  |some _=>rfl
end
section
variable{X:Cx}{d:List (af×Obj)}{c:St}{H:Hp}{s:am}{a:af}{y v:V}{u r:ah}{o:Option V}{A:aH}{E:ah->am->Prop}
theorem Inv.big(I:Inv X d c H s):nR<s.heap.objs.size:=by have h:bG<s.heap.objs.size:=(I.mod.glob.keeps I.bk).lt;exact wA (by decide) h
theorem Cd{f:ax}{g:Nat}{ob:HO}(I:Inv X d c H s)(h:o6 (H a))(i:iU a s.heap f)(j:∃q,f.get? a=aa q)(new:cN X.prog X.w (upd H a ob) f a ob):Inv X d c (upd H a ob) {s with heap:=f,toks:=g} :=I.write (x:=a) (e:=a) h (.inl rfl) (λb q l z=>(i.2 b l).trans z) j new
end
def vf(i:ay):Prop:=∀ov a,wx i ak ov a=operate [ov,a] (nW ov a)
theorem Ir{a:aG}{w:aC}{A:aH}{E:ah->am->Prop}{s:am}{m:Env}{c b:ay}{q:Pos}{T u:String}{Q:ah->am->Prop}(y:typeLookup (.type T) "__getitem__"=pure (aa (.builtin u))) (v:vf b)(h:aq (ar a w) A (aK c m) (λo j=>aq (ar a w) A (aK b m) (λi d=>d.TypeIs o T/\aq (ar a w) A (nW o i) Q E d) E j) E s):aq (ar a w) A (aK (.Subscript c b q) m) Q E s:=by
 refine Subscript_ (c9 h (λo j p=>c9 p (λi d f=>?_) λ_ _ x=>x) λ_ _ x=>x);obtain⟨t,f⟩:=f;unfold subscriptTail;refine ap ?_;rw[getitemInPython_of_ne t.not_modules];refine ap (tz t y ?_);have l:aq (ar a w) A (wx b ak o i) (λr g=>aq (ar a w) A (letTemporaryGo c o r >>= λ_=>pure r) Q E g) E d:=by rw[v o i];exact wpAny_operating (c9 f (λr g n=>ap (wpAny_letTemporaryGo (aB n))) λ_ _ x=>x)
 first
  |exact aB (ap l)
  |exact ap (aB (ap l))
  |exact ap l
theorem FH{P:aG}{w:aC}{H:Hp}(h:ax)(a:nR<h.objs.size):cN P w H (h.push {cls:=.type "dict",data:=.dict #[]}) h.objs.size (.dT []) :=⟨jH _,beq_eq_false_iff_ne.mpr (f9 (cC a)),[],.nil,_,#[],0,bW _ rfl,⟨rfl,rfl,rfl⟩,rfl,rfl,List.nodup_nil⟩
end L2
namespace Att
open PySem PySem.W PySem.Calls PyProof.Rows
theorem HG{P:Params}{h:ax}:∀(c:List Int) (d:List ah),WellAll P h d (c.map WData.int)->IntsAre d c:=by
 intro c
 induction c with
 |nil=>
  intro d w;rw[List.map_nil]at w;cases w;exact .nil
 |cons n c f=>
  intro d w;rw[lc]at w;cases w with
  |cons a b=>
   cases a;exact .cons _ _ (f _ b)
theorem II{l:OpenLaw}{n:Nat}(w:l.most=aa n){P:Params}{h:ax}{args:List WData}{c:List ah}(m:l.row.toRowW.claim.pre args=ai) (i:WellAll P h c args):∃a j b,c=[Value.ref a]/\args=[WData.list (b.map WData.int)]/\h.get? a=aa {cls:=.type "list",data:=.seq j.toArray}/\IntsAre j b/\b.length<=n:=by
 have t:WShape.hasAll [] args [.list .int]=ai:=(pre_splitW m).1;have o:l.pre.holds [] {args:=args}=ai:=(pre_splitW m).2;obtain⟨d,r,rfl,z,y⟩:=hasAllW_cons t;obtain rfl:=hasAllW_nil y;obtain⟨C,rfl,x⟩:=hasW_list z;obtain⟨b,rfl⟩:=items_int x;have B:b.length<=n:=by
  unfold OpenLaw.pre at o;have g:(WTm.not (.lt (.lit (.int (n:Int))) (.len (.arg 0)))).holds [] {args:=[.list (b.map .int)]}=ai:=by have g:=(holds_andW o).1;rw[w]at g;exact g
  have f:=condW_of g (w_not (w_lt w_lit (w_len_list (w_arg rfl))));rw[fg]at f;refine Nat.le_of_not_lt λq=>?_;have u:(n:Int)<((b.length:Nat):Int):=∅
  first
   | (rw[decide_eq_true u]at f;exact absurd f (by decide))
   | (simp at f;lia)
 cases i with
 |cons s p=>
  cases p;cases s with
  |list v A=>exact⟨_,_,b,rfl,rfl,v,HG b _ A,B⟩
theorem FV(l:OpenLaw)(args:List WData):l.row.toRowW.claim.post args (.bool ai) args=ai :=
 postW_of (r:=l.row.toRowW) (X:=(ai == ai))
  (show WShape.has [] (.bool ai) .bool=ai by first|rfl|decide|simp[WShape.has,WShape.arms,WShape.armsAll])
  (show(WTm.eq .res (.lit (.bool ai))).value [] {args:=args,res:=aa (.bool ai),after:=args}=aa (.bool (ai == ai))from w_eq_bool (w_res rfl) w_lit) rfl
theorem attach_call{l:OpenLaw}{n:Nat}{q:aG}{g:List Str}{XP:(Str->Option ah)->ax->Prop}{C:aC->ax->Prop}{d:DefRec}(N:l.most=aa n) (J:d.params.defaults=[])(call:∀(w:aC) (c b:am) (s v:Str->Option ah) (j:af) (o:Obj) (u t h:ah) (a:af) (i:List ah) (p:List Int),Ground q g [] XP w c s v b.heap->C w b.heap -> b.heap.get? j=aa o->o.data=.func (docDef d.name d.params d.body d.scope u t h)->b.heap.CodeRec t d.name->s d.name=aa (.ref j) -> b.heap.get? a=aa {cls:=.type "list",data:=.seq i.toArray}->IntsAre i p->p.length<=n->b.gens=#[] -> k6 (ar l.prog w) n5 (.call (.ref j) ⟨[.ref a],[]⟩) (λr m=>r=.ok (.ret (.bool ai))/\OldK b.heap m.heap/\m.os=b.os/\kh m.gens) b):WalkO q g XP C l.row.toRowW d [] (λf i=>PySem.call f i):=by intro w c b s v G Y j o u t h dV kV M S Z A I Q B y as H z K x P;obtain rfl:dV=.none:=Dflts.none A J;obtain rfl:kV=.none:=Dflts.noKw A;obtain⟨a,i,p,rfl,rfl,D,E,aZ⟩:=II N H x;refine enter_call (tm (call w c b s v j o u t h a i p G Y M (fd_plain S) Z I D E aZ Q) λr m L=>?_);obtain⟨rfl,X,W,T⟩:=L;exact⟨.inl ⟨.bool ai,.bool ai,[],rfl,λ_=>rfl,.bool ai,FV l _,λ_=>⟨List.Pairwise.nil,λ_ O=>(nomatch O)⟩⟩,X,W,T⟩
end Att
namespace L2
theorem xo:∀{a:List ah}{b:List Int},IntsAre a b->bq (b.map V.int) a
 |_,_,.nil=>.nil
 |_,_,.cons n t h=>.cons ⟨t,rfl⟩ (xo h)
def vR(H:Hp):Prop:=∀b,H b=ae\/(∃o a,H b=aa (.frz o (.lst a)))\/∃q,H b=aa (.tbl q)
def gP(K:au):Hp:=λb=>match iS K "least_ending" with
 |some (_,P)=>if b=P then aa (.tbl "least_ending.<locals>.<lambda>")else ae
 |none=>ae
theorem lU{K:au}{b:af}{u:HO}(h:gP K b=aa u):u=.tbl "least_ending.<locals>.<lambda>"/\∃c,iS K "least_ending"=aa (c,b):=by
 unfold gP at h;split at h
 .rename_i c P e;split at h
  .rename_i a;subst a;cases h;exact⟨rfl,c,e⟩
  .cases h
 .cases h
theorem ya{K:au}{c P:af}(h:iS K "least_ending"=aa (c,P)):gP K P=aa (.tbl "least_ending.<locals>.<lambda>"):=by unfold gP;rw[h];exact if_pos rfl
def xE(K:au)(h:ax):Prop:=∀c P,iS K "least_ending"=aa (c,P)->tD K c P=ai/\K.lookup P=ae/\h.get? P=aa {cls:=.none,data:=.fields #[]}
theorem FJ{P:aG}{w:aC}{K:au}{J mb:Str->Option ah}{CX:ez}{k:Nat}{fa a:af}{fd:fM}{x:Str}{sp:Sp}{f:am}{E:List ah}{L:List Int}(KX:K.In f.heap) (je:f.heap.Ns bG J) (j:f.heap.Ns kW mb) (my:∀x:Str,x≠"__name__"->mb x=c8 x) (N:f.heap.NoLimit) (hbm:∃D A,J "__builtins__"=aa (.ref D)/\D≠kW/\f.heap.get? D=aa A/\A.cls=.type "module"/\A.dict=aa kW/\A.data=.plain) (B:xE K f.heap) (hg:f.gens=#[])(t:f.heap.get? a=aa {cls:=.type "list",data:=.seq E.toArray}) (hi:IntsAre E L) (hl:L.length<=aY) (hr:Room k n5)(F:∀p:ax,K.In p->p.Ns bG J->iJ P w K J p CX k fa fd [x] sp) (Jq:∀(s:am) (u:ah),BindsTo s fd ⟨[u],[]⟩ [(x,u)])(jT:∀H:Hp,vR H->bK K H a (L.map V.int)->sp [.ref a] H (λv _=>v=.bl ai) λ_ _ _=>False)(hCX:∀H e l,CX [] H f (λ_ _ _=>False) e l->False):k6 (ar P w) n5 (.call (.ref fa) ⟨[.ref a],[]⟩) (λr l=>r=.ok (.ret (.bool ai))/\OldK f.heap l.heap/\l.os=f.os/\kh l.gens) f:=by
 have rv:=xo hi;have M:=hi.length;have C:∀H:Hp,vR H->bK K H a (L.map V.int)->cJ P w H f.heap->(∀b,H b≠ae->b=a\/∃c,iS K "least_ending"=aa (c,b))->(H a≠ae->K.lookup a=ae)->rj K H ->
   k6 (ar P w) n5 (.call (.ref fa) ⟨[.ref a],[]⟩) (λr l=>r=.ok (.ret (.bool ai))/\OldK f.heap l.heap/\l.os=f.os/\kh l.gens) f:=by
  intro H hO hS G X hK hTH;have g:∀{b:af}{o:Obj},f.heap.get? b=aa o->H b=ae->(j7 f.heap H).get? b=aa o:=λe n=>E3 e n;have noA:∀{b:af}{o:Obj}{Q:Array DictEntry}{S:Nat},f.heap.get? b=aa o->o.data=.dict Q S->H b=ae:=λ{b o Q S} e d=>by
   cases q:H b with
   |none=>rfl
   |some u=>
    rcases X b (by rw[q];simp)with i|⟨c,i⟩
    .subst i;rw[t]at e;cases e;have d':Data.seq E.toArray _=Data.dict Q S:=d;cases d'
    .rw[(B c b i).2.2]at e;cases e;cases d
  have y:∀{b:af}{m:Str->Option ah},f.heap.Ns b m->(j7 f.heap H).Ns b m:=λ{b m} ⟨o,Q,S,e,d,r⟩=>⟨o,Q,S,g e (noA e d),d,r⟩
  have O:K.In (j7 f.heap H):=λb o e=>g (KX b o e) (by
   cases q:H b with
   |none=>rfl
   |some u=>
    rcases X b (by rw[q];simp)with i|⟨c,i⟩
    .subst i;rw[hK (by rw[q];simp)]at e;cases e
    .rw[(B c b i).2.1]at e;cases e)
  have hM:Mod K J (j7 f.heap H):=⟨O,y je,⟨mb,y j,my⟩,(let ⟨mc,h1,h2⟩:=N;⟨mc,y h1,h2⟩),by
   obtain⟨D,A,b1,b2,W,b4,b5,b6⟩:=hbm;refine⟨D,A,b1,b2,g W ?_,b4,b5,b6⟩;cases q:H D with
   |none=>rfl
   |some u=>
    rcases X D (by rw[q];simp)with i|⟨c,i⟩
    .subst i;rw[t]at W;cases W;simp at b4
    .rw[(B c D i).2.2]at W;cases W;simp at b4⟩
  have e0:rL P w K J (j7 f.heap H) n5 [] f H:=⟨rfl,hM,λb o e=>Je e,jI (BI _ _),trivial,λb j=>absurd (show b∈([]:List af)from j) (by simp),G,.of_eq hg,hTH⟩
  refine tm ((F _ O (y je)).run n5 [] f H ⟨[.ref a],[]⟩ [.ref a] [.ref a] _ _ hr e0 (Jq f (.ref a)) (.cons rfl .nil) (jT H hO hS)) λr l h=>?_;cases r with
  |error e=>exact(hCX H e l h).elim
  |ok fl=>
   cases fl with
   |next=>exact jF h
   |brk=>exact jF h
   |cont=>exact jF h
   |ret u=>
    obtain⟨v,H',os,T,un,Bz,r',q⟩:=h;have q':v=.bl ai:=q;subst q';obtain rfl:u=Value.bool ai:=r';refine⟨rfl,⟨λb o e=>?_,λb o e=>un.there b o e (by simp)⟩,os,T⟩;cases q:H b with
    |none=>exact .inl (un.keep b o e q (by intro z;exact absurd (show b∈([]:List af)from z) (by simp)) (by simp))
    |some u=>
     rcases hO b with z|⟨A,xs,z⟩|⟨qn,z⟩
     .rw[q]at z;cases z
     .have z2:=un.frzs b A _ z;obtain⟨I,_⟩:=G b _ z;obtain⟨e2,_⟩:=Bz b _ z2;rw[e]at I;cases I;exact .inl e2
     .rcases X b (by rw[q];simp)with i|⟨c,i⟩
      .subst i;obtain⟨ps,I,_⟩:=G b _ z;rw[t]at I;cases I
      .obtain⟨k1,k2,k3⟩:=B c b i;rw[k3]at e;cases e;obtain⟨oc,Y,_,_,_,_,_,_,_,f1,f2,f3,f4,_⟩:=PySem.W.codeHd_of_K KX k1;obtain⟨ps,I,_⟩:=Bz b _ (un.tbls b _ z);exact .inr (.inl ⟨⟨c,oc,Y,f1,f2,f3,f4⟩,rfl,#[],ps,rfl,by rw[I];simp⟩)
 cases hk:K.lookup a with
 |some o=>
  have e:=KX a o hk;rw[t]at e;cases e;have tH:∀b u,gP K b=aa u->cN P w (gP K) f.heap b u:=λb u z=>by
   obtain⟨rfl,c,e⟩:=lU z;exact⟨#[],(B c b e).2.2,trivial,λZ cv h=>by cases h⟩
  refine C (gP K) (λb=>?_) (.inr ⟨_,E.toArray,_,hk,rfl,rfl,rfl,by rw[bQ,M];exact hl,by simpa using rv⟩) tH (λb z=>?_) (λz=>?_) λx hx c P e=>?_
  .cases q:gP K b with
   |none=>exact .inl rfl
   |some u=>exact .inr (.inr ⟨_,congrArg aa (lU q).1⟩)
  .cases q:gP K b with
   |none=>exact absurd q z
   |some u=>exact .inr (lU q).2
  .cases q:gP K a with
   |none=>exact absurd q z
   |some u=>
    obtain⟨_,c,i⟩:=lU q;rw[(B c a i).2.2]at t;cases t
  .obtain rfl:x = "least_ending":=by simpa[pR]using hx
   exact ya e
 |none=>
  have ta:∀c P,iS K "least_ending"=aa (c,P)->P≠a:=λc P e z=>by subst z;rw[(B c P e).2.2]at t;cases t
  refine C (λb=>if b=a then aa (.frz {cls:=.type "list",data:=.seq E.toArray} (.lst (L.map V.int)))else gP K b) (λb=>?_) (.inl (.inr ⟨{cls:=.type "list",data:=.seq E.toArray},if_pos rfl⟩)) (λb u z=>?_) (λb z=>?_) (λ_=>hk) λx hx c P e=>?_
  .by_cases j:b=a
   .exact .inr (.inl ⟨_,_,if_pos j⟩)
   .cases q:gP K b with
    |none=>exact .inl ((if_neg j).trans q)
    |some u=>exact .inr (.inr ⟨_,(if_neg j).trans (q.trans (congrArg aa (lU q).1))⟩)
  .by_cases j:b=a
   .have z':=(if_pos j).symm.trans z;cases z';subst j;exact⟨t,by rw[fg];exact hl,E,_,rv,t⟩
   .obtain⟨rfl,c,e⟩:=lU ((if_neg j).symm.trans z);exact⟨#[],(B c b e).2.2,trivial,λZ cv h=>by cases h⟩
  .by_cases j:b=a
   .exact .inl j
   .cases q:gP K b with
    |none=>exact absurd ((if_neg j).trans q) z
    |some u=>exact .inr (lU q).2
  .obtain rfl:x = "least_ending":=by simpa[pR]using hx
   exact(if_neg (ta c P e)).trans (ya e)
theorem JV{l:wB}{n k:Nat}{q:aG}{c:List Str}{XP:(Str->Option ah)->ax->Prop}{D:aC->ax->Prop}{d:DefRec}{K:Params->au}{CX:aC->ez}{sp:aC->Sp}{x:Str}(P:l.most=aa n) (r:n<=aY) (M:d.params.defaults=[]) (O:Room k n5)(B:∀(w:aC) (h:ax),D w h->(K w.params).In h/\xE (K w.params) h)(F:∀(w:aC) (g:Str->Option ah) (m:af) (h:ax),(K w.params).In h->h.Ns bG g->g d.name=aa (.ref m) -> ∃y:fM,(∀(s:am) (u:ah),BindsTo s y ⟨[u],[]⟩ [(x,u)]) /\ ∀b:ax,(K w.params).In b->b.Ns bG g->iJ l.prog w (K w.params) g b (CX w) k m y [x] (sp w))(N:∀(w:aC) (H:Hp) (a:af) (j:List Int),j.length<=n->vR H->bK (K w.params) H a (j.map V.int)->sp w [.ref a] H (λv _=>v=.bl ai) λ_ _ _=>False)(t:∀(w:aC) (H:Hp) (s:am) (e:ah) (p:am),CX w [] H s (λ_ _ _=>False) e p->False):PySem.W.WalkO q c XP D l.row.toRowW d [] (λf z=>PySem.call f z):=by refine Att.attach_call P M λw A i g mb m o pm cd Z a z j G Y ho hd bY L I J C Q=>?_;have E:=(B w _ Y).1;obtain⟨y,S,X⟩:=F w g m _ E G.T.g L;exact FJ E G.T.g G.T.b G.T.builtins G.T.nolimit G.T.bmain (B w _ Y).2 Q I J (bX C r) O X S (λH W T=>N w H a j C W T) λH e p=>t w H i e p
def im(s:aX):nU:=match s with
 |.FunctionDef _ a _ _ _ _ _ _ _ _=>a
 |_=>{posonlyargs:=[],args:=[],vararg:=ae,kwonlyargs:=[],kw_defaults:=[],kwarg:=ae,defaults:=[]}
def eR(s:aX):List aX:=match s with
 |.FunctionDef _ _ b _ _ _ _ _ _ _=>b
 |_=>[]
def aU(s:aX):cy:=match s with
 |.FunctionDef _ _ _ _ _ _ a _ _ _=>a
 |_=>{kind:=.function,names:=[],isGenerator:=ak,isCoroutine:=ak}
abbrev E0:XK:=λ_ _ _=>False
structure lM(K:au)(x qual:Str)(st:aX)(f:af)(fd:fM):Prop where
 ex:∃(oc:ah) (od:Option af) (kV doc pm:ah) (an:Option af) (aN ct:ah) (osl:Array (Option ah)),
  fd=g_ x qual (im st) (eR st) (aU st) .none kV doc pm an aN ct/\K.lookup f=aa ⟨oc,od,.func fd,osl⟩/\tt K aN qual=ai
 kp:p_ K (.ref f)=ai
section
variable{P:aG}{w:aC}{K:au}{b:Str->Option ah}{a:ax}
theorem lM.binds{x c:Str}{g:aX}{f:af}{p:fM}{j:List Str}(F:lM K x c g f p)(h:∀(kV d l:ah) (n:Option af) (o m:ah) (i:List ah),i.length=j.length->ef (g_ x c (im g) (eR g) (aU g) .none kV d l n o m) ⟨i,[]⟩=pure (j.zip i)):Binds K p j []:=by obtain⟨oc,r,kV,d,l,n,o,m,q,rfl,s,t⟩:=F.ex;exact .all (h kV d l n o m)
theorem zU{x d:Str}{g:aX}{f:af}{oc:ah}{p o:Option af}{i:Array (Option ah)}{kV h m j n:ah}(l:K.lookup f=aa ⟨oc,p,.func (g_ x d (im g) (eR g) (aU g) .none kV h m o j n),i⟩)(c:tt K j d=ai) (k:p_ K (.ref f)=ai):lM K x d g f (g_ x d (im g) (eR g) (aU g) .none kV h m o j n):=⟨⟨oc,p,kV,h,m,o,j,n,i,rfl,l,c⟩,k⟩
end
theorem GX{n:Nat}(h:n<=1000):n<aY:=wC h (by decide)
section
variable{X:Cx}
theorem pv(i:Nat){x:Str}{a:Pos}(d:X.N[i]?=aa x:=by rfl)(b:gm X.env.scope x:=by eq_refl)(c:(x==("__debug__":Str))=ak:=by decide)(f:(x==("__classdict__":Str))=ak:=by decide):PE X (.Name x a) (Ai i):=iK d b c f
end
theorem oX{A B:Prop}(h:B):if ak=ai then A else B:=by rw[if_neg dQ];exact h
theorem pD{A B:Prop}(h:A):if ai=ai then A else B:=by rw[if_pos rfl];exact h
def Same(H a:Hp):Prop:=∀b o,H b=aa o->a b=aa o
theorem Same.refl(H:Hp):Same H H:=λ_ _ h=>h
theorem Same.trans{H f d:Hp}(a:Same H f)(b:Same f d):Same H d:=λc o h=>b c o (a c o h)
theorem Same.free{H a:Hp}(e:Same H a){l:af}(h:a l=Option.none):H l=Option.none:=by
 cases q:H l with
 |none=>rfl
 |some o=>
  rw[e l o q]at h;cases h
end L2
set_option maxHeartbeats 4000000
namespace L2
def fc(a:Env):List (Str×eD)->List (Str×af)->List (Str×af)
 |[],b=>b
 | (n,k)::r,b=>if k == .free then fc a r ((n,(a.cells.lookup n).getD 0)::b)else fc a r b
theorem HR{d:Env}{y:Str}{c:af}(b:List (Str×eD))(f:List (Str×af))(j:∀x∈b,x.2=.free->∃c,d.cells.lookup x.1=aa c)(h:(fc d b f).lookup y=aa c):f.lookup y=aa c\/d.cells.lookup y=aa c:=by
 induction b generalizing f with
 |nil=>exact .inl h
 |cons a r g=>
  obtain⟨n,k⟩:=a;unfold fc at h;have i:∀x∈r,x.2=.free->∃c,d.cells.lookup x.1=aa c:=λx m=>j x (iy _ m);split at h
  .rename_i o;obtain⟨s,l⟩:=j (n,k) (iT ..) (by simpa using o);rcases g _ i h with q|q
   .rw[iz]at q;split at q
    .rename_i p;have e:y=n:=by simpa using p
     subst e;rw[l]at q;exact .inr (by rw[l];exact q)
    .exact .inl q
   .exact .inr q
  .exact g _ i h
theorem zP{a:Type}{n:Str}{v:a}{l:List (Str×a)}:((n,v)::l).lookup n=aa v:=by rw[iz];simp
theorem zh{a:Type}{n y:Str}{v:a}{l:List (Str×a)}(h:∃c,l.lookup y=aa c):∃c,((n,v)::l).lookup y=aa c:=by
 rw[iz];split
 .exact⟨_,rfl⟩
 .exact h
theorem vx{d:Env}{y:Str}:∀(a:List (Str×eD)) (b:List (Str×af)),(∃c,b.lookup y=aa c)->∃c,(fc d a b).lookup y=aa c
 |[],b,h=>h
 | (n,k)::r,b,h=>by
  unfold fc;split
  .exact vx r _ (zh h)
  .exact vx r _ h
theorem ug{g:Env}{y:Str}:∀(a:List (Str×eD)) (i:List (Str×af)),(∃x∈a,x.1=y/\x.2=.free)->∃c,(fc g a i).lookup y=aa c
 |[],i,⟨_,h,_⟩=>by simp at h
 | (n,k)::r,i,⟨x,b,f,d⟩=>by
  unfold fc;rcases bw.mp b with e|b
  .subst e;simp only at f d;subst f d;simp only[beq_self_eq_true,if_true];exact vx r _ ⟨_,zP⟩
  .split
   .exact ug r _ ⟨x,b,f,d⟩
   .exact ug r _ ⟨x,b,f,d⟩
theorem vN{b:Env}:∀(a:List (Str×eD)) (g:List (Str×af)),(∀x∈a,x.2=.free->∃c,b.cells.lookup x.1=aa c) -> (forIn (m:=Sem) a g λx r=>match x with | (d,f)=>if(f == NameKind.free)=ai then do let c <-cellOf b d;pure (ForInStep.yield ((d,c)::r))else pure (ForInStep.yield r))=pure (fc b a g)
 |[],g,_=>rfl
 | (n,k)::r,g,h=>by
  have j:∀x∈r,x.2=.free->∃c,b.cells.lookup x.1=aa c:=λx o=>h x (iy _ o);rw[List.forIn_cons];unfold fc;by_cases i:(k == NameKind.free)=ai
  .obtain⟨c,l⟩:=h (n,k) (iT ..) (by simpa using i);simp only[i,if_true];have e:cellOf b n=pure c:=by unfold cellOf;rw[l]
   rw[e];simp only[pure_bind];rw[vN r _ j,l];rfl
  .simp only[i,if_false,pure_bind];exact vN r _ j
theorem Ij{a:cy}{b:Env}(h:∀x∈a.names,x.2=.free->∃c,b.cells.lookup x.1=aa c):tE a b=pure (fc b a.names []):=by unfold tE;have q:=vN a.names [] h;simp only[bind_pure_comp]at q ⊢;rw[q];rfl
theorem sM{n c:Nat}(b:n+1<=c)(a:c<n):False:=∅
theorem ur:∀(c:List (Str×eD)) (n:Nat) (a b:List (Str×af)),dR n c (a++b)=dR n c a++b
 |[],_,_,_=>rfl
 | (x,k)::r,n,a,b=>by
  unfold dR;split
  .exact ur r (n+1) ((x,n)::a) b
  .exact ur r n a b
theorem rq{y:Str}{c:af}:∀(b:List (Str×eD)) (n:Nat) (a:List (Str×af)),(y,c)∈dR n b a->(y,c)∈a\/(y,.cell)∈b
 |[],_,_,h=>.inl h
 | (x,k)::r,n,a,h=>by
  unfold dR at h;split at h
  .rename_i d;rcases rq r _ _ h with z|z
   .rcases bw.mp z with z|z
    .cases z;have e:k=.cell:=by simpa using d
     subst e;exact .inr (iT ..)
    .exact .inl z
   .exact .inr (iy _ z)
  .rcases rq r _ _ h with z|z
   .exact .inl z
   .exact .inr (iy _ z)
theorem v7{y:Str}:∀(b:List (Str×eD)) (n:Nat) (a:List (Str×af)),(∃c,a.lookup y=aa c)->∃c,(dR n b a).lookup y=aa c
 |[],_,_,h=>h
 | (x,k)::r,n,a,h=>by
  unfold dR;split
  .exact v7 r _ _ (zh h)
  .exact v7 r _ _ h
theorem sW{y:Str}:∀(b:List (Str×eD)) (n:Nat) (a:List (Str×af)),(y,.cell)∈b->∃c,(dR n b a).lookup y=aa c
 | (x,k)::r,n,a,h=>by
  unfold dR;rcases bw.mp h with e|h
  .cases e;exact v7 r _ _ ⟨_,zP⟩
  .split
   .exact sW r _ _ h
   .exact sW r _ _ h
def jn(X:Cx)(a:cy)(C:af):List (Str×af):=dR (C+1) a.names (fc X.env a.names [])
theorem vk(X:Cx)(a:cy)(C:af):jn X a C=dR (C+1) a.names []++fc X.env a.names []:=ur a.names (C+1) [] _
theorem Fo{M:Model}{A:aH}{E:ah->am->Prop}{s:am}{a:cy}{b:af}{j:List (Str×af)}{c:Str}{f:Env}{Q:Env->am->Prop}(l:Q (newEnv a s.heap.objs.size b (dR (s.heap.objs.size+1) a.names j) c ae .none (aa f) kW) {s with heap:=pushCells (s.heap.push {cls:=.type "dict",data:=.dict #[]}) a.names}):aq M A (newFunctionEnv a b j [] c ae .none (aa f)) Q E s:=by
 simp only[newFunctionEnv,Option.isSome_some,if_true];refine ap (wpAny_alloc ?_);refine ap (wpAny_layCells _ (λi d h=>by cases g:d == NameKind.cell <;> simp[g]) _ _ _ _ ?_);rw[show({s with heap:=s.heap.push {cls:=.type "dict",data:=.dict #[]}}:am).heap.objs.size=s.heap.objs.size+1 from wD ..];refine ap ?_;rw[List.forIn_nil];exact aB (aB l)
theorem yn{s:am}{a:List (Str×eD)}{y:Str}{c:af}(h:(y,c)∈dR (s.heap.objs.size+1) a []):(pushCells (s.heap.push {cls:=.type "dict",data:=.dict #[]}) a).IsCell c ae/\s.heap.objs.size+1<=c/\∀z,(z,c)∈dR (s.heap.objs.size+1) a []->y=z:=by have ok:=cellsFrom_ok a (s.heap.push {cls:=.type "dict",data:=.dict #[]}) (s.heap.objs.size+1) [] ⟨λ_ _ d=>(nomatch d),List.Pairwise.nil⟩ (by rw[wD];exact aT _);rw[wD]at ok;exact⟨(ok.empty y c h).1,(ok.empty y c h).2,λz b=>name_of_addr ok.apart h b⟩
def bM(X:Cx)(a:cy)(b:List Str)(C:af)(s₀:am)(H₀:Hp)(ex:List af)(pn:List (af×Obj)):Cx where
 prog:=X.prog
 w:=X.w
 K:=X.K
 mg:=X.mg
 base:=X.base
 A:=X.A
 N:=b
 s₀:=s₀
 H₀:=H₀
 env:=compEnvC a (jn X a C) C X.env
 outer:=X.stack
 stack:=X.stack
 ex:=ex
 fn:=λy=>a.names.lookup y == aa .cell
 calm:=X.calm
 pn:=X.pn++pn
 xe:=λ_ _=>False
def e_(b:St)(a:List Nat):St:=a.map λi=>(b[i]?).join
structure gQ(X:Cx)(scope:cy)(x:Str)(N':List Str)(cap:List Nat):Prop where
 kind:scope.kind=.function
 cells:∀y∈scope.names,y.2=.cell->scope.names.lookup y.1=aa .cell
 names:∀y∈scope.names,y.2=.local->scope.names.lookup y.1=aa .local
 loc:scope.names.lookup x=aa .local\/scope.names.lookup x=aa .cell
 free:∀y∈scope.names,y.2=.free->X.env.kindOf y.1=aa .cell\/X.env.kindOf y.1=aa .free
 nd:N'.Nodup
 hd:N'.head?=aa x
 len:N'.length=cap.length+1
 caps:∀i j y,N'[i+1]?=aa y->cap[i]?=aa j->(X.N[j]?=aa y/\scope.names.lookup y=aa .free)\/(X.N.length<=j/\scope.names.lookup y=aa .local)
theorem F7{a:List (Str×eD)}{y:Str}{k:eD}(h:a.lookup y=aa k):∃x∈a,x.1=y/\x.2=k:=⟨(y,k),iX h,rfl,rfl⟩
theorem uW{a:Env}{x:Str}:∀{b:List (Str×eD)}{k:eD}, (b.map λ(n,k)=>if(k == NameKind.free&&a.scope.kind == .function&&a.kindOf n == aa .cell)then(n,NameKind.cell)else(n,k)).lookup x=aa k -> ∃f,b.lookup x=aa f/\(k=f\/(f=.free/\k=.cell))
 |[],_,h=>by simp at h
 | (n,c)::r,k,h=>by
  change wE x ((if(c == NameKind.free&&a.scope.kind == .function&&a.kindOf n == aa .cell)=ai then(n,NameKind.cell)else(n,c))::_)=_ at h;rw[iz];by_cases d:(c == NameKind.free&&a.scope.kind == .function&&a.kindOf n == aa .cell)=ai
  .rw[if_pos d,iz]at h;split at h
   .rename_i g;cases h;have:c=.free:=by simp at d;exact d.1.1
    exact⟨c,rfl,.inr ⟨this,rfl⟩⟩
   .exact uW h
  .rw[if_neg d,iz]at h;split at h
   .rename_i g;cases h;exact⟨c,rfl,.inl rfl⟩
   .exact uW h
theorem v9{a:Env}{x:Str}:∀{b:List (Str×eD)},b.lookup x=aa .free -> let q:=(b.map λ(n,k)=>if(k == NameKind.free&&a.scope.kind == .function&&a.kindOf n == aa .cell)then(n,NameKind.cell)else(n,k)).lookup x
  q=aa .cell\/q=aa .free
 |[],h=>by simp at h
 | (n,c)::r,h=>by
  show wE x ((if(c == NameKind.free&&a.scope.kind == .function&&a.kindOf n == aa .cell)=ai then(n,NameKind.cell)else(n,c))::_)=_\/wE x ((if(c == NameKind.free&&a.scope.kind == .function&&a.kindOf n == aa .cell)=ai then(n,NameKind.cell)else(n,c))::_)=_;rw[iz]at h;by_cases f:(c == NameKind.free&&a.scope.kind == .function&&a.kindOf n == aa .cell)=ai
  .rw[if_pos f,iz];cases d:x == n with
   |true=>exact .inl rfl
   |false=>rw[d]at h;exact v9 h
  .rw[if_neg f,iz];cases d:x == n with
   |true=>rw[d]at h;cases h;exact .inr rfl
   |false=>rw[d]at h;exact v9 h
theorem uX{a:Env}{x:Str}:∀{b:List (Str×eD)},b.lookup x=aa .cell -> (b.map λ(n,k)=>if(k == NameKind.free&&a.scope.kind == .function&&a.kindOf n == aa .cell)then(n,NameKind.cell)else(n,k)).lookup x=aa .cell
 |[],h=>by simp at h
 | (n,d)::r,h=>by
  show wE x ((if(d == NameKind.free&&a.scope.kind == .function&&a.kindOf n == aa .cell)=ai then(n,NameKind.cell)else(n,d))::_)=_;rw[iz]at h;by_cases f:(d == NameKind.free&&a.scope.kind == .function&&a.kindOf n == aa .cell)=ai
  .rw[if_pos f,iz];cases c:x == n with
   |true=>rfl
   |false=>rw[c]at h;exact uX h
  .rw[if_neg f,iz];cases c:x == n with
   |true=>rw[c]at h;cases h;rfl
   |false=>rw[c]at h;exact uX h
section
variable{X:Cx}{w:List (af×Obj)}{t:St}{H:Hp}{s:am}{f:cy}{x:Str}{A:List Str}{g:List Nat}
theorem Inv.freeHas(I:Inv X w t H s)(B:gQ X f x A g):∀y∈f.names,y.2=.free->∃c,X.env.cells.lookup y.1=aa c:=λy a e=>I.ok.has y.1 (B.free y a e)
theorem Inv.clIn(I:Inv X w t H s)(B:gQ X f x A g){y:Str}{c:af}(h:(fc X.env f.names []).lookup y=aa c):X.env.cells.lookup y=aa c:=by
 rcases HR f.names [] (I.freeHas B) h with q|q
 .simp at q
 .exact q
theorem Inv.cbIn(I:Inv X w t H s)(B:gQ X f x A g){C:af}{y:Str}{c:af}(h:(jn X f C).lookup y=aa c):((y,c)∈dR (C+1) f.names []/\f.names.lookup y=aa .cell)\/((fc X.env f.names []).lookup y=aa c/\X.env.cells.lookup y=aa c):=by
 rw[vk,A4]at h;cases e:(dR (C+1) f.names []).lookup y with
 |none=>rw[e]at h;exact .inr ⟨h,I.clIn B h⟩
 |some a=>
  rw[e]at h;cases h;have m:=iX e;rcases rq _ _ _ m with z|z
  .cases z
  .exact .inl ⟨m,B.cells _ z rfl⟩
theorem Inv.cbOld(I:Inv X w t H s)(B:gQ X f x A g){C:af}{y:Str}{c:af}(h:(fc X.env f.names []).lookup y=aa c)(a:f.names.lookup y=aa .free):(jn X f C).lookup y=aa c:=by
 rw[vk,A4];cases e:(dR (C+1) f.names []).lookup y with
 |none=>exact h
 |some b=>
  rcases rq _ _ _ (iX e)with z|z
  .cases z
  .have:=B.cells _ z rfl;rw[a]at this;cases this
theorem Inv.block{fp:List af}{D:ax}{m:Str->Option ah}{t':Nat}(hh:D=pushCells (s.heap.push {cls:=.type "dict",data:=.dict #[]}) f.names)(I:Inv X w t H s)(B:gQ X f x A g)(Y:∀b∈fp,iQ X w H b)(hfo:∀b∈fp,∃o,s.heap.get? b=aa o)(je:D.Ns s.heap.objs.size m)(E:∀b o,s.heap.get? b=aa o->D.get? b=aa o):Inv (bM X f A s.heap.objs.size s H fp w) [] (ae::e_ t g) H {s with heap:=D,toks:=t'}:=by
 have N:∀x c,X.env.cells.lookup x=aa c->c<s.heap.objs.size:=λx c e=>(I.cell x c e).elim λv q=>q.lt;have C:∀{y:Str}{c:af},(y,c)∈dR (s.heap.objs.size+1) f.names []->D.IsCell c ae/\s.heap.objs.size+1<=c/\∀z,(z,c)∈dR (s.heap.objs.size+1) f.names []->y=z:=λh=>by rw[hh];exact yn h
 have lk:∀y k,(compEnvC f (jn X f s.heap.objs.size) s.heap.objs.size X.env).kindOf y=aa k->∃O,f.names.lookup y=aa O/\(k=O\/(O=.free/\k=.cell)):=λy k h=>uW h;have J:∀y,f.names.lookup y=aa .free->∃c,(fc X.env f.names []).lookup y=aa c:=λy h=>ug f.names [] (F7 h);have nfs:∀b∈dY X.stack,b≠s.heap.objs.size:=λb G e=>by
  rcases bw.mp (I.stkSub b G)with z|z
  .exact absurd I.lt (by rw[<-z,e];exact eC _)
  .exact I.nofs (jI e.symm) z
 refine⟨⟨I.ok.mod,B.kind,I.ok.glob,I.ok.blt,aT _,λy z c h1 h2=>?_,λy P=>?_,λy c h lm=>?_,I.ok.hd,I.ok.frames,.inl rfl,λb G=>?_,λb o e=>I.bs b o e,bX I.ok.bsz I.sz,λb o e G=>?_,λb G hf=>?_,I.stack,(λb G=>I.stkFree b G),I.tab⟩,rfl,I.bare,Un.kept E,⟨m,je,λi y v e1 S e3=>?_⟩,λy c h=>?_,I.hok.fresh (aT _),λy c h=>?_,λp hp=>?_,I.hok.kept E,?_⟩
 .-- inj
  rcases I.cbIn B h1 with⟨a1,a2⟩|⟨a1,a2⟩ <;> rcases I.cbIn B h2 with⟨b1,b2⟩|⟨b1,b2⟩
  .exact(C a1).2.2 z b1
  .exact(sM (C a1).2.1 (N _ _ b2)).elim
  .exact(sM (C b1).2.1 (N _ _ a2)).elim
  .exact I.ok.inj y z c a2 b2
 .-- has
  show ∃c,(jn X f s.heap.objs.size).lookup y=aa c;have jU:f.names.lookup y=aa .free->∃c,(jn X f s.heap.objs.size).lookup y=aa c:=λq=>(J y q).imp λc hc=>I.cbOld B hc q;rcases P with P|P
  .obtain⟨O,q,z|⟨z,_⟩⟩:=lk y _ P
   .subst z;exact sW _ _ _ (iX q)
   .subst z;exact jU q
  .obtain⟨O,q,z|⟨_,z⟩⟩:=lk y _ P
   .subst z;exact jU q
   .cases z
 .-- cab
  have hk:f.names.lookup y=aa .cell:=by simpa using(show(f.names.lookup y == aa .cell)=ai from h)
  show s.heap.objs.size<=c;rcases I.cbIn B lm with⟨a1,a2⟩|⟨a1,a2⟩
  .have:=(C a1).2.1;lia
  .obtain⟨c',Q⟩:=sW (n:=s.heap.objs.size+1) (a:=[]) _ (iX hk);have e:(jn X f s.heap.objs.size).lookup y=aa c':=by rw[vk,A4,Q];rfl
   have S:(jn X f s.heap.objs.size).lookup y=aa c:=lm;rw[e]at S;cases S;have:=(C (iX Q)).2.1;lia
 .-- exf
  obtain⟨f0,f1,f2,f3,f4,f5⟩:=Y b G;obtain⟨o,L⟩:=hfo b G;refine⟨λe=>absurd (bj L) (by rw[e];exact eC _),λy c h=>?_⟩;rcases I.cbIn B h with⟨a1,a2⟩|⟨a1,a2⟩
  .rintro rfl;exact sM (C a1).2.1 (bj L)
  .exact f4 y c a2
 .-- noex
  obtain⟨f0,f1,f2,f3,f4,f5⟩:=Y b G;rcases f3 with z|z
  .exact I.ok.noex b o e z
  .exact absurd (d_ (bj e) (bX I.ok.bsz z)) (eC _)
 .-- exfs
  obtain⟨f0,f1,f2,f3,f4,f5⟩:=Y b G;rcases bw.mp (I.stkSub b hf)with z|z
  .exact f1 z
  .exact f2 z
 .-- loc
  cases i with
  |zero=>simp at S
  |succ i=>
   have K:(e_ t g)[i]?=aa (aa v):=by simpa using S
   unfold e_ at K;rw[iY]at K;cases Z:g[i]? with
   |none=>rw[Z]at K;cases K
   |some j=>
    rw[Z]at K;have T:(t[j]?).join=aa v:=dO K;have e5:t[j]?=aa (aa v):=by
     cases hq:t[j]? with
     |none=>rw[hq]at T;cases T
     |some o=>rw[hq]at T;exact congrArg aa T
    obtain⟨b1,b2⟩:=(B.caps i j y e1 Z).elim id λz=>by have:=(cD.mp e5).1;rw[I.len]at this;exact absurd this (Nat.not_lt.mpr z.1)
    obtain⟨mm,hn,hl⟩:=I.loc;have qo:=B.free _ (iX b2) rfl;have W:gm X.env.scope y:=by
     rcases qo with z|z
     .exact .inr (.inl z)
     .exact .inr (.inr z)
    obtain⟨u,r,l⟩:=hl j y v b1 e5 W;refine⟨u,r,.inr ⟨v9 b2,?_⟩⟩;rcases l with⟨l,_⟩|⟨_,c,hc,t4⟩
    .rcases qo with z|z
     .rw[l]at z;cases z
     .rw[l]at z;cases z
    .obtain⟨c',Q⟩:=J y b2;have e6:=I.clIn B Q;rw[hc]at e6;cases e6;obtain⟨M,L,hd⟩:=t4;exact⟨c,I.cbOld B Q b2,M,E c M L,hd⟩
 .rcases I.cbIn B h with⟨a1,a2⟩|⟨a1,a2⟩
  .exact⟨ae,(C a1).1⟩
  .obtain⟨v,M,L,hd⟩:=I.cell y c a2;exact⟨v,M,E c M L,hd⟩
 .rcases I.cbIn B h with⟨a1,a2⟩|⟨a1,a2⟩
  .exact I.hok.fresh (bX (tF _) (C a1).2.1)
  .exact I.freeC y c a2
 .have fO:p∈X.pn++w:=by simpa[bM]using hp
  obtain⟨e,n,ne,nf,d⟩:=I.pin p fO;refine⟨E _ _ e,n,cC (bj e),λhf=>?_,d⟩;rcases bw.mp (I.stkSub p.1 hf)with z|z
  .exact ne z
  .exact nf z
 .show(ae::e_ t g).length=A.length;rw[B.len];simp[e_]
end
def nB(X:Cx)(b:List ay)(t:TT):Prop :=
 ∀(d:List (af×Obj)) (s:am) (a:St) (H:Hp) (Q:Bool->Hp->Prop),Inv X d a H s->t a H Q ->
  aq (ar X.prog X.w) X.A (forIn b ai λc r=>if r=ai then do let ok <-kj c X.env (aK c X.env);pure (ForInStep.yield ok)else pure (ForInStep.yield r)) (TP X d a Q) X.xe s
theorem Dw{P:aG}{w:aC}{A:aH}{R:Result->am->Prop}{s:am}{m q i:ay}{l:List ay}{g:cy}{p:Pos}{t B:ah}{d:Env}(J:Nat->am->Prop)(n:∀k o,J k o->aq (ar P w) A (pyNext t) (λr z=>match r with
   |none=>R (.ok .next) z
   |some v=>aq (ar P w) A (wo q t v) (λ_ G=>aq (ar P w) A (assign q d v) (λ_ E=>aq (ar P w) A (forIn l ai λc r=>if r=ai then do let ok <-kj c d (aK c d);pure (ForInStep.yield ok)else pure (ForInStep.yield r)) (λb u=>if b=ai then aq (ar P w) A (aK m d) (λy D=>aq (ar P w) A (call (.builtin "list.append") [B,y]) (λ_ C=>∃j,j<k/\J j C) (λ_ _=>False) D) (λ_ _=>False) u else ∃j,j<k/\J j u) (λ_ _=>False) E) (λ_ _=>False) G) (λ_ _=>False) z) (λ_ _=>False) o) (k:Nat) (h:J k s) :
  k6 (ar P w) A (.compLoop (.ListComp m [⟨q,i,l,0⟩] g p) 0 t B d) R s:=by
 refine codeAny_loop rfl J (λj o K=>?_) k h;show aq _ A (Sem.onRaise (compTurn (.ListComp m [⟨q,i,l,0⟩] g p) 0 t B d) (λx=>do noteFrame x d;theTreesLotGoes x)) _ _ o;refine wpAny_noted ?_;rw[compTurn_list];have no:∀(Q:ah->am->Prop) (a:ah) (b:am),False->Q a b:=λ_ _ _ f=>f.elim;refine ap (wpAny_standAt (ap (c9 (n j o K) (λr z I=>?_) (no _))));cases r with
 |none=>exact aB I
 |some v=>
  refine ap (c9 I (λ_ G O=>ap (c9 O (λ_ E N=>ap (c9 N (λb u H=>?_) (no _))) (no _))) (no _));cases b with
  |true=>exact ap (ap (c9 H (λy D M=>ap (c9 M (λ_ C L=>aB (aB ⟨rfl,L⟩)) (no _))) (no _)))
  |false=>exact aB ⟨rfl,H⟩
def Dd:TT:=λ_ H Q=>Q ai H
theorem Ei{X:Cx}:nB X [] Dd:=λ_ _ _ H _ I h=>wpAny_tests_nil ⟨H,I,h⟩
theorem IZ{X:Cx}{c:ay}{t:TT}(h:PT X c t):nB X [c] t:=λd s a H Q I b=>wpAny_tests_one (h d s a H Q I b)
def we(q:TI)(h:V->Hp->St->Prop)(k:Nat)(r:TT)(s:TE)(d:List Nat):TE:=λg H Q=>q g H λJ p=>∀l,p l=ae->∃W:Nat->Nat->List V->Hp->Prop,(∃m,W 0 m [] (upd p l (.lst [])))/\∀i m a H,W i m a H ->
 (J.stop i H/\Q (.ref l) H)\/(J.go i H/\∀v j,J.yld i H v j->∃f,f.length=k+1/\h v j f/\r (f++(e_ g d).drop k) j λb o=>if b=ai then s (f++(e_ g d).drop k) o λy n=>n l=aa (.lst a)/\a.length<aY/\∃c,c<m/\W (i+1) c (a++[y]) (upd n l (.lst (a++[y]))) else ∃c,c<m/\W (i+1) c a o)
def AI:V->Hp->St->Prop:=λv _ a=>a=[aa v]
abbrev wd(b:TI)(c:TT)(d:TE)(a:List Nat):TE:=we b AI 0 c d a
section
variable{X:Cx}{m:List (af×Obj)}{t:St}{H:Hp}{s:am}{g:cy}{x:Str}{j:List Str}{l:List Nat}
theorem Inv.unblock{r:List af}{p:Hp}{w:St}{s':am}{h:ax}(I:Inv X m t H s)(D:∀b∈r,iQ X m H b)(a:Inv (bM X g j s.heap.objs.size s H r m) [] w p s') (sb:iU s.heap.objs.size s'.heap h):Inv X m t p {s' with heap:=h}:=by
 have k:∀b o,b≠s.heap.objs.size->s'.heap.get? b=aa o->h.get? b=aa o:=λb o f e=>(sb.2 b f).trans e;have y:∀b o,s.heap.get? b=aa o->b≠s.heap.objs.size:=λb o e=>cC (bj e);have un:Un (dY X.stack) r H p s.heap h:=by
  refine⟨λb o e n f d=>k b o (y b o e) (a.base.keep b o e n f d),λb o e n f d=>?_,λb o e n d=>a.base.free b o e n d,λb o e d=>?_,a.base.tups,a.base.frzs,a.base.tbls⟩
  .obtain⟨C,q⟩:=a.base.slot b o e n f d;exact⟨C,k b _ (y b o e) q⟩
  .obtain⟨B,q⟩:=a.base.there b o e d;exact⟨B,k b B (y b o e) q⟩
 have A:cJ X.prog X.w p h:=λb u e=>by
  have i:p s.heap.objs.size=ae:=a.free;refine(a.hok b u e).stay (λc v E q=>k c v ?_ q) (λ_ q=>q) λ_ _ q=>q;rintro rfl;rcases E with z|z
  .rw[<-z,i]at e;cases e
  .rw[i]at z;cases z
 refine I.call' (s':={s' with heap:=h}) (ch:=r) a.os un A a.bare λb f=>?_;obtain⟨K,J,f2,f3,f4,G⟩:=D b f;exact⟨f3,J,f4,G⟩
theorem zZ{elt G tg:ay}{pos pos':Pos}{ifs:List ay}{wi:TI}{tgf:V->Hp->St->Prop}{k:Nat}{ts:TT}{te:TE}{use:Option (ah->Sem Unit)}{Q:ah->am->Prop}{Qp:VK}(B:gQ X g x j l)(hk:k<=l.length)(hc:X.calm=ai)(hi:PI X tg G wi)(et:∀C E K ex pn,PG (bM X g j C E K ex pn) tg λv O H Q=>∃Y,Y.length=k+1/\O.length=j.length/\tgf v H Y/\Q (Y++O.drop (k+1)) H)(ht:∀C E K ex pn,nB (bM X g j C E K ex pn) ifs ts) (he:∀C E K ex pn,PE (bM X g j C E K ex pn) elt te) (hs:∀x,ma G X.env x=pure x) (I:Inv X m t H s) (h:we wi tgf k ts te l t H Qp)(fin:∀{w s6:am}{P H5:Hp}{L σ5 a f},Inv X m t P w->(∀b∈L,iQ X m P b)->Inv (bM X g j w.heap.objs.size w P L m) [] σ5 H5 s6->Qp (.ref a) H5->compPost (ar X.prog X.w) X.A X.xe use Q (.ref a) w.heap.objs.size (.ok f) s6):aq (ar X.prog X.w) X.A (comprehension (.ListComp elt [⟨tg,G,ifs,0⟩] g pos) g X.env pos' (newList []) ak (aK G X.env) use) Q X.xe s:=by
 refine wpAny_comprehension_free (use:=use) rfl hs (Ij (I.freeHas B)) B.kind B.names (aO (hi m s t H _ I h) λv s1 h1=>aO h1 λitv D h2=>?_);obtain⟨it,L,tn,J,H2,e,I2,T,aL,f2,h2⟩:=h2;subst e;refine kq ?_;have I3:Inv X m t (upd H2 D.heap.objs.size (.lst [])) {D with heap:=D.heap.push {cls:=.type "list",data:=.seq ([]:List ah).toArray},toks:=D.toks}:=I2.lnew (its:=[]) (t':=D.toks) .nil (jH _);obtain⟨W,⟨m0,w0⟩,turn⟩:=h2 D.heap.objs.size I2.fresh;generalize ln:({D with heap:=D.heap.push {cls:=.type "list",data:=.seq ([]:List ah).toArray},toks:=D.toks}:am)=w at I3;have hs3':({D with heap:=D.heap.push {cls:=.type "list",data:=.seq ([]:List ah).toArray}}:am)=w:=ln;generalize hH3:upd H2 D.heap.objs.size (.lst [])=P at I3 w0;have nl:∀b∈L,b≠D.heap.objs.size:=λb A e=>by obtain⟨o,ho,_⟩:=T.obj _ _ aL b A;exact absurd (bj ho) (by rw[e];exact eC _)
 have k3:∀b o,D.heap.get? b=aa o->w.heap.get? b=aa o:=λb o e=>by rw[<-ln];exact a8 _ e
 have f3:∀b∈L,iQ X m P b:=λb A=>⟨by rw[<-hH3,bS (nl b A)];exact(f2 b A).1,(f2 b A).2⟩
 have a_:tn 0 w.heap:=T.keep _ _ _ aL λb _ o e=>k3 b o e;have fo3:∀b∈L,∃o,w.heap.get? b=aa o:=λb A=>(T.obj _ _ a_ b A).imp λo q=>q.1;refine Fo ?_;generalize hh:pushCells (w.heap.push {cls:=.type "dict",data:=.dict #[]}) g.names=h₁;have old:∀b o,w.heap.get? b=aa o->h₁.get? b=aa o:=λb o e=>hh ▸ pushCells_keeps _ _ b o (a8 _ e);have je:h₁.Ns w.heap.objs.size (λ_=>ae):=hh ▸ (Heap.Ns.new w.heap (.type "dict")).keeps (pushCells_keeps _ _);have I4:=Inv.block (t':=w.toks) hh.symm I3 B f3 fo3 je old;have bn:tn 0 h₁:=T.keep _ _ _ a_ λb _ o e=>old b o e;have M:∀{H':Hp},(∀b∈L,H' b=ae)->∀b∈L,iQ (bM X g j w.heap.objs.size w P L m) [] H' b:=λhn b A=>by
  obtain⟨f0,f1,f2',f3',f4,f5⟩:=f3 b A;refine⟨hn b A,λe=>?_,λhf=>?_,.inl A,λy c h=>?_,λp hp=>f5 p (by simpa[bM]using hp)⟩
  .obtain⟨o,ho⟩:=fo3 b A;exact absurd (bj ho) (by rw[show b=w.heap.objs.size from e];exact eC _)
  .rcases bw.mp (I3.stkSub b hf)with z|z
   .exact f1 z
   .exact f2' z
  .rcases I3.cbIn B h with⟨a1,a2⟩|⟨a1,a2⟩
   .rintro rfl;obtain⟨o,ho⟩:=fo3 _ A;exact sM (yn a1).2.1 (bj ho)
   .exact f4 y c a2
 have Z:k6 (ar X.prog X.w) X.A (.compLoop (.ListComp elt [⟨tg,G,ifs,0⟩] g pos) 0 (.ref it) (.ref D.heap.objs.size) (compEnvC g (jn X g w.heap.objs.size) w.heap.objs.size X.env))
   (compPost (ar X.prog X.w) X.A X.xe use Q (.ref D.heap.objs.size) w.heap.objs.size) {w with heap:=h₁,toks:=w.toks}:=by
  refine Dw (λn s'=>∃i S O H',(∃pre:St,pre.length=k+1/\O=pre++(e_ t l).drop k)/\Inv (bM X g j w.heap.objs.size w P L m) [] O H' s'/\tn i s'.heap/\(∀b∈L,H' b=ae)/\W i n S H') ?_ m0
   ⟨0,[],_,P,⟨(ae::e_ t l).take (k+1),by simp[e_];lia,by rw[<-A5 (a:=ae)];exact(n6 _ _).symm⟩,I4,bn,λb A=>(f3 b A).1,w0⟩
  rintro n s5 ⟨i,S,σ5,H5,⟨pre,qu,rfl⟩,I5,bt,fr5,w5⟩;rcases turn i n S H5 w5 with⟨stop,q⟩|⟨go,step⟩
  .refine c9 (T.done (bM X g j w.heap.objs.size w P L m) rfl rfl rfl hc i [] s5 _ H5 (λ_ _=>False) I5 (M fr5) bt stop) (λr s6 ⟨hr,I6⟩=>?_) (λ_ _ f=>f.elim);subst hr;exact fin I3 f3 I6 q
  .refine c9 (T.item (bM X g j w.heap.objs.size w P L m) rfl rfl rfl hc i [] s5 _ H5 (λ_ _=>False) I5 (M fr5) bt go) (λr s6 ⟨u,hr,h6⟩=>?_) (λ_ _ f=>f.elim);subst hr;refine c9 h6 (λ_ s7 ⟨v,H7,I7,r7,y7,st7,fr7⟩=>?_) (λ_ _ f=>f.elim);have I7':=I7.pinned (M fr7) (T.obj _ _ st7);have back:∀{N:St}{H8:Hp}{s8:am},Inv (bM X g j w.heap.objs.size w P L m) ([]++pH L s7.heap) N H8 s8->tn (i+1) s8.heap/\(∀b∈L,H8 b=ae):=λ{N H8 s8} I8=>⟨T.keep _ _ _ st7 λb A o e=>(I8.pin (b,o) (jD _ (jD _ (sE A e)))).1,λb A=>by obtain⟨o,e,d⟩:=T.obj _ _ st7 b A;exact(I8.pin (b,o) (jD _ (jD _ (sE A e)))).2.1⟩
   obtain⟨Y,h8,htg,step⟩:=step v H7 y7;refine aO (et _ _ _ _ _ _ s7 _ H7 v u (λN H8=>N=Y++(e_ t l).drop k/\H8=H7) I7' r7 ⟨Y,h8,I7'.len,htg,by rw[A6 ∅,List.drop_eq_nil_of_le ∅];rfl,rfl⟩) λ_ s8 ⟨N,H8,I8,e8,e8'⟩=>?_;subst e8 e8';refine aO (ht _ _ _ _ _ _ s8 _ _ _ I8 step) λb s9 ⟨H9,I9,q9⟩=>?_;cases b with
   |false=>
    obtain⟨m',hm,w9⟩:=(show ∃m',m'<n/\W (i+1) m' S H9 from q9)
    exact⟨m',hm,i+1,S,_,H9,⟨Y,h8,rfl⟩,I9.unpinned,(back I9).1,(back I9).2,w9⟩
   |true=>refine aO (he _ _ _ _ _ _ s9 _ H9 _ I9 q9) λu10 s10 ⟨y,H10,I10,r10,hl10,hz10,m',hm,w10⟩=>?_;refine aO (zj _ s10 _ H10 (.ref D.heap.objs.size) [y] _ [u10] (λz H11=>H11=upd H10 D.heap.objs.size (.lst (S++[y]))) I10 rfl (.cons r10 .nil) ⟨_,S,y,rfl,rfl,hl10,hz10,rfl⟩) λ_ s11 ⟨_,H11,I11,_,e11⟩=>?_;subst e11;exact⟨m',hm,i+1,S++[y],_,_,⟨Y,h8,rfl⟩,I11.unpinned,(back I11).1,(back I11).2,w10⟩
 exact codeAny_compStart_list Z (T.self _ 0 _ _ _ bn Z)
theorem xA{w:Pos}(B:gQ X g x j l):∀C b c i f,PG (bM X g j C b c i f) (.Name x w) λv d H Q=>∃n,n.length=0+1/\d.length=j.length/\AI v H n/\Q (n++d.drop (0+1)) H:=by
 intro C b c i f m s d H v u Q I r h;obtain⟨n,_,z,y,q⟩:=h;cases (show n=[aa v] from y);have A:Loc (bM X g j C b c i f).env.scope x:=B.loc.elim (λh=>.inl (lookup_relabel_local h)) (λh=>.inr (uX h));have o:(bM X g j C b c i f).fn x=ai\/(bM X g j C b c i f).env.scope.names.lookup x=aa .local:=B.loc.elim (λh=>.inr (lookup_relabel_local h)) (λh=>.inl (by show(g.names.lookup x == aa .cell)=ai;rw[h];rfl));have p:(bM X g j C b c i f).N[0]?=aa x:=by show j[0]?=aa x;rw[<-List.head?_eq_getElem?];exact B.hd
 refine AK B.nd p A o m s d H v u Q I r ?_;show Q (d.set 0 (aa v)) H;cases d with
 |nil=>rw[iZ,B.len]at z;lia
 |cons a r=>exact q
theorem E4{f b:ay}{p pos:Pos}{d:List ay}{wi:TI}{ts:TT}{te:TE}(B:gQ X g x j l)(A:X.calm=ai)(y:PI X (.Name x p) b wi)(v:∀C a c o i,nB (bM X g j C a c o i) d ts) (z:∀C a c o i,PE (bM X g j C a c o i) f te) (w:∀x,ma b X.env x=pure x:=by intro _;rfl):PE X (.ListComp f [⟨.Name x p,b,d,0⟩] g pos) (wd wi ts te l):=by intro m s t H Q I h;rw[eval_ListComp];exact zZ (use:=ae) B (jH _) A y (xA B) v z w I h λD f3 r q=>by obtain⟨u,n,_⟩:=r.loc;exact⟨u,n,λE sb=>⟨.ref _,_,D.unblock f3 r sb,rfl,q⟩⟩
end
def Walk(J:It)(a:List V)(R:Hp->Prop):Prop :=
 ∀H,R H->∀i,(∀x,a[i]?=aa x->J.go i H/\∀y b,J.yld i H y b->b=H/\y=x)/\(i=a.length->J.stop i H)
theorem FT{K:au}{a:af}{b:List V}:Walk (uy K a) b (λH=>bK K H a b):=λH h i=>⟨λx c=>⟨⟨b,x,h,c⟩,λy f z=>⟨z.1,by have:=z.2 b h;rw[c]at this;exact(dO this).symm⟩⟩,λd=>⟨b,h,jI d.symm⟩⟩
theorem B7{K:au}{a:af}{b:List V}:Walk (vA K a) b (λH=>bO K H a b):=λH h i=>⟨λx c=>⟨⟨b,x,h,c⟩,λy f z=>⟨z.1,by have:=z.2 b h;rw[c]at this;exact(dO this).symm⟩⟩,λd=>⟨b,h,jI d.symm⟩⟩
def ng(a:Int)(n:Nat):List V:=(cq n).map λi=>V.int (a+(i:Nat))
theorem rJ(a:Int)(n:Nat):(ng a n).length=n:=by simp[ng]
theorem yG{b:Int}{n:Nat}:Walk (pA b n) (ng b n) (λ_=>True):=λH _ i=>by
 refine⟨λx a=>?_,λc=>by rw[rJ]at c;exact jI c.symm⟩;have d:i<n:=by have:=(cD.mp a).1;rw[rJ]at this;exact this
 refine⟨d,λy g z=>⟨z.1,?_⟩⟩;unfold ng at a;rw[iY,A7 d]at a;have f:V.int (b+(i:Nat))=x:=dO a;rw[z.2,<-f]
def sg(c:Nat):V:=.str ⟨#[c]⟩
def pU(z:Str):It:=⟨λi _=>i<z.cps.size,λi H x a=>a=H/\∃c,z.cps[i]?=aa c/\x=sg c,λi _=>i=z.cps.size⟩
theorem Gu{z:Str}:Walk (pU z) (z.cps.toList.map sg) (λ_=>True):=λH _ i=>by
 refine⟨λx a=>?_,λd=>by show i=z.cps.size;simpa using d⟩;rw[iY]at a;cases e:z.cps.toList[i]? with
 |none=>rw[e]at a;cases a
 |some c=>
  rw[e]at a;have f:i<z.cps.size:=by have:=(cD.mp e).1;simpa using this
  refine⟨f,λy h w=>⟨w.1,?_⟩⟩;obtain⟨g,b,rfl⟩:=w.2;have:z.cps[i]?=aa c:=by simpa using e
  rw[this]at b;cases b;exact(dO a)
section
variable{X:Cx}{a:ay}
theorem Hk{P:aG}{w:aC}{K:au}{z:Str}{d:af}{f:Nat->ax->Prop} (S:∀i h,f i h->∃o n r,h.get? d=aa o/\o.cls=.type n/\o.data=.fields r /\ ["enumerate","zip","dict_itemiterator","dict_reverseitemiterator","odict_iterator","itertools.zip_longest","itertools.pairwise"].contains n=ak)(Js:∀(A:aH) (i:Nat) (s:am) (Q:ah->am->Prop) (E:ah->am->Prop),f i s.heap->Q (.ref d) s->aq (ar P w) A (kn (.ref d)) Q E s)(B:∀A:aH,A.handled=ae->Walks P w A d [d] [d] z.cps.size (SignAt z) f):m8 P w K a (pU z) [d] d f where
 mem:=by simp
 obj:=λi h g b j=>by
  have e:b=d:=by simpa using j
  subst e;obtain⟨o,n,r,J,_,G,_⟩:=S i h g;exact⟨o,J,λv q=>by rw[G]at q;cases q⟩
 keep:=λi h m g k=>by exact(B ({}:aH) rfl).frame i h m g k
 item:=by intro X C t D y i W s O H E I p g x;subst C t D;obtain⟨N,M,f2,f3,f4,L⟩:=p d (by simp);refine(B X.A (I.ok.hd y)).item i s _ _ x g λv m l Z T k=>?_;have I1:Inv X W O H {s with heap:=m,toks:=l}:=I.turned (t':=l) (λb o j e=>k b o (by simpa using j) e) N M f3 f4 L;obtain⟨o,n,r,J,h2,G,h4⟩:=S _ _ T;obtain⟨c,u,e1,rfl⟩:=Z;exact⟨_,rfl,oH (s:={s with heap:=m,toks:=l}) J h2 G h4 ⟨sg c,H,I1,⟨u,rfl⟩,⟨rfl,c,e1,rfl⟩,T,λb j=>(p b j).1⟩⟩
 done:=by intro X C t D y i W s O H E I p g x;subst C t D;obtain⟨N,M,f2,f3,f4,L⟩:=p d (by simp);have Y:i=z.cps.size:=x;subst Y;exact(B X.A (I.ok.hd y)).done s _ _ g λm l k=>⟨rfl,I.turned (t':=l) (λb o j e=>k b o (by simpa using j) e) N M f3 f4 L⟩
 self:=Js
theorem GP{J:It}{c:List V}{R:Hp->Prop}{g:TG}{n:TS}{D:iL}{b:St}{H:Hp}(B:Walk J c R)(d:Nat->St->Hp->Prop)(C:d 0 b H)(w:∀i b H,i<=c.length->d i b H->R H)(v:∀i x b H,c[i]?=aa x->d i b H->g x b H λh l=>n {D with nx:=d (i+1),ct:=d (i+1),bk:=D.nx} h l) (A:∀b H,d c.length b H->D.nx b H):∃W:Nat->Nat->St->Hp->Prop,(∃m,W 0 m b H)/\∀i m b H,W i m b H -> (J.stop i H/\D.nx b H)\/(J.go i H/\∃N:St->Hp->Prop,(∀j f,N j f->∃o,o<m/\W (i+1) o j f)/\∀x f,J.yld i H x f->g x b f λh l=>n {D with nx:=N,ct:=N,bk:=D.nx} h l):=by
 refine⟨λi m b H=>m=c.length-i/\i<=c.length/\d i b H,⟨c.length,by simp,jH _,C⟩,?_⟩;rintro i m b H ⟨rfl,z,p⟩;have q:=B H (w i b H z p) i;by_cases s:i<c.length
 .have r:c[i]?=aa c[i]:=by simp[s]
  obtain⟨E,t⟩:=q.1 c[i] r;refine .inr ⟨E,d (i+1),λj f u=>⟨c.length-(i+1),∅,rfl,s,u⟩,λx f y=>?_⟩;obtain⟨rfl,rfl⟩:=t x f y;exact v i _ b _ r p
 .have e:i=c.length:=∅
  subst e;exact .inl ⟨q.2 rfl,A b H p⟩
theorem Iy{b:Type}(l:List b)(f:b->Bool)(d:Nat->Bool)(c:∀i x,l[i]?=aa x->d i=f x):(cq l.length).all d=l.all f:=by
 induction l generalizing d with
 |nil=>rfl
 |cons x r g=>rw[eh,wF,nY,tG,nY,c 0 x rfl];congr 1;exact g _ λi y h=>c (i+1) y (by simpa using h)
theorem IL{bs:List Bool}{b:List ah}(r:bq (bs.map V.bl) b){i:Nat}{v:ah}(h:b.toArray[i]?=aa v):v=.bool (bs.getD i ak):=by
 have d:=r.length;rw[fg]at d;have g:i<b.length:=by have:=(n8.mp h).1;simpa using this
 have e:(bs.map V.bl)[i]?=aa (.bl (bs.getD i ak)):=by rw[iY,eE ∅];simp[List.getD,eE (show i<bs.length by lia)]
 obtain⟨u,c,f⟩:=r.get e;have:b[i]?=aa v:=by simpa using h
 rw[this]at c;cases c;exact f
theorem xk{A:aH}(h:A.handled=ae):A.in1.handled=ae:=h
theorem v3(j:X.calm=ai):fQ X (.builtin "all") (λl H Q=>∃(p:af) (bs:List Bool),l=[.ref p]/\bK X.K H p (bs.map V.bl)/\Q (.bl (bs.all id)) H):=by
 intro N s t H l P Q I r h;obtain⟨p,bs,rfl,E,q⟩:=h;obtain⟨u,rfl,y⟩:=vals1 r;cases y;obtain⟨d,m,f,T⟩:=I.list E;have n:=m.length;rw[fg]at n;refine call_all_walk (A8 f.isList ?_);have M:p≠s.heap.objs.size:=by obtain⟨o,g,_⟩:=f.isList;exact cC (bj g)
 refine⟨s.heap.objs.size,_,_,_,_,_,λi=>bs.getD i ak,rfl,Walks.list (xk (I.ok.hd j)) s.heap.objs.size p M d.toArray,⟨⟨_,bW _ rfl,rfl,rfl⟩,?_⟩,λi v S Y Z D L=>?_,λW w k=>?_⟩
 .obtain⟨o,g,j,J⟩:=f.isList;exact⟨o,a8 _ g,j,J⟩
 .rw[IL m D];exact kl L
 .have e:(cq d.toArray.size).all (λi=>bs.getD i ak)=bs.all id:=by
   rw[bQ,<-n];exact Iy bs id _ λi x C=>by simp[List.getD,C]
  rw[e];have O:Inv X N t H {s with heap:=s.heap.push {cls:=.type "list_iterator",data:=.fields #[.ref p,.int 0 0]},toks:=s.toks}:=I.kept (t':=s.toks) λb o e=>a8 _ e;exact⟨.bl _,H,Inv.turned (t':=w) O (it:=s.heap.objs.size) (λb o K e=>k b o (by simpa using K) e) I.fresh (kX I.lt) (.inr I.sz) (λx c e z=>by obtain⟨v,A⟩:=I.cell x c e;exact absurd A.lt (by rw[z];exact eC _)) (λB G z=>absurd (bj (I.pin B G).1) (by rw[z];exact eC _)),rfl,q⟩
end
section
variable{X:Cx}
def jr(z:Str)(a b:Option Int):Str:=⟨((z.cps.toList.drop (HT.sIx z.length 0 a)).take (HT.sIx z.length z.length b-HT.sIx z.length 0 a)).toArray⟩
theorem GN(a b:Nat):sliceRange (a:Int) (b:Int) 1=(cq (b-a)).map λk=>a+k:=by
 unfold sliceRange;have e:(if(1:Int) > 0 then(if(a:Int)<(b:Int)then((b:Int)-a+1-1) / 1 else 0)else(if(a:Int) > b then((a:Int)-b-1-1) / (-1)else 0)).toNat=b-a:=by
  rw[if_pos (by decide)];split
  .rw[Int.ediv_one];lia
  .have:b-a=0:=∅
   rw[this];rfl
 show(cq (if(1:Int) > 0 then(if(a:Int)<(b:Int)then((b:Int)-a+1-1) / 1 else 0)else(if(a:Int) > b then((a:Int)-b-1-1) / (-1)else 0)).toNat).map _=_;rw[e];refine A9 λk _=>?_;lia
theorem CD(a b:Option Int)(n:Nat):Builtin.Str.strSliceIndices a b 1 n=(cq (HT.sIx n n b-HT.sIx n 0 a)).map λk=>HT.sIx n 0 a+k:=by
 rw[<-GN];have p:(1:Int) > 0:=by decide
 cases a <;> cases b <;> (unfold Builtin.Str.strSliceIndices HT.sIx;simp only[p,if_true];congr 1 <;> (try split) <;> lia)
theorem DK{b:Type}(l:List b)(a k:Nat):((cq k).map λj=>a+j).filterMap (λi=>l[i]?)=(l.drop a).take k:=by
 induction k with
 |zero=>simp
 |succ k c=>
  rw[tI,wG,List.filterMap_append,c,List.take_succ];congr 1;simp[p9];cases l[a+k]? <;> rfl
theorem DD(z:Str)(t:Tok)(l u:Option (Int×Tok)):∃m,sliceMade z t l u ae=m/\(m=.val (.str z t)/\jr z (l.map (·.1)) (u.map (·.1))=z\/m=.str (jr z (l.map (·.1)) (u.map (·.1)))):=by
 refine⟨_,rfl,?_⟩;unfold sliceMade slicePicked;have e:=CD (l.map (·.1)) (u.map (·.1)) z.length;simp only[Option.map_none,AX];rw[e];have d:=DK z.cps.toList (HT.sIx z.length 0 (l.map (·.1))) (HT.sIx z.length z.length (u.map (·.1))-HT.sIx z.length 0 (l.map (·.1)));have b:(((cq (HT.sIx z.length z.length (u.map (·.1))-HT.sIx z.length 0 (l.map (·.1)))).map λk=>HT.sIx z.length 0 (l.map (·.1))+k).filterMap (z.cps[·]?)).toArray=(jr z (l.map (·.1)) (u.map (·.1))).cps:=by unfold jr;rw[<-d];simp
 split
 .rename_i h;left;refine⟨rfl,?_⟩;simp only[beq_self_eq_true,Bool.true_and,fg,List.length_range,beq_iff_eq]at h;have g:HT.sIx z.length z.length (u.map (·.1))<=z.length:=HT.sIx_le _ _ (aT _) _;have f:z.cps.toList.length=z.length:=by simp[k_]
  have a:HT.sIx z.length 0 (l.map (·.1))=0\/z.length=0:=∅
  unfold jr;rw[h];rcases a with a|a
  .rw[a,wH,kt ∅]
  .have:z.cps.toList=[]:=jJ ∅;rw[this];cases z;rename_i c;simp at this;subst this;simp
 .right;rw[show(⟨(((cq (HT.sIx z.length z.length (u.map (·.1))-HT.sIx z.length 0 (l.map (·.1)))).map λk=>HT.sIx z.length 0 (l.map (·.1))+k).filterMap (z.cps[·]?)).toArray⟩:Str)=jr z (l.map (·.1)) (u.map (·.1))from by rw[b]]
def y_:V->Option Int->Option Int->Hp->VK->Prop:=λx a b H Q=>∃z,x=.str z/\z.length<=aY/\Q (.str (jr z a b)) H
theorem H_(z:Str)(a b:Option Int):(jr z a b).length<=z.length:=by unfold jr k_;simp;lia
theorem part_of{v:ah}{o:Option Int}(p:ko v o):∃q:Option (Int×Tok),v=partValue q/\q.map (·.1)=o:=by
 cases p with
 |none=>exact⟨ae,rfl,rfl⟩
 |int i t=>exact⟨aa (i,t),rfl,rfl⟩
theorem Jy:j6 X y_:=by
 intro y s n H x v p o r w a Q I b g d c h;obtain⟨z,rfl,f,q⟩:=h;obtain⟨t,rfl⟩:=b;obtain⟨l,rfl,rfl⟩:=part_of d;obtain⟨u,rfl,rfl⟩:=part_of c;refine⟨"str",_,F.slot_str_getitem.lookup,typeIs_str s z t,?_⟩;obtain⟨m,j,i⟩:=DD z t l u;refine getItem_meets (typeIs_str s z t) (by decide) F.slot_str_getitem F.entry_str_getitem (F.args_str_getitem_2 _ _) (meets_str_getitem_slice z t a l u ae (by decide)) ⟨g,?_⟩;rw[j];rcases i with⟨rfl,e⟩|rfl
 .exact⟨.str z,H,I,⟨t,rfl⟩,by rw[e]at q;exact q⟩
 .exact⟨bX (H_ z _ _) f,⟨.str _,H,I.tok _,⟨_,rfl⟩,q⟩⟩
def fv(K:au)(H:Hp)(d:Nat)(x y:V)(k:Bool):Prop :=
 ∀(X:Cx),X.K=K->∀(b:List (af×Obj)) (a:St) (s:am) (u v:ah) (A:aH),Inv X b a H s->RelV x u->RelV y v->A.units+d<cLine->qd A s u v k
theorem CI{K:au}{H:Hp}{d:Nat}{x y:V}(f:d8 x=ai)(c:d8 y=ai):fv K H d x y (cg x y):=λ_ _ _ _ _ _ _ _ _ b a _=>yJ b a f c
def dZ(e:Nat->Bool)(n m:Nat):Bool:=(cq (min n m)).all e&&n == m
theorem AG{A:aH}:A.in1.units=A.units+1:=rfl
theorem u9{H:Hp}{d:Nat}{a b:af}{f c:List V}{e:Nat->Bool}{E:List (af×Obj)}{p:St}{s:am}{A:aH}(I:Inv X E p H s)(N:bK X.K H a f)(M:bK X.K H b c)(L:∀(j:Nat) x y,f[j]?=aa x->c[j]?=aa y->fv X.K H d x y (e j)) (T:A.units+(d+1)<cLine):SeqAt.RcAt A s (.ref a) (.ref b) (dZ e f.length c.length)/\SeqAt.RcNeAt A s (.ref a) (.ref b) (!dZ e f.length c.length):=by
 obtain⟨h,r,o,_⟩:=I.list N;obtain⟨l,q,g,_⟩:=I.list M;have K:=r.length;have S:=q.length;have z:∀j (C:j<h.toArray.size) (B:j<l.toArray.size),qd A.in1 s h.toArray[j] l.toArray[j] (e j):=λj C B=>by
  have P:j<h.length:=by simpa using C
  have Q:j<l.length:=by simpa using B
  have m:f[j]?=aa f[j]:=eE ∅;have D:c[j]?=aa c[j]:=eE ∅;obtain⟨u,w,J⟩:=r.get m;obtain⟨v,t,G⟩:=q.get D;have O:h[j]=u:=by rw[eE P]at w;exact dO w
  have f2:l[j]=v:=by rw[eE Q]at t;exact dO t
  have:=L j f[j] c[j] m D X rfl E p s u v A.in1 I J G (by rw[AG];lia);simpa[O,f2]using this
 by_cases i:f.length=c.length
 .have n:h.toArray.size=l.toArray.size:=by simp;lia
  have m:dZ e f.length c.length=(cq h.toArray.size).all e:=by unfold dZ;rw[i,Nat.min_self,beq_self_eq_true,Bool.and_true,bQ,<-K,i]
  rw[m];exact⟨.lists o.isList g.isList n ∅ z,.lists o.isList g.isList n ∅ z⟩
 .have m:dZ e f.length c.length=ak:=by
   unfold dZ;rw[beq_false_of_ne i,Bool.and_false]
  have n:(h.toArray.size != l.toArray.size)=ai:=by simp;lia
  rw[m];exact⟨.lists_lengths o.isList g.isList n ∅,.lists_lengths o.isList g.isList n ∅⟩
theorem v_{H:Hp}{d:Nat}{a b:af}{f c:List V}{e:Nat->Bool}{C:List (af×Obj)}{m:St}{s:am}{A:aH}(I:Inv X C m H s)(M:bO X.K H a f)(L:bO X.K H b c)(K:∀(j:Nat) x y,f[j]?=aa x->c[j]?=aa y->fv X.K H d x y (e j)) (Q:A.units+(d+1)<cLine):SeqAt.RcAt A s (.ref a) (.ref b) (dZ e f.length c.length)/\SeqAt.RcNeAt A s (.ref a) (.ref b) (!dZ e f.length c.length):=by
 obtain⟨h,o,r,_⟩:=I.tuple M;obtain⟨g,n,i,_⟩:=I.tuple L;have G:=o.length;have J:=n.length;have t:∀j (z:j<h.toArray.size) (w:j<g.toArray.size),qd A.in1 s h.toArray[j] g.toArray[j] (e j):=λj z w=>by
  have O:j<h.length:=by simpa using z
  have P:j<g.length:=by simpa using w
  have l:f[j]?=aa f[j]:=eE ∅;have B:c[j]?=aa c[j]:=eE ∅;obtain⟨u,q,E⟩:=o.get l;obtain⟨v,p,D⟩:=n.get B;have N:h[j]=u:=by rw[eE O]at q;exact dO q
  have f2:g[j]=v:=by rw[eE P]at p;exact dO p
  have:=K j f[j] c[j] l B X rfl C m s u v A.in1 I E D (by rw[AG];lia);simpa[N,f2]using this
 have l:dZ e f.length c.length=((cq (min h.toArray.size g.toArray.size)).all e&&h.toArray.size == g.toArray.size):=by unfold dZ;rw[bQ,bQ,<-G,<-J]
 rw[l];exact⟨.tuples r i ∅ t,.tuples r i ∅ t⟩
theorem BP{K:au}{H:Hp}{d:Nat}{a b:af}{f c:List V}{e:Nat->Bool}(n:bK K H a f)(m:bK K H b c)(p:a≠b)(l:∀(j:Nat) x y,f[j]?=aa x->c[j]?=aa y->fv K H d x y (e j)):fv K H (d+1) (.ref a) (.ref b) (dZ e f.length c.length):=λX o r q s u v A I h g i=>by
 subst o;cases h;cases g;exact .of_refs p (u9 I n m l i).1
theorem Dj{K:au}{H:Hp}{d:Nat}{a b:af}{f c:List V}{e:Nat->Bool}(n:bO K H a f)(m:bO K H b c)(p:a≠b)(l:∀(j:Nat) x y,f[j]?=aa x->c[j]?=aa y->fv K H d x y (e j)):fv K H (d+1) (.ref a) (.ref b) (dZ e f.length c.length):=λX o r q s u v A I h g i=>by
 subst o;cases h;cases g;exact .of_refs p (v_ I n m l i).1
theorem xG{K:au}{H:Hp}{d:Nat}{a:af}:fv K H d (.ref a) (.ref a) ai:=λX h i f s u v A I c b g=>by
 cases c;cases b;exact .same _
def o0(K:au)(g:Bool):R2:=λx y H Q=>∃a b f c d e,x=.ref a/\y=.ref b/\((bK K H a f/\bK K H b c)\/(bO K H a f/\bO K H b c))/\d<=8 /\
 (∀(j:Nat) x y,f[j]?=aa x->c[j]?=aa y->fv K H d x y (e j))/\Q (.bl (if g then !dZ e f.length c.length else dZ e f.length c.length)) H
theorem B3(n:X.A.units+64<cLine):bp X (cM .Eq) (o0 X.K ak):=by
 intro p s j H x y v u Q I g f h;obtain⟨a,b,m,l,d,e,rfl,rfl,i,o,c,q⟩:=h;cases g;cases f;rcases i with⟨h1,h2⟩|⟨h1,h2⟩
 .exact(u9 I h1 h2 c ∅).1 _ _ _ _ ⟨.bl _,H,I,rfl,q⟩
 .exact(v_ I h1 h2 c ∅).1 _ _ _ _ ⟨.bl _,H,I,rfl,q⟩
theorem GE(n:X.A.units+64<cLine):bp X (cM .NotEq) (o0 X.K ai):=by
 intro p s j H x y v u Q I g f h;obtain⟨a,b,m,l,d,e,rfl,rfl,i,o,c,q⟩:=h;cases g;cases f;rcases i with⟨h1,h2⟩|⟨h1,h2⟩
 .exact(u9 I h1 h2 c ∅).2 _ _ _ _ ⟨.bl _,H,I,rfl,q⟩
 .exact(v_ I h1 h2 c ∅).2 _ _ _ _ ⟨.bl _,H,I,rfl,q⟩
theorem vW{y:V}:∀{a:List V}{b:List ah},bq a b->a.all d8=ai->b.countP (gu y)=a.countP λz=>cg z y
 |_,_,.nil,_=>rfl
 |z::a,u::b,.cons r t,f=>by rw[nY,eV]at f;rw[List.countP_cons,List.countP_cons,rG r f.1,vW t f.2]
def DY(K:au):V->List V->Hp->VK->Prop:=λx b H Q=>∃(p:af) (a:List V) (y:V),x=.ref p/\b=[y]/\bO K H p a/\d8 y=ai/\a.all d8=ai/\Q (.int ((a.countP λz=>cg z y:Nat):Int)) H
theorem BJ:p6 X "tuple.count" (DY X.K):=by
 intro J s B H x D v E Q I i j h;obtain⟨p,C,y,rfl,rfl,o,t,d,q⟩:=h;cases i;obtain⟨u,rfl,l⟩:=j.one;obtain⟨a,r,⟨⟨A,z,f,g⟩,e,c,n,b⟩,G⟩:=I.tuple o;simp only at c b;subst c b;refine tx F.slot_tuple_count ⟨_,e,rfl⟩ F.entry_tuple_count (F.args_tuple_count_2 _ _) (SeqAt.tuple_countAt p a.toArray n z g u (gu y)) ⟨e,λw m=>mR l t r d w (by simpa using m),?_⟩;exact⟨.int _,H,I.tok _,⟨_,by rw[wI,vW r d]⟩,q⟩
end
abbrev Tx:=List Nat
def tS(l:Tx):Str:=⟨l.toArray⟩
def tV(l:Tx):V:=.str (tS l)
def cf(ls:List Tx):List V:=ls.map tV
theorem kQ(l:Tx):(tS l).cps.toList=l:=by simp[tS]
theorem js(l:Tx):(tS l).length=l.length:=by simp[tS,k_]
theorem Fm(z:Str):tS z.cps.toList=z:=by cases z;simp[tS]
theorem mZ{a b:Tx}(h:tS a=tS b):a=b:=by rw[<-kQ a,h,kQ]
theorem Ed{a b:Tx}(h:tV a=tV b):a=b:=mZ (V.str.inj h)
theorem vQ(a:List Tx):(cf a).length=a.length:=fg _
def cU(a b:Tx):Bool:=decide (a<=b)
def bd(ls:List Tx):List Tx:=ls.mergeSort cU
theorem yD(a b c:Tx)(f:cU a b=ai)(d:cU b c=ai):cU a c=ai:=by simp only[cU,decide_eq_true_eq]at *;exact List.le_trans f d
theorem DB(a b:Tx):(cU a b||cU b a)=ai:=by simp only[cU,tJ,decide_eq_true_eq];exact List.le_total a b
theorem GJ{a b:Tx}(d:cU a b=ai)(c:cU b a=ai):a=b:=by simp only[cU,decide_eq_true_eq]at *;exact List.le_antisymm d c
theorem iH(ls:List Tx):(bd ls).Perm ls:=List.mergeSort_perm _ _
theorem zY(ls:List Tx):(bd ls).Pairwise (λa b=>cU a b=ai):=List.pairwise_mergeSort yD DB _
theorem GU(a:List Tx):(bd a).length=a.length:=(iH a).length_eq
theorem zV{c d:List Tx}(g:d.Perm c)(f:d.Pairwise (λa b=>cU a b=ai)):d=bd c :=List.Perm.eq_of_pairwise (le:=λa b=>cU a b=ai) (λ_ _ _ _ i h=>GJ i h) f (zY c) (g.trans (iH c).symm)
theorem Hi{c:List Tx}(d:c.Pairwise (λa b=>cU a b=ai)):bd c=c:=(zV (qf c) d).symm
theorem yB:∀(p:Str) (l:List Str),risingS p l=ai->(p::l).Pairwise (λa b=>cU a.cps.toList b.cps.toList=ai)
 |p,[],_=>List.pairwise_singleton _ _
 |p,x::r,h=>by
  have d:(!ltCps x.cps.toList p.cps.toList&&risingS x r)=ai:=h;rw[eV,ltCps_eq]at d;have q:=yB x r d.2;have f:cU p.cps.toList x.cps.toList=ai:=by simp only[cU,decide_eq_true_eq];intro g;simp[g]at d
  refine List.pairwise_cons.mpr ⟨λy c=>?_,q⟩;rcases bw.mp c with rfl|c
  .exact f
  .exact yD _ _ _ f (List.rel_of_pairwise_cons q c)
theorem Iz{c:List Str}(h:sortedS c=ai):(c.map λz=>z.cps.toList).Pairwise (λa b=>cU a b=ai):=by
 rw[List.pairwise_map];cases c with
 |nil=>exact List.Pairwise.nil
 |cons x r=>exact yB x r h
theorem uh:∀{ls:List Tx}{a:List ah},bq (cf ls) a->cR a (ls.map tS)
 |[],_,.nil=>.nil
 |l::ls,_::_,.cons ⟨t,e⟩ r=>by subst e;exact .cons _ t (uh (ls:=ls) r)
theorem zu:∀{b:List Str}{a:List ah},cR a b->bq (cf (b.map λz=>z.cps.toList)) a
 |_,_,.nil=>.nil
 |_,_,.cons y t h=>.cons ⟨t,by rw[Fm]⟩ (zu h)
section
variable{X:Cx}
theorem EJ(z:Tx)(n:Nat):Txt.mul (tS z) (n:Int)=tS (cQ n z).flatten:=by
 unfold Txt.mul;cases n with
 |zero=>simp[tS,eU]
 |succ n=>
  rw[if_neg ∅];split
  .rename_i h;simp only[tJ,beq_iff_eq]at h;rcases h with h|h
   .have:n=0:=∅
    subst this;simp
   .rw[js]at h;have:z=[]:=jJ h;subst this;simp
  .unfold tS;congr 1;have b:∀(k:Nat) (a:Array Nat),(cQ k z.toArray).foldl (·++·) a=a++(cQ k z).flatten.toArray:=by
    intro k
    induction k with
    |zero=>intro a;simp
    |succ k c=>intro a;rw[A2,mi,c,A2,List.flatten_cons];simp[Array.append_assoc]
   have e:=b (n+1) #[];simp only[k9];simpa using e
theorem Gg:bp X (fL .Mult) (λx y H Q=>∃(z:Tx) (n:Nat),x=tV z/\y=.int n/\n<=100/\z.length<=100/\Q (tV (cQ n z).flatten) H):=by
 intro w s j H x y v u Q I c b h;obtain⟨z,n,rfl,rfl,f,d,q⟩:=h;obtain⟨t,rfl⟩:=c;obtain⟨m,rfl⟩:=b;refine SB.mul ?_ λl k=>?_
 .have o:z.length*n<=10000:=bX (wJ d f) (by decide);refine⟨by rw[Bool.or_eq_false_iff];constructor <;> (apply decide_eq_false;lia),λi _=>?_,λi _=>?_⟩
  .rw[js];intro g;have r:(2^63-1:Int) / n ≥ (2^63-1) / 100:=by
    have a:(0:Int)<n:=∅
    apply (Int.le_ediv_iff_mul_le a).mpr;have:((2^63-1:Int) / 100)*n<=((2^63-1) / 100)*100:=Int.mul_le_mul_of_nonneg_left ∅ (by decide);refine Int.le_trans this (by decide)
   have p:((2^63-1:Int) / 100) > 1000:=by decide
   lia
  .rw[js,k9];unfold Builtin.Str.tooLong;apply decide_eq_false;have:10000<aY:=by rw[kZ];decide
   lia
 .rw[EJ];exact⟨tV _,H,I.tok _,⟨_,rfl⟩,q⟩
end
theorem ET(t:hG)(j:Nat):(t.put j).1.led=t.led/\(t.put j).1.plain=t.plain:=⟨rfl,rfl⟩
theorem BU(t:hG)(n:Nat):(t.orStandIn n).led=t.led/\((t.orStandIn n).plain=t.plain\/(t.orStandIn n).plain=ak):=by
 unfold SetTable.orStandIn;split
 .exact⟨rfl,.inl rfl⟩
 .exact⟨rfl,.inr rfl⟩
theorem Cz(t:hG)(c:Array (Int×ah))(h:Int)(x:ah):(layNew t c h x).2.1.led=t.led/\((layNew t c h x).2.1.plain=t.plain\/(layNew t c h x).2.1.plain=ak):=by
 unfold layNew;split
 .rename_i a b _;have f:=ET t a;have d:=BU (t.put a).1 (SetTable.insertAt c (t.put a).2 (h,x)).size;exact⟨d.1.trans f.1,by rw[<-f.2];exact d.2⟩
 .exact⟨rfl,.inr rfl⟩
theorem F6(t:hG)(c:Array (Int×ah))(a:Nat)(d:t.plain=ak):(n9 t c a).2.1.led=t.led/\(n9 t c a).2.1.plain=ak:=by
 unfold n9;split
 .rename_i t' b e;have q:t'.led=t.led/\t'.plain=t.plain:=by
   unfold SetTable.relaid SetTable.laid at e;cases q:SetTable.layClean (SetTable.sizeAbove a-1) (c.map (·.1))with
   |none=>rw[q]at e;cases e
   |some f=>rw[q]at e;cases e;exact⟨rfl,rfl⟩
  dsimp only;split
  .exact⟨q.1,q.2.trans d⟩
  .exact⟨rfl,rfl⟩
 .exact⟨rfl,rfl⟩
def cG(w:aC):Bool:=w.params.followText "set-order"
structure iu(P:aG)(w:aC)(h:ax)(a:af)(ks:List Str):Prop where
 ex:∃(es:Array (Int×ah)) (ep:Nat) (t:hG) (ss:List Str),h.get? a=aa {cls:=.type "set",dict:=ae,data:=.set es ep t}/\cR (es.toList.map (·.2)) ss/\ss.Perm ks/\ElemsOf (gy P w) es.toList /\
  es.size<4090/\t.fits es.size=ai/\t.led=(!cG w)/\(ks≠[]->t.plain=ak)
theorem iu.at{P:aG}{w:aC}{h b:ax}{a:af}{ks:List Str}(S:iu P w h a ks)(k:∀o,h.get? a=aa o->b.get? a=aa o):iu P w b a ks:=by obtain⟨es,c,t,ss,e,r⟩:=S.ex;exact⟨es,c,t,ss,k _ e,r⟩
theorem zH:∀{a:List ah}{b:List Str},cR a b->∀x,x∈b↔∃t,Value.str x t∈a
 |_,_,.nil,x=>by simp
 |_,_,.cons y t h,x=>by
  rw[bw,zH h x];constructor
  .rintro(rfl|⟨t',q⟩)
   .exact⟨t,iT ..⟩
   .exact⟨t',iy _ q⟩
  .rintro⟨t',q⟩;rcases bw.mp q with q|q
   .cases q;exact .inl rfl
   .exact .inr ⟨t',q⟩
theorem uJ:∀{a b:List ah},a.Perm b->∀{c:List Str},cR b c->∃d,cR a d/\d.Perm c:=by intro a b p c h;refine⟨a.map strOf,strsAre_map a λv f=>h.all v (p.mem_iff.mp f),?_⟩;have:=p.map strOf;rwa[h.strs]at this
section
variable{P:aG}{w:aC}{A:aH}{E:ah->am->Prop}{s:am}
def gW(ks:List Str)(x:Str):List Str:=if x∈ks then ks else ks++[x]
theorem iu.put{h:ax}{a:af}{c es':Array (Int×ah)}{b:Nat}{t t':hG}(e:h.get? a=aa {cls:=.type "set",dict:=ae,data:=.set c b t}):(h.update a (Obj.putSet es' t')).get? a=aa {cls:=.type "set",dict:=ae,data:=.set es' (b+1) t'}:=by have:=n_ (Obj.putSet es' t') e (by rw[putSet_of es' t' rfl];rfl);rw[putSet_of es' t' rfl]at this;exact this
theorem CL{a:af}{ks:List Str}{x:Str}{g:Tok}{Q:Bool->am->Prop}(S:iu P w s.heap a ks)(hn:ks.length<4000)(h:∀l b,iU a s.heap l->iu P w l a (gW ks x)->Q b {s with heap:=l}):aq (ar P w) A (setAddHashed a (.str x g) ((gy P w).hash x)) Q E s:=by
 obtain⟨m,ep,t,ss,X,Y,hp,C,hsz,hf,mv,c_⟩:=S.ex;have v:∀y t',(gy P w).is x (.str y t')=decide (y=x):=λy t'=>by
  show nO x (.str y t')=_;rw[kY];simp[nO]
  try exact eq_comm
 have dS:(gy P w).is x (.str x g)=ai:=by rw[v];simp
 have hb:m.size<scanBound:=wA hsz (by decide);unfold setAddHashed setAddHashedIn;refine jG (ap (og X rfl hf ?_));dsimp only;rw[byScan_of (knd:=gy P w) (x:=.str x g) rfl hb C];simp only[if_true];unfold setAddByScan;refine ap (ap (ku (ap (wpAny_setScan_of dS X rfl hf C ?_))));have p:x∈ks↔∃e∈m.toList,(gy P w).is x e.2=ai:=by
  rw[<-hp.mem_iff,zH Y x];constructor
  .rintro⟨t',q⟩;obtain⟨e,I,ee⟩:=eF.mp q;exact⟨e,I,by rw[ee,v];simp⟩
  .rintro⟨e,I,q⟩;obtain⟨y,t',ey⟩:=Y.all e.2 (eF.mpr ⟨e,I,rfl⟩);rw[ey,v]at q;have:y=x:=of_decide_eq_true q;subst this;exact⟨t',eF.mpr ⟨e,I,ey⟩⟩
 have klen:ks.length=m.size:=by
  have e1:=hp.length_eq;have Z:ss.length=m.size:=by rw[<-Y.strs];simp
  lia
 cases hr:List.findIdx? (λe=>(gy P w).is x e.2) m.toList with
 |some j=>dsimp only;obtain⟨hj,hpj,_⟩:=Jj.mp hr;have W:x∈ks:=p.mpr ⟨_,A_ hj,hpj⟩;refine aB (aB ?_);exact h s.heap _ (Heap.SameBut.refl a s.heap) (by unfold gW;rw[if_pos W];exact S)
 |none=>
  dsimp only;have W:¬x∈ks:=λhm=>by obtain⟨e,I,q⟩:=p.mp hm;have:=List.findIdx?_eq_none_iff.mp hr e I;rw[q]at this;exact Bool.noConfusion this
  have K:∀(b:Bool) {i:am}{Q':Unit->am->Prop},Q' () i->aq (ar P w) A (match b with|ai=>rule "set.scan.the-table-gave-way" |ak=>pure ()) Q' E i :=
   λb i Q' hq=>by cases b <;> first|exact aB hq|exact ku hq
  have G:=layNew_perm t m ((gy P w).hash x) (.str x g);have N:=layNew_fits t m ((gy P w).hash x) (.str x g);have z:=Cz t m ((gy P w).hash x) (.str x g);generalize hL:layNew t m ((gy P w).hash x) (.str x g)=L at G N z ⊢;obtain⟨c,t1,f,gave⟩:=L;dsimp only at G N z ⊢;rw[qg]at G;have u:ElemsOf (gy P w) c.toList:=(C.push dS rfl).perm G;have hsz1:c.size=m.size+1:=by have:=G.length_eq;simpa using this
  have hS1:∃H,cR (c.toList.map (·.2)) H/\H.Perm (gW ks x):=by
   have p1:=G.map (λe:Int×ah=>e.2);rw[wG]at p1;have q1:cR (m.toList.map (·.2)++[Value.str x g]) (ss++[x]):=by
    have gen:∀{vs:List ah}{zs:List Str},cR vs zs->cR (vs++[Value.str x g]) (zs++[x]):=by
     intro vs zs hh
     induction hh with
     |nil=>exact .cons x g .nil
     |cons y t _ ih=>exact .cons y t ih
    exact gen Y
   obtain⟨H,T,O⟩:=uJ p1 q1;refine⟨H,T,O.trans ?_⟩;unfold gW;rw[if_neg W];exact hp.append_right _
  obtain⟨H,T,O⟩:=hS1;have cr:gW ks x≠[]:=by unfold gW;rw[if_neg W];simp
  have o:∀d:hG,d.fits c.size=ai->d.led=(!cG w)->d.plain=ak->aq (ar P w) A (do
    storeSet a c d
    if(!f&&d.tooFull)=ai then do
      (match (n9 d c (oh c.size)).2.2 with|ai=>rule "set.scan.the-table-gave-way" |ak=>pure ())
      storeSet a (n9 d c (oh c.size)).1 (n9 d c (oh c.size)).2.1
      pure (aa ai)
     else pure (aa ai)) (λr s'=>∃l,r=aa ai/\s'={s with heap:=l}/\iU a s.heap l/\iu P w l a (gW ks x)) E s:=by
   intro d hf2 jW fP;refine ap (wpAny_storeSet_of X rfl ?_ (fits_of_scanBound (wA (show c.size<4090 by lia) (by decide))));have o1:=iu.put (es':=c) (t':=d) X;have ge:=mj s.heap a (Obj.putSet c d);split
   .have M:=relayAll_perm d c (oh c.size);have B:=relayAll_fits d c (oh c.size);have n:=F6 d c (oh c.size) fP;generalize hRl:n9 d c (oh c.size)=Rl at M B n ⊢;obtain⟨D,t3,gave2⟩:=Rl;dsimp only at M B n ⊢;have hsz2:D.size=c.size:=by have:=M.length_eq;simpa using this
    refine ap (K _ ?_);refine ap (wpAny_storeSet_of o1 rfl ?_ (fits_of_scanBound (wA (show D.size<4090 by lia) (by decide))));obtain⟨ss2,u1,u2⟩:=uJ (M.map (λe:Int×ah=>e.2)) T;refine aB ⟨_,rfl,rfl,ge.trans (mj _ a _),⟨D,_,t3,ss2,iu.put o1,u1,u2.trans O,u.perm M,∅,B,n.1.trans jW,λ_=>n.2⟩⟩
   .exact aB ⟨_,rfl,rfl,ge,⟨c,_,d,H,o1,T,O,u,∅,hf2,jW,λ_=>fP⟩⟩
  have Bw:t1.led=(!cG w):=z.1.trans mv;refine ap (K _ ?_);split
  .refine ap ?_;rw[hashByValue_scannable 8 (x:=.str x g) rfl];refine aB ?_;have hk:plainKind (.str x g)=ak:=rfl;rw[hk];simp only[jK,if_false];refine aO (o {t1 with plain:=ak} (SetTable.fits_plain_off N) Bw rfl) λr s' ⟨l,e1,Z,e3,e4⟩=>?_;subst e1 Z;exact aB (h l _ e3 e4)
  .rename_i J;refine ap (aB ?_);simp only[if_true];refine aO (o t1 N Bw (by simpa using J)) λr s' ⟨l,e1,Z,e3,e4⟩=>?_;subst e1 Z;exact aB (h l _ e3 e4)
end
def met(val:Nat->Str)(i:Nat):List Str:=((cq i).map val).foldl gW []
theorem zG(val:Nat->Str)(i:Nat):met val (i+1)=gW (met val i) (val i):=by unfold met;rw[tI,wG,List.foldl_append];rfl
theorem yO(val:Nat->Str){i:Nat}:∀{j:Nat},i<=j->(met val i).length<=(met val j).length
 |0,h=>by rw[show i=0 by lia];exact aT _
 |j+1,h=>by
  by_cases e:i=j+1
  .subst e;exact aT _
  .refine bX (yO val (j:=j) ∅) ?_;rw[zG];unfold gW;split
   .exact aT _
   .simp
section
variable{P:aG}{w:aC}{A:aH}{R:Result->am->Prop}{I:af}{c a:List af}{G:Array GenState->Array GenState->Prop}{n:Nat}{d:Nat->ah->Prop}{St:Nat->am->Prop}
theorem DU(W:WalksS P w A.in1 I c a G n d St)(S:af)(q:S∉c){J:Nat->ax->Prop}(K:∀i h j,J i h->(∀b o,b∉a->h.get? b=aa o->j.get? b=aa o)->J i j)(M:∀(i:Nat) (v:ah) (s:am) (E:ah->am->Prop) (Q:Bool->am->Prop),i<n->d i v->J i s.heap->(∀j t b,s.toks<=t->iU S s.heap j->J (i+1) j->Q b {s with heap:=j,toks:=t})->aq (ar P w) A.in1 (setAdd S v) Q E s):∀(k i:Nat) (s:am),n-i=k->i<=n->St i s->J i s.heap -> (∀f,Moved (S::a) G s f->J n f.heap->R (.ok (.ret .none)) f)->k6 (ar P w) A (.builtin "set.update.loop" ⟨[.ref S,.ref I],[]⟩) R s:=by
 have X:S∉a:=λh=>q (W.sub _ h);have D:∀b∈a,b∈S::a:=λb g=>iy _ g;intro k
 induction k with
 |zero=>
  intro i s O T z x y;obtain rfl:i=n:=∅
  refine lf Jk ?_;rw[ml Ba _];show aq _ A.in1 (pyNext (.ref I) >>= _) _ _ s;refine ap (W.done s _ _ z λf p=>?_);show aq _ A.in1 (ret Value.none) _ _ f;exact aB (y f (p.mono D) (K _ _ _ x λb o g e=>p.heap b o g e))
 |succ k N=>
  intro i s O T z x y;have B:i<n:=∅
  refine lf Jk ?_;rw[ml Ba _];show aq _ A.in1 (pyNext (.ref I) >>= _) _ _ s;refine ap (W.item i s _ _ B z λv f Y l p=>?_);show aq _ A.in1 (holding [v] (setAdd S v) >>= _) _ _ f;refine ap (jG (M i v f _ _ B Y (K _ _ _ x λb o g e=>p.heap b o g e) λj t b C H L=>?_));refine aB ⟨mn Ba _,N (i+1) _ ∅ B (W.frame _ f _ _ l C λb g o e=>?_) L λu m r=>?_⟩
  .rw[H.2 b (λh:b=S=>q (by rw[<-h];exact g))];exact e
  .refine y u (Moved.trans W.gtrans ((p.mono D).then_heap C λb o g e=>?_) m) r;rw[H.2 b (λh:b=S=>g (by rw[h];exact iT))];exact e
end
section
variable{P:aG}{w:aC}{A:aH}{E:ah->am->Prop}{s:am}
theorem Es(a:ah){Q:ah->am->Prop} (h:iu P w (s.heap.push {cls:=.type "set",dict:=ae,data:=.set #[] 0 (.fresh 0 0 (!cG w))}) s.heap.objs.size [] -> Q (.ref s.heap.objs.size) {s with heap:=s.heap.push {cls:=.type "set",dict:=ae,data:=.set #[] 0 (.fresh 0 0 (!cG w))}}):k6 (ar P w) A (.call (.builtin "set.__new__") ⟨[.type "set",a],[]⟩) (wants Q E) s:=by
 refine codeAny_of_tree ?_;show aq _ A.in1 (do checkBuiltinCall "set.__new__" ⟨[.type "set",a],[]⟩;again (.builtin "set.__new__" ⟨[.type "set",a],[]⟩)) _ _ s;refine ap (tK (PySem.F.newCall_set_1 a) (aB ⟨mn F.plain_set_new _,lf F.entry_set_new ?_⟩));rw[ml F.plain_set_new _];unfold Builtin.«set.__new__» Builtin.Frozenset.newClass;have i:=sub_set_self;obtain⟨j,g,d,c,f⟩:=s;dsimp only
 wp_walk
 refine oi (aB ?_);dsimp only;simp only[newObj];refine ap (wpAny_alloc (aB ?_));refine aB (h ⟨#[],0,_,[],bW _ rfl,.nil,qf _,λe b=>by simp at b,by decide,rfl,rfl,λh=>absurd rfl h⟩)
end
end L2
set_option maxHeartbeats 8000000
namespace L2
theorem BR:entryFor table "set.__iter__"=aa Builtin.«frozenset.__iter__»:=entryFor_alias (id':="frozenset.__iter__") (by kernel_rfl) rfl (by decide +kernel) (by kernel_rfl)
theorem yk:Slot "set_iterator" "__next__" "set_iterator.__next__" :=
 .of (owner:="set_iterator") (n:="__next__") (by rw[typeLookup_type,builtinLookup_eq_fast];kernel_rfl) (by decide +kernel) (by decide +kernel) (by decide +kernel) (by first|exact .inl (by decide +kernel)|exact .inr (by decide +kernel)) (by rw[isSubtype_type];kernel_rfl)
theorem EC:entryFor table "set_iterator.__next__"=aa Builtin.«set_iterator.__next__»:=entryFor_of_fast (by kernel_rfl)
theorem FE(a:ah):argsOk "set_iterator.__next__" ⟨[a],[]⟩:=by unfold argsOk;kernel_rfl
theorem xi:Slot "set_iterator" "__iter__" "set_iterator.__iter__" :=
 .of (owner:="set_iterator") (n:="__iter__") (by rw[typeLookup_type,builtinLookup_eq_fast];kernel_rfl) (by decide +kernel) (by decide +kernel) (by decide +kernel) (by first|exact .inl (by decide +kernel)|exact .inr (by decide +kernel)) (by rw[isSubtype_type];kernel_rfl)
theorem FC:entryFor table "set_iterator.__iter__"=aa Builtin.«dict_keyiterator.__iter__»:=entryFor_alias (id':="dict_keyiterator.__iter__") (by kernel_rfl) rfl (by decide +kernel) (by kernel_rfl)
theorem BE(a:ah):argsOk "set_iterator.__iter__" ⟨[a],[]⟩:=by unfold argsOk;kernel_rfl
def fV(first:ah)(i:Nat)(a:af)(n b:Nat):Obj:={cls:=.type "set_iterator",data:=.fields #[first,.int i 0,.ref a,.int n 0,.int b 0]}
section
variable{P:aG}{w:aC}{A:aH}{E:ah->am->Prop}{s:am}
theorem rg{I a:af}{first:ah}{i n d:Nat}{Q:ah->am->Prop}(h:s.heap.get? I=aa (fV first i a n d))(c:Q (.ref I) s):aq (ar P w) A (kn (.ref I)) Q E s:=by
 have b:s.TypeIs (.ref I) "set_iterator":=⟨_,h,rfl⟩
 refine wpAny_pyIter_slot b xi (qc xi b FC ?_ (BE _));show aq _ _ (ret (.ref I)) _ _ s;exact aB ⟨_,rfl,"set_iterator",_,b,yk.lookup,c⟩
theorem lQ{I a:af}{first:ah}{i:Nat}{f:Array (Int×ah)}{g:Nat}{t:hG}{Q:Option ah->am->Prop}(n:s.heap.get? a=aa {cls:=.type "set",dict:=ae,data:=.set f g t})(m:t.fits f.size=ai)(l:s.heap.get? I=aa (fV first i a f.size g))(h:aq (ar P w) A.in1 (if let .int slot _:=first then do
    match <-kw a slot.toNat (i:Int).toNat (g:Int).toNat with
    |some (x,next)=>do
     kx (.ref I) 0 (cH next)
     kx (.ref I) 1 (cH ((i:Int)+1))
     ret x
    |none=>do kx (.ref I) 2 .none;raiseNew (<-newExc (.type "StopIteration") [])
   else do
    let aa places <-seqItems? first|unsupported "internal:set_iterator"
    match places[(i:Int).toNat]? with
    |some (.int d _)=>do
     let x <-setNextDrawn a d.toNat (g:Int).toNat
     kx (.ref I) 1 (cH ((i:Int)+1))
     ret x
    |some _=>unsupported "internal:set_iterator"
    |none=>do kx (.ref I) 0 (cH 0);kx (.ref I) 2 .none;raiseNew (<-newExc (.type "StopIteration") []))
   (λc b=>∃r,c=.done (.ret r)/\Q (aa r) b) (λe b=>aq (ar P w) A (do if <-isInstance e (.type "StopIteration")then pure ae else throw e) Q E b) s) :
  aq (ar P w) A (pyNext (.ref I)) Q E s:=by
 have j:s.TypeIs (.ref I) "set_iterator":=⟨_,l,rfl⟩
 unfold pyNext;refine ap (wpAny_attempt (wpAny_callSpecial?_slot (name:=qb "__next__") j yk (qc yk j EC ?_ (FE _))));unfold Builtin.«set_iterator.__next__» slotArgs;refine ap (aB ?_);refine ap (wpAny_fieldsOf l rfl ?_);show aq _ _ (setEntries a >>= _) _ _ s;refine ap (wpAny_setEntries_of n rfl m ?_);have u:(((f.size:Nat):Int) != ((f.size:Nat):Int))=ak:=by simp
 rw[u];simp only[jK,if_false];refine c9 ?_ (λc b q=>?_) (λe b q=>q) (Q:=λc b=>∃r,c=.done (.ret r)/\Q (aa r) b) (E:=λe b=>aq (ar P w) A (do if <-isInstance e (.type "StopIteration")then pure ae else throw e) Q E b)
 .exact h
 .obtain⟨r,p,o⟩:=q;exact⟨r,p,aB o⟩
end
theorem v5{a:Type}:∀{l:List a}{i:Nat} (h:i<l.length),(l[i]::l.eraseIdx i).Perm l
 |[],i,h=>by simp at h
 |x::r,0,h=>by simp
 |x::r,i+1,h=>by have q:=v5 (l:=r) (i:=i) (by simpa using h);simp only[List.getElem_cons_succ,List.eraseIdx_cons_succ];exact(List.Perm.swap x _ _).trans (List.Perm.cons x q)
theorem yE{f:Type}(next:Nat->Nat):∀(c k:Nat) (a:List f) (b:Array f),c=a.length->(pickOrder.go next c k a b).toList.Perm (b.toList++a)
 |0,k,a,b,h=>by have:a=[]:=jJ h.symm;subst this;simp[pickOrder.go]
 |c+1,k,a,b,h=>by
  have d:next k % a.length<a.length:=Nat.mod_lt _ ∅
  unfold pickOrder.go;rw[eE d];dsimp only;have g:=yE next c (k+1) (a.eraseIdx (next k % a.length)) (b.push a[next k % a.length]) (by rw[List.length_eraseIdx,if_pos d];lia)
  refine g.trans ?_;rw[qg,jL];exact Bb _ (v5 d)
theorem yt{b:Type}(next:Nat->Nat)(a:Array b):(qh next a).toList.Perm a.toList:=by
 have:=yE next a.size 0 a.toList #[] (by simp)
 simpa[qh]using this
section
variable{P:aG}{w:aC}{A:aH}{E:ah->am->Prop}{s:am}
theorem GA{a:Source}{n:Nat}{Q:Nat->am->Prop}(b:n≠0)(h:∀k d,k<n->Q k {s with drawn:=d}):aq (ar P w) A (choose a n) Q E s:=λc p hΓ=>by unfold choose;rw[Sem.wp_choose];refine⟨b,?_⟩;exact h _ _ (Nat.mod_lt _ (Nat.pos_of_ne_zero b))
theorem yw{f:Type}:∀(n:Nat) (a:List f) (s:am) (Q:List f->am->Prop),n=a.length->(∀b d,b.Perm a->Q b {s with drawn:=d})->aq (ar P w) A (drawOrder n a) Q E s
 |0,[],s,Q,_,h=>by unfold drawOrder;exact aB (h [] s.drawn (qf _))
 |0,x::a,s,Q,hn,h=>by simp at hn
 |n+1,[],s,Q,hn,h=>by simp at hn
 |n+1,x::a,s,Q,hn,h=>by unfold drawOrder;refine ap (GA (by simp) λk d c=>?_);rw[eE c];dsimp only;refine ap (yw n ((x::a).eraseIdx k) _ _ (by rw[List.length_eraseIdx,if_pos c];lia) λb i g=>?_);refine aB (h _ i ?_);exact(List.Perm.cons _ g).trans (v5 c)
theorem rm{Q:Option ah->am->Prop}{R:Fin->am->Prop}(f:A.handled=ae)(g:∀c,(∀b o,s.heap.get? b=aa o->c.get? b=aa o)->Q ae {s with heap:=c}):aq (ar P w) A.in1 (do raiseNew (<-newExc (.type "StopIteration") [])) R (λe d=>aq (ar P w) A (do if <-isInstance e (.type "StopIteration")then pure ae else throw e) Q E d) s:=by
 refine ap ?_;simp only[newExc,newTuple];refine ap (kq ?_ (by size_fits));refine ap (m:=firstArgMember _ _) (tK (a:=Value.none) (by first|rfl | (simp only[firstArgMember];rfl)) ?_);refine kq ?_ (by size_fits);simp only[raiseNew];refine ap (wpAny_handled ?_);rw[show A.in1.handled=ae from f];refine ap (aB (wpAny_throw ?_));refine ap (Bc (T:="StopIteration") (b:=ai) ⟨_,bW _ rfl,rfl⟩ isSubtype_stop ?_);exact aB (g _ λb o e=>a8 _ (a8 _ e))
theorem vC{I a:af}{first d:ah}{i n f:Nat}{Q:Unit->am->Prop}(c:s.heap.get? I=aa (fV first i a n f))(h:∀b,iU I s.heap b->b.get? I=aa (fV d i a n f)->Q () {s with heap:=b}):aq (ar P w) A (kx (.ref I) 0 d) Q E s:=by refine qi c rfl (by simp[fV]) (h _ (mj ..) ?_);rw[n_ _ c (by rfl)];rfl
theorem uK{I a:af}{first:ah}{i n d:Nat}{Q:Unit->am->Prop}(c:s.heap.get? I=aa (fV first i a n d))(h:∀b,iU I s.heap b->b.get? I=aa (fV first (i+1) a n d)->Q () {s with heap:=b}):aq (ar P w) A (kx (.ref I) 1 (cH ((i:Int)+1))) Q E s:=by refine qi c rfl (by simp[fV]) (h _ (mj ..) ?_);rw[n_ _ c (by rfl)];rfl
theorem rR{I a:af}{first:ah}{i n d:Nat}{Q:Unit->am->Prop}(c:s.heap.get? I=aa (fV first i a n d))(h:∀b,iU I s.heap b->(∃o,b.get? I=aa o)->Q () {s with heap:=b}):aq (ar P w) A (kx (.ref I) 2 .none) Q E s:=by refine qi c rfl (by simp[fV]) (h _ (mj ..) ⟨_,n_ _ c (by rfl)⟩)
abbrev lX(a:Array (Int×ah))(b:Nat)(t:hG):Obj:={cls:=.type "set",dict:=ae,data:=.set a b t}
theorem Gn{I a:af}{d:Array (Int×ah)}{g:Nat}{t:hG}(x:a≠I)(m:t.fits d.size=ai)(f:cG w=ai)(C:A.handled=ae):Walks P w A I [I,a] [I] d.size (λi v=>((qh (w.params.setOrder a g) d).toList.map (·.2))[i]?=aa v) (λi h=>h.get? I=aa (fV (cH 0) i a d.size g)/\h.get? a=aa (lX d g t)):=by
 have hsz:(qh (w.params.setOrder a g) d).size=d.size:=by have:=(yt (w.params.setOrder a g) d).length_eq;simpa using this
 have j:∀(s:am) (i:Nat) (Q:Option (ah×Nat)->am->Prop) (E:ah->am->Prop),s.heap.get? a=aa (lX d g t) ->
   Q (((qh (w.params.setOrder a g) d)[i]?).map λe=>(e.2,0)) s->aq (ar P w) A.in1 (kw a (0:Int).toNat (i:Int).toNat (g:Int).toNat) Q E s:=λs i Q E u B=>by
  unfold kw;refine ap (og u rfl m ?_);unfold tL;refine ap (ap (oi (aB ?_)));show aq _ _ (if cG w=ai then _ else _) _ _ s;rw[if_pos f];simp only[k9,bne_self_eq_false,jK,if_false];unfold setWalk;refine ap (ap (og u rfl m ?_));unfold tL;refine ap (ap (oi (aB ?_)));show aq _ _ (if cG w=ai then _ else _) _ _ s;rw[if_pos f];refine ap (oi (aB (aB ?_)));exact B
 refine⟨λb f=>by simp at f;simp[f],λi h J c k=>⟨k I (by simp) _ c.1,k a (by simp) _ c.2⟩,λi s Q E H c l=>?_,λs Q E c l=>?_,λi s Q E c l=>rg c.1 l⟩
 .refine lQ c.2 m c.1 ?_;refine ap (j s i _ _ c.2 ?_);have y:i<(qh (w.params.setOrder a g) d).size:=∅
  rw[tN y];dsimp only[Option.map_some];refine ap (vC c.1 λq n G=>?_);refine ap (uK (s:={s with heap:=q}) G λp r D=>?_);refine aB ⟨_,rfl,l _ p s.toks ?_ ⟨D,?_⟩ λb o f e=>?_⟩
  .rw[iY];simp[tN y]
  .exact(r.2 a x).trans ((n.2 a x).trans c.2)
  .exact(r.2 b (by simpa using f)).trans ((n.2 b (by simpa using f)).trans e)
 .refine lQ c.2 m c.1 ?_;refine ap (j s d.size _ _ c.2 ?_);rw[Array.getElem?_eq_none ∅];dsimp only[Option.map_none];refine ap (rR c.1 λq n _=>?_);exact rm (s:={s with heap:=q}) C λp z=>l p s.toks λb o f e=>z b o ((n.2 b (by simpa using f)).trans e)
theorem IX{I a T:af}{f:Array (Int×ah)}{L:Nat}{t:hG}{c:List Nat}(cr:a≠I)(Z:T≠I)(D:t.fits f.size=ai)(J:c.Perm (cq f.size))(Y:A.handled=ae):Walks P w A I [I,a,T] [I] f.size (λi v=>(c.filterMap λj=>(f[j]?).map (·.2))[i]?=aa v) (λi h=>h.get? I=aa (fV (.ref T) i a f.size L)/\h.get? a=aa (lX f L t)/\h.get? T=aa {cls:=.type "tuple",data:=.seq (c.map λ(k:Nat)=>cH k).toArray}):=by
 have B:c.length=f.size:=by simpa using J.length_eq
 have p:∀j∈c,j<f.size:=λj C=>by simpa using J.mem_iff.mp C
 have fm:∀(l:List Nat),(∀j∈l,j<f.size)->∀(i j:Nat),l[i]?=aa j->∃e:Int×ah,f[j]?=aa e/\(l.filterMap λj=>(f[j]?).map (·.2))[i]?=aa e.2:=by
  intro l
  induction l with
  |nil=>intro _ i j h;simp at h
  |cons x r O=>
   intro K i j h;have S:x<f.size:=K x (iT ..);have H:f[x]?=aa f[x]:=tN S;cases i with
   |zero=>simp at h;subst h;exact⟨_,H,by rw[p9,H];rfl⟩
   |succ i=>obtain⟨e,z,y⟩:=O (λj C=>K j (iy _ C)) i j (by simpa using h);exact⟨e,z,by rw[p9,H];simpa using y⟩
 have g:∀(s:am) (Q:Option (Array ah)->am->Prop) (E:ah->am->Prop),s.heap.get? T=aa {cls:=.type "tuple",data:=.seq (c.map λ(k:Nat)=>cH k).toArray}->Q (aa (c.map λ(k:Nat)=>cH k).toArray) s->aq (ar P w) A.in1 (seqItems? (.ref T)) Q E s:=λs Q E W X=>by exact tO W rfl X
 refine⟨λb m=>by simp at m;simp[m],λi h h' d k=>⟨k I (by simp) _ d.1,k a (by simp) _ d.2.1,k T (by simp) _ d.2.2⟩,λi s Q E hi d q=>?_,λs Q E d q=>?_,λi s Q E d q=>rg d.1 q⟩
 .refine lQ d.2.1 D d.1 ?_;refine ap (g s _ _ d.2.2 ?_);have M:i<c.length:=∅
  have u:((c.map λ(k:Nat)=>cH k).toArray)[(i:Int).toNat]?=aa (cH (c[i]:Nat)):=by simp[M]
  dsimp only;rw[u];obtain⟨e,z,y⟩:=fm c p i c[i] (eE M);show aq _ _ (setNextDrawn a _ _ >>= _) _ _ s;refine ap ?_;unfold setNextDrawn;refine ap (og d.2.1 rfl D ?_);simp only[k9,bne_self_eq_false,jK,if_false];rw[z];refine aB ?_;refine ap (uK d.1 λG n e2=>?_);refine aB ⟨_,rfl,q _ G s.toks y ⟨e2,(n.2 a cr).trans d.2.1,(n.2 T Z).trans d.2.2⟩ λb o m e=>(n.2 b (by simpa using m)).trans e⟩
 .refine lQ d.2.1 D d.1 ?_;refine ap (g s _ _ d.2.2 ?_);have u:((c.map λ(k:Nat)=>cH k).toArray)[(f.size:Int).toNat]?=ae:=by simp[B]
  dsimp only;rw[u];refine ap (vC d.1 λh1 ge u=>?_);refine ap (rR (s:={s with heap:=h1}) u λG n _=>?_);exact rm (s:={s with heap:=G}) Y λh3 N=>q h3 s.toks λb o m e=>N b o ((n.2 b (by simpa using m)).trans ((ge.2 b (by simpa using m)).trans e))
theorem Cm(j k:Nat):Jl #[j] k=if j<k then 1 else 0:=by
 unfold Jl;simp only[bQ,eh,iZ];unfold Bd;simp;split
 .rename_i h;unfold Bd;simp
 .unfold Bd;simp
theorem CC{I a:af}{g:Array (Int×ah)}{n:Nat}{t:hG}(M:a≠I)(r:t.fits g.size=ai)(f:cG w=ak)(O:t.led=ai)(m:g.size=1)(T:A.handled=ae):Walks P w A I [I,a] [I] 1 (λi v=>(g.toList.map (·.2))[i]?=aa v) (λi h=>h.get? I=aa (fV (cH (if i=0 then 0 else((t.place.getD 0 0:Nat):Int)+1)) i a g.size n)/\h.get? a=aa (lX g n t)):=by
 have z:t.place.size=1:=by simp only[SetTable.fits,eV,beq_iff_eq]at r;lia
 obtain⟨j,J⟩:=Array.size_eq_one_iff.mp z;have L:((t.place.getD 0 0:Nat):Int)=(j:Int):=by rw[J];rfl
 obtain⟨e,K⟩:=Array.size_eq_one_iff.mp m;have l:∀(s:am) (d:Nat) (i:Nat) (Q:Option (ah×Nat)->am->Prop) (E:ah->am->Prop),s.heap.get? a=aa (lX g n t) ->
   Q (if j<d then ae else aa (e.2,j+1)) s->aq (ar P w) A.in1 (kw a d i n) Q E s:=λs d i Q E W q=>by
  unfold kw;refine ap (og W rfl r ?_);unfold tL;refine ap (ap (oi (aB ?_)));show aq _ _ (if cG w=ai then _ else _) _ _ s;rw[if_neg (by rw[f];decide)];refine tP (λB=>absurd (show(!t.plain&&decide (g.size > 1))=ai from B) (by rw[m];simp)) (λ_=>?_);refine ap ?_;refine c9 (Q:=λ_ G=>G=s) (E:=E) ?_ (λ_ G y=>?_) (λ_ _ x=>x)
  .refine tP (λB=>absurd (show(!t.led&&!g.isEmpty)=ai from B) (by rw[O];simp)) (λ_=>aB rfl)
  .subst y;rw[J,Cm,K];by_cases N:j<d
   .rw[if_pos N]at q ⊢;exact aB q
   .rw[if_neg N]at q ⊢;exact aB q
 refine⟨λb f=>by simp at f;simp[f],λi h Z c k=>⟨k I (by simp) _ c.1,k a (by simp) _ c.2⟩,λi s Q E Y c p=>?_,λs Q E c p=>?_,λi s Q E c p=>rg c.1 p⟩
 .obtain rfl:i=0:=∅
  refine lQ c.2 r c.1 ?_;show aq _ _ (kw a (0:Int).toNat ((0:Nat):Int).toNat (n:Int).toNat >>= _) _ _ s;simp only[k9,Int.toNat_zero];refine ap (l s 0 0 _ _ c.2 ?_);rw[if_neg (Nat.not_lt_zero j)];dsimp only;refine ap (vC c.1 λm u D=>?_);refine ap (uK (s:={s with heap:=m}) D λC H X=>?_);refine aB ⟨_,rfl,p _ C s.toks ?_ ⟨?_,?_⟩ λb o f e=>?_⟩
  .rw[K];rfl
  .rw[X,if_neg (by decide),L];rfl
  .exact(H.2 a M).trans ((u.2 a M).trans c.2)
  .exact(H.2 b (by simpa using f)).trans ((u.2 b (by simpa using f)).trans e)
 .refine lQ c.2 r c.1 ?_;rw[if_neg (by decide),L];show aq _ _ (kw a ((j:Int)+1).toNat ((1:Nat):Int).toNat (n:Int).toNat >>= _) _ _ s;have D:((j:Int)+1).toNat=j+1:=∅
  rw[D,k9,k9];refine ap (l s (j+1) 1 _ _ c.2 ?_);rw[if_pos (lg j)];dsimp only;refine ap (rR c.1 λm u _=>?_);exact rm (s:={s with heap:=m}) T λC S=>p C s.toks λb o f e=>S b o ((u.2 b (by simpa using f)).trans e)
theorem sq:∀{a:List ah}{b:List Str} (i:Nat) (v:ah),cR a b->a[i]?=aa v->∃t,v=.str (b.getD i eU) t
 |_,_,i,v,.nil,h=>by simp at h
 |_,_,0,v,.cons y t _,h=>by simp at h;exact⟨t,by rw[<-h];rfl⟩
 |_,_,i+1,v,.cons y t hr,h=>by simp only[List.getElem?_cons_succ]at h;obtain⟨c,e⟩:=sq i v hr h;exact⟨c,by rw[e];rfl⟩
end
theorem Ah{n:Nat}(h:n<=4096):n<aY:=wC h (by decide)
theorem GY:typeLookup (.type "set") "__len__"=pure (aa (.builtin "set.__len__")):=F.slot_set_len.lookup
section
variable{P:aG}{w:aC}{A:aH}{E:ah->am->Prop}{s:am}
def o5(w:aC)(h:ax)(a:af)(b:Array (Int×ah)):Prop:=∃(c:Nat) (t:hG),h.get? a=aa {cls:=.type "set",dict:=ae,data:=.set b c t}/\b.size<4090/\t.fits b.size=ai/\t.led=(!cG w)/\(b.size≠0->t.plain=ak)
theorem o5.at{w:aC}{h b:ax}{a:af}{es:Array (Int×ah)}(S:o5 w h a es)(k:∀o,h.get? a=aa o->b.get? a=aa o):o5 w b a es:=by obtain⟨c,t,e,r⟩:=S;exact⟨c,t,k _ e,r⟩
theorem iu.e{h:ax}{a:af}{ks:List Str}(S:iu P w h a ks):∃es ss,o5 w h a es/\cR (es.toList.map (·.2)) ss/\ss.Perm ks:=by
 obtain⟨es,l,t,ss,f,c,b,i,hsz,g,d,n⟩:=S.ex;refine⟨es,ss,⟨l,t,f,hsz,g,d,λj=>n λz=>j ?_⟩,c,b⟩;have m:=b.length_eq;have o:ss.length=es.size:=by rw[<-c.strs];simp
 rw[z,iZ]at m;lia
structure zt(P:aG)(w:aC)(s s':am)(a I:af)(es:Array (Int×ah))(fp:List af)(n:Nat)(Pv:Nat->ah->Prop)(St:Nat->ax->Prop):Prop where
 wk:∀A:aH,A.handled=ae->Walks P w A I fp [I] n Pv St
 st:St 0 s'.heap
 old:∀b o,s.heap.get? b=aa o->s'.heap.get? b=aa o
 new:s.heap.objs.size<=I
 lt:∀b∈fp,b<s'.heap.objs.size
 rest:s'={s with heap:=s'.heap,drawn:=s'.drawn}
 ord:∀aP:Array ah,ItemsOf Pv aP n->aP.toList.Perm (es.toList.map (·.2))
 len:n<4090
 fps:∀b∈fp,b=a\/s.heap.objs.size<=b
theorem sk{l:List ah}{a:Array ah}{n:Nat}(c:l.length=n)(h:ItemsOf (λi v=>l[i]?=aa v) a n):a.toList=l:=by
 refine wK λi=>?_;by_cases b:i<n
 .have:i<a.size:=by rw[h.1];exact b
  have q:=h.2 i a[i] (tN this);rw[q];simp[this]
 .rw[tQ (by rw[km,h.1];lia),tQ ∅]
theorem CZ{I a:af}{d:Array (Int×ah)}{j:Nat}{t:hG}(M:a≠I)(u:t.fits d.size=ai)(g:cG w=ak)(n:d.size=0)(D:A.handled=ae):Walks P w A I [I,a] [I] 0 (λi v=>(d.toList.map (·.2))[i]?=aa v) (λi h=>h.get? I=aa (fV (cH 0) 0 a d.size j)/\h.get? a=aa (lX d j t)):=by
 have y:d=#[]:=Array.eq_empty_of_size_eq_zero n;have l:∀(s:am) (f:Nat) (i:Nat) (Q:Option (ah×Nat)->am->Prop) (E:ah->am->Prop),s.heap.get? a=aa (lX d j t) ->
   Q ae s->aq (ar P w) A.in1 (kw a f i j) Q E s:=λs f i Q E G B=>by
  unfold kw;refine ap (og G rfl u ?_);unfold tL;refine ap (ap (oi (aB ?_)));show aq _ _ (if cG w=ai then _ else _) _ _ s;rw[if_neg (by rw[g];decide)];refine tP (λq=>absurd (show(!t.plain&&decide (d.size > 1))=ai from q) (by rw[n];simp)) (λ_=>?_);refine ap ?_;refine c9 (Q:=λ_ r=>r=s) (E:=E) ?_ (λ_ r p=>?_) (λ_ _ x=>x)
  .refine tP (λq=>absurd (show(!t.led&&!d.isEmpty)=ai from q) (by rw[y];simp)) (λ_=>aB rfl)
  .subst p;rw[y];have K:∀k:Nat,(#[]:Array (Int×ah))[k]?=ae:=λk=>by simp
   dsimp only;rw[K];exact aB B
 refine⟨λb g=>by simp at g;simp[g],λi h L c k=>⟨k I (by simp) _ c.1,k a (by simp) _ c.2⟩,λi s Q E C c m=>absurd C (Nat.not_lt_zero i),λs Q E c m=>?_,λi s Q E c m=>rg c.1 m⟩;refine lQ c.2 u c.1 ?_;show aq _ _ (kw a (0:Int).toNat ((0:Nat):Int).toNat (j:Int).toNat >>= _) _ _ s;simp only[k9,Int.toNat_zero];refine ap (l s 0 0 _ _ c.2 ?_);dsimp only;refine ap (rR c.1 λn J _=>?_);exact rm (s:={s with heap:=n}) D λH z=>m H s.toks λb o g e=>z b o ((J.2 b (by simpa using g)).trans e)
theorem EW{a:af}{g:Array (Int×ah)}{Q:ah->am->Prop}(S:o5 w s.heap a g)(h:∀x I C n D St,zt P w s x a I g C n D St->Q (.ref I) x):aq (ar P w) A (kn (.ref a)) Q E s:=by
 obtain⟨M,t,l,hsz,p,mv,c_⟩:=S;have Y:s.TypeIs (.ref a) "set":=⟨_,l,rfl⟩
 have il:=bj l;refine wpAny_pyIter_slot Y F.slot_set_iter (qc F.slot_set_iter Y BR ?_ (F.args_set_iter_1 _));unfold Builtin.«frozenset.__iter__» Builtin.Frozenset.slot0 slotArgs Builtin.Frozenset.addrOf Builtin.Frozenset.sizeOf;refine ap (aB ?_);refine ap (ap (wpAny_setEntries_of l rfl p (aB ?_)));unfold setDrawn;refine ap (ap (og l rfl p ?_));unfold tL;refine ap (ap (oi (aB ?_)));refine aB ?_;have i:∀(first:ah) (u:am) (C:List af) (n:Nat) (D:Nat->ah->Prop) (St:Nat->ax->Prop),u.heap.get? a=aa {cls:=.type "set",dict:=ae,data:=.set g M t} ->
   zt P w s {u with heap:=u.heap.push (fV first 0 a g.size M)} a u.heap.objs.size g C n D St ->
   aq (ar P w) A.in1 (do
    let e <-setEpoch a
    let f <-newFields "set_iterator" [first,cH 0,Value.ref a,cH (g.size:Nat),cH (e:Nat)]
    ret f) (λi x=>∃v,i=Fin.done (Flow.ret v)/\∃Z r,x.TypeIs v Z/\typeLookup (Value.type Z) (qb "__next__")=pure (aa r)/\Q v x) E u:=λfirst u C n D St ha W=>by
  refine ap (wpAny_setEpoch_of ha rfl p ?_);refine ap (kq ?_);exact aB ⟨_,rfl,"set_iterator",_,⟨_,bW _ rfl,rfl⟩,yk.lookup,h _ _ C n D St W⟩
 refine tP (λJ=>?_) (λJ=>?_)
 .have L:(!cG w&&(!t.plain&&decide (g.size > 1)))=ai:=J;refine ap (yw g.size (cq g.size) s _ (by simp) λG d H=>?_);refine ap (wpAny_newTuple ?_ (hsz:=by rw[fg,H.length_eq,List.length_range];exact ki (Ah ∅)));refine i _ _ _ _ _ _ (a8 _ l) ⟨λO q=>IX (T:=s.heap.objs.size) (cC (by rw[gz];exact jM il)) (cC (by rw[gz];exact lg _)) p H q,⟨bW _ rfl,?_,?_⟩,?_,?_,?_,rfl,?_,hsz,?_⟩
  .exact a8 _ (a8 _ l)
  .exact a8 _ (bW _ rfl)
  .exact λb o e=>a8 _ (a8 _ e)
  .rw[gz];exact tF _
  .intro b c;simp only[bw,iA,or_false]at c;rw[gz,gz];rcases c with rfl|rfl|rfl
   .rw[gz];exact lg _
   .exact jM (jM il)
   .exact jM (lg _)
  .intro N m;have e0:(G.filterMap λj=>(g[j]?).map (·.2))=(G.filterMap λj=>g[j]?).map (·.2):=by rw[List.map_filterMap]
   have y:(G.filterMap λj=>g[j]?).Perm g.toList:=by have:=H.filterMap λj=>g[j]?;rwa[filterMap_getElem?_range]at this
   rw[e0]at m;rw[sk (by rw[fg,y.length_eq];simp) m];exact y.map _
  .intro b c;simp only[bw,iA,or_false]at c;rcases c with rfl|rfl|rfl
   .rw[gz];exact .inr (tF _)
   .exact .inl rfl
   .exact .inr (aT _)
 .have L:¬(!cG w&&(!t.plain&&decide (g.size > 1)))=ai:=J;refine ap (aB ?_);cases c:cG w with
  |true=>
   refine i _ _ _ _ _ _ l ⟨λO q=>Gn (cC il) p c q,⟨bW _ rfl,a8 _ l⟩,λb o e=>a8 _ e,aT _,?_,rfl,?_,hsz,λb c=>?_⟩
   .intro b c;simp only[bw,iA,or_false]at c;rw[gz];rcases c with rfl|rfl
    .exact lg _
    .exact jM il
   .intro N m;have y:=yt (w.params.setOrder a M) g;rw[sk (by rw[fg,y.length_eq];simp) m];exact y.map _
   .simp only[bw,iA,or_false]at c;exact c.elim (λz=>.inr (jI z.symm)) .inl
  |false=>
   have K:g.size=1\/g.size=0:=by
    by_cases X:g.size=0
    .exact .inr X
    .rw[c,c_ X]at L;simp at L;lia
   rcases K with B|B
   .refine i _ _ _ _ _ _ l ⟨λO q=>CC (cC il) p c (by rw[mv,c];rfl) B q,⟨bW _ rfl,a8 _ l⟩,λb o e=>a8 _ e,aT _,?_,rfl,?_,by decide,λb c=>?_⟩
    .intro b c;simp only[bw,iA,or_false]at c;rw[gz];rcases c with rfl|rfl
     .exact lg _
     .exact jM il
    .intro N m;rw[sk (by simp[B]) m]
    .simp only[bw,iA,or_false]at c;exact c.elim (λz=>.inr (jI z.symm)) .inl
   .refine i _ _ _ _ _ _ l ⟨λO q=>CZ (cC il) p c B q,⟨bW _ rfl,a8 _ l⟩,λb o e=>a8 _ e,aT _,?_,rfl,?_,by decide,λb c=>?_⟩
    .intro b c;simp only[bw,iA,or_false]at c;rw[gz];rcases c with rfl|rfl
     .exact lg _
     .exact jM il
    .intro N m;rw[sk (by simp[B]) m]
    .simp only[bw,iA,or_false]at c;exact c.elim (λz=>.inr (jI z.symm)) .inl
theorem B8{a:af}{m:Array (Int×ah)}{Q:List ah->am->Prop}(J:A.handled=ae)(S:o5 w s.heap a m)(h:∀(d:am) (C:List ah),C.Perm (m.toList.map (·.2))->(∀b o,s.heap.get? b=aa o->d.heap.get? b=aa o)->d.gens=s.gens->d.os=s.os->Q C d):aq (ar P w) A (collect (.ref a)) Q E s:=by
 obtain⟨K,t,H,N,_⟩:=id S;have il:=bj H;unfold collect;refine ap (wpAny_runValue (lf F.entry_proto_collect ?_));rw[ml F.plain_proto_collect _];show aq _ A.in1 (newList [] >>= λl=>again (.builtin "list.__iadd__" ⟨[l,.ref a],[]⟩)) _ _ s;refine ap (kq ?_);refine aB ⟨mn F.plain_list_iadd _,lf F.entry_list_iadd ?_⟩;rw[ml F.plain_list_iadd _];show aq _ A.in1 (Builtin.List.listExtendWith (.ref s.heap.objs.size) (.ref a) (.ref s.heap.objs.size)) _ _ _;unfold Builtin.List.listExtendWith;have j:∀u:am,u.heap.get? a=aa {cls:=.type "set",dict:=ae,data:=.set m K t}->u.TypeIs (.ref a) "set":=λu e=>⟨_,e,rfl⟩
 have D:(s.heap.push {cls:=.type "list",data:=.seq ([]:List ah).toArray}).get? a=aa {cls:=.type "set",dict:=ae,data:=.set m K t}:=a8 _ H;refine ap (wpAny_typeOf (j _ D) ?_);have X:Builtin.List.listSameRef (.ref s.heap.objs.size) (.ref a)=ak:=by have:¬(s.heap.objs.size=a):=kX il;simp[Builtin.List.listSameRef,this]
 rw[if_neg (by rw[X];decide)];refine ap (EW (S.at λo e=>a8 _ e) λr I Y n Pv St W=>?_);have B:=W.old a _ D;refine ap (jG ?_);unfold Builtin.List.listLengthHint;refine ap (tz (j _ B) GY ?_)
 wp_delta
 refine ap (Bc (T:="set") (b:=ai) (j _ B) (by rw[isSubtype_type];kernel_rfl) ?_);show aq _ A.in1 (typeOf (Value.ref a) >>= _) _ _ _;refine ap (wpAny_typeOf (T:="set") (j _ B) ?_);refine aB ?_;rw[if_pos (by decide)];refine ap (ku ?_);have O:(s.heap.push {cls:=.type "list",data:=.seq ([]:List ah).toArray}).get? s.heap.objs.size=aa {cls:=.type "list",data:=.seq ([]:List ah).toArray}:=bW _ rfl;have i:=W.old _ _ O;unfold Builtin.List.listTouch;refine ap (ap (wL i rfl ?_ (by decide) (by show 1<=aY+1;decide)));have g:=tR i (λa:Array ah=>a.push Value.none);refine wL g rfl ?_ (by show 1<=aY;decide) (by show 0<=aY+1;decide);have y:=tR g (λa:Array ah=>a.pop);have L:s.heap.objs.size∉Y:=λz=>by
  rcases W.fps _ z with q|q
  .exact absurd il (by rw[<-q];exact eC _)
  .rw[gz]at q;exact absurd (lg _) (Nat.not_lt.mpr q)
 have G:∀b o,b≠s.heap.objs.size->r.heap.get? b=aa o->(((r.heap.update s.heap.objs.size (ga λa=>a.push Value.none)).update s.heap.objs.size (ga λa=>a.pop))).get? b=aa o:=λb o f e=>by rw[Be _ _ _ _ f,Be _ _ _ _ f];exact e
 have Z:St 0 (((r.heap.update s.heap.objs.size (ga λa=>a.push Value.none)).update s.heap.objs.size (ga λa=>a.pop))):=(W.wk A.in1 J).frame 0 _ _ W.st λb f o e=>G b o (λz=>L (z ▸ f)) e;refine aB ⟨mn F.plain_extend_loop _,codeAny_extend_loopS (W.wk A.in1 J).toS (ki (Ah (by have:=W.len;lia))) _ L _ n 0 _ _ _ rfl (jH _) Z y (ItemsOf.nil _) λd c c' v x M=>?_⟩;show aq _ A (load s.heap.objs.size >>= _) _ _ d;refine ap (wpAny_load x ?_);refine aB (h d c.toList (W.ord c M) (λb o e=>?_) ?_ ?_)
 .have p:=bj e;refine v.heap b o (λf=>?_) (G b o (cC p) (W.old b o (a8 _ e)));rcases bw.mp f with z|z
  .exact absurd p (by rw[z];exact eC _)
  .rw[eG.mp z]at p;have:=W.new;rw[gz]at this;exact absurd p (Nat.not_lt.mpr (Nat.le_of_succ_le this))
 .rw[v.gens,W.rest]
 .rw[v.os,W.rest]
theorem Fb{a:af}{ks:List Str}{Q:List ah->am->Prop}(p:A.handled=ae)(S:iu P w s.heap a ks)(h:∀(c:am) (d:List ah) (ss:List Str),cR d ss->ss.Perm ks->d.length<4090->(∀b o,s.heap.get? b=aa o->c.heap.get? b=aa o)->c.gens=s.gens->c.os=s.os->Q d c):aq (ar P w) A (collect (.ref a)) Q E s:=by
 obtain⟨r,ss,S,q,n⟩:=S.e;have m:r.size<4090:=by obtain⟨_,_,_,z,_⟩:=S;exact z
 refine B8 p S λc d pv l j i=>?_;obtain⟨t,g,f⟩:=uJ pv q;exact h c d t g (f.trans n) (by have:=pv.length_eq;simp at this;lia) l j i
end
def ca(a:List Tx):List Tx:=a.foldl (λks x=>if x∈ks then ks else ks++[x]) []
theorem xO(b:List Tx):met (λi=>(b.map tS).getD i eU) b.length=(ca b).map tS:=by
 have d:∀(l:List Tx) (a:List Tx),(l.map tS).foldl gW (a.map tS)=(l.foldl (λks x=>if x∈ks then ks else ks++[x]) a).map tS:=by
  intro l
  induction l with
  |nil=>intro a;rfl
  |cons x r g=>
   intro a;rw[lc,mi,mi];have:gW (a.map tS) (tS x)=(if x∈a then a else a++[x]).map tS:=by
    unfold gW;have f:tS x∈a.map tS↔x∈a:=by rw[eF];exact⟨λ⟨y,j,e⟩=>by rw[<-mZ e];exact j,λh=>⟨x,h,rfl⟩⟩
    by_cases h:x∈a
    .rw[if_pos h,if_pos (f.mpr h)]
    .rw[if_neg h,if_neg (λz=>h (f.mp z)),wG];rfl
   rw[this,g]
 have e:(cq b.length).map (λi=>(b.map tS).getD i eU)=b.map tS:=by
  refine wK λi=>?_;rw[iY];by_cases c:i<b.length
  .rw[A7 c];simp[c]
  .rw[tQ (by simpa using c),tQ (by simpa using c)];rfl
 unfold met;rw[e];exact d b []
theorem FP(l c:List Tx):(c.Nodup->(l.foldl (λks x=>if x∈ks then ks else ks++[x]) c).Nodup)/\∀x,x∈l.foldl (λks x=>if x∈ks then ks else ks++[x]) c↔x∈c\/x∈l:=by
 induction l generalizing c with
 |nil=>exact⟨λh=>h,λx=>by simp⟩
 |cons y r g=>
  rw[mi];obtain⟨m,j⟩:=g (if y∈c then c else c++[y]);refine⟨λh=>m ?_,λx=>?_⟩
  .split
   .exact h
   .rename_i d;rw[List.nodup_append];exact⟨h,by simp,λa i b f=>by simp at f;subst f;exact λe=>d (e ▸ i)⟩
  .rw[j x,bw];split
   .rename_i d;constructor
    .rintro(h|h)
     .exact .inl h
     .exact .inr (.inr h)
    .rintro(h|rfl|h)
     .exact .inl h
     .exact .inl d
     .exact .inr h
   .rw[g8,eG,or_assoc]
theorem nh(l:List Tx)(x:Tx):x∈ca l↔x∈l:=by rw[ca,(FP l []).2 x];simp
theorem zK(l:List Tx):(ca l).length<=l.length:=by
 have b:∀(l a:List Tx),(l.foldl (λks x=>if x∈ks then ks else ks++[x]) a).length<=a.length+l.length:=by
  intro l
  induction l with
  |nil=>intro a;simp
  |cons x r c=>intro a;rw[mi];refine bX (c _) ?_;split <;> simp <;> lia
 simpa[ca]using b l []
section
variable{X:Cx}
def lC(X:Cx)(a:af)(b:List Tx):HO:=.ext λh=>iu X.prog X.w h a (b.map tS)
end
structure cE(K:au)(mg:Str->Option ah)(x:Str)(st:aX):Prop where
 ex:∃f fd,mg x=aa (.ref f)/\lM K x x st f fd
theorem zD{H:Hp}{p:af}{o:HO}(h:H p=ae):Same H (upd H p o):=λb u q=>by rw[bS (lL q h)];exact q
theorem zE{a:Type}{xs:List a}{k:Int}(b:0<=k)(h:k.toNat<xs.length):dA xs k=aa xs[k.toNat]:=by
 have e:((k.toNat:Nat):Int)=k:=∅
 have q:=G3 (xs:=xs) (j:=k.toNat) (v:=xs[k.toNat]) (by simp[h]);rwa[e]at q
def ym(N:List Str)(d a:cy)(x:Str)(c:List Str)(b:List Nat):Bool :=
 decide (a.kind=.function)&&a.names.all (λy=>(decide (y.2≠.cell)||decide (a.names.lookup y.1=aa .cell))&&(decide (y.2≠.local)||decide (a.names.lookup y.1=aa .local))&&(decide (y.2≠.free)||decide (d.names.lookup y.1=aa .cell)||decide (d.names.lookup y.1=aa .free)))
 && (decide (a.names.lookup x=aa .local)||decide (a.names.lookup x=aa .cell))&&decide c.Nodup&&decide (c.head?=aa x)&&decide (c.length=b.length+1)&&(b.zip c.tail).all λp=>(decide (N[p.1]?=aa p.2)&&decide (a.names.lookup p.2=aa .free))||(decide (N.length<=p.1)&&decide (a.names.lookup p.2=aa .local))
theorem gQ.of{X:Cx}{a:cy}{x:Str}{N':List Str}{cap:List Nat}(N:List Str)(d:cy)(l:X.N=N)(f:X.env.scope=d)(h:ym N d a x N' cap=ai):gQ X a x N' cap:=by
 subst l f;simp only[ym,eV,decide_eq_true_eq,lh,tJ]at h;obtain⟨⟨⟨⟨⟨⟨r,c⟩,q⟩,p⟩,o⟩,n⟩,m⟩:=h;refine⟨r,λy b e=>(c y b).1.1.elim (λz=>absurd e z) λz=>z,λy b e=>?_,q,λy b e=>?_,p,o,n,λi j y t s=>?_⟩
 .rcases(c y b).1.2 with z|z
  .exact absurd e z
  .exact z
 .rcases(c y b).2 with(z|z)|z
  .exact absurd e z
  .exact .inl z
  .exact .inr z
 .have g:(j,y)∈cap.zip N'.tail:=by
   refine List.mem_iff_getElem?.mpr ⟨i,?_⟩;rw[List.getElem?_zip_eq_some];refine⟨s,?_⟩;rw[<-List.drop_one,List.getElem?_drop,Nat.add_comm];exact t
  exact m _ g
theorem Aw(a b:Tx):cg (tV a) (tV b)=decide (a=b):=by show(tS a == tS b)=_;rw[kY];simp only[beq_iff_eq,decide_eq_true_eq];exact⟨mZ,λh=>by rw[h]⟩
theorem C0(a:List Tx)(x:Tx):((cf a).countP λz=>cg z (tV x))=a.count x:=by unfold cf List.count;rw[List.countP_map];refine List.countP_congr λy _=>?_;simp only[Function.comp_apply,Aw,decide_eq_true_eq,beq_iff_eq]
end L2
namespace Pu
open L2
abbrev St:=L2.St
inductive PV where
 |non|bl (b:Bool)|int (i:Int)|str (x:Tx)|tup (xs:List PV)|lst (xs:List PV)|raw (v:V)|exc (c:ah)
def Ee(a:af)(c:ah):HO:=.ext λh=>∃o b,h.get? a=aa o/\o.cls=c/\o.data=.fields b/\o.dict=ae
def cA:Nat:=1000000
theorem jt:cA<=aY:=by rw[kZ];decide
def dq:HO->Prop
 |.lst _=>True
 |.dK _=>True
 |.dT _=>True
 |.dN _=>True
 |.ins _ _ _=>True
 |.own _=>True
 |_=>False
mutual
def aJ(K:au)(H:Hp)(F:af->Prop):PV->V->Prop
 |.non,v=>v=.non
 |.bl b,v=>v=.bl b
 |.int i,v=>v=.int i
 |.str x,v=>v=tV x/\x.length<=cA
 |.tup f,v=>∃a d,v=.ref a/\H a=aa (.tup d)/\aS K H F f d
 |.lst f,v=>∃a d,v=.ref a/\Rd H a (.lst d)/\F a/\aS K H F f d
 |.raw u,v=>v=u
 |.exc c,v=>∃a,v=.ref a/\H a=aa (Ee a c)
def aS(K:au)(H:Hp)(F:af->Prop):List PV->List V->Prop
 |[],a=>a=[]
 |x::b,a=>∃v r,a=v::r/\aJ K H F x v/\aS K H F b r
end
section
variable{K:au}{H b:Hp}{F c:af->Prop}
mutual
theorem aJ.mono(j:∀a,F a->c a)(i:∀a d,F a->Rd H a (.lst d)->Rd b a (.lst d))(g:∀a o,H a=aa o->¬dq o->b a=aa o):∀(x:PV) (v:V),aJ K H F x v->aJ K b c x v
 |.non,_,h=>h
 |.bl _,_,h=>h
 |.int _,_,h=>h
 |.str _,_,h=>h
 |.raw _,_,h=>h
 |.exc _,_,⟨a,e,h⟩=>⟨a,e,g a _ h id⟩
 |.tup d,_,⟨a,f,e,m,l⟩=>⟨a,f,e,g a _ m id,aS.mono j i g d f l⟩
 |.lst d,_,⟨a,f,e,m,n,l⟩=>⟨a,f,e,i a f n m,j a n,aS.mono j i g d f l⟩
theorem aS.mono(j:∀a,F a->c a)(i:∀a d,F a->Rd H a (.lst d)->Rd b a (.lst d))(g:∀a o,H a=aa o->¬dq o->b a=aa o):∀(d:List PV) (f:List V),aS K H F d f->aS K b c d f
 |[],_,h=>h
 |x::d,_,⟨v,r,e,m,l⟩=>⟨v,r,e,aJ.mono j i g x v m,aS.mono j i g d r l⟩
end
theorem aS.len:∀{a:List PV}{vs:List V},aS K H F a vs->vs.length=a.length
 |[],_,h=>by rw[show _=[] from h];rfl
 |_::_,_,⟨_,_,e,_,b⟩=>by rw[e,eh,eh,aS.len b]
theorem aS.get:∀{c:List PV}{d:List V}{i:Nat}{x:PV},aS K H F c d->c[i]?=aa x->∃v,d[i]?=aa v/\aJ K H F x v
 |[],_,_,_,_,e=>by simp at e
 |x::c,_,0,y,⟨v,r,e,h1,_⟩,q=>by simp at q;subst q;subst e;exact⟨v,rfl,h1⟩
 |x::c,_,i+1,y,⟨v,r,e,_,h2⟩,q=>by obtain⟨w,a,b⟩:=aS.get (i:=i) (x:=y) h2 (by simpa using q);subst e;exact⟨w,by simpa using a,b⟩
theorem aS.back:∀{c:List PV}{d:List V}{i:Nat}{v:V},aS K H F c d->d[i]?=aa v->∃x,c[i]?=aa x/\aJ K H F x v
 |[],_,_,_,h,e=>by rw[show _=[] from h]at e;simp at e
 |x::c,_,0,y,⟨v,r,e,h1,_⟩,q=>by subst e;simp at q;subst q;exact⟨x,rfl,h1⟩
 |x::c,_,i+1,y,⟨v,r,e,_,h2⟩,q=>by subst e;obtain⟨w,a,b⟩:=aS.back (i:=i) (v:=y) h2 (by simpa using q);exact⟨w,by simpa using a,b⟩
theorem aS.app:∀{a b:List PV}{d c:List V},aS K H F a d->aS K H F b c->aS K H F (a++b) (d++c)
 |[],_,_,_,h,g=>by rw[show _=[] from h];exact g
 |x::a,_,_,_,⟨v,r,e,i,f⟩,g=>by subst e;exact⟨v,_,rfl,i,aS.app f g⟩
theorem aS.one{x:PV}{v:V}(h:aJ K H F x v):aS K H F [x] [v]:=⟨v,[],rfl,h,rfl⟩
theorem aS.drop:∀(n:Nat) {a:List PV}{b:List V},aS K H F a b->aS K H F (a.drop n) (b.drop n)
 |0,_,_,h=>h
 |_+1,[],_,h=>by rw[show _=[] from h];rfl
 |n+1,_::_,_,⟨_,_,e,_,h2⟩=>by subst e;exact aS.drop n h2
theorem aS.take:∀(n:Nat) {a:List PV}{b:List V},aS K H F a b->aS K H F (a.take n) (b.take n)
 |0,_,_,_=>by rw[wM,wM];rfl
 |_+1,[],_,h=>by rw[show _=[] from h];rfl
 |n+1,_::_,_,⟨v,_,e,h1,h2⟩=>by subst e;exact⟨v,_,rfl,h1,aS.take n h2⟩
end
structure bg(O O' F F':af->Prop)(H H':Hp):Prop where
 fro:∀a,F a->F' a
 keep:∀b o,H b=aa o->¬O b->H' b=aa o
 there:∀b o,H b=aa o->∃o',H' b=aa o'
 fnew:∀a,F' a->F a\/H a=ae\/O a
 onew:∀a,O' a->O a\/H a=ae
theorem bg.refl(O F:af->Prop)(H:Hp):bg O O F F H H:=⟨λ_ h=>h,λ_ _ h _=>h,λ_ o h=>⟨o,h⟩,λ_ h=>.inl h,λ_ h=>.inl h⟩
theorem bg.trans{O i f F m l:af->Prop}{H d j:Hp}(g:bg O i F m H d)(k:bg i f m l d j):bg O f F l H j where
 fro:=λa h=>k.fro a (g.fro a h)
 keep:=λb o h n=>k.keep b o (g.keep b o h n) λz=>(g.onew b z).elim n λq=>by rw[q]at h;cases h
 there:=λb o h=>let ⟨o',c⟩:=g.there b o h;k.there b o' c
 fnew:=λa h=>by
  have back:d a=ae->H a=ae\/O a:=λz=>by
   cases q:H a with
   |none=>exact .inl rfl
   |some o=>obtain⟨o',c⟩:=g.there a o q;rw[z]at c;cases c
  rcases k.fnew a h with z|z|z
  .exact g.fnew a z
  .exact .inr (back z)
  .exact .inr ((g.onew a z).symm)
 onew:=λa h=>by
  rcases k.onew a h with z|z
  .exact g.onew a z
  .cases q:H a with
   |none=>exact .inr rfl
   |some o=>obtain⟨o',c⟩:=g.there a o q;rw[z]at c;cases c
def Fit(O F:af->Prop)(H:Hp):Prop:=∀b,O b->¬F b/\∃o,H b=aa o/\dq o
section
variable{K:au}{O d F c:af->Prop}{H b:Hp}
theorem bg.imm(g:bg O d F c H b)(f:Fit O F H){a:af}{o:HO}(h:H a=aa o)(n:¬dq o):b a=aa o :=
 g.keep _ _ h λz=>by
  obtain⟨_,l,i,j⟩:=f a z;rw[h]at i;cases i;exact n j
theorem bg.lst(g:bg O d F c H b)(f:Fit O F H){a:af}{i:List V}(j:F a)(h:Rd H a (.lst i)):Rd b a (.lst i):=by
 have no:¬O a:=λz=>(f a z).1 j;rcases h with h|⟨o,h⟩
 .exact .inl (g.keep _ _ h no)
 .exact .inr ⟨o,g.keep _ _ h no⟩
theorem aJ.grow(g:bg O d F c H b)(f:Fit O F H){x:PV}{v:V}(h:aJ K H F x v):aJ K b c x v:=aJ.mono g.fro (λ_ _ a q=>g.lst f a q) (λ_ _ q n=>g.imm f q n) x v h
theorem aS.grow(g:bg O d F c H b)(f:Fit O F H){x:List PV}{v:List V}(h:aS K H F x v):aS K b c x v:=aS.mono g.fro (λ_ _ a q=>g.lst f a q) (λ_ _ q n=>g.imm f q n) x v h
end
theorem _root_.L2.Same.rd{H b:Hp}{a:af}{u:HO}(e:Same H b)(h:Rd H a u):Rd b a u:=h.elim (λz=>.inl (e _ _ z)) λ⟨o,z⟩=>.inr ⟨o,e _ _ z⟩
structure Al(F F':af->Prop)(H H':Hp):Prop where
 fro:∀a,F a->F' a
 same:Same H H'
 fnew:∀a,F' a->F a\/(H a=ae/\∃o,H' a=aa o)
theorem Al.refl(F:af->Prop)(H:Hp):Al F F H H:=⟨λ_ h=>h,Same.refl H,λ_ h=>.inl h⟩
theorem Al.grow{F d O:af->Prop}{H c:Hp}(a:Al F d H c):bg O O F d H c :=⟨a.fro,λb o h _=>a.same b o h,λb o h=>⟨o,a.same b o h⟩,λb h=>(a.fnew b h).imp id λz=>.inl z.1,λ_ h=>.inl h⟩
theorem Al.rep{K:au}{F c:af->Prop}{H b:Hp}(a:Al F c H b){x:PV}{v:V}(h:aJ K H F x v):aJ K b c x v:=aJ.mono a.fro (λ_ _ _ q=>a.same.rd q) (λ_ _ q _=>a.same _ _ q) x v h
theorem Al.reps{K:au}{F c:af->Prop}{H b:Hp}(a:Al F c H b){x:List PV}{v:List V}(h:aS K H F x v):aS K b c x v:=aS.mono a.fro (λ_ _ _ q=>a.same.rd q) (λ_ _ q _=>a.same _ _ q) x v h
theorem Al.trans{F i g:af->Prop}{H f d:Hp}(a:Al F i H f)(b:Al i g f d):Al F g H d :=
 ⟨λc h=>b.fro c (a.fro c h),a.same.trans b.same,λc h=>by
  rcases b.fnew c h with z|⟨z,w⟩
  .rcases a.fnew c z with y|⟨y,o,q⟩
   .exact .inl y
   .exact .inr ⟨y,o,b.same _ _ q⟩
  .exact .inr ⟨a.same.free z,w⟩⟩
theorem Al.new{F:af->Prop}{H:Hp}{l:af}{o:HO}(h:H l=ae):Al F (λa=>F a\/a=l) H (upd H l o) :=⟨λ_ h=>.inl h,zD h,λa z=>z.imp id λe=>by subst e;exact⟨h,o,cB⟩⟩
theorem Al.new0{F:af->Prop}{H:Hp}{l:af}{o:HO}(h:H l=ae):Al F F H (upd H l o):=⟨λ_ h=>h,zD h,λa z=>.inl z⟩
inductive PO where
 |lst (xs:List PV)|dK (kvs:List (bz×PV))|lls (ie:List (List PV))|ins (C:af) (fs:List (Str×PV))|dT (kvs:List (List bz×PV))|dN (kvs:List ((Tx×List Tx)×PV))|inl (C:af) (fs:List (Str×PV)) (y:Str) (xs:List PV)
def gR:PO->Bool
 |.lls _=>ak
 |.inl ..=>ak
 |_=>ai
inductive Slot where
 |none|val (v:PV)|own (o:PO)
abbrev aj:=List Slot
def sT(K:au)(H:Hp)(F:af->Prop)(a:List (bz×PV))(b:List (bz×V)):Prop:=iR (λ(p:bz×PV) (q:bz×V)=>p.1=q.1/\aJ K H F p.2 q.2) a b
def pe(K:au)(H:Hp)(F:af->Prop)(fs:List (Str×PV))(a:List (Str×V)):Prop:=iR (λ(p:Str×PV) (q:Str×V)=>p.1=q.1/\aJ K H F p.2 q.2) fs a
def sI(K:au)(H:Hp)(F:af->Prop)(a:List (List bz×PV))(b:List (List bz×V)):Prop:=iR (λ(p:List bz×PV) (q:List bz×V)=>p.1=q.1/\aJ K H F p.2 q.2) a b
def nS(k:Tx×List Tx):Str×List Str:=(tS k.1,k.2.map tS)
def jw(K:au)(H:Hp)(F:af->Prop)(a:List ((Tx×List Tx)×PV))(b:List ((Str×List Str)×V)):Prop:=iR (λ(p:(Tx×List Tx)×PV) (q:(Str×List Str)×V)=>nS p.1=q.1/\aJ K H F p.2 q.2) a b
def sR(K:au)(H:Hp)(F:af->Prop)(d:List (List PV))(f:List af):Prop:=iR (λ(c:List PV) (b:af)=>∃a,H b=aa (.lst a)/\aS K H F c a) d f
def dE(K:au)(H:Hp)(F:af->Prop)(l:PO)(a:af)(S:af->Prop):Prop :=
 match l with
 |.lst i=>(∃g,H a=aa (.lst g)/\aS K H F i g)/\∀b,S b↔b=a
 |.dK f=>(∃d,H a=aa (.dK d)/\sT K H F f d)/\∀b,S b↔b=a
 |.lls m=>∃h,H a=aa (.lst (h.map .ref))/\sR K H F m h/\h.Nodup/\a∉h/\∀b,S b↔b=a\/b∈h
 |.ins C fs=>(∃j d,H a=aa (.ins C j d)/\pe K H F fs d)/\∀b,S b↔b=a
 |.dT f=>(∃d,H a=aa (.dT d)/\sI K H F f d)/\∀b,S b↔b=a
 |.dN f=>(∃d,H a=aa (.dN d)/\jw K H F f d)/\∀b,S b↔b=a
 |.inl C fs y i=>∃j d b g,H a=aa (.ins C j (d++[(y,.ref b)]))/\pe K H F fs d/\fs.lookup y=ae/\H b=aa (.lst g)/\aS K H F i g/\a≠b/\∀c,S c↔c=a\/c=b
structure aI(K:au)(F:af->Prop)(S:Nat->af->Prop)(ε:aj)(σ:St)(H:Hp):Prop where
 len:ε.length=σ.length
 ex:∀a,F a->∃o,H a=aa o
 val:∀(i:Nat) (pv:PV),ε[i]?=aa (.val pv)->∃v,σ[i]?=aa (aa v)/\aJ K H F pv v
 own:∀(i:Nat) (po:PO),ε[i]?=aa (.own po)->∃a,σ[i]?=aa (aa (.ref a))/\dE K H F po a (S i)
 foot:∀(i:Nat) (b:af),S i b->(∃po,ε[i]?=aa (.own po))/\¬F b/\∃o,H b=aa o/\dq o
 dist:∀(i j:Nat) (b:af),S i b->S j b->i=j
def U(S:Nat->af->Prop)(b:af):Prop:=∃i,S i b
section
variable{K:au}{F f:af->Prop}{S:Nat->af->Prop}{j:aj}{g:St}{H d:Hp}
theorem aI.fit(r:aI K F S j g H):Fit (U S) F H:=λb ⟨i,h⟩=>(r.foot i b h).2
theorem sT.mono{a:List (bz×PV)}{b:List (bz×V)}(i:∀x v,aJ K H F x v->aJ K d f x v)(h:sT K H F a b):sT K d f a b:=by
 unfold sT at h ⊢
 induction h with
 |nil=>exact .nil
 |cons r _ c=>exact .cons ⟨r.1,i _ _ r.2⟩ c
theorem pe.mono{fs:List (Str×PV)}{a:List (Str×V)}(c:∀x v,aJ K H F x v->aJ K d f x v)(h:pe K H F fs a):pe K d f fs a:=by
 unfold pe at h ⊢
 induction h with
 |nil=>exact .nil
 |cons r _ b=>exact .cons ⟨r.1,c _ _ r.2⟩ b
theorem sI.mono{a:List (List bz×PV)}{b:List (List bz×V)}(i:∀x v,aJ K H F x v->aJ K d f x v)(h:sI K H F a b):sI K d f a b:=by
 unfold sI at h ⊢
 induction h with
 |nil=>exact .nil
 |cons r _ c=>exact .cons ⟨r.1,i _ _ r.2⟩ c
theorem jw.mono{a:List ((Tx×List Tx)×PV)}{b:List ((Str×List Str)×V)}(i:∀x v,aJ K H F x v->aJ K d f x v)(h:jw K H F a b):jw K d f a b:=by
 unfold jw at h ⊢
 induction h with
 |nil=>exact .nil
 |cons r _ c=>exact .cons ⟨r.1,i _ _ r.2⟩ c
theorem sR.mono{c:List (List PV)}{a:List af}(m:∀x v,aS K H F x v->aS K d f x v)(i:∀b o,b∈a->H b=aa o->d b=aa o)(h:sR K H F c a):sR K d f c a:=by
 unfold sR at h ⊢
 induction h with
 |nil=>exact .nil
 |cons r _ n=>obtain⟨l,s,q⟩:=r;exact .cons ⟨l,i _ _ (by simp) s,m _ _ q⟩ (n λb o p=>i b o (by simp[p]))
theorem dE.mono{s:PO}{a:af}{u:af->Prop}(m:∀x v,aJ K H F x v->aJ K d f x v)(r:∀x v,aS K H F x v->aS K d f x v)(i:∀b o,u b->H b=aa o->d b=aa o)(h:dE K H F s a u):dE K d f s a u:=by
 cases s with
 |lst z=>obtain⟨⟨p,e,q⟩,w⟩:=h;exact⟨⟨p,i a _ ((w a).mpr rfl) e,r _ _ q⟩,w⟩
 |dK l=>obtain⟨⟨c,e,q⟩,w⟩:=h;exact⟨⟨c,i a _ ((w a).mpr rfl) e,q.mono m⟩,w⟩
 |lls L=>obtain⟨J,e,q,E,D,w⟩:=h;exact⟨J,i a _ ((w a).mpr (.inl rfl)) e,q.mono r λb o G=>i b o ((w b).mpr (.inr G)),E,D,w⟩
 |ins C fs=>obtain⟨⟨t,c,e,q⟩,w⟩:=h;exact⟨⟨t,c,i a _ ((w a).mpr rfl) e,q.mono m⟩,w⟩
 |dT l=>obtain⟨⟨c,e,q⟩,w⟩:=h;exact⟨⟨c,i a _ ((w a).mpr rfl) e,q.mono m⟩,w⟩
 |dN l=>obtain⟨⟨c,e,q⟩,w⟩:=h;exact⟨⟨c,i a _ ((w a).mpr rfl) e,q.mono m⟩,w⟩
 |inl C fs y z=>obtain⟨t,c,b,p,e,q,n,I,A,B,w⟩:=h;exact⟨t,c,b,p,i a _ ((w a).mpr (.inl rfl)) e,q.mono m,n,i b _ ((w b).mpr (.inr rfl)) I,r _ _ A,B,w⟩
theorem aI.al(r:aI K F S j g H)(a:Al F f H d):aI K f S j g d where
 len:=r.len
 ex:=λb h=>(a.fnew b h).elim (λz=>let ⟨o,q⟩:=r.ex b z;⟨o,a.same _ _ q⟩) λz=>z.2
 val:=λi pv e=>let ⟨v,m,l⟩:=r.val i pv e;⟨v,m,a.rep l⟩
 own:=λi p e=>let ⟨b,m,l⟩:=r.own i p e;⟨b,m,l.mono (λ_ _ q=>a.rep q) (λ_ _ q=>a.reps q) λc o _ q=>a.same _ _ q⟩
 foot:=λi b h=>by
  obtain⟨m,l,o,n,s⟩:=r.foot i b h;refine⟨m,λz=>?_,o,a.same _ _ n,s⟩;rcases a.fnew b z with y|⟨y,_⟩
  .exact l y
  .rw[n]at y;cases y
 dist:=r.dist
end
inductive R(α:Type) where
 |ok (a:α) (ε:aj)|er (c:ah) (ε:aj)|no
def R.bind{f d:Type}(r:R f)(k:f->aj->R d):R d:=match r with
 |.ok a b=>k a b
 |.er c b=>.er c b
 |.no=>.no
def a6{b:Type}(o:Option b)(c:aj):R b:=match o with
 |some a=>.ok a c
 |none=>.no
@[simp] theorem R.bind_ok{c d:Type}(a:c)(b:aj)(k:c->aj->R d):(R.ok a b).bind k=k a b:=rfl
@[simp] theorem R.bind_er{b d:Type}(c:ah)(a:aj)(k:b->aj->R d):(R.er c a:R b).bind k=.er c a:=rfl
@[simp] theorem R.bind_no{a b:Type}(k:a->aj->R b):(R.no:R a).bind k=.no:=rfl
@[simp] theorem fE{c:Type}(a:c)(b:aj):a6 (aa a) b=.ok a b:=rfl
@[simp] theorem JL{b:Type}(a:aj):a6 (ae:Option b) a=.no:=rfl
def Ok(K:au)(E:XK)(h:St)(F:af->Prop)(S:Nat->af->Prop)(H:Hp){i:Type}(r:R i)(C:i->aj->(af->Prop)->(Nat->af->Prop)->Hp->Prop):Prop:=match r with
 |.ok a b=>∀g f d,aI K g f b h d->bg (U S) (U f) F g H d->C a b g f d
 |.er c b=>∀x g f d,aI K g f b h d->bg (U S) (U f) F g H d->E c x d
 |.no=>False
section
variable{K:au}{E:XK}{b:St}{F:af->Prop}{S:Nat->af->Prop}{H:Hp}{d i:Type}{C C':d->aj->(af->Prop)->(Nat->af->Prop)->Hp->Prop}{D:i->aj->(af->Prop)->(Nat->af->Prop)->Hp->Prop}
theorem Ok.imp{r:R d}(h:Ok K E b F S H r C)(f:∀a j n l m,aI K n l j b m->bg (U S) (U l) F n H m->C a j n l m->C' a j n l m):Ok K E b F S H r C':=by
 cases r with
 |ok a j=>exact λn l m r g=>f a j n l m r g (h n l m r g)
 |er c j=>exact h
 |no=>exact h
theorem Ok.from{r:R i}{q:af->Prop}{o:Nat->af->Prop}{p:Hp}(h:Ok K E b F S H r D)(g:bg (U S) (U o) F q H p):Ok K E b q o p r D:=by
 cases r with
 |ok a f=>exact λn l m j g'=>h n l m j (g.trans g')
 |er c f=>exact λx n l m j g'=>h x n l m j (g.trans g')
 |no=>exact h
theorem Ok.bind{r:R d}{k:d->aj->R i}(h:Ok K E b F S H (r.bind k) D):Ok K E b F S H r (λa ε1 m j l=>Ok K E b m j l (k a ε1) D):=by
 cases r with
 |ok a f=>exact λp n o r g=>Ok.from h g
 |er c f=>exact h
 |no=>exact h
end
structure Bx(p:Prop):Prop where
 run:p
def gq(X:Cx)(e:ay):TE:=λa H Q=>Bx (∀b s,Inv X b a H s->aq (ar X.prog X.w) X.A (aK e X.env) (EP X b a Q) X.xe s)
def uq(X:Cx)(e:ay):TT:=λa H Q=>Bx (∀b s,Inv X b a H s->aq (ar X.prog X.w) X.A (kj e X.env (aK e X.env)) (TP X b a Q) X.xe s)
def wpS(X:Cx)(c:aX):TS:=λD b H=>Bx (∀a s,Inv X a b H s->aq (ar X.prog X.w) X.A (exec c X.env) (SP X a D) X.xe s)
def nj(X:Cx)(c:List aX):TS:=λD b H=>Bx (∀a s,Inv X a b H s->aq (ar X.prog X.w) X.A (execs c X.env) (SP X a D) X.xe s)
section
variable{X:Cx}{e:ay}{b:aX}{a:List aX}
theorem br:PE X e (gq X e):=λc s _ _ _ I h=>h.run c s I
theorem pr:PT X e (uq X e):=λc s _ _ _ I h=>h.run c s I
theorem yo:PS X b (wpS X b):=λc s _ _ _ I h=>h.run c s I
theorem pG:jz X a (nj X a):=λc s _ _ _ I h=>h.run c s I
theorem bU{t:TE}(h:PE X e t){c:St}{H:Hp}{Q:VK}(q:t c H Q):gq X e c H Q:=⟨λd s I=>h d s c H Q I q⟩
theorem pT{t:TT}(h:PT X e t){c:St}{H:Hp}{Q:Bool->Hp->Prop}(q:t c H Q):uq X e c H Q:=⟨λd s I=>h d s c H Q I q⟩
theorem gX{t:TS}(h:PS X b t){c:St}{H:Hp}{D:iL}(q:t D c H):wpS X b D c H:=⟨λd s I=>h d s c H D I q⟩
theorem vL{t:TS}(h:jz X a t){c:St}{H:Hp}{D:iL}(q:t D c H):nj X a D c H:=⟨λd s I=>h d s c H D I q⟩
end
def DE(X:Cx)(E:XK)(e:ay)(d:aj->R PV):Prop :=
 ∀F S b a H Q,aI X.K F S b a H->Ok X.K E a F S H (d b) (λpv _ f _ c=>∀v,aJ X.K c f pv v->Q v c)->gq X e a H Q
def DN(X:Cx)(E:XK)(e:ay)(d:aj->R PO):Prop :=
 ∀F S g c H Q,aI X.K F S g c H->Ok X.K E c F S H (d g) (λj _ i l f=>∀a h,dE X.K f i j a h->(∀b,h b->H b=ae/\¬i b/\¬U l b/\∃o,f b=aa o/\dq o)->Q (.ref a) f)->gq X e c H Q
def DT(X:Cx)(E:XK)(e:ay)(d:aj->R Bool):Prop :=
 ∀F S c a H Q,aI X.K F S c a H->Ok X.K E a F S H (d c) (λb _ _ _ f=>Q b f)->uq X e a H Q
end Pu
namespace Pu
open L2
section
variable{X:Cx}{E:XK}{a b c:ay}{m db o:aj->R PV}{pos:Pos}
def dC(pv:PV):aj->R PV:=λε=>.ok pv ε
theorem bu{i j pos}:DE X E (.Constant (.int i) j pos) (dC (.int i)):=λF S f d H Q r h=>bU Is (h F S H r (bg.refl ..) _ rfl)
theorem va{i j pos}:DE X E (.Constant (.bool i) j pos) (dC (.bl i)):=λF S f d H Q r h=>bU Gc (h F S H r (bg.refl ..) _ rfl)
theorem kU(l:Tx){x:Str}{j pos}(d:x=tS l:=by decide +kernel)(f:l.length<=cA:=by decide):DE X E (.Constant (.str x) j pos) (dC (.str l)):=λF S i g H Q r h=>bU Fa (h F S H r (bg.refl ..) _ (by rw[d];exact⟨rfl,f⟩))
def dV(i:Nat):aj->R PV:=λε=>match ε[i]? with
 |some (.val pv)=>.ok pv ε
 |_=>.no
theorem az(i:Nat){x:Str}{pos:Pos}(g:X.N[i]?=aa x:=by rfl)(d:gm X.env.scope x:=by eq_refl)(f:(x==("__debug__":Str))=ak:=by decide)(n:(x==("__classdict__":Str))=ak:=by decide):DE X E (.Name x pos) (dV i):=λF S s q H Q r h=>by
 unfold dV at h;split at h
 .rename_i p e;obtain⟨v,l,j⟩:=r.val i p e;exact bU (iK g d f n) ⟨v,l,h F S H r (bg.refl ..) v j⟩
 .exact h.elim
theorem vY{x:Str}{i:Int}{pos:Pos}(h:∃t,X.mg x=aa (.int i t))(d:Gl X x:=by rfl)(f:(x==("__debug__":Str))=ak:=by decide):DE X E (.Name x pos) (dC (.int i)):=λF S j g H Q r q=>by obtain⟨t,e⟩:=h;exact bU (zz (v:=.int i) d e ⟨t,rfl⟩ f) (q F S H r (bg.refl ..) _ rfl)
theorem Aj{x:Str}{l:Tx}{pos:Pos}(h:∃t,X.mg x=aa (.str (tS l) t))(f:Gl X x:=by rfl)(d:l.length<=cA:=by decide)(g:(x==("__debug__":Str))=ak:=by decide):DE X E (.Name x pos) (dC (.str l)):=λF S j i H Q r q=>by obtain⟨t,e⟩:=h;exact bU (zz (v:=tV l) f e ⟨t,rfl⟩ g) (q F S H r (bg.refl ..) _ ⟨rfl,d⟩)
def P2(K:au)(r:R2)(f:PV->PV->Option PV):Prop:=∀(F:af->Prop) (H:Hp) (x y:PV) (v u:V) (Q:VK) (pv:PV),aJ K H F x v->aJ K H F y u->f x y=aa pv->(∀w g d,Al F g H d->aJ K d g pv w->Q w d)->r v u H Q
def d2(f:PV->PV->Option PV)(m db:aj->R PV):aj->R PV:=λε=>(m ε).bind λx g=>(db g).bind λy d=>a6 (f x y) d
theorem sJ{r:R2}{f:PV->PV->Option PV}(G:P2 X.K r f)(J:DE X E a m)(I:DE X E b db){F:af->Prop}{S:Nat->af->Prop}{l:aj}{d:St}{H:Hp}{Q:VK}(C:aI X.K F S l d H)(h:Ok X.K E d F S H (d2 f m db l) (λpv _ s _ i=>∀v,aJ X.K i s pv v->Q v i)):gq X a d H λx q=>gq X b d q λy p=>r x y p Q:=by
 refine J F S l d H _ C ((Ok.bind h).imp λx j P N q t T K v A=>?_);refine I P N j d q _ t ((Ok.bind K).imp λy z O M p D L g u B=>?_);cases e:f x y with
 |none=>rw[e]at g;exact g.elim
 |some pv=>rw[e]at g;exact G O p x y v u Q pv (A.grow L t.fit) B e λw s i al n=>g s M i (D.al al) al.grow w n
theorem cK{d:Operator}{r:R2}{f:PV->PV->Option PV}(j:bp X (fL d) r)(i:P2 X.K r f)(n:DE X E a m)(l:DE X E b db):DE X E (.BinOp a d b pos) (d2 f m db):=λF S q p H Q g h=>bU (BH j br br) (sJ i n l g h)
theorem nI{d:CmpOp}{r:R2}{f:PV->PV->Option PV}(j:bp X (cM d) r)(i:P2 X.K r f)(p:DE X E a m)(n:DE X E b db)(l:l_ d b=ak):DE X E (.Compare a [d] [b] pos) (d2 f m db):=λF S s q H Q g h=>bU (G6 j br br l) (sJ i p n g h)
def lv:PV->Option Bool
 |.bl b=>aa b
 |_=>ae
def dB(d:aj->R PV):aj->R Bool:=λε=>(d ε).bind λx ε1=>a6 (lv x) ε1
theorem An{K:au}{H:Hp}{F:af->Prop}{x:PV}{v:V}{k:Bool}(h:aJ K H F x v)(e:lv x=aa k):v=.bl k:=by
 cases x <;> simp[lv]at e;subst e;exact h
theorem oJ{F:af->Prop}{S:Nat->af->Prop}{j:aj}{i:St}{H:Hp}{Q:Bool->Hp->Prop}{d:aj->R PV}(h:Ok X.K E i F S H (dB d j) (λk _ _ _ g=>Q k g)):Ok X.K E i F S H (d j) (λpv _ t _ g=>∀v,aJ X.K g t pv v->∃k,v=.bl k/\Q k g):=by
 refine(Ok.bind h).imp λx l s q r p u f v n=>?_;cases e:lv x with
 |none=>rw[e]at f;exact f.elim
 |some k=>rw[e]at f;exact⟨k,An n e,f s q r p (bg.refl ..)⟩
theorem oU{d:CmpOp}{r:R2}{f:PV->PV->Option PV}(j:bp X (cM d) r)(i:P2 X.K r f)(p:DE X E a m)(n:DE X E b db)(l:l_ d b=ak):DT X E (.Compare a [d] [b] pos) (dB (d2 f m db)):=λF S t s H Q g h=>pT (D9 j br br l) (sJ (Q:=λx q=>∃k,x=.bl k/\Q k q) i p n g (oJ h))
theorem l9{e:ay}{d:aj->R PV}(n:DE X E e d)(l:∀f,kj e X.env f=(do let v <-f;standAt e.pos;holding [v] (truthy v)):=by intro _;rfl):DT X E e (dB d):=λF S i g H Q j h=>pT (Hc br l) (n F S i g H _ j (oJ h))
def ni(f g:PV->PV->Option PV)(m db o:aj->R PV):aj->R PV:=λj=>(m j).bind λx i=>(db i).bind λy d=>(a6 ((f x y).bind lv) d).bind λk d=>
 match k with
 |true=>(o d).bind λz h=>a6 (g y z) h
 |false=>.ok (.bl ak) d
theorem Ae{r N:R2}{f g:PV->PV->Option PV}(hp:P2 X.K r f)(fO:P2 X.K N g)(ha:DE X E a m)(hb:DE X E b db)(hc:DE X E c o){F:af->Prop}{S:Nat->af->Prop}{A:aj}{j:St}{H:Hp}{Q:VK}(rl:aI X.K F S A j H)(h:Ok X.K E j F S H (ni f g m db o A) (λpv _ l _ i=>∀v,aJ X.K i l pv v->Q v i)):uB r N (gq X a) (gq X b) (gq X c) j H Q:=by
 refine ha F S A j H _ rl ((Ok.bind h).imp λx t F1 S1 H1 M g1 h1 v Z=>?_);refine hb F1 S1 t j H1 _ M ((Ok.bind h1).imp λy n P K O r2 g2 d u L=>?_);cases e:f x y with
 |none=>rw[e]at d;exact d.elim
 |some pv=>
  rw[e]at d;refine hp P O x y v u _ pv (Z.grow g2 M.fit) L e λw l i al C=>?_;cases J:lv pv with
  |none=>rw[hU,J]at d;exact d.elim
  |some k=>
   rw[hU,J]at d;refine⟨k,An C J,?_⟩;have G:=r2.al al;cases k with
   |false=>exact oX (Ok.from d al.grow l K i G (bg.refl ..) _ rfl)
   |true=>
    have h3:Ok X.K E j P K O ((o n).bind λz s=>a6 (g y z) s) (λpv _ l _ i=>∀v,aJ X.K i l pv v->Q v i):=d;refine pD (hc l K n j i _ G ((Ok.bind (Ok.from h3 al.grow)).imp λz T F4 S4 H4 r4 g4 q Y D=>?_));cases I:g y z with
    |none=>rw[I]at q;exact q.elim
    |some pz=>rw[I]at q;exact fO F4 H4 y z u Y Q pz ((al.rep L).grow g4 G.fit) D I λW F5 H5 p B=>q F5 S4 H5 (r4.al p) p.grow W B
theorem Av{i d:CmpOp}{r j:R2}{f g:PV->PV->Option PV}(p:bp X (cM i) r)(v:bp X (cM d) j)(n:P2 X.K r f)(w:P2 X.K j g)(u:DE X E a m)(t:DE X E b db)(s:DE X E c o)(q:lastMarks [i,d] [b,c]=ak:=by with_unfolding_all rfl):DE X E (.Compare a [i,d] [b,c] pos) (ni f g m db o):=λF S y x H Q l h=>bU (Gj p v br br br q) (Ae n w u t s l h)
theorem CQ{i d:CmpOp}{r j:R2}{f g:PV->PV->Option PV}(p:bp X (cM i) r)(v:bp X (cM d) j)(n:P2 X.K r f)(w:P2 X.K j g)(u:DE X E a m)(t:DE X E b db)(s:DE X E c o)(q:lastMarks [i,d] [b,c]=ak:=by with_unfolding_all rfl):DT X E (.Compare a [i,d] [b,c] pos) (dB (ni f g m db o)):=λF S A z H Q l h=>pT (GF p v br br br q) (Ae (Q:=λx y=>∃k,x=.bl k/\Q k y) n w u t s l (oJ h))
variable{n A:aj->R Bool}{rest:List ay}
def DW(X:Cx)(E:XK)(e:ay)(d:aj->R Bool):Prop:=∀F S g f H Q,aI X.K F S g f H->Ok X.K E f F S H (d g) (λb _ _ _ i=>Q b i)->∀(h:Sem ah) ag s,Inv X ag f H s->aq (ar X.prog X.w) X.A (kj e X.env h) (TP X ag f Q) X.xe s
def Dl(X:Cx)(e:ay):TT:=λd H Q=>∀(f:Sem ah) ag s,Inv X ag d H s->aq (ar X.prog X.w) X.A (kj e X.env f) (TP X ag d Q) X.xe s
theorem HJ{e:ay}:PW X e (Dl X e):=λd f s _ _ _ I h=>h d f s I
theorem DW.dt{e:ay}{d:aj->R Bool}(h:DW X E e d):DT X E e d:=λF S ε f H Q g q=>⟨λi s I=>h F S ε f H Q g q _ i s I⟩
def Cv(n A:aj->R Bool):aj->R Bool:=λf=>(n f).bind λk d=>match k with
 |true=>A d
 |false=>.ok ak d
def uf(n A:aj->R Bool):aj->R Bool:=λf=>(n f).bind λk d=>match k with
 |true=>.ok ai d
 |false=>A d
def lz(n:aj->R Bool):aj->R Bool:=λf=>(n f).bind λk d=>.ok (!k) d
theorem xP(h:DT X E a n):DW X E (.BoolOp .Or [a] pos) n:=λF S f d H Q g q i j s I=>EX pr i j s d H Q I (h F S f d H Q g q)
theorem xV(u:DT X E a n)(t:DW X E (.BoolOp .Or (b::rest) pos) A):DW X E (.BoolOp .Or (a::b::rest) pos) (uf n A):=λF S p d H Q r q v w s I=>by
 refine Gi pr HJ v w s d H Q I (u F S p d H _ r ((Ok.bind q).imp λk f l i j g x h=>?_));cases k with
 |true=>exact pD (h l i j g (bg.refl ..))
 |false=>exact oX (t l i f d j Q g h)
theorem mV(j:DT X E a n):DT X E (.UnaryOp .Not a pos) (lz n):=λF S g d H Q h q=>pT (C_ pr) (j F S g d H _ h ((Ok.bind q).imp λk f s p r i t l=>l s p r i (bg.refl ..)))
def j3(m db:aj->R PV):aj->R PV:=λf=>(dB m f).bind λk d=>match k with
 |true=>db d
 |false=>.ok (.bl ak) d
def JN(m db:aj->R PV):aj->R PV:=λf=>(dB m f).bind λk d=>match k with
 |true=>.ok (.bl ai) d
 |false=>db d
def Af(m:aj->R PV):aj->R PV:=λf=>(dB m f).bind λk d=>.ok (.bl (!k)) d
theorem Ag{d:aj->R PV}{r:Type}{D:r->aj->(af->Prop)->(Nat->af->Prop)->Hp->Prop}{k:Bool->aj->R r}{F:af->Prop}{S:Nat->af->Prop}{q:aj}{p:St}{H:Hp}{P:Bool->Hp->Prop}(h:Ok X.K E p F S H ((dB d q).bind k) D) (f:∀c g l j i,aI X.K l j g p i->bg (U S) (U j) F l H i->Ok X.K E p l j i (k c g) D->P c i):Ok X.K E p F S H (d q) (λpv _ y _ s=>∀v,aJ X.K s y pv v->∃c,v=.bl c/\P c s):=by have u:=(Ok.bind h).imp (C':=λc g l j i=>P c i) λc g l j i t x w=>f c g l j i t x w;exact oJ u
theorem mL{op}{d:aj->R PV}(h:DE X E a d):DE X E (.BoolOp op [a] pos) d:=λF S g f H Q i q=>bU (DZ br) (h F S g f H Q i q)
theorem kR(t:DE X E a m)(s:DE X E (.BoolOp .And (b::rest) pos) db):DE X E (.BoolOp .And (a::b::rest) pos) (j3 m db):=λF S p f H Q r q=>by
 refine bU (BQ br br) (t F S p f H _ r (Ag q λk d l i j g u h=>?_));cases k with
 |true=>exact pD (s l i d f j Q g h)
 |false=>exact oX (h l i j g (bg.refl ..) _ rfl)
theorem G_(j:DE X E a m):DE X E (.UnaryOp .Not a pos) (Af m):=λF S g d H Q h q=>bU (Hw br) (j F S g d H _ h (Ag q λk f s p r i t l=>l s p r i (bg.refl ..) _ rfl))
def eM{d:Type}(t:aj->R Bool)(m db:aj->R d):aj->R d:=λf=>(t f).bind λk ε1=>match k with
 |true=>m ε1
 |false=>db ε1
def P1(K:au)(r:V->Hp->VK->Prop)(f:PV->Option PV):Prop:=∀(F:af->Prop) (H:Hp) (x:PV) (v:V) (Q:VK) (pv:PV),aJ K H F x v->f x=aa pv->(∀w g d,Al F g H d->aJ K d g pv w->Q w d)->r v H Q
def d1(f:PV->Option PV)(m:aj->R PV):aj->R PV:=λg=>(m g).bind λx d=>a6 (f x) d
theorem Gs{r:V->Hp->VK->Prop}{f:PV->Option PV}(z:P1 X.K r f)(B:DE X E a m){F:af->Prop}{S:Nat->af->Prop}{j:aj}{d:St}{H:Hp}{Q:VK}(u:aI X.K F S j d H)(h:Ok X.K E d F S H (d1 f m j) (λpv _ q _ i=>∀v,aJ X.K i q pv v->Q v i)):gq X a d H λx p=>r x p Q:=by
 refine B F S j d H _ u ((Ok.bind h).imp λx s D C p y G g v t=>?_);cases e:f x with
 |none=>rw[e]at g;exact g.elim
 |some pv=>rw[e]at g;exact z D p x v Q pv t e λw q i al l=>g q C i (y.al al) al.grow w l
theorem FN{d:UnaryOp}{r:V->Hp->VK->Prop}{f:PV->Option PV}(j:sU X (unaryOp d) r)(i:P1 X.K r f)(l:DE X E a m):DE X E (.UnaryOp d a pos) (d1 f m):=λF S q p H Q g h=>bU (Hn j br) (Gs i l g h)
end
def lw(X:Cx)(d:List ay):TA:=λb H Q=>Bx (∀a c s,Inv X c b H s->aq (ar X.prog X.w) X.A (spliced (cV a (aM d X.env))) (AP X c b Q) X.xe s)
def DA(X:Cx)(E:XK)(h:List ay)(d:aj->R (List PV)):Prop :=
 ∀F S c a H Q,aI X.K F S c a H->Ok X.K E a F S H (d c) (λb _ i _ g=>∀f,aS X.K g i b f->Q f g)->lw X h a H Q
section
variable{X:Cx}{E:XK}{a b c e:ay}{es:List ay}{B db D d:aj->R PV}{j:aj->R (List PV)}{pos:Pos}
theorem eP{es:List ay}:PA X es (lw X es):=λpos f s _ _ _ I h=>h.run pos f s I
theorem lK{t:TA}(h:PA X es t){f:St}{H:Hp}{Q:List V->Hp->Prop}(q:t f H Q):lw X es f H Q:=⟨λpos g s I=>h pos g s f H Q I q⟩
def aV:aj->R (List PV):=λf=>.ok [] f
def aF(d:aj->R PV)(j:aj->R (List PV)):aj->R (List PV):=λg=>(d g).bind λx ε1=>(j ε1).bind λh f=>.ok (x::h) f
theorem bv:DA X E [] aV:=λF S i g H Q f h=>lK ju (h F S H f (bg.refl ..) _ rfl)
theorem E9(t:DE X E e d)(s:DA X E es j)(r:aM (e::es) X.env=(ak,aK e X.env)::aM es X.env:=by rfl):DA X E (e::es) (aF d j):=λF S m g H Q p h=>by refine lK (gT br eP r) (t F S m g H _ p ((Ok.bind h).imp λx f K C I i M w v o=>?_));refine s K C f g I _ i ((Ok.bind w).imp λL l J A G q y u n z=>?_);exact u J A G q (bg.refl ..) _ ⟨v,n,rfl,o.grow y i.fit,z⟩
theorem aI.more{K:au}{F N:af->Prop}{S:Nat->af->Prop}{n:aj}{m:St}{H:Hp}(r:aI K F S n m H)(p:∀b,N b->¬U S b/\∃o,H b=aa o):aI K (λb=>F b\/N b) S n m H:=by
 have mono:∀x v,aJ K H F x v->aJ K H (λb=>F b\/N b) x v:=aJ.mono (λ_ h=>.inl h) (λ_ _ _ q=>q) (λ_ _ q _=>q);have f:∀x v,aS K H F x v->aS K H (λb=>F b\/N b) x v:=aS.mono (λ_ h=>.inl h) (λ_ _ _ q=>q) (λ_ _ q _=>q);refine⟨r.len,λb h=>h.elim (r.ex b) λz=>(p b z).2,λi pv e=>?_,λi s e=>?_,λi b h=>?_,r.dist⟩
 .obtain⟨v,l,g⟩:=r.val i pv e;exact⟨v,l,mono _ _ g⟩
 .obtain⟨v,l,g⟩:=r.own i s e;exact⟨v,l,g.mono mono f λ_ _ _ z=>z⟩
 .obtain⟨l,g,t⟩:=r.foot i b h;exact⟨l,λz=>z.elim g λw=>(p b w).1 ⟨i,h⟩,t⟩
def C6:PO->Option PV
 |.lst f=>aa (.lst f)
 |_=>ae
def dF(d:aj->R PO):aj->R PV:=λf=>(d f).bind λg ε1=>a6 (C6 g) ε1
theorem DN.de{d:aj->R PO}(h:DN X E e d):DE X E e (dF d):=λF S ε r H Q v q=>by
 unfold dF at q;refine h F S ε r H Q v ?_;cases i:d ε with
 |no=>rw[i]at q;exact q.elim
 |er c s=>rw[i]at q;exact q
 |ok A ε1=>
  rw[i]at q;intro N l m x g a p G n;cases A with
  |dK f=>exact q.elim
  |lls O=>exact q.elim
  |ins C fs=>exact q.elim
  |dT f=>exact q.elim
  |dN f=>exact q.elim
  |inl C fs y t=>exact q.elim
  |lst t=>
   have L:∀b,p b->¬U l b/\∃o,m b=aa o:=λb z=>let ⟨_,_,x3,o,x4,_⟩:=n b z;⟨x3,o,x4⟩
   obtain⟨⟨u,J,I⟩,K⟩:=G;have M:bg (U S) (U l) F (λb=>N b\/p b) H m:=⟨λb z=>.inl (g.fro b z),g.keep,g.there,λb z=>z.elim (g.fnew b) λw=>.inr (.inl (n b w).1),g.onew⟩
   exact q _ l m (x.more L) M _ ⟨a,u,rfl,.inl J,.inr ((K a).mpr rfl),aS.mono (λ_ z=>.inl z) (λ_ _ _ z=>z) (λ_ _ z _=>z) _ _ I⟩
def gv(f:List PV):Option PV:=if f.length<=1000 then aa (.tup f)else ae
def gs(f:List PV):Option PO:=if f.length<=1000 then aa (.lst f)else ae
def dL{g:Type}(f:List PV->Option g)(j:aj->R (List PV)):aj->R g:=λh=>(j h).bind λi ε1=>a6 (f i) ε1
def PL(K:au)(r:List V->Hp->VK->Prop)(f:List PV->Option PV):Prop:=∀(F:af->Prop) (H:Hp) (h:List PV) (i:List V) (Q:VK) (pv:PV),aS K H F h i->f h=aa pv->(∀w l g,Al F l H g->aJ K g l pv w->Q w g)->r i H Q
def lI(K:au)(r:List V->Hp->VK->Prop)(f:List PV->Option PO):Prop:=∀(F:af->Prop) (H:Hp) (i:List PV) (l:List V) (Q:VK) (m:PO),(∀a,F a->∃o,H a=aa o)->aS K H F i l->f i=aa m ->
 (∀a h g n,Al F h H g->dE K g h m a n->(∀b,n b->H b=ae/\¬h b/\∃o,g b=aa o/\dq o)->Q (.ref a) g)->r l H Q
theorem vy{r:List V->Hp->VK->Prop}{f:List PV->Option PV}(y:PL X.K r f)(z:DA X E es j){F:af->Prop}{S:Nat->af->Prop}{n:aj}{g:St}{H:Hp}{Q:VK}(u:aI X.K F S n g H)(h:Ok X.K E g F S H (dL f j n) (λpv _ q _ m=>∀v,aJ X.K m q pv v->Q v m)):lw X es g H λi p=>r i p Q:=by
 refine z F S n g H _ u ((Ok.bind h).imp λi s G C p x I l t A=>?_);cases e:f i with
 |none=>rw[e]at l;exact l.elim
 |some pv=>rw[e]at l;exact y G p i t Q pv A e λw q m al o=>l q C m (x.al al) al.grow w o
theorem lE{O i F l:af->Prop}{H f:Hp}(g:bg O i F l H f){b:af}(h:f b=ae):H b=ae:=by
 cases q:H b with
 |none=>rfl
 |some o=>obtain⟨o',e⟩:=g.there b o q;rw[h]at e;cases e
theorem r_{r:List V->Hp->VK->Prop}{f:List PV->Option PO}(M:lI X.K r f)(N:DA X E es j){F:af->Prop}{S:Nat->af->Prop}{s:aj}{l:St}{H:Hp}{Q:VK}(K:aI X.K F S s l H)(h:Ok X.K E l F S H (dL f j s) (λu _ q Y g=>∀a p,dE X.K g q u a p->(∀b,p b->H b=ae/\¬q b/\¬U Y b/\∃o,g b=aa o/\dq o)->Q (.ref a) g)):lw X es l H λm v=>r m v Q:=by
 refine N F S s l H _ K ((Ok.bind h).imp λm A Z W v t O n J T=>?_);cases e:f m with
 |none=>rw[e]at n;exact n.elim
 |some u=>
  rw[e]at n;refine M Z v m J Q u t.ex T e λa q g p al L P=>n q W g (t.al al) al.grow a p L λb z=>?_;obtain⟨x,I,o,G,C⟩:=P b z;refine⟨lE O x,I,λ⟨i,w⟩=>?_,o,G,C⟩;obtain⟨_,_,o',y,_⟩:=t.foot i b w;rw[x]at y;cases y
theorem uT{n:Nat}(h:n<=1000):n<=aY:=ki (GX h)
theorem Ek{K:au}:PL K (λf H Q=>f.length<=aY/\∀p,H p=ae->Q (.ref p) (upd H p (.tup f))) gv:=λF H f i Q pv g e q=>by
 unfold gv at e;split at e
 .cases e;refine⟨by rw[g.len];exact uT (by assumption),λp h=>q _ F _ (Al.new0 h) ⟨p,i,rfl,cB,(Al.new0 h).reps g⟩⟩
 .cases e
theorem rM{K:au}{F:af->Prop}{H:Hp}{l:af}{g:List PV}{f:List V}(i:H l=ae)(h:aS K H F g f):dE K (upd H l (.lst f)) F (.lst g) l (λb=>b=l):=⟨⟨f,cB,(Al.new0 i).reps h⟩,λb=>Iff.rfl⟩
theorem r8{F:af->Prop}{H:Hp}{l:af}{o:HO}(g:H l=ae)(i:∀a,F a->∃o,H a=aa o)(h:dq o):∀b,b=l->H b=ae/\¬F b/\∃f,(upd H l o) b=aa f/\dq f:=λb z=>by
 subst z;exact⟨g,(λw=>by obtain⟨o,q⟩:=i b w;rw[g]at q;cases q),o,cB,h⟩
theorem HL{K:au}:lI K (λf H Q=>f.length<=aY/\∀p,H p=ae->Q (.ref p) (upd H p (.lst f))) gs:=λF H f l Q m i h e q=>by
 unfold gs at e;split at e
 .cases e;exact⟨by rw[h.len];exact uT (by assumption),λp g=>q p F _ _ (Al.new0 g) (rM g h) (r8 g i trivial)⟩
 .cases e
theorem rE{x1}(h:DA X E es j):DE X E (.Tuple es x1 pos) (dL gv j):=λF S i g H Q f q=>bU (C3 eP) (vy Ek h f q)
theorem rF(h:DA X E es j):DN X E (.List es pos) (dL gs j):=λF S i g H Q f q=>bU (Ib eP) (r_ HL h f q)
theorem sC(h:DA X E es j):DE X E (.List es pos) (dF (dL gs j)):=(rF h).de
variable{x:Str}{p:Pos}{m T:String}{r:List V->Hp->VK->Prop}{f:List PV->Option PV}{A:List PV->Option PO}
theorem d9(t:fQ X (.builtin m) r)(i:PL X.K r f)(n:X.mg x=ae)(h:c8 x=aa (.builtin m))(u:DA X E (e::es) j)(o:Gl X x:=by rfl)(l:x≠"__name__":=by decide)(v:(x==("__debug__":Str))=ak:=by decide)(s:aM (e::es) X.env=(ak,aK e X.env)::aM es X.env:=by rfl) (w:(cV pos (aM es X.env)).any (·.1)=ak:=by rfl):DE X E (.Call (.Name x p) (e::es) [] pos) (dL f j):=λF S z y H Q g q=>bU (sN t o n h eP l v s w) (vy i u g q)
theorem xX(t:fQ X (.builtin m) r)(i:lI X.K r A)(n:X.mg x=ae)(h:c8 x=aa (.builtin m))(u:DA X E (e::es) j)(o:Gl X x:=by rfl)(l:x≠"__name__":=by decide)(v:(x==("__debug__":Str))=ak:=by decide)(s:aM (e::es) X.env=(ak,aK e X.env)::aM es X.env:=by rfl) (w:(cV pos (aM es X.env)).any (·.1)=ak:=by rfl):DN X E (.Call (.Name x p) (e::es) [] pos) (dL A j):=λF S z y H Q g q=>bU (sN t o n h eP l v s w) (r_ i u g q)
theorem IU(t:fQ X (.type T) r)(i:PL X.K r f)(n:X.mg x=ae)(h:c8 x=aa (.type T))(u:DA X E (e::es) j)(o:Gl X x:=by rfl)(l:x≠"__name__":=by decide)(v:(x==("__debug__":Str))=ak:=by decide)(s:aM (e::es) X.env=(ak,aK e X.env)::aM es X.env:=by rfl) (w:(cV pos (aM es X.env)).any (·.1)=ak:=by rfl):DE X E (.Call (.Name x p) (e::es) [] pos) (dL f j):=λF S z y H Q g q=>bU (vO t o n h eP l v s w) (vy i u g q)
theorem EY(t:fQ X (.type T) r)(i:lI X.K r A)(n:X.mg x=ae)(h:c8 x=aa (.type T))(u:DA X E (e::es) j)(o:Gl X x:=by rfl)(l:x≠"__name__":=by decide)(v:(x==("__debug__":Str))=ak:=by decide)(s:aM (e::es) X.env=(ak,aK e X.env)::aM es X.env:=by rfl) (w:(cV pos (aM es X.env)).any (·.1)=ak:=by rfl):DN X E (.Call (.Name x p) (e::es) [] pos) (dL A j):=λF S z y H Q g q=>bU (vO t o n h eP l v s w) (r_ i u g q)
theorem ii{r:R2}{f:PV->PV->Option PV}(l:jY X r)(n:P2 X.K r f)(q:DE X E a B)(o:DE X E b db)(i:zo b:=by exact λ_ _=>rfl):DE X E (.Subscript a b pos) (d2 f B db):=λF S t s H Q g h=>bU (EB l br br i) (sJ n q o g h)
def vq(X:Cx)(e:Option ay):TO:=λg H Q=>Bx (∀h s,Inv X h g H s->aq (ar X.prog X.w) X.A (evalPart e X.env) (λu l=>∃o i,Inv X h g i l/\ko u o/\Q o i) X.xe s)
theorem xt{o:Option ay}:L2.PO X o (vq X o):=λg s _ _ _ I h=>h.run g s I
theorem Ax{o:Option ay}{t:TO}(h:L2.PO X o t){g:St}{H:Hp}{Q:Option Int->Hp->Prop}(q:t g H Q):vq X o g H Q:=⟨λi s I=>h i s g H Q I q⟩
def DO(X:Cx)(E:XK)(e:Option ay)(d:aj->R (Option Int)):Prop:=∀F S h g H Q,aI X.K F S h g H->Ok X.K E g F S H (d h) (λo _ _ _ i=>Q o i)->vq X e g H Q
def jo:aj->R (Option Int):=λg=>.ok ae g
def Hr:PV->Option Int
 |.int i=>aa i
 |_=>ae
def fX(d:aj->R PV):aj->R (Option Int):=λε=>(d ε).bind λx g=>a6 ((Hr x).map aa) g
theorem rY:DO X E ae jo:=λF S l i H Q g h=>Ax Et (h F S H g (bg.refl ..))
theorem mP(u:DE X E e d):DO X E (aa e) (fX d):=λF S o l H Q s h=>by
 refine Ax (F8 br) (u F S o l H _ s ((Ok.bind h).imp λx n z w y t C g v q=>?_));cases x <;> first|exact(show False from g).elim|skip
 rename_i i;exact⟨i,q,g z w y t (bg.refl ..)⟩
def gJ{n:Type}(f:PV->Option Int->Option Int->Option n)(d:aj->R PV)(q o:aj->R (Option Int)):aj->R n:=λε=>(d ε).bind λx i=>(q i).bind λl h=>(o h).bind λu g=>a6 (f x l u) g
def zd(K:au)(r:V->Option Int->Option Int->Hp->VK->Prop)(f:PV->Option Int->Option Int->Option PV):Prop:=∀(F:af->Prop) (H:Hp) (x:PV) (h i:Option Int) (v:V) (Q:VK) (pv:PV),aJ K H F x v->f x h i=aa pv->(∀w l g,Al F l H g->aJ K g l pv w->Q w g)->r v h i H Q
theorem pK{r:V->Option Int->Option Int->Hp->VK->Prop}{f:PV->Option Int->Option Int->Option PV}{z C:Option ay}{I G:aj->R (Option Int)}{O:Pos}(W:j6 X r)(Y:zd X.K r f)(he:DE X E e d)(Z:DO X E z I)(P:DO X E C G):DE X E (.Subscript e (.Slice z C ae O) pos) (gJ f d I G):=λF S K i H Q M h=>by
 refine bU (Fg W br xt xt) (he F S K i H _ M ((Ok.bind h).imp λx o F1 S1 H1 y g1 h1 v L=>?_));refine Z F1 S1 o i H1 _ y ((Ok.bind h1).imp λl n F2 S2 H2 t g2 h2=>?_);refine P F2 S2 n i H2 _ t ((Ok.bind h2).imp λu J F3 S3 H3 N g3 g=>?_);cases s:f x l u with
 |none=>rw[s]at g;exact g.elim
 |some pv=>rw[s]at g;exact Y F3 H3 x l u v Q pv ((L.grow g2 y.fit).grow g3 t.fit) s λw F' H' al q=>g F' S3 H' (N.al al) al.grow w q
end
inductive aQ where
 |next|ret (s:Slot)|brk|cont
def pF(K:au)(H:Hp)(F:af->Prop)(s:Slot)(v:V)(c:af->Prop):Prop:=match s with
 |.val pv=>aJ K H F pv v/\∀b,¬c b
 |.own d=>∃a,v=.ref a/\dE K H F d a c
 |.none=>False
def gM(b:List Nat)(c a:St):Prop:=∀i∈b,a[i]?=c[i]?
theorem gM.refl(a:List Nat)(b:St):gM a b b:=λ_ _=>rfl
theorem gM.trans{c:List Nat}{g f d:St}(a:gM c g f)(b:gM c f d):gM c g d:=λi h=>(b i h).trans (a i h)
theorem gM.set{a:List Nat}{b:St}{i:Nat}{x:Option V}(h:i∉a):gM a b (b.set i x):=λj c=>by rw[dP (by rintro rfl;exact h c)]
def sK(f:af->Prop)(c:Nat->af->Prop)(d:Hp)(a:af->Prop):Prop:=∀b,a b->¬f b/\¬U c b/\∃o,d b=aa o/\dq o
def g7(K:au)(E:XK)(i:List Nat)(j:St)(F:af->Prop)(S:Nat->af->Prop)(H:Hp)(r:R aQ)(D:iL):Prop:=match r with
 |.ok .next f=>∀g h a d,aI K g h f a d->bg (U S) (U h) F g H d->gM i j a->D.nx a d
 |.ok .brk f=>∀g h a d,aI K g h f a d->bg (U S) (U h) F g H d->gM i j a->D.bk a d
 |.ok .cont f=>∀g h a d,aI K g h f a d->bg (U S) (U h) F g H d->gM i j a->D.ct a d
 |.ok (.ret s) f=>∀v g h a d l,aI K g h f a d->bg (U S) (λb=>U h b\/l b) F g H d->gM i j a->pF K d g s v l->sK g h d l->D.rt v d
 |.er c f=>∀x g h a d,aI K g h f a d->bg (U S) (U h) F g H d->gM i j a->E c x d
 |.no=>False
def DS(X:Cx)(E:XK)(b:List Nat)(f:aX)(d:aj->R aQ):Prop:=∀F S c a H D,aI X.K F S c a H->g7 X.K E b a F S H (d c) D->wpS X f D a H
def fR(X:Cx)(E:XK)(b:List Nat)(f:List aX)(d:aj->R aQ):Prop:=∀F S c a H D,aI X.K F S c a H->g7 X.K E b a F S H (d c) D->nj X f D a H
section
variable{K:au}{E:XK}{b:List Nat}{d i:St}{F m:af->Prop}{S j:Nat->af->Prop}{H l:Hp}{D:iL}
theorem g7.from{r:R aQ}(h:g7 K E b d F S H r D)(g:bg (U S) (U j) F m H l)(p:gM b d i):g7 K E b i m j l r D:=by
 cases r with
 |no=>exact h
 |er c w=>exact λx u q a t n g' o=>h x u q a t n (g.trans g') (p.trans o)
 |ok f w=>
  cases f with
  |next=>exact λu q a t n g' o=>h u q a t n (g.trans g') (p.trans o)
  |brk=>exact λu q a t n g' o=>h u q a t n (g.trans g') (p.trans o)
  |cont=>exact λu q a t n g' o=>h u q a t n (g.trans g') (p.trans o)
  |ret s=>exact λv u q a t y n g' o=>h v u q a t y n (g.trans g') (p.trans o)
theorem g7.bindE{o:Type}{r:R o}{k:o->aj->R aQ}(h:g7 K E b d F S H (r.bind k) D):Ok K E d F S H r (λa f m j l=>g7 K E b d m j l (k a f) D):=by
 cases r with
 |no=>exact h
 |er c g=>exact λx t q s p n=>h x t q d s p n (gM.refl _ _)
 |ok a g=>exact λt q s p n=>h.from n (gM.refl _ _)
end
section
variable{X:Cx}{E:XK}{pin:List Nat}{l:aX}{rest:List aX}{d d1 d2:aj->R aQ}{e:ay}{de:aj->R PV}{pos:Pos}
def ff:aj->R aQ:=λa=>.ok .next a
theorem iI:fR X E pin [] ff:=λF S c a H D b h=>vL CP (h F S a H b (bg.refl ..) (gM.refl _ _))
def bi(d1 d2:aj->R aQ):aj->R aQ:=λa=>match d1 a with
 |.ok .next ε1=>d2 ε1
 |r=>r
theorem ce(t:DS X E pin l d1)(q:fR X E pin rest d2):fR X E pin (l::rest) (bi d1 d2):=λF S i m H D n h=>by
 refine vL (BY yo pG) (t F S i m H {D with nx:=nj X rest D} n ?_);unfold bi at h;split at h
 .rename_i g v;rw[v];exact λy w b x o u p=>q y w g b x D o (h.from u p)
 .rename_i r j;generalize d1 i=r1 at h j;cases r1 with
  |no=>exact h
  |er c a=>exact h
  |ok f a=>
   cases f with
   |next=>exact absurd rfl (j a)
   |brk=>exact h
   |cont=>exact h
   |ret s=>exact h
theorem bC(f:DS X E pin l d1):fR X E pin [l] d1:=λF S b a H D c h=>vL (CK yo) (f F S b a H D c h)
def JW(f:aQ):aj->R aQ:=λa=>.ok f a
def JT(d:aj->R PV):aj->R aQ:=λb=>(d b).bind λ_ a=>.ok .next a
def cm(d:aj->R PV):aj->R aQ:=λb=>(d b).bind λx a=>.ok (.ret (.val x)) a
theorem bg.cup{O c F i:af->Prop}{H f:Hp}(g:bg O c F i H f):bg O (λb=>c b\/False) F i H f:=⟨g.fro,g.keep,g.there,g.fnew,λa h=>h.elim (g.onew a) jF⟩
theorem cS(j:DE X E e de):DS X E pin (.Return (aa e) pos) (cm de):=λF S c a H D g h=>gX (rD br) (j F S c a H _ g (h.bindE.imp λx b p n o i q m v f=>m v p n a o (λ_=>False) i (bg.refl ..).cup (gM.refl _ _) ⟨f,λ_ z=>z⟩ λ_ z=>z.elim))
def oD(d:aj->R PO):aj->R aQ:=λε=>(d ε).bind λx a=>.ok (.ret (.own x)) a
theorem EV{dn:aj->R PO}(t:DN X E e dn):DS X E pin (.Return (aa e) pos) (oD dn):=λF S j g H D p h=>by
 refine gX (rD br) (t F S j g H _ p ?_);unfold oD at h;cases i:dn j with
 |no=>rw[i]at h;exact h.elim
 |er c o=>rw[i]at h;exact λx I A C r u=>h x I A g C r u (gM.refl _ _)
 |ok J n=>rw[i]at h;intro G y B q f a v s m;exact h _ G y g B v q ⟨f.fro,f.keep,f.there,f.fnew,λb z=>z.elim (f.onew b) λw=>.inr (m b w).1⟩ (gM.refl _ _) ⟨a,rfl,s⟩ λb z=>let ⟨_,x2,x3,x4⟩:=m b z;⟨x2,x3,x4⟩
def sv(i:Nat):aj->R aQ:=λa=>match a[i]? with
 |some (.own b)=>.ok (.ret (.own b)) (a.set i .none)
 |_=>.no
theorem aI.drop{K:au}{F:af->Prop}{S:Nat->af->Prop}{c:aj}{o:St}{H:Hp}(r:aI K F S c o H)(i:Nat):aI K F (λj b=>S j b/\j≠i) (c.set i .none) o H:=by
 have no:∀{j s},(c.set i .none)[j]?=aa s->s≠.none->j≠i/\c[j]?=aa s:=λ{j s} e t=>by
  by_cases f:i=j
  .subst f;by_cases u:i<c.length
   .rw[fK u]at e;exact absurd (dO e).symm t
   .rw[tQ (by rw[i5];lia)]at e;cases e
  .rw[dP f]at e;exact⟨f9 f,e⟩
 refine⟨by rw[i5];exact r.len,r.ex,λj pv e=>r.val j pv (no e (by intro z;cases z)).2,λj g e=>?_,λj b h=>?_,λj k b n m=>r.dist j k b n.1 m.1⟩
 .obtain⟨f,e⟩:=no e (by intro z;cases z);obtain⟨a,n,m⟩:=r.own j g e;have v:(λb=>S j b/\j≠i)=S j:=by funext b;simp[f]
  exact⟨a,n,by rw[v];exact m⟩
 .obtain⟨⟨g,q⟩,p⟩:=r.foot j b h.1;exact⟨⟨g,by rw[dP (f9 h.2)];exact q⟩,p⟩
theorem Go(i:Nat){x:Str}{p:Pos}(s:X.N[i]?=aa x:=by rfl)(n:gm X.env.scope x:=by eq_refl)(r:(x==("__debug__":Str))=ak:=by decide)(u:(x==("__classdict__":Str))=ak:=by decide):DS X E pin (.Return (aa (.Name x p)) pos) (sv i):=λF S v f H D c h=>by
 unfold sv at h;split at h
 .rename_i g e;obtain⟨a,t,m⟩:=c.own i g e;refine gX (rD (iK s n r u)) ⟨_,t,h _ F (λj b=>S j b/\j≠i) f H (S i) (c.drop i) ⟨λ_ z=>z,λ_ _ z _=>z,λ_ o z=>⟨o,z⟩,λ_ z=>.inl z,λb z=>?_⟩ (gM.refl _ _) ⟨a,rfl,m⟩ λb z=>?_⟩
  .rcases z with⟨j,z,_⟩|z
   .exact .inl ⟨j,z⟩
   .exact .inl ⟨i,z⟩
  .exact⟨(c.foot i b z).2.1,λ⟨j,w,q⟩=>q (c.dist j i b w z),(c.foot i b z).2.2⟩
 .exact h.elim
theorem aI.set{K:au}{F:af->Prop}{S:Nat->af->Prop}{f:aj}{m:St}{H:Hp}{i:Nat}{pv:PV}{v:V}(r:aI K F S f m H)(h:aJ K H F pv v):aI K F (λj b=>S j b/\j≠i) (f.set i (.val pv)) (m.set i (aa v)) H:=by
 have s:=r.drop i;have len:(f.set i (.val pv)).length=(m.set i (aa v)).length:=by rw[i5,i5];exact r.len
 refine⟨len,r.ex,λj p e=>?_,λj n e=>?_,λj b h=>?_,s.dist⟩
 .by_cases c:i=j
  .subst c;have g:i<f.length:=by have:=(cD.mp e).1;rw[i5]at this;exact this
   rw[fK g]at e;cases e;exact⟨v,fK (by rw[<-r.len];exact g),h⟩
  .rw[dP c]at e;obtain⟨w,q,o⟩:=r.val j p e;exact⟨w,by rw[dP c];exact q,o⟩
 .have c:i≠j:=by
   rintro rfl;have g:i<f.length:=by have:=(cD.mp e).1;rw[i5]at this;exact this
   rw[fK g]at e;cases e
  rw[dP c]at e;obtain⟨a,q,o⟩:=r.own j n e;have x:(λb=>S j b/\j≠i)=S j:=by funext b;simp[f9 c]
  exact⟨a,by rw[dP c];exact q,by rw[x];exact o⟩
 .obtain⟨⟨n,t⟩,u⟩:=s.foot j b h;refine⟨⟨n,?_⟩,u⟩;rw[dP (f9 h.2)]at t ⊢;exact t
theorem bg.less{S:Nat->af->Prop}{F:af->Prop}{H:Hp}(i:Nat):bg (U S) (U λj b=>S j b/\j≠i) F F H H:=⟨λ_ z=>z,λ_ _ z _=>z,λ_ o z=>⟨o,z⟩,λ_ z=>.inl z,λb ⟨j,z⟩=>.inl ⟨j,z.1⟩⟩
theorem aI.setOwn{K:au}{F:af->Prop}{S:Nat->af->Prop}{q:aj}{v:St}{H:Hp}{i:Nat}{s:PO}{a:af}{n:af->Prop}(r:aI K F S q v H)(o:i<q.length)(h:dE K H F s a n)(t:sK F S H n):aI K F (λj b=>(S j b/\j≠i)\/(j=i/\n b)) (q.set i (.own s)) (v.set i (aa (.ref a))) H:=by
 have A:=r.drop i;refine⟨by rw[i5,i5];exact r.len,r.ex,λj p e=>?_,λj g e=>?_,λj b h=>?_,λj k b f c=>?_⟩
 .have m:i≠j:=by rintro rfl;rw[fK o]at e;cases e
  rw[dP m]at e;obtain⟨w,f,c⟩:=r.val j p e;exact⟨w,by rw[dP m];exact f,c⟩
 .by_cases m:i=j
  .subst m;rw[fK o]at e;cases e;have u:(λb=>(S i b/\i≠i)\/(i=i/\n b))=n:=by funext b;simp
   exact⟨a,fK (by rw[<-r.len];exact o),by rw[u];exact h⟩
  .rw[dP m]at e;obtain⟨C,f,c⟩:=r.own j g e;have u:(λb=>(S j b/\j≠i)\/(j=i/\n b))=S j:=by funext b;simp[f9 m]
   exact⟨C,by rw[dP m];exact f,by rw[u];exact c⟩
 .rcases h with h|⟨rfl,h⟩
  .obtain⟨⟨g,x⟩,B⟩:=A.foot j b h;refine⟨⟨g,?_⟩,B⟩;rw[dP (f9 h.2)]at x ⊢;exact x
  .obtain⟨z,D,y⟩:=t b h;exact⟨⟨s,fK o⟩,z,y⟩
 .rcases f with f|⟨rfl,f⟩ <;> rcases c with c|⟨rfl,c⟩
  .exact r.dist j k b f.1 c.1
  .exact absurd ⟨j,f.1⟩ (t b c).2.1
  .exact absurd ⟨k,c.1⟩ (t b f).2.1
  .rfl
def dH(i:Nat)(d:aj->R PV):aj->R aQ:=λb=>(d b).bind λx a=>.ok .next (a.set i (.val x))
theorem ik(i:Nat){x:Str}{p:Pos}(t:X.N.Nodup)(s:DE X E e de)(o:i∉pin:=by decide)(q:X.N[i]?=aa x:=by rfl)(m:Loc X.env.scope x:=by first|exact Or.inl rfl|exact Or.inr rfl)(n:iV e (aa (.Name x p)) pos.line X.env=pure ak:=by rfl)(r:X.fn x=ai\/X.env.scope.names.lookup x=aa .local:=by first|exact .inl rfl|exact .inr rfl):DS X E pin (.Assign [.Name x p] e pos) (dH i de):=λF S c a H D g h=>gX (Ap t q m br n r) (s F S c a H _ g (h.bindE.imp λx b y A w j z u v f=>u y _ _ w (j.set f) (bg.less i) (gM.set o)))
def lY(i:Nat)(d:aj->R PO):aj->R aQ:=λa=>(d a).bind λx ε1=>if i<ε1.length then .ok .next (ε1.set i (.own x))else .no
theorem vD(i:Nat){x:Str}{p:Pos}{dn:aj->R PO}(J:X.N.Nodup)(I:DN X E e dn)(B:i∉pin:=by decide)(C:X.N[i]?=aa x:=by rfl)(y:Loc X.env.scope x:=by first|exact Or.inl rfl|exact Or.inr rfl)(A:iV e (aa (.Name x p)) pos.line X.env=pure ak:=by rfl)(G:X.fn x=ai\/X.env.scope.names.lookup x=aa .local:=by first|exact .inl rfl|exact .inr rfl):DS X E pin (.Assign [.Name x p] e pos) (lY i dn):=λF S q o H D t h=>by
 refine gX (Ap J C y br A G) (I F S q o H _ t ?_);unfold lY at h;cases n:dn q with
 |no=>rw[n]at h;exact h.elim
 |er c s=>rw[n]at h;exact λx P L N v K=>h x P L o N v K (gM.refl _ _)
 |ok Q g=>
  rw[n]at h;simp only[R.bind_ok]at h;intro O W M u f a T w r;by_cases m:i<g.length
  .rw[if_pos m]at h;refine h O _ _ M (u.setOwn m w λb z=>(r b z).2) ⟨f.fro,f.keep,f.there,f.fnew,λb ⟨j,z⟩=>?_⟩ (gM.set B);rcases z with z|⟨_,z⟩
   .exact f.onew b ⟨j,z.1⟩
   .exact .inr (r b z).1
  .rw[if_neg m]at h;exact h.elim
theorem iN{c:ay}{a b:List aX}{t:aj->R Bool}(r:DT X E c t)(u:fR X E pin a d1)(s:fR X E pin b d2):DS X E pin (.If c a b pos) (eM t d1 d2):=λF S p g H D q h=>by
 refine gX (Im pr pG pG) (r F S p g H _ q (h.bindE.imp λk f o m n i v j=>?_));cases k with
 |true=>exact pD (u o m f g n D i j)
 |false=>exact oX (s o m f g n D i j)
def yN:aj->R aQ:=λ_=>.no
theorem Ih{a:List aX}:fR X E pin a yN:=λ_ _ _ _ _ _ _ h=>h.elim
def eN(r:R aQ):R aQ:=match r with
 |.er _ _=>.no
 |r=>r
theorem oZ(h:DS X.nox E0 pin l d):DS X E pin l (λa=>eN (d a)):=λF S a b H D i q=>Bx.mk λm s I=>by
 have q:g7 X.K E pin b F S H (eN (d a)) D:=q;have j:g7 X.K E0 pin b F S H (d a) D:=by
  cases e:d a with
  |no=>rw[e]at q;exact q
  |er c g=>rw[e]at q;exact q.elim
  |ok f g=>rw[e]at q;cases f <;> exact q
 exact c9 ((h F S a b H D i j).run m s (I.wish _)) (λ_ _ z=>z.unwish) λ_ _ z=>z.elim
def nL(X:Cx)(f a:ay):TI:=λb H h=>Bx (∀c s,Inv X c b H s->aq (ar X.prog X.w) X.A (aK a X.env) (λv g=>aq (ar X.prog X.w) X.A (kn v) (oK X c b f h) X.xe g) X.xe s)
theorem wf{b a:ay}:PI X b a (nL X b a):=λc s _ _ _ I h=>h.run c s I
theorem uI{f a:ay}{t:TI}(h:PI X f a t){b:St}{H:Hp}{c:It->Hp->Prop}(q:t b H c):nL X f a b H c:=⟨λg s I=>h g s b H c I q⟩
def DI(X:Cx)(E:XK)(q a:ay)(d:aj->R (List PV)):Prop:=∀F S m c H n,aI X.K F S m c H ->
 Ok X.K E c F S H (d m) (λg _ p r i=>∀J f o,aS X.K i p g f->f.length<=aY->Walk J f o->(∀h j b,bg (U r) (U h) p j i b->o b)->n J i)->nL X q a c H n
def eT(i:Nat)(c:aj->R aQ):List PV->aj->R aQ
 |[],b=>.ok .next b
 |x::f,b=>match c (b.set i (.val x))with
  |.ok .next a=>eT i c f a
  |.ok .cont a=>eT i c f a
  |.ok .brk a=>.ok .next a
  |r=>r
def eZ(i:Nat)(c:aj->R (List PV))(db:aj->R aQ):aj->R aQ:=λa=>(c a).bind λb ε1=>eT i db b ε1
theorem o8(i:Nat){x:Str}{p:Pos}{o:ay}{r:List aX}{di:aj->R (List PV)}{C:aj->R aQ}(O:PassesOwn (ar X.prog X.w) X.A X.env X.xe)(hc:X.calm=ai)(hN:X.N.Nodup)(hi:DI X E (.Name x p) o di)(hb:fR X E pin r C)(hp:i∉pin:=by decide) (A:X.N[i]?=aa x:=by rfl) (P:Loc X.env.scope x:=by first|exact Or.inl rfl|exact Or.inr rfl) (hs:∀x,ma o X.env x=pure x:=by intro _;rfl)(hf:X.fn x=ai\/X.env.scope.names.lookup x=aa .local:=by first|exact .inl rfl|exact .inr rfl):DS X E pin (.For (.Name x p) o r [] pos) (eZ i di C):=λF S ε σ H D rl h=>by
 refine gX (Fk O hc wf (AK hN A P hf) pG hs) (hi F S ε σ H _ rl (h.bindE.imp λy I F1 S1 H1 Z g1 h1 J vs RR Y hz hw keep=>?_));refine GP hw (λk a n=>∃t u m,aI X.K t u m a n/\bg (U S1) (U u) F1 t H1 n/\g7 X.K E pin a t u n (eT i C (y.drop k) m) D) ⟨F1,S1,I,Z,bg.refl ..,h1⟩ (λk a n _ ⟨t,u,m,_,g,_⟩=>keep u t n g) ?_ ?_
 .rintro k v a n hv ⟨t,u,m,M,B,q⟩;obtain⟨x,A,rx⟩:=Y.back hv;have hk:k<y.length:=(cD.mp A).1;have ed:y.drop k=x::y.drop (k+1):=by rw[tT hk];congr 1;exact(cD.mp A).2
  rw[ed]at q;have K:=rx.grow B Z.fit;have r2:=M.set (i:=i) K;have Q:bg (U u) (U λj b=>u j b/\j≠i) t t n n:=bg.less i;show nj X r _ (a.set i (aa v)) n;refine hb t _ _ _ n _ r2 ?_;unfold eT at q;have q:=q.from Q (gM.set (x:=aa v) hp);cases e:C (m.set i (.val x))with
  |no=>rw[e]at q;exact q
  |er c w=>rw[e]at q;exact q
  |ok f w=>
   rw[e]at q;cases f with
   |next=>exact λW T G H3 L z N=>⟨W,T,w,L,(B.trans Q).trans z,q.from z N⟩
   |cont=>exact λW T G H3 L z N=>⟨W,T,w,L,(B.trans Q).trans z,q.from z N⟩
   |brk=>exact q
   |ret s=>exact q
 .rintro a n ⟨t,u,m,M,B,q⟩;have P:vs.length=y.length:=Y.len;rw[P,List.drop_length]at q;exact q t u a n M (bg.refl ..) (gM.refl _ _)
end
def sG(K:au)(E:XK)(i:List V)(F:af->Prop)(S:Nat->af->Prop)(H:Hp)(r:R Slot)(Q:VK):Prop:=match r with
 |.ok s h=>∀v d f a g,aI K d f h (i.map aa) a->bg (U S) (λb=>U f b\/g b) F d H a->pF K a d s v g->sK d f a g->(∀b,g b->H b=ae)->Q v a
 |.er c h=>∀x d f a,aI K d f h (i.map aa) a->bg (U S) (U f) F d H a->E c x a
 |.no=>False
def bN(K:au)(g:aj->R Slot):Sp:=λa H Q E=>∃F S b,aI K F S b (a.map aa) H/\sG K E a F S H (g b) Q
structure cF(CX:ez)(P:aG)(w:aC)(K:au)(mg:Str->Option ah)(base:ax)(x:Str)(k:Nat)(ps:List Str)(sp:Sp):Prop where
 ex:∃f fd,mg x=aa (.ref f)/\iJ P w K mg base CX k f fd ps sp/\Binds K fd ps []/\p_ K (.ref f)=ai
def back:aj->aj->Option aj
 |[],_=>aa []
 |.own _::a,.own c::b=>(back a b).map (.own c::·)
 |.own _::_,_=>ae
 |s::a,_::b=>(back a b).map (s::·)
 |_::_,[]=>ae
theorem rZ:∀{a c b:aj},back a c=aa b->b.length=a.length/\∀(i:Nat) (s:Slot),b[i]?=aa s->(∃g f,a[i]?=aa (.own g)/\c[i]?=aa (.own f)/\s=.own f)\/(a[i]?=aa s/\∀g,s≠.own g)
 |[],_,b,h=>by cases h;exact⟨rfl,λi s e=>by simp at e⟩
 |.own g::a,.own f::c,b,h=>by
  unfold back at h;cases e:back a c with
  |none=>rw[e]at h;cases h
  |some r=>
   rw[e]at h;cases h;obtain⟨l,q⟩:=rZ e;refine⟨by simp[l],λi s d=>?_⟩;cases i with
   |zero=>simp at d;subst d;exact .inl ⟨g,f,rfl,rfl,rfl⟩
   |succ i=>simpa using q i s (by simpa using d)
 |.own g::a,.none::c,b,h=>by cases h
 |.own g::a,.val _::c,b,h=>by cases h
 |.own g::a,[],b,h=>by cases h
 |.none::a,[],b,h=>by cases h
 |.val _::a,[],b,h=>by cases h
 |.none::a,x::c,b,h=>by
  have h:(back a c).map (Slot.none::·)=aa b:=by unfold back at h;cases x <;> exact h
  cases e:back a c with
  |none=>rw[e]at h;cases h
  |some r=>
   rw[e]at h;cases h;obtain⟨l,q⟩:=rZ e;refine⟨by simp[l],λi s d=>?_⟩;cases i with
   |zero=>simp at d;subst d;exact .inr ⟨rfl,λ_ z=>by cases z⟩
   |succ i=>simpa using q i s (by simpa using d)
 |.val pv::a,x::c,b,h=>by
  have h:(back a c).map (Slot.val pv::·)=aa b:=by unfold back at h;cases x <;> exact h
  cases e:back a c with
  |none=>rw[e]at h;cases h
  |some r=>
   rw[e]at h;cases h;obtain⟨l,q⟩:=rZ e;refine⟨by simp[l],λi s d=>?_⟩;cases i with
   |zero=>simp at d;subst d;exact .inr ⟨rfl,λ_ z=>by cases z⟩
   |succ i=>simpa using q i s (by simpa using d)
def bI(n:Nat)(d:aj->R aQ):aj->R Slot:=λf=>match d (f++cQ n .none)with
 |.ok (.ret r) a=>(a6 (back f a) []).bind λb _=>.ok r b
 |.ok .next a=>(a6 (back f a) []).bind λb _=>.ok (.val .non) b
 |.er c a=>(a6 (back f a) []).bind λb _=>.er c b
 |_=>.no
section
variable{K:au}{F u:af->Prop}{S o:Nat->af->Prop}{c l m:aj}{f:St}{H t:Hp}{d:List V}
theorem aI.start(r:aI K F S c (d.map aa) H)(n:Nat):aI K F S (c++cQ n .none) (d.map aa++cQ n ae) H:=by
 have y:c.length=(d.map aa).length:=r.len;have no:∀{j:Nat}{s:Slot},(c++cQ n Slot.none)[j]?=aa s->s≠.none->c[j]?=aa s:=λ{j s} e x=>by
  by_cases A:j<c.length
  .rw[f_ A]at e;exact e
  .rw[mf ∅,List.getElem?_replicate]at e;split at e
   .exact absurd (dO e).symm x
   .cases e
 have p:∀{j:Nat}{v:Option V},(d.map aa)[j]?=aa v->(d.map aa++cQ n ae)[j]?=aa v:=λ{j v} e=>by rw[f_ (cD.mp e).1];exact e
 refine⟨by simp[y],r.ex,λj pv e=>?_,λj a e=>?_,λj b h=>?_,r.dist⟩
 .obtain⟨v,i,g⟩:=r.val j pv (no e (by intro z;cases z));exact⟨v,p i,g⟩
 .obtain⟨v,i,g⟩:=r.own j a (no e (by intro z;cases z));exact⟨v,p i,g⟩
 .obtain⟨⟨a,q⟩,w⟩:=r.foot j b h;exact⟨⟨a,by rw[f_ (cD.mp q).1];exact q⟩,w⟩
theorem yq{i:PO}{a:af}{n:af->Prop}(h:dE K H F i a n)(j:gR i=ai):∀b,n b↔b=a:=by
 cases i with
 |lst p=>exact h.2
 |dK g=>exact h.2
 |lls q=>cases j
 |ins C fs=>exact h.2
 |dT g=>exact h.2
 |dN g=>exact h.2
 |inl C fs y p=>cases j
theorem Ev{g:PO}{a:af}{i:af->Prop}(h:dE K H F g a i):i a:=by
 cases g with
 |lst j=>exact(h.2 a).mpr rfl
 |dK b=>exact(h.2 a).mpr rfl
 |lls n=>obtain⟨p,_,_,_,_,w⟩:=h;exact(w a).mpr (.inl rfl)
 |ins C fs=>exact(h.2 a).mpr rfl
 |dT b=>exact(h.2 a).mpr rfl
 |dN b=>exact(h.2 a).mpr rfl
 |inl C fs y j=>obtain⟨_,_,_,_,_,_,_,_,_,_,w⟩:=h;exact(w a).mpr (.inl rfl)
theorem aI.back{X:af->Prop}{C:List Nat}{n:Nat}(B:aI K F S c (d.map aa) H)(r:aI K u o l f t)(g:bg (U S) X F u H t)(p:gM C (d.map aa++cQ n ae) f)(P:∀(i:Nat) (s:PO),c[i]?=aa (.own s)->i∈C)(Q:back c l=aa m):∃A,aI K u A m (d.map aa) t/\(∀b,U A b->U o b)/\((∀(i:Nat) (s:PO),c[i]?=aa (.own s)->gR s=ai)->∀b,U S b->U A b):=by
 obtain⟨L,E⟩:=rZ Q;have inj:∀(i:Nat) (s:PO),c[i]?=aa (.own s)->∃a,(d.map aa)[i]?=aa (aa (.ref a))/\f[i]?=aa (aa (.ref a))/\dE K H F s a (S i):=λi s e=>by obtain⟨a,x,y⟩:=B.own i s e;refine⟨a,x,?_,y⟩;rw[p i (P i s e),f_ (cD.mp x).1];exact x
 have bk:∀(i:Nat) (s:PO),c[i]?=aa (.own s)->∃w,m[i]?=aa (.own w)/\l[i]?=aa (.own w):=λi s e=>by
  have M:i<m.length:=by rw[L];exact(cD.mp e).1
  rcases E i m[i] (by simp[M])with⟨p1,p2,q1,q2,q3⟩|⟨q1,q2⟩
  .exact⟨p2,by rw[eE M,q3],q2⟩
  .rw[e]at q1;exact absurd (dO q1).symm (q2 s)
 refine⟨λi b=>o i b/\∃s,c[i]?=aa (.own s),⟨by rw[L];exact B.len,r.ex,λi pv e=>?_,λi s e=>?_,λi b h=>?_,λi j b x y=>r.dist i j b x.1 y.1⟩,λb ⟨i,h⟩=>⟨i,h.1⟩,λO b ⟨i,h⟩=>?_⟩
 .rcases E i _ e with⟨_,_,_,_,z⟩|⟨q1,_⟩
  .cases z
  .obtain⟨v,x,y⟩:=B.val i pv q1;exact⟨v,x,y.grow g B.fit⟩
 .rcases E i _ e with⟨p1,p2,q1,q2,q3⟩|⟨_,q2⟩
  .cases q3;obtain⟨a,x,y,N⟩:=inj i p1 q1;obtain⟨W,D,G⟩:=r.own i s q2;rw[y]at D;cases D;refine⟨a,x,?_⟩;have T:(λb=>o i b/\∃s,c[i]?=aa (.own s))=o i:=by funext b;exact propext ⟨λz=>z.1,λz=>⟨z,p1,q1⟩⟩
   rw[T];exact G
  .exact absurd rfl (q2 s)
 .obtain⟨s,q⟩:=h.2;obtain⟨w,J,I⟩:=bk i s q;exact⟨⟨w,J⟩,(r.foot i b h.1).2⟩
 .obtain⟨⟨s,q⟩,_⟩:=B.foot i b h;obtain⟨a,x,y,N⟩:=inj i s q;obtain⟨w,J,I⟩:=bk i s q;obtain⟨W,D,G⟩:=r.own i w I;rw[y]at D;cases D;have e:b=a:=(yq N (O i s q) b).mp h;exact⟨i,e ▸ Ev G,s,q⟩
end
theorem sF{K:au}{E:XK}{a:List V}{F:af->Prop}{S:Nat->af->Prop}{H:Hp}{r:R Slot}{Q:VK}(h:sG K E a F S H r Q):r≠.no:=λz=>by rw[z]at h;exact h
theorem Cn{K:au}{g:aj->R Slot}{m:Nat}(f:∀a,g a≠.no->a.length=m):∀b H Q E,bN K g b H Q E->b.length=m:=λb H Q E ⟨F,S,a,c,ok⟩=>by have:=f a (sF ok);have d:=c.len;rw[fg]at d;lia
theorem IE{X:Cx}{E:XK}{t:List aX}{N O:List Str}{s:List V}{H:Hp}{Q:VK}{n:Nat}{g:aj->R Slot}{d:aj->R aQ}{y:List Nat}(hn:N.length=O.length+n)(aZ:∀a,g a≠.no->a.length=O.length) (iD:∀a,g a≠.no->∀(i:Nat) po,a[i]?=aa (.own po)->i∈y) (Y:∀a p m,g a=.ok p m->(∃pv,p=.val pv)\/∀(i:Nat) po,a[i]?=aa (.own po)->gR po=ai) (hg:∀a,g a≠.no->bI n d a=g a)(hb:fR X E y t d) (jT:bN X.K g s H Q E):nj X t {nx:=λ_ l=>Q .non l,rt:=Q} (L2.start N s) H:=by
 obtain⟨F,S,a,K,ok⟩:=jT;have hl:=aZ a (sF ok);have h2:=K.len;rw[fg]at h2;have es:L2.start N s=s.map aa++cQ n ae:=by unfold L2.start;rw[show N.length-s.length=n by lia]
 rw[es];refine hb F S _ _ H _ (K.start n) ?_;have T:=iD a (sF ok);have Z:=hg a (sF ok);have J:=Y a;rw[<-Z]at ok J;unfold bI at ok J;generalize d (a++cQ n .none)=r at ok J ⊢;cases r with
 |no=>exact ok
 |er c h=>
  intro x q B j l C f D;have ok:sG X.K E s F S H ((a6 (back a h) []).bind λm _=>.er c m) Q:=ok;cases e:back a h with
  |none=>rw[e]at ok;exact ok.elim
  |some m=>rw[e]at ok;obtain⟨A,u,o,_⟩:=K.back C f D T e;exact ok x q A l u ⟨f.fro,f.keep,f.there,f.fnew,λb z=>f.onew b (o b z)⟩
 |ok fl h=>
  have G:∀(p:Slot),(∀m,back a h=aa m->(∃pv,p=.val pv)\/∀(i:Nat) po,a[i]?=aa (.own po)->gR po=ai)->sG X.K E s F S H ((a6 (back a h) []).bind λm _=>.ok p m) Q->∀(v:V) q B j l I,aI X.K q B h j l->bg (U S) (λb=>U B b\/I b) F q H l->gM y (s.map aa++cQ n ae) j->pF X.K l q p v I->sK q B l I->Q v l:=by
   intro p M ok v q B j l I C f D P L;cases e:back a h with
   |none=>rw[e]at ok;exact ok.elim
   |some m=>
    rw[e]at ok;obtain⟨A,u,o,W⟩:=K.back C f D T e;refine ok v q A l I u ⟨f.fro,f.keep,f.there,f.fnew,λb z=>f.onew b (z.imp (o b) id)⟩ P (λb z=>⟨(L b z).1,λw=>(L b z).2.1 (o b w),(L b z).2.2⟩) λb z=>?_;rcases M m e with⟨pv,rfl⟩|hf
    .exact absurd z (P.2 b)
    rcases f.onew b (.inr z)with w|w
    .exact absurd (o b (W hf b w)) (L b z).2.1
    .exact w
  cases fl with
  |brk=>exact ok.elim
  |cont=>exact ok.elim
  |ret p=>exact G p (λm e=>J p m (by show(a6 (back a h) []).bind _=_;rw[e];rfl)) ok
  |next=>exact λq B j l C f D=>G (.val .non) (λ_ _=>.inl ⟨_,rfl⟩) ok .non q B j l (λ_=>False) C ⟨f.fro,f.keep,f.there,f.fnew,λb z=>z.elim (f.onew b) jF⟩ D ⟨rfl,λ_ z=>z⟩ λ_ z=>z.elim
theorem xy{f:af}{p:fM}{C:ez}{P:aG}{w:aC}{K:au}{u:Str->Option ah}{j:ax}{x b:Str}{h:aX}{N l:List Str}{k n:Nat}{g:aj->R Slot}{d:aj->R aQ}{m:List Nat}(Z:lM K x b h f p)(Y:cb N l (aU h))(O:N.length=l.length+n)(hb:∀(kV o t:ah) (y:Option af) (B v:ah) (q:List ah),q.length=l.length->ef (g_ x b (im h) (eR h) (aU h) .none kV o t y B v) ⟨q,[]⟩=pure (l.zip q))(z:∀c,g c≠.no->c.length=l.length) (L:∀c,g c≠.no->∀(i:Nat) po,c[i]?=aa (.own po)->i∈m) (G:∀c r X,g c=.ok r X->(∃pv,r=.val pv)\/∀(i:Nat) po,c[i]?=aa (.own po)->gR po=ai) (S:∀c,g c≠.no->bI n d c=g c)(T:∀(A:aH) (a:List Env) (s:am) (H:Hp) (E:XK),Room k (A.deeper (g9 b (aU h) s.heap.objs.size f p.code))->fR (fY C P w K u j N b (aU h) f p.code A a s H E) E m (eR h) d):iJ P w K u j C (k+1) f p l (bN K g):=by obtain⟨oc,od,kV,o,t,y,B,v,D,rfl,I,W⟩:=Z.ex;exact BS I W Y (Cn z) λA a s H vs Q E M J=>⟨_,pG,IE O z L G S (T A a s H E M) J⟩
theorem zc{f:af}{t:fM}{z:ez}{P:aG}{w:aC}{K:au}{v:Str->Option ah}{l:ax}{x b:Str}{j:aX}{N m:List Str}{k n:Nat}{g:aj->R Slot}{d:aj->R aQ}{p:List Nat}(Q:lM K x b j f t)(O:cb N m (aU j))(C:N.length=m.length+n)(G:∀(kV u B:ah) (L:Option af) (q J:ah) (r:List ah),r.length=m.length->ef (g_ x b (im j) (eR j) (aU j) .none kV u B L q J) ⟨r,[]⟩=pure (m.zip r))(M:∀c,g c≠.no->c.length=m.length) (y:∀c,g c≠.no->∀(i:Nat) o,c[i]?=aa (.own o)->i∈p/\gR o=ai) (D:∀c,g c≠.no->bI n d c=g c)(I:∀(f:af) (q:ah) (A:aH) (a:List Env) (s:am) (H:Hp) (E:XK),Room k (A.deeper (g9 b (aU j) s.heap.objs.size f q))->fR (fY z P w K v l N b (aU j) f q A a s H E) E p (eR j) d):iJ P w K v l z (k+1) f t m (bN K g):=xy Q O C G M (λc h i o e=>(y c h i o e).1) (λc S T h=>.inr λi o e=>(y c (by rw[h];exact nofun) i o e).2) D λA a s H E=>I f t.code A a s H E
theorem IV{u:ez}{P:aG}{w:aC}{K:au}{p:Str->Option ah}{c:ax}{x:Str}{b:aX}{N j:List Str}{k n:Nat}{g:aj->R Slot}{d:aj->R aQ}{l:List Nat}(D:cE K p x b)(O:cb N j (aU b))(z:N.length=j.length+n)(t:∀(kV q v:ah) (L:Option af) (m J:ah) (o:List ah),o.length=j.length->ef (g_ x x (im b) (eR b) (aU b) .none kV q v L m J) ⟨o,[]⟩=pure (j.zip o))(M:∀a,g a≠.no->a.length=j.length) (y:∀a,g a≠.no->∀(i:Nat) po,a[i]?=aa (.own po)->i∈l/\gR po=ai) (C:∀a,g a≠.no->bI n d a=g a)(G:∀(f:af) (m:ah) (A:aH) (h:List Env) (s:am) (H:Hp) (E:XK),Room k (A.deeper (g9 x (aU b) s.heap.objs.size f m))->fR (fY u P w K p c N x (aU b) f m A h s H E) E l (eR b) d):cF u P w K p c x (k+1) j (bN K g):=by obtain⟨f,I,B,r⟩:=D.ex;exact⟨f,I,B,zc r O z t M y C G,r.binds t,r.kp⟩
abbrev bB:=Sum PV Nat
def gi(K:au)(b:St)(F:af->Prop)(H:Hp):List bB->List V->Prop
 |[],a=>a=[]
 |.inl pv::c,a=>∃v r,a=v::r/\aJ K H F pv v/\gi K b F H c r
 |.inr i::c,a=>∃v r,a=v::r/\b[i]?=aa (aa v)/\gi K b F H c r
def DG(X:Cx)(E:XK)(g:List ay)(d:aj->R (List bB)):Prop :=
 ∀F S b a H Q,aI X.K F S b a H->Ok X.K E a F S H (d b) (λh _ i _ f=>∀c,gi X.K a i f h c->Q c f)->lw X g a H Q
section
variable{X:Cx}{E:XK}{e:ay}{b:List ay}{de:aj->R PV}{c:aj->R (List bB)}{f:Pos}
def b_:aj->R (List bB):=λε=>.ok [] ε
def gV(d:aj->R PV)(c:aj->R (List bB)):aj->R (List bB):=λε=>(d ε).bind λx ε1=>(c ε1).bind λg a=>.ok (.inl x::g) a
def gO(i:Nat)(c:aj->R (List bB)):aj->R (List bB):=λd=>match d[i]? with
 |some (.own _)=>(c d).bind λg a=>.ok (.inr i::g) a
 |_=>.no
theorem cn:DG X E [] b_:=λF S g d H Q a h=>lK ju (h F S H a (bg.refl ..) _ rfl)
theorem CS(r:DE X E e de)(q:DG X E b c)(p:aM (e::b) X.env=(ak,aK e X.env)::aM b X.env:=by rfl):DG X E (e::b) (gV de c):=λF S j d H Q n h=>by refine lK (gT br eP p) (r F S j d H _ n ((Ok.bind h).imp λx a D z B g I t v m=>?_));refine q D z a d B _ g ((Ok.bind t).imp λG i C y A o u s l w=>?_);exact s C y A o (bg.refl ..) _ ⟨v,l,rfl,m.grow u g.fit,w⟩
theorem kL(i:Nat){x:Str}{p:Pos}(t:DG X E b c)(v:X.N[i]?=aa x:=by rfl)(r:gm X.env.scope x:=by eq_refl)(u:(x==("__debug__":Str))=ak:=by decide)(z:(x==("__classdict__":Str))=ak:=by decide) (s:aM (.Name x p::b) X.env=(ak,aK (.Name x p) X.env)::aM b X.env:=by rfl):DG X E (.Name x p::b) (gO i c):=λF S m j H Q d h=>by
 unfold gO at h;split at h
 .rename_i q e;obtain⟨a,g,_⟩:=d.own i q e;refine lK (gT (iK v r u z) eP s) ⟨_,g,t F S m j H _ d ((Ok.bind h).imp λD l C A B o G w n y=>?_)⟩;exact w C A B o (bg.refl ..) _ ⟨_,n,rfl,g,y⟩
 .exact h.elim
end
def fH(a:aj):List bB->Option aj
 |[]=>aa []
 |.inl pv::b=>(fH a b).map (.val pv::·)
 |.inr i::b=>match a[i]? with
  |some (.own c)=>(fH a b).map (.own c::·)
  |_=>ae
def gh:aj->List bB->aj->aj
 |a,.inl _::c,_::b=>gh a c b
 |a,.inr i::c,s::b=>gh (a.set i s) c b
 |a,_,_=>a
def cz:List bB->List Nat
 |[]=>[]
 |.inl _::as=>cz as
 |.inr i::as=>i::cz as
theorem yQ:∀{as:List bB}{i:Nat},i∈cz as↔∃k:Nat,as[k]?=aa (.inr i)
 |[],i=>by simp[cz]
 |.inl _::as,i=>by
  unfold cz;rw[yQ];constructor
  .rintro⟨k,h⟩;exact⟨k+1,by simpa using h⟩
  .rintro⟨k,h⟩;cases k with
   |zero=>simp at h
   |succ k=>exact⟨k,by simpa using h⟩
 |.inr j::as,i=>by
  unfold cz;rw[bw,yQ];constructor
  .rintro(rfl|⟨k,h⟩)
   .exact⟨0,rfl⟩
   .exact⟨k+1,by simpa using h⟩
  .rintro⟨k,h⟩;cases k with
   |zero=>simp at h;exact .inl h.symm
   |succ k=>exact .inr ⟨k,by simpa using h⟩
theorem sy{d:aj}:∀{a:List bB}{c:aj},fH d a=aa c->c.length=a.length/\∀(k:Nat) (s:Slot),c[k]?=aa s->(∃pv,a[k]?=aa (.inl pv)/\s=.val pv)\/∃i f,a[k]?=aa (.inr i)/\d[i]?=aa (.own f)/\s=.own f
 |[],c,h=>by cases h;exact⟨rfl,λk s e=>by simp at e⟩
 |.inl pv::a,c,h=>by
  unfold fH at h;cases e:fH d a with
  |none=>rw[e]at h;cases h
  |some r=>
   rw[e]at h;cases h;obtain⟨l,q⟩:=sy e;refine⟨by simp[l],λk s b=>?_⟩;cases k with
   |zero=>simp at b;exact .inl ⟨pv,rfl,b.symm⟩
   |succ k=>simpa using q k s (by simpa using b)
 |.inr i::a,c,h=>by
  unfold fH at h;split at h
  .rename_i f g;cases e:fH d a with
   |none=>rw[e]at h;cases h
   |some r=>
    rw[e]at h;cases h;obtain⟨l,q⟩:=sy e;refine⟨by simp[l],λk s b=>?_⟩;cases k with
    |zero=>simp at b;exact .inr ⟨i,f,rfl,g,b.symm⟩
    |succ k=>simpa using q k s (by simpa using b)
  .cases h
theorem rA:∀(c:List bB) (a b:aj),(gh a c b).length=a.length
 |[],a,b=>by cases b <;> rfl
 |.inl _::c,a,[]=>rfl
 |.inr _::c,a,[]=>rfl
 |.inl _::c,a,s::b=>rA c a b
 |.inr i::c,a,s::b=>by show(gh (a.set i s) c b).length=_;rw[rA,i5]
theorem nJ:∀(a:List bB) (b c:aj) (j:Nat),j∉cz a->(gh b a c)[j]?=b[j]?
 |[],b,c,j,_=>by cases c <;> rfl
 |.inl _::a,b,[],j,_=>rfl
 |.inr _::a,b,[],j,_=>rfl
 |.inl _::a,b,s::c,j,h=>nJ a b c j h
 |.inr i::a,b,s::c,j,h=>by
  have d:¬(j=i\/j∈cz a):=by simpa[cz]using h
  show(gh (b.set i s) a c)[j]?=_;rw[nJ a _ c j λz=>d (.inr z),dP λz=>d (.inl z.symm)]
theorem oC:∀(a:List bB) (b c:aj) (j k:Nat) (s:Slot),(cz a).Nodup->j<b.length->a[k]?=aa (.inr j)->c[k]?=aa s->(gh b a c)[j]?=aa s
 |[],b,c,j,k,s,_,_,h,_=>by simp at h
 |_::a,b,[],j,k,s,_,_,_,h=>by simp at h
 |.inl _::a,b,t::c,j,0,s,_,_,h,_=>by simp at h
 |.inl _::a,b,t::c,j,k+1,s,nd,hj,h,g=>oC a b c j k s nd hj (by simpa using h) (by simpa using g)
 |.inr i::a,b,t::c,j,0,s,nd,hj,h,g=>by simp at h g;subst h g;have d:i∉cz a:=(k7.mp nd).1;show(gh (b.set i t) a c)[i]?=_;rw[nJ a _ c i d,fK hj]
 |.inr i::a,b,t::c,j,k+1,s,nd,hj,h,g=>oC a (b.set i t) c j k s (k7.mp nd).2 (by rw[i5];exact hj) (by simpa using h) (by simpa using g)
theorem gi.len{K:au}{b:St}{F:af->Prop}{H:Hp}:∀{a:List bB}{vs:List V},gi K b F H a vs->vs.length=a.length
 |[],_,h=>by rw[show _=[] from h];rfl
 |.inl _::a,_,⟨v,r,e,_,h⟩=>by rw[e,eh,eh,gi.len h]
 |.inr _::a,_,⟨v,r,e,_,h⟩=>by rw[e,eh,eh,gi.len h]
theorem gi.val{K:au}{d:St}{F:af->Prop}{H:Hp}:∀{as:List bB}{c:List V}{k:Nat}{pv:PV},gi K d F H as c->as[k]?=aa (.inl pv)->∃v,c[k]?=aa v/\aJ K H F pv v
 |[],_,k,_,_,e=>by simp at e
 |.inl x::as,_,0,pv,⟨v,r,e,h,_⟩,q=>by simp at q;subst q e;exact⟨v,rfl,h⟩
 |.inr _::as,_,0,pv,_,q=>by simp at q
 |.inl x::as,_,k+1,pv,⟨v,r,e,_,h⟩,q=>by obtain⟨w,a,b⟩:=gi.val (k:=k) h (by simpa using q);subst e;exact⟨w,by simpa using a,b⟩
 |.inr x::as,_,k+1,pv,⟨v,r,e,_,h⟩,q=>by obtain⟨w,a,b⟩:=gi.val (k:=k) h (by simpa using q);subst e;exact⟨w,by simpa using a,b⟩
theorem gi.own{K:au}{c:St}{F:af->Prop}{H:Hp}:∀{as:List bB}{d:List V}{k i:Nat},gi K c F H as d->as[k]?=aa (.inr i)->∃v,d[k]?=aa v/\c[i]?=aa (aa v)
 |[],_,k,_,_,e=>by simp at e
 |.inr x::as,_,0,pv,⟨v,r,e,h,_⟩,q=>by simp at q;subst q e;exact⟨v,rfl,h⟩
 |.inl _::as,_,0,pv,_,q=>by simp at q
 |.inl x::as,_,k+1,pv,⟨v,r,e,_,h⟩,q=>by obtain⟨w,a,b⟩:=gi.own (k:=k) h (by simpa using q);subst e;exact⟨w,by simpa using a,b⟩
 |.inr x::as,_,k+1,pv,⟨v,r,e,_,h⟩,q=>by obtain⟨w,a,b⟩:=gi.own (k:=k) h (by simpa using q);subst e;exact⟨w,by simpa using a,b⟩
section
variable{K:au}{F y:af->Prop}{S m:Nat->af->Prop}{c s f:aj}{t:St}{H u:Hp}{as:List bB}{d:List V}
def j8(as:List bB)(S:Nat->af->Prop)(k:Nat)(b:af):Prop:=∃i,as[k]?=aa (.inr i)/\S i b
theorem se(b:af)(h:U (j8 as S) b):U S b:=let ⟨_,i,_,h⟩:=h;⟨i,h⟩
theorem sS:∀{as:List bB}{i k l:Nat},(cz as).Nodup->as[k]?=aa (.inr i)->as[l]?=aa (.inr i)->k=l
 |[],_,_,_,_,h,_=>by simp at h
 |.inl _::as,i,0,_,_,h,_=>by simp at h
 |.inl _::as,i,_,0,_,_,h=>by simp at h
 |.inl _::as,i,k+1,l+1,nd,h1,h2=>by rw[sS (as:=as) (i:=i) (k:=k) (l:=l) nd (by simpa using h1) (by simpa using h2)]
 |.inr j::as,i,0,0,_,_,_=>rfl
 |.inr j::as,i,0,l+1,nd,h1,h2=>by simp at h1;subst h1;exact absurd (yQ.mpr ⟨l,by simpa using h2⟩) (k7.mp nd).1
 |.inr j::as,i,k+1,0,nd,h1,h2=>by simp at h2;subst h2;exact absurd (yQ.mpr ⟨k,by simpa using h1⟩) (k7.mp nd).1
 |.inr j::as,i,k+1,l+1,nd,h1,h2=>by rw[sS (as:=as) (i:=i) (k:=k) (l:=l) (k7.mp nd).2 (by simpa using h1) (by simpa using h2)]
theorem aI.cal(r:aI K F S c t H)(B:gi K t F H as d)(J:fH c as=aa s)(I:(cz as).Nodup):aI K F (j8 as S) s (d.map aa) H:=by
 obtain⟨E,A⟩:=sy J;have C:∀{k:Nat}{v:V},d[k]?=aa v->(d.map aa)[k]?=aa (aa v):=λ{k v} e=>by rw[iY,e];rfl
 refine⟨by rw[E,fg,B.len],r.ex,λk pv e=>?_,λk D e=>?_,λk b h=>?_,λk l b g o=>?_⟩
 .rcases A k _ e with⟨p,q1,n⟩|⟨_,_,_,_,z⟩
  .cases n;obtain⟨v,x,w⟩:=B.val q1;exact⟨v,C x,w⟩
  .cases z
 .rcases A k _ e with⟨_,_,z⟩|⟨i,p,q1,n,q3⟩
  .cases z
  .cases q3;obtain⟨v,x,w⟩:=B.own q1;obtain⟨a,b1,b2⟩:=r.own i D n;rw[w]at b1;cases b1;have L:j8 as S k=S i:=by
    funext b;exact propext ⟨λ⟨j,g,o⟩=>by rw[q1]at g;cases g;exact o,λh=>⟨i,q1,h⟩⟩
   exact⟨a,C x,by rw[L];exact b2⟩
 .obtain⟨i,g,o⟩:=h;obtain⟨⟨D,q⟩,n⟩:=r.foot i b o;have G:k<s.length:=by rw[E];exact(cD.mp g).1
  refine⟨?_,n⟩;rcases A k s[k] (by simp[G])with⟨_,z,_⟩|⟨j,p,z1,z2,z3⟩
  .rw[g]at z;cases z
  .exact⟨p,by rw[eE G,z3]⟩
 .obtain⟨i,x,w⟩:=g;obtain⟨j,b1,b2⟩:=o;have:=r.dist i j b w b2;subst this;exact sS I x b1
theorem aI.called{O':af->Prop}(r:aI K F S c t H)(ha:gi K t F H as d)(hs:fH c as=aa s)(O:(cz as).Nodup)(M:aI K y m f (d.map aa) u)(g:bg (U (j8 as S)) O' F y H u)(hO:∀b,U m b->O' b)(Z:∀(k:Nat) i,as[k]?=aa (.inr i)->∃C,f[k]?=aa (.own C)):∃X,aI K y X (gh c as f) t u/\bg (U S) (U X) F y H u/\∀b,U X b->U m b\/U S b:=by
 have up:∀{k:Nat}{v:V},(d.map aa)[k]?=aa (aa v)->d[k]?=aa v:=λ{k v} e=>by
  rw[iY]at e;cases q:d[k]? with
  |none=>rw[q]at e;cases e
  |some x=>rw[q]at e;cases e;rfl
 have fit:Fit (U (j8 as S)) F H:=λb h=>r.fit b (se b h);have J:∀i C,c[i]?=aa (.own C)->i<c.length:=λi C e=>(cD.mp e).1;have lt:∀(k:Nat) i,as[k]?=aa (.inr i)->i<c.length:=λk i e=>by
  obtain⟨hl,hg⟩:=sy hs;have D:k<s.length:=by rw[hl];exact(cD.mp e).1
  rcases hg k s[k] (by simp[D])with⟨_,z,_⟩|⟨j,p,z1,z2,z3⟩
  .rw[e]at z;cases z
  .rw[e]at z1;cases z1;exact J _ _ z2
 refine⟨λj b=>(∃k:Nat,as[k]?=aa (.inr j)/\m k b)\/(j∉cz as/\S j b),⟨by rw[rA];exact r.len,M.ex,λj pv e=>?_,λj C e=>?_,λj b h=>?_,λi j b A B=>?_⟩,⟨g.fro,λb o e n=>g.keep b o e λz=>n (se b z),g.there,λa z=>(g.fnew a z).imp id λw=>w.imp id (se a),λb ⟨j,z⟩=>?_⟩,λb ⟨j,z⟩=>?_⟩
 .by_cases G:j∈cz as
  .obtain⟨k,D⟩:=yQ.mp G;obtain⟨C,q⟩:=Z k j D;rw[oC as c f j k _ O (lt k j D) D q]at e;cases e
  .rw[nJ as c f j G]at e;obtain⟨v,A,B⟩:=r.val j pv e;exact⟨v,A,B.grow g fit⟩
 .by_cases G:j∈cz as
  .obtain⟨k,D⟩:=yQ.mp G;obtain⟨po',q⟩:=Z k j D;rw[oC as c f j k _ O (lt k j D) D q]at e;cases e;obtain⟨a,A,B⟩:=M.own k C q;obtain⟨v,P,W⟩:=ha.own D;rw[up A]at P;cases P;have T:(λb=>(∃k:Nat,as[k]?=aa (.inr j)/\m k b)\/(j∉cz as/\S j b))=m k:=by
    funext b;refine propext ⟨λz=>?_,λz=>.inl ⟨k,D,z⟩⟩;rcases z with⟨l,z1,z2⟩|⟨z,_⟩
    .rw[sS O D z1];exact z2
    .exact absurd G z
   exact⟨a,W,by rw[T];exact B⟩
  .rw[nJ as c f j G]at e;obtain⟨a,A,B⟩:=r.own j C e;have T:(λb=>(∃k:Nat,as[k]?=aa (.inr j)/\m k b)\/(j∉cz as/\S j b))=S j:=by
    funext b;refine propext ⟨λz=>?_,λz=>.inr ⟨G,z⟩⟩;rcases z with⟨l,z1,z2⟩|⟨_,z⟩
    .exact absurd (yQ.mpr ⟨l,z1⟩) G
    .exact z
   have h3:dE K u y C a (S j):=by refine B.mono (λ_ _ q=>q.grow g fit) (λ_ _ q=>q.grow g fit) λb o z q=>g.keep b o q λ⟨l,i,L,I⟩=>?_;have:=r.dist i j b I z;subst this;exact G (yQ.mpr ⟨l,L⟩)
   exact⟨a,A,by rw[T];exact h3⟩
 .rcases h with⟨k,A,B⟩|⟨A,B⟩
  .obtain⟨⟨C,q⟩,Q⟩:=M.foot k b B;exact⟨⟨C,oC as c f j k _ O (lt k j A) A q⟩,Q⟩
  .obtain⟨⟨C,q⟩,Q,o,N,q4⟩:=r.foot j b B;have no:¬U (j8 as S) b:=λ⟨l,i,L,I⟩=>by have:=r.dist i j b I B;subst this;exact A (yQ.mpr ⟨l,L⟩)
   refine⟨⟨C,by rw[nJ as c f j A];exact q⟩,λz=>?_,o,g.keep b o N no,q4⟩;rcases g.fnew b z with w|w|w
   .exact Q w
   .rw[N]at w;cases w
   .exact no w
 .have E:∀{i j:Nat}{b:af},(∃k:Nat,as[k]?=aa (.inr i)/\m k b)->(j∉cz as/\S j b)->False:=λ{i j b} ⟨k,L,I⟩ ⟨w3,Y⟩=>by
   obtain⟨_,_,o,N,_⟩:=r.foot j b Y;rcases g.onew b (hO b ⟨k,I⟩)with⟨l,i',z1,z2⟩|z
   .have:=r.dist i' j b z2 Y;subst this;exact w3 (yQ.mpr ⟨l,z1⟩)
   .rw[N]at z;cases z
  rcases A with A|A <;> rcases B with B|B
  .obtain⟨k,P,W⟩:=A;obtain⟨l,b1,b2⟩:=B;have:=M.dist k l b W b2;subst this;rw[P]at b1;cases b1;rfl
  .exact(E A B).elim
  .exact(E B A).elim
  .exact r.dist i j b A.2 B.2
 .rcases z with⟨k,_,z⟩|⟨_,z⟩
  .rcases g.onew b (hO b ⟨k,z⟩)with w|w
   .exact .inl (se b w)
   .exact .inr w
  .exact .inl ⟨j,z⟩
 .rcases z with⟨k,_,z⟩|⟨_,z⟩
  .exact .inl ⟨k,z⟩
  .exact .inr ⟨j,z⟩
end
def DR(X:Cx)(E:XK)(e:ay)(d:aj->R Slot):Prop :=
 ∀F S f a H Q,aI X.K F S f a H->Ok X.K E a F S H (d f) (λs _ h i c=>∀v g,pF X.K c h s v g->(∀b,g b->H b=ae/\¬h b/\¬U i b/\∃o,c b=aa o/\dq o)->Q v c)->gq X e a H Q
def g6:List bB->aj->Bool
 |[],_=>ai
 |.inl _::as,_::ss=>g6 as ss
 |.inr _::as,.own _::ss=>g6 as ss
 |_,_=>ak
theorem lS:∀{as:List bB}{ss:aj},g6 as ss=ai->∀(k:Nat) i,as[k]?=aa (.inr i)->∃a,ss[k]?=aa (.own a)
 |[],_,_,k,i,h=>by simp at h
 |.inl _::as,s::ss,q,0,i,h=>by simp at h
 |.inl _::as,s::ss,q,k+1,i,h=>by simpa using lS (as:=as) (ss:=ss) (by unfold g6 at q;exact q) k i (by simpa using h)
 |.inr _::as,.own a::ss,q,0,i,h=>⟨a,rfl⟩
 |.inr _::as,.own a::ss,q,k+1,i,h=>by simpa using lS (as:=as) (ss:=ss) (by unfold g6 at q;exact q) k i (by simpa using h)
 |.inr _::as,.val _::ss,q,k,i,h=>by cases q
 |.inr _::as,.none::ss,q,k,i,h=>by cases q
 |.inl _::as,[],q,k,i,h=>by cases q
 |.inr _::as,[],q,k,i,h=>by cases q
def jl{f:Type}(d:aj)(b:List bB)(r:R f):R f:=match r with
 |.ok s a=>if g6 b a then .ok s (gh d b a)else .no
 |.er c a=>if g6 b a then .er c (gh d b a)else .no
 |.no=>.no
def bD(g:aj->R Slot)(c:aj->R (List bB)):aj->R Slot:=λε=>(c ε).bind λa ε1=>(a6 (if(cz a).Nodup then fH ε1 a else ae) ε1).bind λb ε1=>jl ε1 a (g b)
section
variable{l:ez}{X:Cx}{E:XK}{pin:List Nat}{e:ay}{es:List ay}{j:aj->R (List bB)}{pos:Pos}{x:Str}{k:Nat}{m:List Str}{g:aj->R Slot}{p:Pos}{d:aj->R Slot}
theorem G4{K:au}{F0 r:af->Prop}{S0 B:Nat->af->Prop}{a:aj}{G:St}{H n:Hp}{c:List bB}{Z:List V}{Q:VK}(u:aI K r B a G n)(g1:bg (U S0) (U B) F0 r H n)(P:gi K G r n c Z)(q:Ok K E G r B n ((a6 (if(cz c).Nodup then fH a c else ae) a).bind λC a=>jl a c (g C)) λs _ t W h=>∀v D,pF K h t s v D->(∀b,D b->H b=ae/\¬t b/\¬U W b/\∃o,h b=aa o/\dq o)->Q v h):bN K g Z n Q E:=by
 have q:=Ok.bind q;by_cases A:(cz c).Nodup
 .rw[if_pos A]at q;cases es:fH a c with
  |none=>rw[es]at q;exact q.elim
  |some C=>
   rw[es]at q;have q:=q r B n u (bg.refl ..);dsimp only at q;refine⟨r,j8 c B,C,u.cal P es A,?_⟩;cases O:g C with
   |no=>rw[O]at q;exact q.elim
   |er cv S=>
    rw[O]at q;intro y t W h J N;unfold jl at q;dsimp only at q;by_cases f:g6 c S=ai
    .rw[if_pos f]at q;obtain⟨T,I,M,_⟩:=u.called P es A J N (λ_ z=>z) (lS f);exact q y t T h I M
    .rw[if_neg f]at q;exact q.elim
   |ok s S=>
    rw[O]at q;intro v t W h D J N rv L fr;unfold jl at q;dsimp only at q;by_cases f:g6 c S=ai
    .rw[if_pos f]at q;obtain⟨T,I,M,u2⟩:=u.called P es A J N (λ_ z=>.inl z) (lS f);refine q t T h I M v D rv λb z=>⟨lE g1 (fr b z),(L b z).1,λw=>?_,(L b z).2.2⟩
     rcases u2 b w with w|⟨i,w⟩
     .exact(L b z).2.1 w
     .obtain⟨_,_,o,Y,_⟩:=u.foot i b w;rw[fr b z]at Y;cases Y
    .rw[if_neg f]at q;exact q.elim
 .rw[if_neg A]at q;exact q.elim
theorem cx(c:cF l X.prog X.w X.K X.mg X.base x k m (bN X.K g))(s:Room k X.A)(r:nv l X E)(z:DG X E (e::es) j)(v:Gl X x:=by rfl)(w:(x==("__debug__":Str))=ak:=by decide) (B:aM (e::es) X.env=(ak,aK e X.env)::aM es X.env:=by rfl) (A:(cV pos (aM es X.env)).any (·.1)=ak:=by rfl):DR X E (.Call (.Name x p) (e::es) [] pos) (bD g j):=λF S i a H Q n h=>by obtain⟨f,J,t,G,y,u⟩:=c.ex;refine bU (yg G s v t u y .nil r eP w B A) (z F S i a H _ n ((Ok.bind h).imp λK b N L M o C q I D=>?_));rw[iW];exact G4 o C D q
def HM:Slot->Option PV
 |.val pv=>aa pv
 |.own (.lst a)=>aa (.lst a)
 |_=>ae
def bR(d:aj->R Slot):aj->R PV:=λε=>(d ε).bind λs ε1=>a6 (HM s) ε1
def Gz:Slot->Option PO
 |.own a=>aa a
 |_=>ae
def u8(d:aj->R Slot):aj->R PO:=λb=>(d b).bind λs a=>a6 (Gz s) a
theorem DR.dn(h:DR X E e d):DN X E e (u8 d):=λF S f i H Q t q=>by
 unfold u8 at q;refine h F S f i H Q t ?_;cases b:d f with
 |no=>rw[b]at q;exact q.elim
 |er c o=>rw[b]at q;exact q
 |ok s n=>
  rw[b]at q;cases s with
  |none=>exact q.elim
  |val pv=>exact q.elim
  |own G=>intro D B C u y v A r z;obtain⟨a,rfl,w⟩:=r;exact q D B C u y a A w z
theorem DR.de(h:DR X E e d):DE X E e (bR d):=λF S ε f H Q i q=>by
 unfold bR at q;cases b:d ε with
 |no=>rw[b]at q;exact q.elim
 |er c n=>refine h F S ε f H Q i ?_;rw[b]at q ⊢;exact q
 |ok s ε1=>
  cases s with
  |none=>rw[b]at q;exact q.elim
  |val pv=>refine h F S ε f H Q i ?_;rw[b]at q ⊢;exact λB z A t w v I r G=>q B z A t w v r.1
  |own u=>
   refine h.dn.de F S ε f H Q i ?_;unfold dF u8;rw[b]at q ⊢;cases u with
   |lst o=>exact q
   |dK a=>exact q
   |lls D=>exact q
   |ins C fs=>exact q
   |dT a=>exact q
   |dN a=>exact q
   |inl C fs y o=>exact q
def oQ(d:aj->R Slot):aj->R aQ:=λb=>(d b).bind λs a=>.ok (.ret s) a
theorem um(B:DR X E e d):DS X E pin (.Return (aa e) pos) (oQ d):=λF S n f H D u h=>by
 refine gX (rD br) (B F S n f H _ u ?_);unfold oQ at h;cases i:d n with
 |no=>rw[i]at h;exact h.elim
 |er c r=>rw[i]at h;exact λx N J L A C=>h x N J f L A C (gM.refl _ _)
 |ok s q=>rw[i]at h;intro M I K y a v G t o;exact h v M I f K G y ⟨a.fro,a.keep,a.there,a.fnew,λb z=>z.elim (a.onew b) λw=>.inr (o b w).1⟩ (gM.refl _ _) t λb z=>(o b z).2
def sP(d:aj->R Slot):aj->R aQ:=λb=>(d b).bind λ_ a=>.ok .next a
theorem uk(o:DR X E e d)(n:iV e ae pos.line X.env=pure ak:=by rfl):DS X E pin (.Expr e pos) (sP d):=λF S c a H D f h=>gX (vj br n) (o F S c a H _ f (h.bindE.imp λx b t r s i w q v z u y=>q t r a s i (bg.refl ..) (gM.refl _ _)))
end
end Pu
namespace L2
section
variable{X:Cx}{l:List (af×Obj)}{i:St}{H:Hp}{s:am}{d:cy}{x:Str}{j:List Str}{g:List Nat}
theorem E8{A m O:ay}{y:Str}{py J E:Pos}{G k:Nat}{N:V->Hp->St->Prop}{w:List ay}{wi:TI}{ts:TT}{te:TE}(B:gQ X d x j g)(hk:k<=g.length)(hc:X.calm=ai)(hi:PI X O m wi)(et:∀C r t Y P,PG (bM X d j C r t Y P) O λv M H Q=>∃vs,vs.length=k+1/\M.length=j.length/\N v H vs/\Q (vs++M.drop (k+1)) H)(ht:∀C r t Y P,nB (bM X d j C r t Y P) w ts) (he:∀C r t Y P,PE (bM X d j C r t Y P) A te) (hN:X.N.Nodup) (qK:X.N[G]?=aa y) (hxy:Loc X.env.scope y) (qL:iV (.ListComp A [⟨O,m,w,0⟩] d J) (aa (.Name y py)) E.line X.env=pure ai) (hf:X.fn y=ai\/X.env.scope.names.lookup y=aa .local) (hs:∀x,ma m X.env x=pure x):PS X (.Assign [.Name y py] (.ListComp A [⟨O,m,w,0⟩] d J) E) (λD i H=>we wi N k ts te g i H λv H'=>D.nx (i.set G (aa v)) H'):=by
 intro l s i H D I h;rw[exec_Assign_Name_used _ _ _ _ qL];refine ap (wpAny_standAt (ap ?_));show aq _ X.A (do let _ <-comprehension (.ListComp A [⟨O,m,w,0⟩] d J) d X.env _ (newList []) ak (aK m X.env) (aa (assign (.Name y py) X.env))) _ _ s;refine ap (c9 (?_:aq _ X.A _ (λ_ s'=>SP X l D .next s') X.xe s) (λ_ s' hq=>aB (aB hq)) λ_ _ e=>e);refine zZ (use:=aa (assign (.Name y py) X.env)) B hk hc hi et ht he hs I h λ{K s6 H3 H5 fp σ5 a f} Z f3 I6 q=>?_;obtain⟨mm,hn6,_⟩:=I6.loc;have J6:Inv X l i _ _:=Z.unblock f3 I6 (Heap.SameBut.refl _ _);have S:K.heap.objs.size≠X.env.locals:=λe=>absurd Z.lt (by rw[<-e];exact eC _);have T:∀z c,X.env.cells.lookup z=aa c->c≠K.heap.objs.size:=λz c e e2=>by obtain⟨vv,oo,ho,_⟩:=Z.cell z c e;exact absurd (bj ho) (by rw[e2];exact eC _)
 refine wpAny_assign_Name (zR (v:=.ref a) J6 hN qK hxy rfl (λs7 I7 ⟨a7,sb7,ha7⟩=>?_) hf);have na7:K.heap.objs.size≠a7:=by
  rcases ha7 with z|z
  .rw[z];exact S
  .exact(T _ _ z).symm
 refine⟨mm,hn6.sameBut sb7 na7,λjV sb=>⟨_,_,?_,q⟩⟩;have W:H5 K.heap.objs.size=ae:=I6.free;refine I7.call' (s':={s7 with heap:=jV}) (ch:=[K.heap.objs.size]) rfl ⟨λb o e n hb L=>?_,λb o e n hb L=>?_,λb o e n L=>n,λb o e L=>?_,λb xs e=>e,λb o u e=>e,λb ps e=>e⟩ ?_ I7.bare λb hb=>?_
 .exact(sb.2 b (by simpa using L)).trans e
 .exact⟨o.slots,(sb.2 b (by simpa using L)).trans (by simpa using e)⟩
 .exact⟨o,(sb.2 b (by simpa using L)).trans e⟩
 .intro b u e;refine(I7.hok b u e).stay (λc v hc q=>(sb.2 c ?_).trans q) (λ_ q=>q) λ_ _ q=>q;rintro rfl;rcases hc with z|z
  .rw[<-z,W]at e;cases e
  .rw[W]at z;cases z
 .have e:b=K.heap.objs.size:=by simpa using hb
  subst e;refine⟨.inr Z.sz,S,T,λp hp e2=>?_⟩;obtain⟨e3,_⟩:=Z.pin p hp;exact absurd (bj e3) (by rw[e2];exact eC _)
theorem Io{n a:ay}{y:Str}{p u o f:Pos}{h:Nat}{m:List ay}{wi:TI}{ts:TT}{te:TE}(B:gQ X d x j g)(K:X.calm=ai)(G:PI X (.Name x p) a wi)(A:∀C b c t q,nB (bM X d j C b c t q) m ts) (J:∀C b c t q,PE (bM X d j C b c t q) n te) (L:X.N.Nodup) (z:X.N[h]?=aa y) (r:Loc X.env.scope y) (w:iV (.ListComp n [⟨.Name x p,a,m,0⟩] d o) (aa (.Name y u)) f.line X.env=pure ai) (I:X.fn y=ai\/X.env.scope.names.lookup y=aa .local) (E:∀x,ma a X.env x=pure x):PS X (.Assign [.Name y u] (.ListComp n [⟨.Name x p,a,m,0⟩] d o) f) (λD i H=>wd wi ts te g i H λv M=>D.nx (i.set h (aa v)) M):=E8 B (jH _) K G (xA B) A J L z r w I E
end
end L2
namespace Pu
open L2
def dz(ε:aj):List Nat->Option (List bB)
 |[]=>aa []
 |j::cap=>match ε[j]? with
  |some (.val pv)=>(dz ε cap).map (.inl pv::·)
  |some (.own _)=>(dz ε cap).map (.inr j::·)
  |_=>ae
def d7{b:Type}(cap:List Nat)(d:aj->R b)(x:PV):aj->R b:=λε=>(a6 (dz ε cap) ε).bind λa _=>(a6 (if(cz a).Nodup then fH ε (.inl x::a)else ae) ε).bind λc _=>jl ε (.inl x::a) (d c)
def c0{a:Type}(r:R a):R a:=match r with
 |.er _ _=>.no
 |r=>r
def gZ(cap:List Nat)(dt:aj->R Bool)(de:aj->R PV):List PV->List PV->aj->R (List PV)
 |[],b,ε=>.ok b ε
 |x::d,b,ε=>(c0 (d7 cap dt x ε)).bind λk a=>match k with
  |true=>(c0 (d7 cap de x a)).bind λy c=>gZ cap dt de d (b++[y]) c
  |false=>gZ cap dt de d b a
def dr(cap:List Nat)(d:aj->R (List PV))(dt:aj->R Bool)(de:aj->R PV):aj->R PO:=λε=>(d ε).bind λc ε1=>(gZ cap dt de c [] ε1).bind λb a=>.ok (.lst b) a
theorem ul{K:au}{F:af->Prop}{S:Nat->af->Prop}{f:aj}{d:St}{H:Hp}(r:aI K F S f d H):∀{b:List Nat}{i:List bB},dz f b=aa i->∃c,gi K d F H i c/\e_ d b=c.map aa
 |[],i,h=>by cases h;exact⟨[],rfl,rfl⟩
 |j::b,i,h=>by
  unfold dz at h;split at h
  .rename_i pv e;cases q:dz f b with
   |none=>rw[q]at h;cases h
   |some bs=>
    rw[q]at h;cases h;obtain⟨c,m,l⟩:=ul r q;obtain⟨v,g,n⟩:=r.val j pv e;refine⟨v::c,⟨v,c,rfl,n,m⟩,?_⟩;show(d[j]?).join::e_ d b=_;rw[g,l];rfl
  .rename_i o e;cases q:dz f b with
   |none=>rw[q]at h;cases h
   |some bs=>
    rw[q]at h;cases h;obtain⟨c,m,l⟩:=ul r q;obtain⟨a,g,n⟩:=r.own j o e;refine⟨.ref a::c,⟨_,c,rfl,g,m⟩,?_⟩;show(d[j]?).join::e_ d b=_;rw[g,l];rfl
  .cases h
theorem xH{K:au}{E:XK}{F:af->Prop}{S:Nat->af->Prop}{s:aj}{f:St}{H:Hp}{G:Type}{b:List Nat}{d:aj->R G}{x:PV}{v:V}{C:G->aj->(af->Prop)->(Nat->af->Prop)->Hp->Prop}(r:aI K F S s f H) (N:aJ K H F x v) (h:Ok K E f F S H (c0 (d7 b d x s)) C):∃L l,aI K F L l (aa v::e_ f b) H/\Ok K E0 (aa v::e_ f b) F L H (d l) (λa _ q _ p=>∃j u,aI K q u j f p/\bg (U S) (U u) F q H p/\C a j q u p):=by
 unfold d7 at h;cases B:dz s b with
 |none=>rw[B]at h;exact h.elim
 |some g=>
  rw[B]at h;simp only[fE,R.bind_ok]at h;by_cases y:(cz g).Nodup
  .rw[if_pos y]at h;cases t:fH s (.inl x::g)with
   |none=>rw[t]at h;exact h.elim
   |some l=>
    rw[t]at h;simp only[fE,R.bind_ok]at h;obtain⟨w,T,Q⟩:=ul r B;have o:gi K f F H (.inl x::g) (v::w):=⟨v,w,rfl,N,T⟩
    have n:aa v::e_ f b=(v::w).map aa:=by rw[Q];rfl
    have m:(cz (.inl x::g)).Nodup:=y;refine⟨j8 (.inl x::g) S,l,by rw[n];exact r.cal o t m,?_⟩;rw[n];cases A:d l with
    |no=>rw[A]at h;exact h.elim
    |er c D=>
     rw[A]at h;unfold jl at h;dsimp only at h;by_cases i:g6 (.inl x::g) D=ai
     .rw[if_pos i]at h;exact h.elim
     .rw[if_neg i]at h;exact h.elim
    |ok a D=>
     rw[A]at h;intro q u p O P;unfold jl at h;dsimp only at h;by_cases i:g6 (.inl x::g) D=ai
     .rw[if_pos i]at h;obtain⟨M,I,J,_⟩:=r.called o t m O P (λ_ z=>z) (lS i);exact⟨_,M,I,J,h q M p I J⟩
     .rw[if_neg i]at h;exact h.elim
  .rw[if_neg y]at h;exact h.elim
def si(X:Cx)(a:List ay):TT:=λb H Q=>Bx (∀d s,Inv X d b H s->aq (ar X.prog X.w) X.A (forIn a ai λc r=>if r=ai then do let ok <-kj c X.env (aK c X.env);pure (ForInStep.yield ok)else pure (ForInStep.yield r)) (TP X d b Q) X.xe s)
def DF(X:Cx)(E:XK)(c:List ay)(d:aj->R Bool):Prop:=∀F S f a H Q,aI X.K F S f a H->Ok X.K E a F S H (d f) (λb _ _ _ g=>Q b g)->si X c a H Q
def dJ:aj->R Bool:=λε=>.ok ai ε
theorem mU{X:Cx}{E:XK}:DF X E [] dJ:=λF S d a H Q b h=>⟨λc s I=>Ei c s a H Q I (h F S H b (bg.refl ..))⟩
theorem FK{X:Cx}{E:XK}{c:ay}{d:aj->R Bool}(h:DT X E c d):DF X E [c] d:=λF S b a H Q f q=>⟨λg s I=>IZ pr g s a H Q I (h F S b a H Q f q)⟩
theorem Ok.bindB{K:au}{E:XK}{b:St}{F s:af->Prop}{S n:Nat->af->Prop}{H p:Hp}{j i:Type}{D:i->aj->(af->Prop)->(Nat->af->Prop)->Hp->Prop}{r:R j}{k:j->aj->R i}(h:Ok K E b F S H (r.bind k) D)(g:bg (U S) (U n) F s H p):Ok K E b s n p r (λa d _ _ _=>Ok K E b F S H (k a d) D):=by
 cases r with
 |no=>exact h
 |er c f=>exact λx t o q l m=>h x t o q l (g.trans m)
 |ok a f=>exact λt o q l m=>h
section
variable{X:Cx}{E:XK}{c:cy}{x:Str}{N':List Str}{cap:List Nat}
theorem bg.stay{O a F d:af->Prop}{H b:Hp}(g:bg O a F d H b){l:af}{o:HO}(e:H l=aa o)(n:¬O l)(f:¬F l):b l=aa o/\¬d l/\¬a l :=
 ⟨g.keep l o e n,λz=>(g.fnew l z).elim f λw=>w.elim (λq=>by rw[e]at q;cases q) n,λz=>(g.onew l z).elim n λq=>by rw[e]at q;cases q⟩
theorem aI.lay{K:au}{F:af->Prop}{S:Nat->af->Prop}{i:aj}{h:St}{H:Hp}{l:af}{o o':HO}(r:aI K F S i h H)(v:H l=aa o)(no:dq o)(u:¬F l)(nS:¬U S l):bg (λb=>U S b\/b=l) (U S) F F H (L2.upd H l o')/\Fit (λb=>U S b\/b=l) F H/\aI K F S i h (L2.upd H l o'):=by
 have f:bg (λb=>U S b\/b=l) (U S) F F H (L2.upd H l o'):=⟨λ_ z=>z,λb o e n=>by rw[bS λz=>n (.inr z)];exact e,λb o e=>by
  by_cases m:b=l
  .subst m;exact⟨_,cB⟩
  .exact⟨o,by rw[bS m];exact e⟩,λ_ z=>.inl z,λ_ z=>.inl (.inl z)⟩
 have g:Fit (λb=>U S b\/b=l) F H:=λb z=>by
  rcases z with z|rfl
  .exact r.fit b z
  .exact⟨u,_,v,no⟩
 refine⟨f,g,r.len,λb z=>let ⟨o,q⟩:=r.ex b z;f.there b o q,λj pv e=>?_,λj t e=>?_,λj b z=>?_,r.dist⟩
 .obtain⟨w,d,a⟩:=r.val j pv e;exact⟨w,d,a.grow f g⟩
 .obtain⟨w,d,a⟩:=r.own j t e;refine⟨w,d,a.mono (λ_ _ q=>q.grow f g) (λ_ _ q=>q.grow f g) λb o z q=>?_⟩;rw[bS (by rintro rfl;exact nS ⟨j,z⟩)];exact q
 .obtain⟨d,a,o,s,p⟩:=r.foot j b z;exact⟨d,a,o,by rw[bS (by rintro rfl;exact nS ⟨j,z⟩)];exact s,p⟩
theorem bg.lay{O d F h:af->Prop}{H f:Hp}{l:af}{o':HO}(g:bg O d F h H f)(a:H l=ae):bg O d F h H (L2.upd f l o'):=by
 refine⟨g.fro,λb o e n=>?_,λb o e=>?_,g.fnew,g.onew⟩
 .rw[bS (by rintro rfl;rw[a]at e;cases e)];exact g.keep b o e n
 .obtain⟨i,q⟩:=g.there b o e;exact⟨i,by rw[bS (by rintro rfl;rw[a]at e;cases e)];exact q⟩
theorem y0{elt A:ay}{px:Pos}{ifs:List ay}{di:aj->R (List PV)}{dt:aj->R Bool}{de:aj->R PV}(hi:DI X E (.Name x px) A di)(ht:∀C d f r p,DF (bM X c N' C d f r p) E0 ifs dt) (he:∀C d f r p,DE (bM X c N' C d f r p) E0 elt de){F:af->Prop}{S:Nat->af->Prop}{ε:aj}{j:St}{H:Hp}{Q:VK} (rl:aI X.K F S ε j H) (h:Ok X.K E j F S H (dr cap di dt de ε) (λpo _ s L g=>∀a Sa,dE X.K g s po a Sa->(∀b,Sa b->H b=ae/\¬s b/\¬U L b/\∃o,g b=aa o/\dq o)->Q (.ref a) g)):wd (nL X (.Name x px) A) (λj H Q=>∀C d f r p,si (bM X c N' C d f r p) ifs j H Q) (λj H Q=>∀C d f r p,gq (bM X c N' C d f r p) elt j H Q) cap j H Q:=by
 refine hi F S ε j H _ rl ((Ok.bind h).imp λw ε1 N S1 H1 r1 g1 h1 J vs RR rs hz hw keep l hl=>?_);have h1:=h1.bind;have hvl:vs.length=w.length:=rs.len;have a0:Al N N H1 (upd H1 l (.lst [])):=Al.new0 hl;have nF1:¬N l:=λz=>by obtain⟨o,q⟩:=r1.ex l z;rw[hl]at q;cases q
 have nS1:¬U S1 l:=λ⟨i,z⟩=>by obtain⟨_,_,o,q,_⟩:=r1.foot i l z;rw[hl]at q;cases q
 have hH:H l=ae:=lE g1 hl;refine⟨λi m D g=>m=w.length-i/\i<=w.length/\∃s L Y P,aI X.K s L Y j g/\bg (U S1) (U L) N s H1 g/\g l=aa (.lst D)/\¬s l/\¬U L l/\aS X.K g s P D/\D.length<=i /\ Ok X.K E j N S1 H1 (gZ cap dt de (w.drop i) P Y) (λys' t T S2 M=>Ok X.K E j T S2 M (R.ok (PO.lst ys') t) (λpo _ s L g=>∀a Sa,dE X.K g s po a Sa->(∀b,Sa b->H b=ae/\¬s b/\¬U L b/\∃o,g b=aa o/\dq o)->Q (.ref a) g)),⟨_,rfl,jH _,N,S1,ε1,[],r1.al a0,a0.grow,cB,nF1,nS1,rfl,aT _,h1⟩,?_⟩;rintro i m D M ⟨rfl,hi,T,S2,t,P,O,K,el,nF2,nS2,n,hyl,q2⟩;have RH:=keep S2 T M K;by_cases aW:i<w.length
 .obtain⟨v,hv⟩:∃v,vs[i]?=aa v:=⟨_,eE ∅⟩
  obtain⟨go,yl⟩:=(hw M RH i).1 v hv;refine .inr ⟨go,λv' g y=>⟨[aa v'],rfl,rfl,?_⟩⟩;obtain⟨e1,e2⟩:=yl v' g y;subst e1 e2;obtain⟨px',hx,rx⟩:=rs.back hv;have ed:w.drop i=px'::w.drop (i+1):=by rw[tT aW];congr 1;exact(cD.mp hx).2
  rw[ed]at q2;have Z:=rx.grow K r1.fit;have q3:=Ok.bindB q2 K;obtain⟨Sb,ss,rb,okb⟩:=xH O Z q3;intro C d f r p;refine ht C d f r p T Sb ss _ g _ rb (okb.imp λb _ F3 _ H3 _ _ ⟨W,S3,r3,I,q4⟩=>?_);obtain⟨el3,nF3,nS3⟩:=I.stay el nS2 nF2;cases b with
  |false=>exact oX ⟨_,∅,rfl,aW,F3,S3,W,P,r3,K.trans I,el3,nF3,nS3,n.grow I O.fit,∅,q4⟩
  |true=>refine pD ?_;have q5:Ok X.K E j N S1 H1 ((c0 (d7 cap de px' W)).bind λy t=>gZ cap dt de (w.drop (i+1)) (P++[y]) t) _:=q4;obtain⟨Sc,sc,rc,okc⟩:=xH r3 (Z.grow I O.fit) (Ok.bindB q5 (K.trans I));intro C d f r p;refine he C d f r p F3 Sc sc _ H3 _ rc (okc.imp λy _ F4 _ H4 _ _ ⟨ε4,S4,r4,g4,q6⟩ u ru=>?_);obtain⟨el4,nF4,nS4⟩:=g4.stay el3 nS3 nF3;have G:=(n.grow I O.fit).grow g4 r3.fit;obtain⟨gl,B,r5⟩:=r4.lay (o':=.lst (D++[u])) el4 trivial nF4 nS4;have g5:=((K.trans I).trans g4).lay (o':=.lst (D++[u])) hl;refine⟨el4,?_,_,∅,rfl,aW,F4,S4,ε4,P++[y],r5,g5,cB,nF4,nS4,(G.grow gl B).app (.one (ru.grow gl B)),by simp;lia,q6⟩;lia
 .have e:i=w.length:=∅
  subst e;refine .inl ⟨(hw M RH _).2 hvl.symm,?_⟩;rw[List.drop_length]at q2;exact q2 T S2 M O K T S2 M O (bg.refl ..) l (λb=>b=l) ⟨⟨D,el,n⟩,λb=>Iff.rfl⟩ λb z=>by subst z;exact⟨hH,nF2,nS2,_,el,trivial⟩
theorem mH{j d:ay}{m pos:Pos}{i:List ay}{o:aj->R (List PV)}{dt:aj->R Bool}{de:aj->R PV}(B:gQ X c x N' cap)(v:X.calm=ai)(t:DI X E (.Name x m) d o)(q:∀C a b g f,DF (bM X c N' C a b g f) E0 i dt) (u:∀C a b g f,DE (bM X c N' C a b g f) E0 j de) (r:∀x,ma d X.env x=pure x:=by intro _;rfl):DN X E (.ListComp j [⟨.Name x m,d,i,0⟩] c pos) (dr cap o dt de):=λF S w l H Q p h=>bU (E4 (wi:=nL X (.Name x m) d) (ts:=λl H Q=>∀C a b g f,si (bM X c N' C a b g f) i l H Q) (te:=λl H Q=>∀C a b g f,gq (bM X c N' C a b g f) j l H Q) (pos:=pos) B v wf (λC a b g f n s l H Q I h=>(h C a b g f).run n s I) (λC a b g f n s l H Q I h=>(h C a b g f).run n s I) r) (y0 t q u p h)
end
theorem Da(x y:Tx):tS x++tS y=tS (x++y):=by
 show(⟨x.toArray++y.toArray⟩:Str)=⟨(x++y).toArray⟩
 simp
def bT:PV->PV->Option PV
 |.int i,.int j=>aa (.int (i+j))
 |.str x,.str y=>if(x++y).length<=cA then aa (.str (x++y))else ae
 |.tup b,.tup a=>if b≠[]/\a≠[]/\b.length+a.length<=1000 then aa (.tup (b++a))else ae
 |.lst b,.lst a=>if b.length+a.length<=cA then aa (.lst (b++a))else ae
 |_,_=>ae
def jy:PV->PV->Option PV
 |.int i,.int j=>aa (.int (i-j))
 |_,_=>ae
def pP(i:Int):Bool:=decide (-(2^64)<i/\i<2^64)
def iO:PV->PV->Option PV
 |.int i,.int j=>if pP i||pP j then aa (.int (i*j))else ae
 |.str x,.int j=>if 0<=j/\j<=100/\x.length<=100 then aa (.str (cQ j.toNat x).flatten)else ae
 |_,_=>ae
def eY:PV->PV->Option PV
 |.int i,.int j=>if 0<j then aa (.int (i % j))else ae
 |_,_=>ae
def o_:PV->PV->Option PV
 |.int i,.int j=>if 0<=j/\j<=1000000/\i.natAbs<2^64 then aa (.int (i^j.toNat))else ae
 |_,_=>ae
def pc:PV->Option PV
 |.int i=>aa (.int (-i))
 |_=>ae
def zm:R2:=λx y H Q=>∃l b c a,x=.ref l/\y=.ref b/\Rd H l (.lst c)/\Rd H b (.lst a)/\c.length+a.length<=aY/\∀p,H p=ae->Q (.ref p) (upd H p (.lst (c++a)))
def rO(K:au):R2:=λx y H Q=>((iG λi j=>V.int (i+j)) x y H Q\/∃i j,x=.str i/\y=.str j/\i.length+j.length<=aY/\Q (.str (i++j)) H)\/(yi K x y H Q\/zm x y H Q)
def zv:R2:=λx y H Q=>rI vr (λi j=>.int (i*j)) x y H Q\/∃(z:Tx) (n:Nat),x=tV z/\y=.int n/\n<=100/\z.length<=100/\Q (tV (cQ n z).flatten) H
section
variable{X:Cx}{K:au}
theorem uu:P2 K (iG λi j=>.int (i-j)) jy:=λF H x y v u Q pv b a e q=>by
 unfold jy at e;split at e
 .cases e;exact⟨_,_,b,a,q _ F H (Al.refl ..) rfl⟩
 .cases e
theorem p7:P2 K (rI (λ_ j=>0<j) λi j=>.int (i % j)) eY:=λF H x y v u Q pv b a e q=>by
 unfold eY at e;split at e
 .split at e
  .cases e;exact⟨_,_,b,a,by assumption,q _ F H (Al.refl ..) rfl⟩
  .cases e
 .cases e
theorem Ja:P2 K (rI yA λi j=>.int (i^j.toNat)) o_:=λF H x y v u Q pv b a e q=>by
 unfold o_ at e;split at e
 .split at e
  .cases e;exact⟨_,_,b,a,by assumption,q _ F H (Al.refl ..) rfl⟩
  .cases e
 .cases e
theorem Ig:P1 K (rU λi=>.int (-i)) pc:=λF H x v Q pv a e q=>by
 unfold pc at e;split at e
 .cases e;exact⟨_,a,q _ F H (Al.refl ..) rfl⟩
 .cases e
theorem vM{d:List (af×Obj)}{c:St}{H:Hp}{s:am}{l:af}{b:List V}(I:Inv X d c H s)(h:Rd H l (.lst b)):∃(a:List ah) (n:Nat),bq b a/\s.heap.get? l=aa {cls:=.type "list",data:=.seq a.toArray n}/\b.length<=aY:=by obtain⟨z,a,n,r,e⟩:=h.ok I.hok;exact⟨a,n,r,e,z⟩
theorem DH:bp X (fL .Add) zm:=by
 intro C s p H x y v u Q I i g h;obtain⟨l,b,w,t,rfl,rfl,f,j,B,q⟩:=h;cases i;cases g;obtain⟨c,n,r,e,_⟩:=vM I f;obtain⟨a,z,d,o,_⟩:=vM I j;have f:=r.length;have A:=d.length;refine PySem.P.add_list e o ?_ (by rw[bQ,bQ];lia);have m:c.toArray++a.toArray=(c++a).toArray:=by simp
 rw[m];exact⟨.ref _,_,I.lnew (t':=s.toks) (r.append d) (by rw[cW];lia),rfl,q _ I.fresh⟩
theorem gY:bp X (fL .Add) (rO X.K):=(JK.or Dv).or (JE.or DH)
theorem gL:P2 K (rO K) bT:=λF H x y v u Q pv l j e q=>by
 unfold bT at e;split at e
 .cases e;exact .inl (.inl ⟨_,_,l,j,q _ F H (Al.refl ..) rfl⟩)
 .rename_i x y;split at e
  .rename_i c;cases e;refine .inl (.inr ⟨_,_,l.1,j.1,?_,?_⟩)
   .rw[js,js];rw[cW]at c;exact bX c jt
   .exact q _ F H (Al.refl ..) ⟨by rw[Da];rfl,c⟩
  .cases e
 .rename_i t s;split at e
  .rename_i c;cases e;obtain⟨a,n,rfl,r,f⟩:=l;obtain⟨b,m,rfl,o,d⟩:=j;have h:=f.len;have g:=d.len;refine .inr (.inl ⟨a,b,n,m,rfl,rfl,bO.of r,bO.of o,λz=>c.1 (by rw[z]at h;exact jJ h.symm),by rw[h,g];exact uT c.2.2,λz=>absurd (by rw[z]at g;exact jJ g.symm) c.2.1,λ_ p i=>?_⟩);exact q _ F _ (Al.new0 i) ⟨p,_,rfl,cB,(Al.new0 i).reps (f.app d)⟩
  .cases e
 .rename_i t s;split at e
  .rename_i c;cases e;obtain⟨a,n,rfl,r,A,f⟩:=l;obtain⟨b,m,rfl,o,w,d⟩:=j;have h:=f.len;have g:=d.len;refine .inr (.inr ⟨a,b,n,m,rfl,rfl,r,o,by rw[h,g];exact bX c jt,λp i=>?_⟩);exact q _ _ _ (Al.new i) ⟨p,_,rfl,.inl cB,.inr rfl,(Al.new i).reps (f.app d)⟩
  .cases e
 .cases e
theorem u5:bp X (fL .Mult) zv:=Jz.or Gg
theorem uL:P2 K zv iO:=λF H x y v u Q pv b a e q=>by
 unfold iO at e;split at e
 .rename_i i j;split at e
  .rename_i h;cases e;refine .inl ⟨_,_,b,a,?_,q _ F H (Al.refl ..) rfl⟩;rw[tJ]at h;exact h.imp of_decide_eq_true of_decide_eq_true
  .cases e
 .rename_i x j;split at e
  .rename_i h;cases e;refine .inr ⟨x,j.toNat,b.1,?_,∅,h.2.2,q _ F H (Al.refl ..) ⟨rfl,?_⟩⟩
   .rw[show u=V.int j from a];congr 1;lia
   .rw[Fj];have c:j.toNat<=100:=∅
    exact bX (wJ c h.2.2) (by decide)
  .cases e
 .cases e
def fU(f:Int->Int->Bool):PV->PV->Option PV
 |.int i,.int j=>aa (.bl (f i j))
 |_,_=>ae
theorem j_{f:Int->Int->Bool}:P2 K (iG λi j=>.bl (f i j)) (fU f):=λF H x y v u Q pv b a e q=>by
 unfold fU at e;split at e
 .cases e;exact⟨_,_,b,a,q _ F H (Al.refl ..) rfl⟩
 .cases e
def b7:PV->Option V
 |.non=>aa .non
 |.bl b=>aa (.bl b)
 |.int i=>aa (.int i)
 |.str x=>aa (tV x)
 |_=>ae
theorem gk{H:Hp}{F:af->Prop}{x:PV}{v w:V}(r:aJ K H F x v)(e:b7 x=aa w):v=w:=by
 cases x <;> simp[b7]at e <;> subst e
 .exact r
 .exact r
 .exact r
 .exact r.1
theorem mK{x:PV}{w:V}(e:b7 x=aa w):d8 w=ai:=by
 cases x <;> simp[b7]at e <;> subst e <;> rfl
mutual
def b0:PV->PV->Option Bool
 |.tup c,y=>match y with
  |.tup a=>eO c a
  |_=>ae
 |.lst c,y=>match y with
  |.lst a=>eO c a
  |_=>ae
 |.non,y=>(b7 y).map (cg .non)
 |.bl b,y=>(b7 y).map (cg (.bl b))
 |.int i,y=>(b7 y).map (cg (.int i))
 |.str x,y=>(b7 y).map (cg (tV x))
 |.raw _,_=>ae
 |.exc _,_=>ae
def eO:List PV->List PV->Option Bool
 |[],c=>aa c.isEmpty
 |x::d,c=>match c with
  |[]=>aa ak
  |y::c=>(b0 x y).bind λa=>(eO d c).map λb=>a&&b
end
mutual
def gw:PV->Nat
 |.tup a=>fJ a+1
 |.lst a=>fJ a+1
 |_=>0
def fJ:List PV->Nat
 |[]=>0
 |x::a=>max (gw x) (fJ a)
end
theorem AH{H:Hp}{d a:Nat}{x y:V}{k:Bool}(h:fv K H d x y k)(l:d<=a):fv K H a x y k:=λX g i b s u v A I f c j=>h X g i b s u v A I f c ∅
theorem sj{H:Hp}{F:af->Prop}{w:V}{y:PV}{u:V}{k:Bool}{d:Nat}(b:d8 w=ai)(e:(b7 y).map (cg w)=aa k)(a:aJ K H F y u):fv K H d w u k:=by
 cases q:b7 y with
 |none=>rw[q]at e;cases e
 |some z=>
  rw[q]at e;cases e;rw[gk a q];exact CI b (mK q)
theorem Ci{H:Hp}{a:af}{c b:List V}(h:Rd H a (.lst c))(g:Rd H a (.lst b)):c=b:=by
 rcases h with h|⟨o,h⟩ <;> rcases g with g|⟨d,g⟩ <;> rw[h]at g <;> cases g <;> rfl
theorem IN{a:Bool}{e:Nat->Bool}{n m:Nat}:dZ (λj=>if j=0 then a else e (j-1)) (n+1) (m+1)=(a&&dZ e n m):=by
 unfold dZ;rw[show min (n+1) (m+1)=min n m+1 by lia,wF,nY,tG,if_pos rfl,Bool.and_assoc];congr 1;congr 1
 .simp
mutual
theorem uS{H:Hp}{F:af->Prop}:∀(x y:PV) {v:V}{k:Bool},b0 x y=aa k->aJ K H F x v->aJ K H F y v->k=ai
 |.tup h,y,v,k,e,d,c=>by
  unfold b0 at e;split at e
  .obtain⟨a,n,rfl,j,f⟩:=d;obtain⟨b,m,l,g,i⟩:=c;cases l;rw[j]at g;cases g;exact vE h _ e f i
  .cases e
 |.lst h,y,v,k,e,d,c=>by
  unfold b0 at e;split at e
  .obtain⟨a,n,rfl,j,_,f⟩:=d;obtain⟨b,m,l,g,_,i⟩:=c;cases l;rw[Ci j g]at f;exact vE h _ e f i
  .cases e
 |.non,y,v,k,e,d,c=>by
  unfold b0 at e;cases q:b7 y with
  |none=>rw[q]at e;cases e
  |some z=>rw[q]at e;cases e;rw[<-gk c q,show v=V.non from d];rfl
 |.bl b,y,v,k,e,d,c=>by
  unfold b0 at e;cases q:b7 y with
  |none=>rw[q]at e;cases e
  |some z=>rw[q]at e;cases e;rw[<-gk c q,show v=V.bl b from d];exact beq_self_eq_true b
 |.int b,y,v,k,e,d,c=>by
  unfold b0 at e;cases q:b7 y with
  |none=>rw[q]at e;cases e
  |some z=>rw[q]at e;cases e;rw[<-gk c q,show v=V.int b from d];exact beq_self_eq_true b
 |.str b,y,v,k,e,d,c=>by
  unfold b0 at e;cases q:b7 y with
  |none=>rw[q]at e;cases e
  |some z=>rw[q]at e;cases e;rw[<-gk c q,show v=tV b from d.1];exact beq_self_eq_true (tS b)
 |.raw _,_,_,_,e,_,_=>by unfold b0 at e;cases e
 |.exc _,_,_,_,e,_,_=>by unfold b0 at e;cases e
theorem vE{H:Hp}{F:af->Prop}:∀(d c:List PV) {f:List V}{k:Bool},eO d c=aa k->aS K H F d f->aS K H F c f->k=ai
 |[],c,f,k,e,i,g=>by
  unfold eO at e;rw[show f=[] from i]at g;have:=g.len;cases c with
  |nil=>cases e;rfl
  |cons=>simp at this
 |x::d,c,f,k,e,i,g=>by
  unfold eO at e;obtain⟨v,r,rfl,m,l⟩:=i;cases c with
  |nil=>have:=g.len;simp at this
  |cons y c=>
   obtain⟨q,s,p,o,n⟩:=g;cases p;simp only at e;cases h:b0 x y with
   |none=>rw[h]at e;cases e
   |some a=>
    cases j:eO d c with
    |none=>rw[h,j]at e;cases e
    |some b=>
     rw[h,j]at e;cases e;rw[uS x y h m o,vE d c j l n];rfl
end
mutual
theorem Jc{H:Hp}{F:af->Prop}:∀(x y:PV) {v u:V}{k:Bool},b0 x y=aa k->aJ K H F x v->aJ K H F y u->fv K H (gw x) v u k
 |.tup i,y,v,u,k,e,d,c=>by
  have p:=e;unfold b0 at e;split at e
  .rename_i h;obtain⟨a,r,rfl,o,l⟩:=id d;obtain⟨b,q,rfl,n,j⟩:=id c;by_cases g:a=b
   .subst g;rw[uS _ _ p d c];exact xG
   .obtain⟨f,m,rfl⟩:=pC i h e l j;unfold gw;exact Dj (bO.of o) (bO.of n) g m
  .cases e
 |.lst i,y,v,u,k,e,d,c=>by
  have p:=e;unfold b0 at e;split at e
  .rename_i h;obtain⟨a,r,rfl,o,_,l⟩:=id d;obtain⟨b,q,rfl,n,_,j⟩:=id c;by_cases g:a=b
   .subst g;rw[uS _ _ p d c];exact xG
   .obtain⟨f,m,rfl⟩:=pC i h e l j;unfold gw;exact BP (.inl o) (.inl n) g m
  .cases e
 |.non,y,v,u,k,e,d,c=>by unfold b0 at e;rw[show v=V.non from d];exact sj rfl e c
 |.bl b,y,v,u,k,e,d,c=>by unfold b0 at e;rw[show v=V.bl b from d];exact sj rfl e c
 |.int b,y,v,u,k,e,d,c=>by unfold b0 at e;rw[show v=V.int b from d];exact sj rfl e c
 |.str b,y,v,u,k,e,d,c=>by unfold b0 at e;rw[show v=tV b from d.1];exact sj rfl e c
 |.raw _,_,_,_,_,e,_,_=>by unfold b0 at e;cases e
 |.exc _,_,_,_,_,e,_,_=>by unfold b0 at e;cases e
theorem pC{H:Hp}{F:af->Prop}:∀(d c:List PV) {g i:List V}{k:Bool},eO d c=aa k->aS K H F d g->aS K H F c i -> ∃f:Nat->Bool,(∀(j:Nat) x y,g[j]?=aa x->i[j]?=aa y->fv K H (fJ d) x y (f j))/\k=dZ f g.length i.length
 |[],c,g,i,k,e,n,l=>by
  unfold eO at e;rw[show g=[] from n];refine⟨λ_=>ai,λj x y h=>by simp at h,?_⟩;have:=l.len;cases e;unfold dZ;cases c with
  |nil=>simp at this;simp[this]
  |cons=>rw[this];simp
 |x::d,c,g,i,k,e,n,l=>by
  unfold eO at e;obtain⟨v,r,rfl,A,z⟩:=n;cases c with
  |nil=>
   cases e;rw[show i=[] from l];exact⟨λ_=>ai,λj x y _ h=>by simp at h,by simp[dZ]⟩
  |cons y c=>
   obtain⟨u,D,rfl,C,B⟩:=l;simp only at e;cases m:b0 x y with
   |none=>rw[m]at e;cases e
   |some a=>
    cases o:eO d c with
    |none=>rw[m,o]at e;cases e
    |some b=>
     rw[m,o]at e;cases e;obtain⟨f,w,rfl⟩:=pC d c o z B;refine⟨λj=>if j=0 then a else f (j-1),λj p q t s=>?_,by rw[eh,eh,IN]⟩;cases j with
     |zero=>simp at t s;subst t s;show fv K H _ _ _ (if(0:Nat)=0 then a else f (0-1));rw[if_pos rfl];exact AH (Jc x y m A C) (by unfold fJ;exact Nat.le_max_left _ _)
     |succ j=>show fv K H _ _ _ (if j+1=0 then a else f (j+1-1));rw[if_neg ∅];exact AH (w j p q (by simpa using t) (by simpa using s)) (show fJ d<=max (gw x) (fJ d)from Nat.le_max_right _ _)
end
def eqT(neg:Bool)(x y:PV):Option PV:=match b7 x,b7 y with
 |some v,aa u=>if lW v u then aa (.bl (neg^^decide (v=u)))else ae
 |none,ae=>if gw x<=8 then(b0 x y).map λk=>.bl (neg^^k)else ae
 |_,_=>ae
def Ab(K:au):R2:=λx y H Q=>zp x y H Q\/o0 K ak x y H Q
def xC(K:au):R2:=λx y H Q=>yH x y H Q\/o0 K ai x y H Q
theorem pM(a:X.A.units+64<cLine):bp X (cM .Eq) (Ab X.K):=JG.or (B3 a)
theorem xS(a:X.A.units+64<cLine):bp X (cM .NotEq) (xC X.K):=JU.or (GE a)
theorem Ac{H:Hp}{F:af->Prop}{x y:PV}{v u:V}{k:Bool}{Q:VK}{neg:Bool}(h:b7 x=ae)(e:b0 x y=aa k)(A:gw x<=8)(w:aJ K H F x v)(t:aJ K H F y u)(q:Q (.bl (neg^^k)) H):o0 K neg v u H Q:=by
 have d:∀{g:Bool},k=g->Q (.bl (if neg=ai then !g else g)) H:=λ{g} z=>by subst z;cases neg <;> simpa using q
 cases x with
 |tup c=>
  unfold b0 at e;split at e
  .rename_i i;obtain⟨a,l,rfl,r,n⟩:=w;obtain⟨b,j,rfl,p,m⟩:=t;obtain⟨f,o,s⟩:=pC c i e n m;unfold gw at A;exact⟨a,b,l,j,fJ c,f,rfl,rfl,.inr ⟨bO.of r,bO.of p⟩,∅,o,d s⟩
  .cases e
 |lst c=>
  unfold b0 at e;split at e
  .rename_i i;obtain⟨a,l,rfl,r,_,n⟩:=w;obtain⟨b,j,rfl,p,_,m⟩:=t;obtain⟨f,o,s⟩:=pC c i e n m;unfold gw at A;exact⟨a,b,l,j,fJ c,f,rfl,rfl,.inl ⟨.inl r,.inl p⟩,∅,o,d s⟩
  .cases e
 |raw _=>unfold b0 at e;cases e
 |exc _=>unfold b0 at e;cases e
 |non=>cases h
 |bl _=>cases h
 |int _=>cases h
 |str _=>cases h
theorem o4:P2 K (Ab K) (eqT ak):=λF H x y v u Q pv g f e q=>by
 unfold eqT at e;split at e
 .rename_i a b d h;split at e
  .rename_i i;cases e;rw[gk g d,gk f h];refine .inl ⟨i,?_⟩;have:=q (.bl (decide (a=b))) F H (Al.refl ..) (by simp[aJ]);exact this
  .cases e
 .rename_i d h;split at e
  .rename_i j;cases c:b0 x y with
   |none=>rw[c]at e;cases e
   |some k=>
    rw[c]at e;cases e;exact .inr (Ac (neg:=ak) d c j g f (q _ F H (Al.refl ..) rfl))
  .cases e
 .cases e
theorem zB:P2 K (xC K) (eqT ai):=λF H x y v u Q pv g f e q=>by
 unfold eqT at e;split at e
 .rename_i a b d h;split at e
  .rename_i i;cases e;rw[gk g d,gk f h];refine .inl ⟨i,?_⟩;have:=q (.bl (!decide (a=b))) F H (Al.refl ..) (by simp[aJ]);exact this
  .cases e
 .rename_i d h;split at e
  .rename_i j;cases c:b0 x y with
   |none=>rw[c]at e;cases e
   |some k=>
    rw[c]at e;cases e;exact .inr (Ac (neg:=ai) d c j g f (q _ F H (Al.refl ..) rfl))
  .cases e
 .cases e
end
end Pu
namespace Pu
open L2
section
variable{X:Cx}{K:au}
def rh(i j:Tx):Bool:=!(AQ (tS j) (tS i) 0 (tS j).length 1).isEmpty
def fA:List PV->Option (List V)
 |[]=>aa []
 |x::a=>(b7 x).bind λv=>(fA a).map λr=>v::r
theorem lA{H:Hp}{F:af->Prop}:∀{a:List PV}{d b:List V},aS K H F a d->fA a=aa b->d=b/\b.all d8=ai
 |[],_,_,r,e=>by cases e;exact⟨r,rfl⟩
 |x::a,_,b,⟨v,r,rfl,g,f⟩,e=>by
  unfold fA at e;cases q:b7 x with
  |none=>rw[q]at e;cases e
  |some w=>
   cases c:fA a with
   |none=>rw[q,c]at e;cases e
   |some j=>
    rw[q,c]at e;cases e;obtain⟨i,h⟩:=lA f c;exact⟨by rw[gk g q,i],by rw[nY,mK q,h];rfl⟩
def mS(neg:Bool):PV->PV->Option PV
 |.str x,.str y=>aa (.bl (neg^^rh x y))
 |x,.lst a=>(b7 x).bind λv=>(fA a).map λb=>.bl (neg^^pi v b)
 |x,.tup a=>(b7 x).bind λv=>(fA a).map λb=>.bl (neg^^pi v b)
 |_,_=>ae
def At(K:au):R2:=λx y H Q=>(∃i j,x=.str i/\y=.str j/\Q (.bl (!(AQ j i 0 j.length 1).isEmpty)) H)\/uZ K ak x y H Q
theorem Hx:bp X (cM .In) (At X.K):=JC.or HF
theorem yj{H:Hp}{F:af->Prop}{x:PV}{c:List PV}{v:V}{p:af}{b:List V}{Q:VK}{neg:Bool}{pv:PV}(g:aJ K H F x v)(i:bK K H p b\/bO K H p b)(h:aS K H F c b)(e:((b7 x).bind λv=>(fA c).map λf=>PV.bl (neg^^pi v f))=aa pv) (q:∀w,aJ K H F pv w->Q w H):uZ K neg v (.ref p) H Q:=by
 cases a:b7 x with
 |none=>rw[a]at e;cases e
 |some w=>
  cases d:fA c with
  |none=>rw[a,d]at e;cases e
  |some f=>
   rw[a,d]at e;cases e;obtain⟨rfl,j⟩:=lA h d;rw[gk g a];refine⟨p,b,rfl,i,mK a,j,?_⟩;have:=q _ rfl;cases neg <;> simpa using this
theorem BV:P2 K (At K) (mS ak):=λF H x y v u Q pv d c e q=>by
 unfold mS at e;split at e
 .cases e;exact .inl ⟨_,_,d.1,c.1,by have:=q _ F H (Al.refl ..) rfl;simpa[rh]using this⟩
 .obtain⟨a,h,rfl,g,_,f⟩:=c;exact .inr (yj (neg:=ak) d (.inl (.inl g)) f e λw b=>q w F H (Al.refl ..) b)
 .obtain⟨a,h,rfl,g,f⟩:=c;exact .inr (yj (neg:=ak) d (.inr (bO.of g)) f e λw b=>q w F H (Al.refl ..) b)
 .cases e
def bJ:List PV->Option PV
 |[.str x]=>aa (.int x.length)
 |[.lst a]=>aa (.int a.length)
 |[.tup a]=>aa (.int a.length)
 |_=>ae
theorem fz{H:Hp}{F:af->Prop}{x:PV}{a:List V}(r:aS K H F [x] a):∃v,a=[v]/\aJ K H F x v:=by obtain⟨v,b,rfl,d,c⟩:=r;rw[show b=[] from c];exact⟨v,rfl,d⟩
theorem ix:PL K (λg H Q=>∃x n,g=[x]/\yd K x H n/\Q (.int n) H) bJ:=λF H g i Q pv c e q=>by
 unfold bJ at e;split at e
 .cases e;obtain⟨v,rfl,h⟩:=fz c;rw[h.1];exact⟨_,_,rfl,⟨by rw[js];exact bX h.2 jt,rfl⟩,by rw[js];exact q _ F H (Al.refl ..) rfl⟩
 .cases e;obtain⟨v,rfl,a,b,rfl,f,_,d⟩:=fz c;exact⟨_,_,rfl,.inl ⟨b,.inl f,rfl⟩,by rw[d.len];exact q _ F H (Al.refl ..) rfl⟩
 .cases e;obtain⟨v,rfl,a,b,rfl,f,d⟩:=fz c;exact⟨_,_,rfl,.inr ⟨b,bO.of f,rfl⟩,by rw[d.len];exact q _ F H (Al.refl ..) rfl⟩
 .cases e
def sm:List PV->Option PO
 |[.lst a]=>aa (.lst a)
 |[.tup a]=>aa (.lst a)
 |_=>ae
theorem FU:lI K (λh H Q=>∃p c,h=[.ref p]/\(bK K H p c\/bO K H p c)/\∀l,H l=ae->Q (.ref l) (upd H l (.lst c))) sm:=λF H h m Q n j i e q=>by
 unfold sm at e;split at e
 .cases e;obtain⟨v,rfl,a,d,rfl,g,_,f⟩:=fz i;exact⟨a,d,rfl,.inl (.inl g),λl b=>q l F _ _ (Al.new0 b) (rM b f) (r8 b j trivial)⟩
 .cases e;obtain⟨v,rfl,a,d,rfl,g,f⟩:=fz i;exact⟨a,d,rfl,.inr (bO.of g),λl b=>q l F _ _ (Al.new0 b) (rM b f) (r8 b j trivial)⟩
 .cases e
def r9:List PV->Option PV
 |[.lst a]=>aa (.tup a)
 |[.tup a]=>aa (.tup a)
 |_=>ae
theorem HB:PL K (λg H Q=>∃p d,g=[.ref p]/\((bK K H p d/\∀l,H l=ae->Q (.ref l) (upd H l (.tup d)))\/(bO K H p d/\Q (.ref p) H))) r9:=λF H g j Q pv h e q=>by
 unfold r9 at e;split at e
 .cases e;obtain⟨v,rfl,a,b,rfl,c,_,f⟩:=fz h;exact⟨a,b,rfl,.inl ⟨.inl c,λl i=>q _ F _ (Al.new0 i) ⟨l,b,rfl,cB,(Al.new0 i).reps f⟩⟩⟩
 .cases e;obtain⟨v,rfl,a,b,rfl,c,f⟩:=fz h;exact⟨a,b,rfl,.inr ⟨bO.of c,q _ F H (Al.refl ..) ⟨a,b,rfl,c,f⟩⟩⟩
 .cases e
def eQ:List PV->Option (List Tx)
 |[]=>aa []
 |.str x::a=>(eQ a).map (x::·)
 |_=>ae
def ao(ls:List Tx):List PV:=ls.map .str
theorem oR(a:List Tx):eQ (ao a)=aa a:=by
 induction a with
 |nil=>rfl
 |cons x a b=>show(eQ (ao a)).map (x::·)=_;rw[b];rfl
theorem oF:∀{a:List PV}{b:List Tx},eQ a=aa b->a=ao b
 |[],b,e=>by cases e;rfl
 |.str x::a,b,e=>by
  unfold eQ at e;cases q:eQ a with
  |none=>rw[q]at e;cases e
  |some r=>rw[q]at e;cases e;rw[oF q];rfl
 |.non::_,_,e=>by cases e
 |.bl _::_,_,e=>by cases e
 |.int _::_,_,e=>by cases e
 |.tup _::_,_,e=>by cases e
 |.lst _::_,_,e=>by cases e
 |.raw _::_,_,e=>by cases e
 |.exc _::_,_,e=>by cases e
theorem JA{H:Hp}{F:af->Prop}:∀{a:List Tx}{b:List V},aS K H F (ao a) b↔b=cf a/\∀x∈a,x.length<=cA
 |[],b=>by simp[ao,aS,cf]
 |x::a,b=>by
  show(∃v r,b=v::r/\(v=tV x/\x.length<=cA)/\aS K H F (ao a) r)↔_;constructor
  .rintro⟨v,r,rfl,⟨rfl,f⟩,h2⟩;obtain⟨rfl,d⟩:=JA.mp h2;exact⟨rfl,λy c=>by
    rcases bw.mp c with rfl|c
    .exact f
    .exact d y c⟩
  .rintro⟨rfl,h⟩;exact⟨tV x,cf a,rfl,⟨rfl,h x (by simp)⟩,JA.mpr ⟨rfl,λy c=>h y (by simp[c])⟩⟩
def jZ:List PV->Option (List Bool)
 |[]=>aa []
 |.bl b::a=>(jZ a).map (b::·)
 |_=>ae
theorem y6{H:Hp}{F:af->Prop}:∀{a:List PV}{c:List V}{bs:List Bool},aS K H F a c->jZ a=aa bs->c=bs.map V.bl
 |[],_,_,r,e=>by cases e;exact r
 |.bl b::a,_,bs,⟨v,r,rfl,f,d⟩,e=>by
  unfold jZ at e;cases q:jZ a with
  |none=>rw[q]at e;cases e
  |some g=>rw[q]at e;cases e;rw[y6 d q,show v=V.bl b from f];rfl
 |.non::_,_,_,_,e=>by cases e
 |.str _::_,_,_,_,e=>by cases e
 |.int _::_,_,_,_,e=>by cases e
 |.tup _::_,_,_,_,e=>by cases e
 |.lst _::_,_,_,_,e=>by cases e
 |.raw _::_,_,_,_,e=>by cases e
 |.exc _::_,_,_,_,e=>by cases e
def nA:List PV->Option PV
 |[.lst a]=>(jZ a).map λbs=>.bl (bs.all id)
 |_=>ae
theorem wl:PL K (λc H Q=>∃(p:af) (bs:List Bool),c=[.ref p]/\bK K H p (bs.map V.bl)/\Q (.bl (bs.all id)) H) nA:=λF H c i Q pv g e q=>by
 unfold nA at e;split at e
 .rename_i f;cases b:jZ f with
  |none=>rw[b]at e;cases e
  |some bs=>
   rw[b]at e;cases e;obtain⟨v,rfl,a,j,rfl,d,_,h⟩:=fz g;rw[y6 h b]at d;exact⟨a,bs,rfl,.inl d,q _ F H (Al.refl ..) rfl⟩
 .cases e
def pV:PV->Option String
 |.non=>aa "NoneType"
 |.bl _=>aa "bool"
 |.int _=>aa "int"
 |.str _=>aa "str"
 |.tup _=>aa "tuple"
 |.lst _=>aa "list"
 |_=>ae
def fF:List PV->Option PV
 |[x,.raw (.ty T)]=>(pV x).bind λt=>(gx [] (.type t) (.type T)).map λb=>.bl b
 |_=>ae
theorem mQ:fQ X (.builtin "isinstance") (λa H Q=>∃x t T b,a=[x,.ty T]/\f8 X.K H x (.type t)/\gx X.K (.type t) (.type T)=aa b/\Q (.bl b) H):=by
 intro m s i H a j Q I r h;obtain⟨x,t,T,b,rfl,ty,e,q⟩:=h;cases r with
 |cons g f=>
  cases f with
  |cons d c=>
   cases c;cases d;exact Ec I g ty e λl=>⟨.bl b,H,I.tok _,rfl,q⟩
theorem EQ{H:Hp}{F:af->Prop}{x:PV}{v:V}{t:String}(r:aJ K H F x v)(e:pV x=aa t):f8 K H v (.type t):=by
 cases x with
 |non=>cases e;rw[show v=V.non from r];exact .non
 |bl b=>cases e;rw[show v=V.bl b from r];exact .bl b
 |int b=>cases e;rw[show v=V.int b from r];exact .int b
 |str b=>cases e;rw[show v=tV b from r.1];exact .str _
 |tup d=>cases e;obtain⟨a,f,rfl,c,_⟩:=r;exact .tup c
 |lst d=>
  cases e;obtain⟨a,f,rfl,c,_⟩:=r;rcases c with c|⟨o,c⟩
  .exact .lst c
  .exact .frz c
 |raw _=>cases e
 |exc _=>cases e
theorem nq:PL K (λd H Q=>∃x t T b,d=[x,.ty T]/\f8 K H x (.type t)/\gx K (.type t) (.type T)=aa b/\Q (.bl b) H) fF:=λF H d j Q pv f e q=>by
 unfold fF at e;split at e
 .rename_i x T;cases a:pV x with
  |none=>rw[a]at e;cases e
  |some t=>
   cases c:gx [] (.type t) (.type T)with
   |none=>rw[a,hU,c]at e;cases e
   |some b=>
    rw[a,hU,c]at e;cases e;obtain⟨v,l,rfl,i,h⟩:=f;obtain⟨u,rfl,g⟩:=fz h;rw[show u=V.ty T from g];exact⟨v,t,T,b,rfl,EQ i a,c,q _ F H (Al.refl ..) rfl⟩
 .cases e
theorem mT{E:XK}{x:Str}{T:String}{f:Pos}(c:X.mg x=ae)(a:c8 x=aa (.type T))(d:Gl X x:=by rfl)(b:x≠"__name__":=by decide)(g:(x==("__debug__":Str))=ak:=by decide):DE X E (.Name x f) (dC (.raw (.ty T))):=λF S i h H Q r q=>bU (EG (v:=.ty T) d c a rfl b g) (q F S H r (bg.refl ..) _ rfl)
def bZ:PV->PV->Option PV
 |.lst a,.int i=>dA a i
 |.tup a,.int i=>dA a i
 |.str x,.int i=>(dA x i).map λc=>.str [c]
 |_,_=>ae
theorem xN{H:Hp}{F:af->Prop}{a:List PV}{b:List V}{i:Int}{x:PV}(r:aS K H F a b)(e:dA a i=aa x):∃v,dA b i=aa v/\aJ K H F x v:=by
 unfold dA at e ⊢;rw[r.len];cases q:j5 a.length i with
 |none=>rw[q]at e;cases e
 |some j=>rw[q]at e;exact r.get e
theorem iw:P2 K (z9 K) bZ:=λF H x y v u Q pv b f e q=>by
 unfold bZ at e;split at e
 .rename_i n i;obtain⟨a,d,rfl,j,_,g⟩:=b;obtain⟨w,m,l⟩:=xN g e;exact .inl ⟨a,d,i,w,rfl,f,.inl j,m,q _ F H (Al.refl ..) l⟩
 .rename_i n i;obtain⟨a,d,rfl,j,g⟩:=b;obtain⟨w,m,l⟩:=xN g e;exact .inr (.inl ⟨a,d,i,w,rfl,f,bO.of j,m,q _ F H (Al.refl ..) l⟩)
 .rename_i x i;cases h:dA x i with
  |none=>rw[h]at e;cases e
  |some c=>
   rw[h]at e;cases e;rw[b.1];exact .inr (.inr ⟨_,i,c,rfl,f,by rw[js];exact bX b.2 jt,by rw[kQ];exact h,q _ F H (Al.refl ..) ⟨rfl,by show 1<=cA;decide⟩⟩)
 .cases e
def d4{b:Type}(a:List b)(c d:Option Int):List b:=(a.drop (HT.sIx a.length 0 c)).take (HT.sIx a.length a.length d-HT.sIx a.length 0 c)
theorem FW{b:Type}(a:List b)(c d:Option Int):(d4 a c d).length<=a.length:=by unfold d4;rw[k8,qa];lia
def fW:PV->Option Int->Option Int->Option PV
 |.str x,b,c=>aa (.str (d4 x b c))
 |.lst a,b,c=>aa (.lst (d4 a b c))
 |.tup a,b,c=>if HT.sIx a.length 0 b=0/\HT.sIx a.length a.length c=a.length then ae else aa (.tup (d4 a b c))
 |_,_,_=>ae
def yP(K:au):V->Option Int->Option Int->Hp->VK->Prop:=λx a b H Q=>y_ x a b H Q\/(yI K x a b H Q\/zL K x a b H Q)
theorem pY:j6 X (yP X.K):=Jy.or (JB.or D7)
theorem yb{H:Hp}{F:af->Prop}{a:List PV}{b:List V}(r:aS K H F a b)(c d:Option Int):aS K H F (d4 a c d) (kM b c d):=by unfold d4 kM;rw[r.len];exact(r.drop _).take _
theorem pO:zd K (yP K) fW:=λF H x h i v Q pv b e q=>by
 unfold fW at e;split at e
 .cases e;rw[b.1];refine .inl ⟨_,rfl,by rw[js];exact bX b.2 jt,?_⟩;refine q _ F H (Al.refl ..) ⟨?_,bX (FW ..) b.2⟩;unfold jr d4;rw[js,kQ];rfl
 .cases e;obtain⟨a,f,rfl,g,_,d⟩:=b;exact .inr (.inl ⟨a,f,rfl,.inl g,λp c=>q _ _ _ (Al.new c) ⟨p,_,rfl,.inl cB,.inr rfl,(Al.new c).reps (yb d h i)⟩⟩)
 .split at e
  .cases e
  .rename_i j;cases e;obtain⟨a,f,rfl,g,d⟩:=b;exact .inr (.inr ⟨a,f,rfl,bO.of g,by rw[d.len];exact j,λp c=>q _ _ _ (Al.new0 c) ⟨p,_,rfl,cB,(Al.new0 c).reps (yb d h i)⟩⟩)
 .cases e
variable{E:XK}{g l a b:ay}{d:aj->R PV}{m:aj->R (List PV)}{p f:Pos}
def jx:PV->Option (List PV)
 |.lst h=>aa h
 |.tup h=>aa h
 |.str x=>aa (x.map λc=>.str [c])
 |_=>ae
def dG(d:aj->R PV):aj->R (List PV):=λε=>(d ε).bind λx ε1=>a6 (jx x) ε1
theorem yy{H:Hp}{F:af->Prop}:∀(x:Tx),aS K H F (x.map λc=>PV.str [c]) (x.map sg)
 |[]=>rfl
 |c::x=>⟨sg c,x.map sg,rfl,⟨rfl,by show 1<=cA;decide⟩,yy x⟩
theorem l6(he:DE X E l d):DI X E g l (dG d):=λF S ε Z H Rr rl h=>Bx.mk λag s I=>by
 have w:=he F S ε Z H (λv r=>∃B D u x,aI X.K B D u Z r/\aJ X.K r B x v/\Ok X.K E Z B D r (a6 (jx x) u) (λpvs _ F' S' H'=>∀J L RR,aS X.K H' F' pvs L->L.length<=aY->Walk J L RR->(∀S'' F'' Y,bg (U S') (U S'') F' F'' H' Y->RR Y)->Rr J H')) rl
  ((Ok.bind h).imp λx u B D r G g1 q v N=>⟨B,D,u,x,G,N,q⟩)
 refine aO (w.run ag s I) λv c ⟨x,r,y,rx,B,D,u,pv,G,N,q⟩=>?_;cases pv with
 |lst xs=>
  obtain⟨a,M,rfl,C,hF,ra⟩:=N;cases rx;obtain⟨O,rr,pp,P⟩:=y.list (.inl C);refine A8 pp.isList ?_;refine⟨c.heap.objs.size,[c.heap.objs.size],_,_,r,rfl,y.kept (t':=c.toks) λb o e=>a8 _ e,FI a _,⟨_,bW _ rfl,rfl,rfl⟩,λb T=>?_,q B D r G (bg.refl ..) (uy X.K a) M (λH=>bK X.K H a M) ra P FT λS2 F2 H2 g2=>.inl (g2.lst G.fit hF C)⟩;have e:b=c.heap.objs.size:=by simpa using T
  subst e;exact y.fpOk (aT _) (y.hok.fresh (aT _))
 |tup xs=>
  obtain⟨a,M,rfl,C,ra⟩:=N;cases rx;obtain⟨O,rr,pp,P⟩:=y.tuple (bO.of C);refine wpAny_pyIter_tuple (show c.heap.IsTuple a O.toArray from pp) ?_;refine⟨c.heap.objs.size,[c.heap.objs.size],_,_,r,rfl,y.kept (t':=c.toks) λb o e=>a8 _ e,HA a _,⟨_,bW _ rfl,rfl,rfl⟩,λb T=>?_,q B D r G (bg.refl ..) (vA X.K a) M (λH=>bO X.K H a M) ra P B7 λS2 F2 H2 g2=>bO.of (g2.imm G.fit C id)⟩;have e:b=c.heap.objs.size:=by simpa using T
  subst e;exact y.fpOk (aT _) (y.hok.fresh (aT _))
 |str z=>
  obtain⟨rfl,P⟩:=N;obtain⟨t,rfl⟩:=rx;have qq:Rr (pU (tS z)) r:=q B D r G (bg.refl ..) (pU (tS z)) (z.map sg) (λ_=>True) (yy z) (by rw[fg];exact bX P jt) (by have:=Gu (z:=tS z);rw[kQ]at this;exact this) λ_ _ _ _=>trivial;have W:∀(n:String) (j:Nat->ax->Prop),(∀i h,j i h->∃o n L,h.get? c.heap.objs.size=aa o/\o.cls=.type n/\o.data=.fields L /\ ["enumerate","zip","dict_itemiterator","dict_reverseitemiterator","odict_iterator","itertools.zip_longest","itertools.pairwise"].contains n=ak) ->
    (∀(A:aH) (i:Nat) (s:am) (Q:ah->am->Prop) (E:ah->am->Prop),j i s.heap->Q (.ref c.heap.objs.size) s->aq (ar X.prog X.w) A (kn (.ref c.heap.objs.size)) Q E s) ->
    (∀A:aH,A.handled=ae->Walks X.prog X.w A c.heap.objs.size [c.heap.objs.size] [c.heap.objs.size] (tS z).cps.size (SignAt (tS z)) j) ->
    j 0 (c.heap.push {cls:=.type n,data:=.fields #[.str (tS z) t,.int 0 0]}) ->
    oK X ag Z g Rr (.ref c.heap.objs.size) {c with heap:=c.heap.push {cls:=.type n,data:=.fields #[.str (tS z) t,.int 0 0]}}:=λn j q h2 h3 h4=>by
   refine⟨c.heap.objs.size,[c.heap.objs.size],j,pU (tS z),r,rfl,y.kept (t':=c.toks) λb o e=>a8 _ e,Hk q h2 h3,h4,λb T=>?_,qq⟩;have e:b=c.heap.objs.size:=by simpa using T
   subst e;exact y.fpOk (aT _) (y.hok.fresh (aT _))
  cases C:(tS z).cps.all (· < 128)
  .refine wpAny_pyIter_wide C (W "str_iterator" (λi h=>h.IsStrIter c.heap.objs.size "str_iterator" (tS z) t i) (λi h ⟨o,e1,e2,e3⟩=>⟨o,_,_,e1,e2,e3,by decide⟩) (λA i s Q E st h=>wpAny_pyIter_striter_wide st h) (λA' hA=>Walks.strWide hA _ (tS z) t) ⟨_,bW _ rfl,rfl,rfl⟩)
  .refine wpAny_pyIter_ascii C (W "str_ascii_iterator" (λi h=>h.IsStrIter c.heap.objs.size "str_ascii_iterator" (tS z) t i) (λi h ⟨o,e1,e2,e3⟩=>⟨o,_,_,e1,e2,e3,by decide⟩) (λA i s Q E st h=>wpAny_pyIter_striter_ascii st h) (λA' hA=>Walks.strAscii hA _ (tS z) t) ⟨_,bW _ rfl,rfl,rfl⟩)
 |non=>exact(show False from q).elim
 |bl _=>exact(show False from q).elim
 |int _=>exact(show False from q).elim
 |raw _=>exact(show False from q).elim
 |exc _=>exact(show False from q).elim
def dw(c:Int)(n:Nat):List PV:=(cq n).map λi=>PV.int (c+(i:Nat))
theorem xT{H:Hp}{F:af->Prop}(c:Int)(n:Nat):aS K H F (dw c n) (ng c n):=by
 unfold dw ng
 induction (cq n)with
 |nil=>rfl
 |cons x i h=>exact⟨_,_,rfl,rfl,h⟩
def jv:List PV->Option (List PV)
 |[.int j]=>if j<=1000000/\-1000000<=j then aa (dw 0 j.toNat)else ae
 |_=>ae
def pf:List PV->Option (List PV)
 |[.int i,.int j]=>if j<=1000000/\-1000000<=j/\i<=1000000/\-1000000<=i then aa (dw i (j-i).toNat)else ae
 |_=>ae
theorem uw(u:X.mg "range"=ae)(x:DA X E [a] m)(w:Gl X "range":=by rfl)(t:aM [a] X.env=[(ak,aK a X.env)]:=by rfl):DI X E g (.Call (.Name "range" p) [a] [] f) (dL jv m):=λF S o i H J r h=>by
 refine uI (IK w u eP t) (x F S o i H _ r ((Ok.bind h).imp λC n B z A s I c D y=>?_));unfold jv at c;split at c
 .rename_i j;split at c
  .rename_i G;obtain⟨v,rfl,q⟩:=fz y;refine⟨j,by rw[show v=V.int j from q],∅,∅,c B z A s (bg.refl ..) _ _ _ (xT 0 j.toNat) (by rw[rJ,kZ];lia) yG λ_ _ _ _=>trivial⟩
  .exact c.elim
 .exact c.elim
theorem E7(w:X.mg "range"=ae)(y:DA X E [a,b] m)(x:Gl X "range":=by rfl)(t:aM [a,b] X.env=[(ak,aK a X.env),(ak,aK b X.env)]:=by rfl)(D:aM [b] X.env=[(ak,aK b X.env)]:=by rfl):DI X E g (.Call (.Name "range" p) [a,b] [] f) (dL pf m):=λF S q n H Q r h=>by
 refine uI (D4 x w eP t D) (y F S q n H _ r ((Ok.bind h).imp λL o J G I s P c M C=>?_));unfold pf at c;split at c
 .rename_i i j;split at c
  .rename_i O;obtain⟨v,N,rfl,B,A⟩:=C;obtain⟨u,rfl,z⟩:=fz A;refine⟨i,j,by rw[show v=V.int i from B,show u=V.int j from z],⟨∅,∅,∅,∅⟩,c J G I s (bg.refl ..) _ _ _ (xT i (j-i).toNat) (by rw[rJ,kZ];lia) yG λ_ _ _ _=>trivial⟩
  .exact c.elim
 .exact c.elim
end
section
variable{K:au}{F:af->Prop}{S:Nat->af->Prop}{f:aj}{l:St}{H:Hp}{i:Nat}{p m:List PV}{d:List V}{a:af}
theorem aI.lstAt(r:aI K F S f l H)(e:f[i]?=aa (.own (.lst p))):∃a c,l[i]?=aa (aa (.ref a))/\H a=aa (.lst c)/\aS K H F p c/\S i a/\∀b,S i b->b=a:=by obtain⟨a,o,⟨c,n,j⟩,g⟩:=r.own i _ e;exact⟨a,c,o,n,j,(g a).mpr rfl,λb h=>(g b).mp h⟩
theorem aI.upd(r:aI K F S f l H)(e:f[i]?=aa (.own (.lst p)))(D:l[i]?=aa (aa (.ref a)))(h:aS K H F m d):aI K F S (f.set i (.own (.lst m))) l (upd H a (.lst d))/\bg (U S) (U S) F F H (upd H a (.lst d)):=by
 obtain⟨N,J,E,M,L,x,B⟩:=r.lstAt e;rw[D]at E;cases E;have A:i<f.length:=(cD.mp e).1;have g:bg (U S) (U S) F F H (L2.upd H a (.lst d)):=⟨λ_ z=>z,λb o q n=>by rw[bS (by rintro rfl;exact n ⟨i,x⟩)];exact q,λb o q=>by
  by_cases C:b=a
  .subst C;exact⟨_,cB⟩
  .exact⟨o,by rw[bS C];exact q⟩,λ_ z=>.inl z,λ_ z=>.inl z⟩
 refine⟨⟨by rw[i5];exact r.len,λb z=>let ⟨o,q⟩:=r.ex b z;g.there b o q,λj pv q=>?_,λj y q=>?_,λj b z=>?_,r.dist⟩,g⟩
 .have s:i≠j:=by rintro rfl;rw[fK A]at q;cases q
  rw[dP s]at q;obtain⟨v,u,t⟩:=r.val j pv q;exact⟨v,u,t.grow g r.fit⟩
 .by_cases s:i=j
  .subst s;rw[fK A]at q;cases q;exact⟨a,D,⟨d,cB,h.grow g r.fit⟩,λb=>⟨B b,λz=>by rw[z];exact x⟩⟩
  .rw[dP s]at q;obtain⟨c,u,t⟩:=r.own j y q;refine⟨c,u,t.mono (λ_ _ z=>z.grow g r.fit) (λ_ _ z=>z.grow g r.fit) λb o z w=>?_⟩;rw[bS (by rintro rfl;exact s (r.dist i j b x z))];exact w
 .obtain⟨⟨y,u⟩,t,o,I,G⟩:=r.foot j b z;by_cases s:i=j
  .subst s;rw[B b z];exact⟨⟨_,fK A⟩,by rw[<-B b z];exact t,_,cB,trivial⟩
  .exact⟨⟨y,by rw[dP s];exact u⟩,t,o,by rw[bS (by rintro rfl;exact s (r.dist i j b x z))];exact I,G⟩
end
section
variable{X:Cx}{E:XK}{pin:List Nat}{e b:ay}{de db:aj->R PV}{d:Pos}
def gn(a:aj)(i:Nat):Option (List PV):=match a[i]? with
 |some (.own (.lst c))=>aa c
 |_=>ae
theorem kT{a:aj}{i:Nat}{c:List PV}(h:gn a i=aa c):a[i]?=aa (.own (.lst c)):=by
 unfold gn at h;split at h
 .cases h;assumption
 .cases h
def pq(i:Nat)(de:aj->R PV):aj->R aQ:=λc=>(a6 (gn c i) c).bind λ_ c=>(de c).bind λy a=>(a6 (gn a i) a).bind λf a=>if f.length<cA then .ok .next (a.set i (.own (.lst (f++[y]))))else .no
theorem zi(i:Nat){x:Str}{p f c:Pos}(M:DE X E e de)(P:X.N[i]?=aa x:=by rfl)(J:gm X.env.scope x:=by eq_refl)(N:(x==("__debug__":Str))=ak:=by decide)(bY:(x==("__classdict__":Str))=ak:=by decide) (Y:mh (.Name x p) "append" X.env (aK (.Name x p) X.env)=aK (.Name x p) X.env:=by rfl)(W:((cV c (aM [e] X.env)).all (λx=>!x.1)&&(backToKw c (tw [] X.env)).all (λx=>x.1.isSome)&&decide ([e].length+([]:List kr).length+(if([]:List kr).isEmpty then 0 else 1)<30))=ai:=by rfl)(T:(f.endLine == c.line)=ai:=by rfl) (z:aM [e] X.env=(ak,aK e X.env)::aM [] X.env:=by rfl) (Q:(cV c (aM [] X.env)).any (·.1)=ak:=by rfl)(K:iV (.Call (.Attribute (.Name x p) "append" f) [e] [] c) ae d.line X.env=pure ak:=by rfl):DS X E pin (.Expr (.Call (.Attribute (.Name x p) "append" f) [e] [] c) d) (pq i de):=λF S s r H D t h=>by
 unfold pq at h;cases o:gn s i with
 |none=>rw[o]at h;exact h.elim
 |some A=>
  rw[o]at h;simp only[fE,R.bind_ok]at h;obtain⟨a,B,n,O,_,_,_⟩:=t.lstAt (kT o);refine gX (vj (sH Bf PySem.F.slot_list_append PySem.F.type_list_append zj (iK P J N bY) (gT br ju z) Y W T z Q) K) ⟨.ref a,n,.inl ⟨rfl,_,bK.of O⟩,?_⟩;refine M F S s r H _ t (h.bindE.imp λy l F1 S1 H1 w g1 q v G=>?_);cases j:gn l i with
  |none=>rw[j]at q;exact q.elim
  |some xs=>
   rw[j]at q;simp only[fE,R.bind_ok]at q;obtain⟨a',C,g,m,u,_,_⟩:=w.lstAt (kT j);rw[n]at g;cases g;split at q
   .rename_i L;obtain⟨I,Z⟩:=w.upd (kT j) n (u.app (.one G));exact⟨a,C,v,rfl,rfl,m,by rw[u.len];exact d_ L jt,q F1 S1 r _ I Z (gM.refl _ _)⟩
   .exact q.elim
def Fz:V->List V->Hp->VK->Prop:=λx f H Q=>∃l b c a,x=.ref l/\f=[.ref b]/\H l=aa (.lst c)/\Rd H b (.lst a)/\c.length+a.length<=aY/\Q .non (L2.upd H l (.lst (c++a)))
theorem F_:p6 X "list.extend" Fz:=by
 intro M s A H x D v G Q I j m h;obtain⟨l,b,C,B,rfl,rfl,i,t,K,q⟩:=h;cases j;obtain⟨u,rfl,o⟩:=m.one;cases o;obtain⟨z,c,n,r,L,e⟩:=I.lstM i;obtain⟨a,p,g,w,_⟩:=vM I t;have J:=g.length;have f:c.toArray.size+a.toArray.size<=aY:=by rw[bQ,bQ];lia
 have y:¬(!c.toArray.isEmpty&&A0 (c.toArray.size+a.toArray.size))=ai:=by rw[Hb f,Bool.and_false];exact dQ
 refine tx F.slot_list_extend ⟨_,e,rfl⟩ F.entry_list_extend (F.args_list_extend_2 _ _)
  (AutoSeq1.list_extend_list_list_0 l c.toArray n b a.toArray p y (by rw[bQ];lia) ∅) ⟨e,w,?_⟩
 refine⟨.non,_,I.lset (its':=c++a) i e (by simp) (r.append g) ?_,rfl,q⟩;rw[cW];lia
def pE(i:Nat)(de:aj->R PV):aj->R aQ:=λc=>(a6 (gn c i) c).bind λ_ c=>(de c).bind λy a=>(a6 (gn a i) a).bind λg a=>match y with
 |.lst f=>if g.length+f.length<=cA then .ok .next (a.set i (.own (.lst (g++f))))else .no
 |_=>.no
theorem EE(i:Nat){x:Str}{p g f:Pos}(P:DE X E e de)(Y:X.N[i]?=aa x:=by rfl)(M:gm X.env.scope x:=by eq_refl)(Q:(x==("__debug__":Str))=ak:=by decide)(bY:(x==("__classdict__":Str))=ak:=by decide) (h1:mh (.Name x p) "extend" X.env (aK (.Name x p) X.env)=aK (.Name x p) X.env:=by rfl)(h2:((cV f (aM [e] X.env)).all (λx=>!x.1)&&(backToKw f (tw [] X.env)).all (λx=>x.1.isSome)&&decide ([e].length+([]:List kr).length+(if([]:List kr).isEmpty then 0 else 1)<30))=ai:=by rfl)(h3:(g.endLine == f.line)=ai:=by rfl) (B:aM [e] X.env=(ak,aK e X.env)::aM [] X.env:=by rfl) (Z:(cV f (aM [] X.env)).any (·.1)=ak:=by rfl)(N:iV (.Call (.Attribute (.Name x p) "extend" g) [e] [] f) ae d.line X.env=pure ak:=by rfl):DS X E pin (.Expr (.Call (.Attribute (.Name x p) "extend" g) [e] [] f) d) (pE i de):=λF S t s H D u h=>by
 unfold pE at h;cases r:gn t i with
 |none=>rw[r]at h;exact h.elim
 |some C=>
  rw[r]at h;simp only[fE,R.bind_ok]at h;obtain⟨a,G,o,W,_,_,_⟩:=u.lstAt (kT r);refine gX (vj (sH Bf PySem.F.slot_list_extend PySem.F.type_list_extend F_ (iK Y M Q bY) (gT br ju B) h1 h2 h3 B Z) N) ⟨.ref a,o,.inl ⟨rfl,_,bK.of W⟩,?_⟩;refine P F S t s H _ u (h.bindE.imp λy m F1 S1 H1 A g1 q v K=>?_);cases l:gn m i with
  |none=>rw[l]at q;exact q.elim
  |some xs=>
   rw[l]at q;simp only[fE,R.bind_ok]at q;obtain⟨a',I,j,n,z,_,_⟩:=A.lstAt (kT l);rw[o]at j;cases j;split at q
   .rename_i ys;split at q
    .rename_i O;obtain⟨c,J,rfl,T,_,w⟩:=K;obtain⟨L,g2⟩:=A.upd (kT l) o (z.app w);exact⟨a,c,I,J,rfl,rfl,n,T,by rw[z.len,w.len];exact bX O jt,q F1 S1 s _ L g2 (gM.refl _ _)⟩
    .exact q.elim
   .exact q.elim
end
mutual
def imm:PV->Bool
 |.lst _=>ak
 |.tup a=>m9 a
 |_=>ai
def m9:List PV->Bool
 |[]=>ai
 |x::a=>imm x&&m9 a
end
mutual
theorem aJ.imm{K:au}{H:Hp}{F i:af->Prop}:∀(x:PV) {v:V},imm x=ai->aJ K H F x v->aJ K H i x v
 |.non,_,_,h=>h
 |.bl _,_,_,h=>h
 |.int _,_,_,h=>h
 |.str _,_,_,h=>h
 |.raw _,_,_,h=>h
 |.exc _,_,_,h=>h
 |.lst _,_,e,_=>by simp[Pu.imm]at e
 |.tup b,_,e,⟨a,c,g,f,d⟩=>⟨a,c,g,f,aS.imm b (by simpa[Pu.imm]using e) d⟩
theorem aS.imm{K:au}{H:Hp}{F i:af->Prop}:∀(a:List PV) {b:List V},m9 a=ai->aS K H F a b->aS K H i a b
 |[],_,_,h=>h
 |x::a,_,e,⟨v,r,g,f,d⟩=>by
  have c:imm x=ai/\m9 a=ai:=by simpa[m9]using e
  exact⟨v,r,g,aJ.imm x c.1 f,aS.imm a c.2 d⟩
end
section
variable{K:au}{F:af->Prop}{S:Nat->af->Prop}{d:aj}{c:St}{H:Hp}{i:Nat}{f:List PV}
theorem aI.look(r:aI K F S d c H)(e:d[i]?=aa (.own (.lst f))):∃a,c[i]?=aa (aa (.ref a))/\¬F a/\aJ K H (λb=>F b\/b=a) (.lst f) (.ref a)/\(∀b,F b\/b=a->∃o,H b=aa o) /\ (∀{h g},Al (λb=>F b\/b=a) h H g->Al F (λb=>h b/\b≠a) H g):=by
 obtain⟨a,m,q,l,p,n,s⟩:=r.lstAt e;have j:¬F a:=(r.foot i a n).2.1;refine⟨a,q,j,⟨a,m,rfl,.inl l,.inr rfl,aS.mono (λ_ z=>.inl z) (λ_ _ _ z=>z) (λ_ _ z _=>z) _ _ p⟩,λb z=>z.elim (r.ex b) λz=>by rw[z];exact⟨_,l⟩,λ{h g} al=>⟨λb z=>⟨al.fro b (.inl z),by rintro rfl;exact j z⟩,al.same,λb z=>?_⟩⟩;rcases al.fnew b z.1 with(w|w)|w
 .exact .inl w
 .exact absurd w z.2
 .exact .inr w
end
section
variable{X:Cx}{E:XK}{e b:ay}{de j:aj->R PV}{c p:Pos}{x y:Str}{d T:String}{r:List V->Hp->VK->Prop}{f:List PV->Option PV}{g:List PV->Option PO}
def oY(o:Option PV):Option PV:=o.bind λv=>if imm v then aa v else ae
theorem BW{o:Option PV}{v:PV}(h:oY o=aa v):o=aa v/\imm v=ai:=by
 cases o with
 |none=>cases h
 |some w=>
  have h:(if imm w then aa w else ae)=aa v:=h;split at h
  .cases h;exact⟨rfl,by assumption⟩
  .cases h
def He:PO->Bool
 |.lst a=>m9 a
 |_=>ak
def sx{h:Type}(f:List PV->Option h)(i:Nat):aj->R h:=λa=>(a6 (gn a i) a).bind λl a=>a6 (f [.lst l]) a
theorem IH{F:af->Prop}{S:Nat->af->Prop}{o:aj}{n:St}{H:Hp}{Q:VK}{i:Nat}(C:PL X.K r f)(u:aI X.K F S o n H)(h:Ok X.K E n F S H (sx (λl=>oY (f l)) i o) (λpv _ A _ m=>∀v,aJ X.K m A pv v->Q v m)):∃a,n[i]?=aa (aa (.ref a))/\r [.ref a] H Q:=by
 unfold sx at h;cases t:gn o i with
 |none=>rw[t]at h;exact h.elim
 |some l=>
  rw[t]at h;simp only[fE,R.bind_ok]at h;obtain⟨a,G,K,B,D,z⟩:=u.look (kT t);refine⟨a,G,?_⟩;cases s:oY (f [.lst l])with
  |none=>rw[s]at h;exact h.elim
  |some pv=>rw[s]at h;obtain⟨J,I⟩:=BW s;exact C _ H [.lst l] [.ref a] Q pv (.one B) J λw A m al q=>h _ S m (u.al (z al)) (z al).grow w (aJ.imm pv I q)
theorem GK(i:Nat)(A:fQ X (.builtin d) r)(t:PL X.K r f)(v:X.mg x=ae)(o:c8 x=aa (.builtin d))(B:X.N[i]?=aa y:=by rfl)(C:gm X.env.scope y:=by eq_refl)(z:(y==("__debug__":Str))=ak:=by decide) (J:(y==("__classdict__":Str))=ak:=by decide) (w:Gl X x:=by rfl) (u:x≠"__name__":=by decide) (D:(x==("__debug__":Str))=ak:=by decide) {h:Pos}(l:aM [.Name y h] X.env=(ak,aK (.Name y h) X.env)::aM [] X.env:=by rfl) (I:(cV c (aM [] X.env)).any (·.1)=ak:=by rfl):DE X E (.Call (.Name x p) [.Name y h] [] c) (sx (λm=>oY (f m)) i):=λF S L K H Q n q=>by obtain⟨a,G,s⟩:=IH t n q;exact bU (sN A w v o (gT (iK B C z J) ju l) u D l I) ⟨_,G,s⟩
def JQ(o:Option PO):Option PO:=o.bind λv=>if He v then aa v else ae
end
end Pu
namespace Pu
open L2
def lT(h:ax)(e T:af)(c g:ah):Prop:=∃a b f d,h.get? e=aa a/\a.cls=c/\(a.data=.fields b/\a.dict=ae)/\b[1]?=aa (.ref T)/\T≠e/\h.get? T=aa f/\f.data=.fields d/\d[3]?=aa g
def Made(h:ax)(e:af)(c:ah):Prop:=∃a b,h.get? e=aa a/\a.cls=c/\(a.data=.fields b/\a.dict=ae)/\b[1]?=aa .none
structure Kp(fs:List af)(X:af->Prop)(h h':ax):Prop where
 keep:∀b o,h.get? b=aa o->b∉fs->¬X b->h'.get? b=aa o
 slot:∀b o,h.get? b=aa o->b∈fs->¬X b->∃sl,h'.get? b=aa {o with slots:=sl}
 there:∀b o,h.get? b=aa o->∃o',h'.get? b=aa o'
theorem Kp.trans{fs:List af}{X Y:af->Prop}{h g f:ax}(a:Kp fs X h g)(b:Kp fs Y g f):Kp fs (λc=>X c\/Y c) h f where
 keep:=λc o e n x=>b.keep c o (a.keep c o e n λz=>x (.inl z)) n λz=>x (.inr z)
 slot:=λc o e n x=>by obtain⟨l,j⟩:=a.slot c o e n λz=>x (.inl z);obtain⟨d,i⟩:=b.slot c _ j n λz=>x (.inr z);exact⟨d,i⟩
 there:=λc o e=>let ⟨o',e'⟩:=a.there c o e;b.there c o' e'
theorem Kp.imp{fs d:List af}{X Y:af->Prop}{h j:ax}(a:Kp fs X h j)(f:∀b,b∈fs->b∈d)(g:∀b o,h.get? b=aa o->X b->Y b):Kp d Y h j where
 keep:=λc o e n x=>a.keep c o e (λz=>n (f c z)) λz=>x (g c o e z)
 slot:=λc o e n x=>by
  by_cases i:c∈fs
  .exact a.slot c o e i λz=>x (g c o e z)
  .exact⟨o.slots,a.keep c o e i λz=>x (g c o e z)⟩
 there:=a.there
theorem Eb(f:Array ah->Array ah)(o:Obj):(mo f o).dict=o.dict:=by
 obtain⟨c,d,dt,a⟩:=o;cases dt <;> rfl
section
variable{M:Model}{A:aH}{E:ah->am->Prop}{s:am}
theorem yr{y:ax}{l:Env}{g:List Env}{L e:af}{v:Obj}{G:Array ah}{z:ah}{Jn:Bool}{Q:Unit->am->Prop}(jU:A.frames=aa (l::g)) (P:s.heap.FunFrames y (l::g)) (hf:l.frame=aa L) (S:s.heap.get? e=aa v) (I:v.data=.fields G) (Z:v.dict=ae) (u:1<G.size)(h:∀K T,Kp (dY (l::g)) (λb=>b=e) s.heap K->lT K e T v.cls .none->s.heap.objs.size<=T->Q () {s with heap:=K}):aq M A (do let a <-frameOf l;let r <-entryPlaceOf L Jn;let b <-EntryCells.newEntry z a .none (cH L) .none r;kx (.ref e) 1 b) (λ_ X=>aq M A (setFlight (.ref e) ae) Q E X) E s:=by
 have w:e∉(l::g).filterMap (·.frame):=λhm=>by obtain⟨_,o,D,Y⟩:=P.mem hm;rw[S]at D;injection D with D;subst D;exact Y G I
 refine ap (wpAny_frameOf_fun jU P hf λc d=>?_);refine ap (wpAny_entryPlaceOf λr W=>?_);unfold EntryCells.newEntry newFields;refine ap (kq ?_ (W.sizeOk5 _ _ _ _ _));have n:c.get? e=aa v:=(d.2.1 e w).trans S;have m:=a8 (h:=c) {cls:=.type "traceback",dict:=ae,data:=.fields ([z,.ref L,.none,cH L,.none]++(if r.isEmpty then cQ 6 Value.none else r)).toArray} n;refine qi m I u ?_;have B:c.objs.size≠e:=kX (bj n);have j:=wN I (·.setIfInBounds 1 (Value.ref c.objs.size));have i:=n_ (mo (·.setIfInBounds 1 (Value.ref c.objs.size))) m (Bg j);have p:=(nZ (c.push {cls:=.type "traceback",dict:=ae,data:=.fields ([z,.ref L,.none,cH L,.none]++(if r.isEmpty then cQ 6 Value.none else r)).toArray}) (mo (·.setIfInBounds 1 (Value.ref c.objs.size))) (f9 B)).trans (bW c rfl);unfold setFlight;refine ap (nV i j (x:=.ref c.objs.size) (by simp[u]) ?_);rw[if_pos (show(Value.ref c.objs.size != Value.none)=ai from by simp)];refine qi p rfl (by simp only[bQ,cW,eh,iZ] <;> lia) (h _ c.objs.size ?_ ?_ ?_)
 .have keep:∀b o,b≠e->c.get? b=aa o ->
    (((c.push {cls:=.type "traceback",dict:=ae,data:=.fields ([z,.ref L,.none,cH L,.none]++(if r.isEmpty then cQ 6 Value.none else r)).toArray}).update e (mo (·.setIfInBounds 1 (Value.ref c.objs.size)))).update c.objs.size (mo (·.setIfInBounds 3 ((ae:Option af).elim Value.none λf=>cH f)))).get? b=aa o:=λb o C t=>by
   have J:c.objs.size≠b:=kX (bj t);rw[nZ _ _ J,nZ _ _ (f9 C)];exact a8 _ t
  refine⟨λb o t O H=>keep b o H ((d.2.1 b O).trans t),λb o t O H=>?_,λb o t=>?_⟩
  .obtain⟨N,q⟩:=d.2.2 b o t;exact⟨N,keep b _ H q⟩
  .by_cases C:b=e
   .subst C;exact⟨_,(nZ _ _ B).trans i⟩
   .obtain⟨N,q⟩:=d.2.2 b o t;exact⟨_,keep b _ C q⟩
 .refine⟨_,_,_,_,(nZ _ _ B).trans i,Obj.cls_mapFields _ _,⟨j,by rw[Eb];exact Z⟩,by simp[u],B,n_ _ p (Bg (wN rfl _)),wN rfl _,by first | (simp;done) | (rcases W with rfl|⟨_,_,_,_,_,_,_,rfl⟩ <;> simp)⟩
 .exact jI d.1.symm
theorem Gx{f:ax}{d:Env}{a:List Env}{L e:af}{c:ah}{Q:Unit->am->Prop}(o:A.frames=aa (d::a))(q:s.heap.FunFrames f (d::a))(i:d.frame=aa L)(p:Made s.heap e c)(h:∀g T,Kp (dY (d::a)) (λb=>b=e) s.heap g->lT g e T c .none->s.heap.objs.size<=T->Q () {s with heap:=g}):aq M A (leaving d (.ref e)) Q E s:=by obtain⟨u,t,j,r,⟨l,n⟩,m⟩:=p;subst r;unfold leaving noteFrame;simp only[i];refine ap (ap (nV j l m ?_));rw[if_neg (by decide)];exact yr o q i j l n (n8.mp m).1 h
theorem Ga{n:ax}{i:Env}{d:List Env}{L e T:af}{c:ah}{Q:Unit->am->Prop}(K:A.frames=aa (i::d))(P:s.heap.FunFrames n (i::d))(v:i.frame=aa L)(N:lT s.heap e T c .none)(h:∀m p,Kp (dY (i::d)) (λb=>b=e\/b=T) s.heap m->lT m e p c .none->s.heap.objs.size<=p->Q () {s with heap:=m}):aq M A (noteFrame (.ref e) i) (λ_ G=>aq M A (setFlight (.ref e) ae) Q E G) E s:=by
 obtain⟨X,u,Y,D,w,C,⟨x,H⟩,B,I,r,j,y⟩:=N;subst C;unfold noteFrame;simp only[v];refine ap (nV w x B ?_);rw[if_pos (show(Value.ref T != Value.none)=ai from by simp)];refine ap (nV r j y ?_);rw[if_neg (show ¬((Value.none == cH L)=ai)from by simp[cH])];refine ap (qi r j (n8.mp y).1 ?_);have a:∀b,b≠T->(s.heap.update T (mo (·.setIfInBounds 3 Value.none))).get? b=s.heap.get? b:=λb f=>nZ _ _ (f9 f);have g:∀b o,s.heap.get? b=aa o->(∀u,o.data≠.fields u)->b≠T:=λb o f t q=>by rw[q,r]at f;injection f with f;subst f;exact t D j
 refine yr K (P.of_keeps λb o f t=>⟨o,(a b (g b o f t)).trans f,rfl⟩) v ((a e (f9 I)).trans w) x H (n8.mp B).1 λm p k S O=>?_;have J:Kp (dY (i::d)) (λb=>b=T) s.heap (s.heap.update T (mo (·.setIfInBounds 3 Value.none))):=by
  refine⟨λb o f _ l=>(a b l).trans f,λb o f _ l=>⟨o.slots,(a b l).trans f⟩,λb o f=>?_⟩;by_cases l:b=T
  .subst l;exact⟨_,n_ _ r (Bg (wN j _))⟩
  .exact⟨o,(a b l).trans f⟩
 refine h m p ((J.trans k).imp (λ_ z=>z) λb o _ z=>z.symm) S ?_;have W:(s.heap.update T (mo (·.setIfInBounds 3 Value.none))).objs.size<=p:=O;rwa[Bh]at W
theorem HK{f:ax}{d:Env}{a:List Env}{L e T:af}{c:ah}{Q:Unit->am->Prop}(j:A.frames=aa (d::a))(m:s.heap.FunFrames f (d::a))(n:d.frame=aa L)(l:lT s.heap e T c .none)(h:∀g i,Kp (dY (d::a)) (λb=>b=e\/b=T) s.heap g->lT g e i c .none->s.heap.objs.size<=i->Q () {s with heap:=g}):aq M A (leaving d (.ref e)) Q E s:=by unfold leaving;exact ap (Ga j m n l h)
end
def b8(P:aG)(w:aC):ez:=λb H s E e s'=>∃(a T:af) (c:ah) (d:Hp),e=.ref a/\s'.os=s.os/\kh s'.gens/\Un (dY b) [] H d s.heap s'.heap/\cJ P w d s'.heap/\lT s'.heap a T c .none /\
 (s.heap.get? a=ae/\s.heap.get? T=ae/\d a=ae/\d T=ae)/\E c ae d
theorem BO{P:aG}{w:aC}{H:Hp}{h:ax}{a:af}{o:HO}(x:cN P w H h a o):∃u,h.get? a=aa u:=by
 cases o with
 |lst c=>obtain⟨_,_,_,_,e⟩:=x;exact⟨_,e⟩
 |tup c=>obtain⟨_,_,_,⟨o,e,_⟩,_⟩:=x;exact⟨_,e⟩
 |dK b=>obtain⟨_,_,_,_,o,_,_,e,_⟩:=x;exact⟨_,e⟩
 |dT b=>obtain⟨_,_,_,_,o,_,_,e,_⟩:=x;exact⟨_,e⟩
 |dN b=>obtain⟨_,_,_,_,o,_,_,e,_⟩:=x;exact⟨_,e⟩
 |set S n=>obtain⟨o,_,_,_,e,_⟩:=x;exact⟨_,e⟩
 |ins C m fs=>obtain⟨_,_,_,e,_⟩:=x;exact⟨_,e⟩
 |own y=>exact x
 |xd fs=>obtain⟨_,⟨_,_,_,e,_⟩,_⟩:=x;exact⟨_,e⟩
 |rng j l=>obtain⟨_,_,_,e⟩:=x;exact⟨_,e⟩
 |frz i u=>obtain⟨e,_⟩:=x;exact⟨_,e⟩
 |tbl g=>obtain⟨_,e,_⟩:=x;exact⟨_,e⟩
 |met f y=>exact⟨_,x⟩
 |ext d=>obtain⟨_,e,_⟩:=x;exact e
theorem Dm{P:aG}{w:aC}{H:Hp}{h:ax}{a:af}(x:cJ P w H h)(e:h.get? a=ae):H a=ae:=by
 cases q:H a with
 |none=>rfl
 |some u=>obtain⟨o,z⟩:=BO (x a u q);rw[e]at z;cases z
theorem pL{fs:List af}{H c:Hp}{h b:ax}{a:af}(u:Un fs [] H c h b)(e:b.get? a=ae):h.get? a=ae:=by
 cases q:h.get? a with
 |none=>rfl
 |some o=>obtain⟨d,z⟩:=u.there a o q (by simp);rw[e]at z;cases z
theorem z8{fs a:List af}{H p:Hp}{h l j:ax}{X:af->Prop}(u:Un fs [] H p h l)(k:Kp a X l j)(r:∀b o,h.get? b=aa o->b∈a->b∈fs)(g:∀b o,h.get? b=aa o->¬X b):Un fs [] H p h j where
 keep:=λb o e n d c=>k.keep b o (u.keep b o e n d c) (λz=>d (r b o e z)) (g b o e)
 slot:=λb o e n d c=>by
  obtain⟨q,m⟩:=u.slot b o e n d c;by_cases i:b∈a
  .obtain⟨f,s⟩:=k.slot b _ m i (g b o e);exact⟨f,s⟩
  .exact⟨q,k.keep b _ m i (g b o e)⟩
 free:=u.free
 there:=λb o e c=>let ⟨o',e'⟩:=u.there b o e c;k.there b o' e'
 tups:=u.tups
 frzs:=u.frzs
 tbls:=u.tbls
theorem y3{P:aG}{w:aC}{fs:List af}{H:Hp}{h d:ax}{X:af->Prop}(x:cJ P w H h)(k:Kp fs X h d)(f:∀b∈fs,H b=ae)(g:∀b,X b->H b=ae):cJ P w H d:=λb u e=>
 (x b u e).stay (λc v a q=>k.keep c v q (λz=>by
   have:=f c z;rcases a with rfl|a
   .rw[e]at this;cases this
   .rw[a]at this;cases this) λz=>by
   have:=g c z;rcases a with rfl|a
   .rw[e]at this;cases this
   .rw[a]at this;cases this) (λ_ q=>q) λ_ _ q=>q
section
variable{P:aG}{w:aC}{K:au}{n:Str->Option ah}{l:ax}{N:List Str}{j:Str}{g:cy}{f:af}{p:ah}{A:aH}{i:List Env}{d:am}{m:Hp}{E:XK}
theorem dy:nv (b8 P w) (fY (b8 P w) P w K n l N j g f p A i d m E) E:=λag Y H s e s' I h=>by
 obtain⟨a,T,c,X,rfl,J,M,un,y,Q,⟨S,W,G,Z⟩,O⟩:=h;have r:=I.call' (s':=s') (ch:=[]) J un y M (λb z=>absurd z (by simp));refine HK (L:=d.heap.objs.size) I.ok.frames r.stack rfl Q λjV D k B x=>?_;have lR:(fY (b8 P w) P w K n l N j g f p A i d m E).ex=[]:=rfl;have u:d.heap.get? a=ae:=pL I.base S;have C:d.heap.get? T=ae:=pL I.base W;have v:d.heap.get? D=ae:=pL r.base (sY x);have t:∀b o,d.heap.get? b=aa o->b≠a/\b≠T:=λb o e=>⟨(by rintro rfl;rw[u]at e;cases e),(by rintro rfl;rw[C]at e;cases e)⟩
 refine⟨a,D,c,X,rfl,r.os,r.bare,z8 r.base k (λb o e z=>?_) (λb o e z=>z.elim (t b o e).1 (t b o e).2),y3 r.hok k r.stkFree (λb z=>by rcases z with rfl|rfl <;> assumption),B,⟨u,v,G,r.hok.fresh x⟩,O⟩;rcases bw.mp (I.stkSub b z)with q|q
 .exact absurd (bj e) (by rw[q];exact eC _)
 .exact q
end
section
variable{X:Cx}{E:XK}{pin:List Nat}{e:ay}{de:aj->R PV}{x:Str}{C:af}{i:List ah}{d f B:String}{l g j:Pos}
def xh(X:Cx)(E:XK):Prop:=∀(n:List (af×Obj)) (m:St) (H:Hp) (s:am) (a:af) (c:ah) (h:ax),Inv X n m H s->(∀b o,s.heap.get? b=aa o->h.get? b=aa o)->Made h a c->s.heap.get? a=ae->(E c ae H)->X.xe (.ref a) {s with heap:=h}
def uD(c:ah)(de:aj->R PV):aj->R aQ:=λb=>(de b).bind λ_ a=>.er c a
theorem FZ{h c:ax}{e:af}{a:ah}{b:List ah}(m:Heap.MadeExcOf h c e a b):Made c e a:=by obtain⟨t,n,_,_⟩:=m.there;exact⟨_,_,n,rfl,⟨rfl,rfl⟩,rfl⟩
theorem zq(hx:xh X E)(hc:X.calm=ai)(O:OwnCls x C i d X.mg X.base)(P:ExcBaseFacts B d f i)(he:DE X.nox E0 e de)(hg:Gl X x:=by rfl)(hd:(x==("__debug__":Str))=ak:=by decide)(L:aM [e] X.env=[(ak,aK e X.env)]:=by rfl):DS X E pin (.Raise (aa (.Call (.Name x l) [e] [] g)) ae j) (uD (.ref C) (λt=>c0 (de t))):=λF S t n H D Y q=>Bx.mk λM s I=>by
 obtain⟨Q,N,nm,Z,bs,hdct,sn,sub,ab,col,dd,k0,k1,k2,k3,k5,mN,hC,hN,G,T⟩:=O.obj;refine wpAny_Raise_call_subT (C:=C) (nm:=nm) (q:=Z) (N:=N) (bs:=bs) (bm:=Q) (hdct:=hdct) (sn:=sn) (sub:=sub) (ab:=ab) (col:=col) (dd:=dd) (k0:=k0) (k1:=k1) (k2:=k2) (k3:=k3) (k5:=k5)
  P (mN:=mN) (T.hasType P.hasBase) (I.ok.hd hc) (by rw[L];rfl) G (wb I hg O.bound ⟨rfl,?_⟩ hd)
 have q2:Ok X.K E0 n F S H (de t) (λ_ b r o p=>g7 X.K E pin n r o p (.er (.ref C) b) D):=by
  have q:g7 X.K E pin n F S H ((c0 (de t)).bind λ_ b=>.er (.ref C) b) D:=q;cases J:de t with
  |no=>rw[J]at q;exact q.elim
  |er c y=>rw[J]at q;exact q.elim
  |ok v y=>rw[J]at q;exact λF' S' H' r' g'=>q.from g' (gM.refl _ _)
 rw[L];refine AZ (c9 (tj (c9 ((he F S t n H (λv p=>∃r o b,aI X.K r o b n p/\g7 X.K E pin n r o p (.er (.ref C) b) D) Y (q2.imp λv b r o p K g1 h v' rv=>⟨r,o,b,K,h⟩)).run M s (I.wish _)) (λu W ⟨v,p,w,K,r,o,b,A,ok⟩=>?_) λ_ _ z=>z.elim)) (λ_ _ z=>z) λ_ _ z=>z);have w:=w.unwish;refine wu ⟨rfl,(by show 1<=aY;decide),w.bk _ _ hC,hN.keeps w.bk,T.keeps w.bk,λh' a m=>?_⟩;exact hx M n p W a (.ref C) h' w m.keeps (FZ m) m.new (ok ae r o n p A (bg.refl ..) (gM.refl _ _))
end
section
variable{P:aG}{w:aC}{K:au}{m:Str->Option ah}{j:ax}{N:List Str}{i:Str}{g:cy}{f:af}{n:ah}{A:aH}{h:List Env}{d:am}{l:Hp}{E:XK}
theorem xL:xh (fY (b8 P w) P w K m j N i g f n A h d l E) E:=λM C H s a c y I G D new J=>by
 have p:Inv _ M C H {s with heap:=y}:=I.kept (t':=s.toks) G;refine Gx (s:={s with heap:=y}) (L:=d.heap.objs.size) I.ok.frames p.stack rfl D λO B k v u=>?_;have r:d.heap.get? a=ae:=pL I.base new;have t:d.heap.get? B=ae:=pL p.base (sY u);have x:H a=ae:=Dm I.hok new;refine⟨a,B,c,H,rfl,p.os,p.bare,z8 p.base k (λb o e z=>?_) (λb o e z=>by rw[show b=a from z,r]at e;cases e),y3 p.hok k p.stkFree (λb z=>by rw[show b=a from z];exact x),v,⟨r,t,x,p.hok.fresh u⟩,J⟩;rcases bw.mp (I.stkSub b z)with q|q
 .exact absurd (bj e) (by rw[q];exact eC _)
 .exact q
end
def XP(X:Cx)(g:List (af×Obj))(d:St)(h:ah->Hp->Prop)(e:ah)(f:am):Prop:=∃a b,Inv X g d b a/\b8 X.prog X.w X.stack b a (λc _ i=>h c i) e f
section
variable{X:Cx}{K:au}
variable{E:XK}{e:ay}{de:aj->R PV}{a:Pos}{y:Str}
def j4(b:List PV)(y:PV):Option PV:=(b7 y).bind λv=>(fA b).map λc=>.int (c.countP λz=>cg z v)
def nE(b:List PV)(y:PV):Option PV:=(b7 y).bind λv=>(fA b).bind λc=>(c.findIdx? λz=>cg z v).map λj=>.int j
end
theorem Cq(c:Nat)(x:Tx):rh [c] x=x.contains c:=by unfold rh;have:=StrLaws.found_one (tS x) c;rw[kQ]at this;rw[show(tS [c])=⟨#[c]⟩from rfl,this];simp[List.contains_eq_mem]
section
variable{X:Cx}{K:au}
def PM(K:au)(r:V->List V->Hp->VK->Prop)(f:Tx->List PV->Option PV):Prop:=∀(F:af->Prop) (H:Hp) (x:Tx) (b:List PV) (c:List V) (Q:VK) (pv:PV),x.length<=cA->aS K H F b c->f x b=aa pv->(∀w d a,Al F d H a->aJ K a d pv w->Q w a)->r (tV x) c H Q
def vt:PV->Option Tx
 |.str x=>aa x
 |_=>ae
def o7(f:Tx->List PV->Option PV)(d:aj->R PV)(i:aj->R (List PV)):aj->R PV:=λc=>(d c).bind λx a=>(a6 (vt x) a).bind λy a=>(i a).bind λg b=>a6 (f y g) b
variable{E:XK}{o e:ay}{g:List ay}{d:aj->R PV}{i:aj->R (List PV)}{b:Str}{c a:Pos}{j:String}{r:V->List V->Hp->VK->Prop}{f:Tx->List PV->Option PV}
theorem EI(n:PySem.Slot "str" b j)(P:typeOf (.builtin j)=pure (.type "method_descriptor"))(hm:sV X j r)(hp:PM X.K r f)(ho:DE X E o d)(ha:DA X E (e::g) i)(W:mh o b X.env (aK o X.env)=aK o X.env:=by rfl)(N:((cV a (aM (e::g) X.env)).all (λx=>!x.1)&&(backToKw a (tw [] X.env)).all (λx=>x.1.isSome)&&decide ((e::g).length+([]:List kr).length+(if([]:List kr).isEmpty then 0 else 1)<30))=ai:=by rfl)(T:(c.endLine == a.line)=ai:=by rfl) (Z:aM (e::g) X.env=(ak,aK e X.env)::aM g X.env:=by rfl) (O:(cV a (aM g X.env)).any (·.1)=ak:=by rfl):DE X E (.Call (.Attribute o b c) (e::g) [] a) (o7 f d i):=λF S C s H Q J h=>by
 refine bU (sH PySem.F.plainAttrs_str n P hm br eP W N T Z O) (ho F S C s H _ J ((Ok.bind h).imp λx m B z A M g1 q v I=>?_));cases x <;> first|exact(show False from q).elim|skip
 rename_i y;obtain⟨rfl,Y⟩:=I;refine⟨rfl,?_⟩;have q:Ok X.K E s B z A ((i m).bind λD l=>a6 (f y D) l) _:=q;refine ha B z m s A _ M ((Ok.bind q).imp λu l F2 S2 H2 L g2 p G fq=>?_);cases e:f y u with
 |none=>rw[e]at p;exact p.elim
 |some pv=>rw[e]at p;exact hp F2 H2 y u G Q pv Y fq e λw F' H' al t=>p F' S2 H' (L.al al) al.grow w t
end
section
variable{X:Cx}{E:XK}{n:cy}{x:Str}{N':List Str}{cap:List Nat}
variable{pin:List Nat}
theorem Cy{F:af->Prop}{S:Nat->af->Prop}{m:aj}{f:St}{H:Hp}{D:iL}{i:Nat}{dn:aj->R PO}(P:i∉pin)(rl:aI X.K F S m f H)(h:g7 X.K E pin f F S H (dH i (dF dn) m) D):Ok X.K E f F S H (dn m) (λr _ q t l=>∀a d,dE X.K l q r a d->(∀b,d b->H b=ae/\¬q b/\¬U t b/\∃o,l b=aa o/\dq o)->D.nx (f.set i (aa (.ref a))) l):=by
 unfold dH dF at h;cases s:dn m with
 |no=>rw[s]at h;exact h.elim
 |er c I=>rw[s]at h;exact λx q t l M Z=>h x q t f l M Z (gM.refl _ _)
 |ok r G=>
  rw[s]at h;intro B A p L j a d N v;cases r with
  |dK g=>exact h.elim
  |lls ie=>exact h.elim
  |ins C fs=>exact h.elim
  |dT g=>exact h.elim
  |dN g=>exact h.elim
  |inl C fs y u=>exact h.elim
  |lst u=>
   have W:∀b,d b->¬U A b/\∃o,p b=aa o:=λb z=>let ⟨_,_,x3,o,x4,_⟩:=v b z;⟨x3,o,x4⟩
   obtain⟨⟨J,Q,O⟩,T⟩:=N;have Y:bg (U S) (U A) F (λb=>B b\/d b) H p:=⟨λb z=>.inl (j.fro b z),j.keep,j.there,λb z=>z.elim (j.fnew b) λw=>.inr (.inl (v b w).1),j.onew⟩
   have K:aJ X.K p (λb=>B b\/d b) (.lst u) (.ref a):=⟨a,J,rfl,.inl Q,.inr ((T a).mpr rfl),aS.mono (λ_ z=>.inl z) (λ_ _ _ z=>z) (λ_ _ z _=>z) _ _ O⟩
   exact h _ _ _ p ((L.more W).set K) (Y.trans (bg.less i)) (gM.set P)
section
variable{c a:ay}{y:Str}{g j f d:Pos}{l:aj->R (List PV)}{dt:aj->R Bool}{de:aj->R PV}{m:aj->R PO}{b:List ay}
theorem BZ(i:Nat)(P:X.N.Nodup)(B:gQ X n x N' cap)(O:X.calm=ai)(L:DI X E (.Name x g) a l)(G:∀C o p r q,DF (bM X n N' C o p r q) E0 b dt) (N:∀C o p r q,DE (bM X n N' C o p r q) E0 c de)(K:i∉pin:=by decide) (z:X.N[i]?=aa y:=by rfl) (A:Loc X.env.scope y:=by first|exact Or.inl rfl|exact Or.inr rfl) (w:iV (.ListComp c [⟨.Name x g,a,b,0⟩] n f) (aa (.Name y j)) d.line X.env=pure ai:=by rfl)(M:X.fn y=ai\/X.env.scope.names.lookup y=aa .local:=by first|exact .inl rfl|exact .inr rfl) (J:∀x,ma a X.env x=pure x:=by intro _;rfl):DS X E pin (.Assign [.Name y j] (.ListComp c [⟨.Name x g,a,b,0⟩] n f) d) (dH i (dF (dr cap l dt de))):=λF S T t H D v h=>gX (Io (wi:=nL X (.Name x g) a) (ts:=λt H Q=>∀C o p r q,si (bM X n N' C o p r q) b t H Q) (te:=λt H Q=>∀C o p r q,gq (bM X n N' C o p r q) c t H Q) B O wf (λC o p r q u s t H Q I h=>(h C o p r q).run u s I) (λC o p r q u s t H Q I h=>(h C o p r q).run u s I) P z A w M J) (y0 L G N v (Cy K v h))
end
end
def fe(a:List Nat):Nat->aj->Bool
 |_,[]=>ai
 |i,.own c::b=>a.contains i&&gR c&&fe a (i+1) b
 |i,_::b=>fe a (i+1) b
theorem lD{c:List Nat}:∀{b:aj}{k:Nat},fe c k b=ai->∀(i:Nat) a,b[i]?=aa (.own a)->k+i∈c/\gR a=ai
 |[],_,_,i,a,e=>by simp at e
 |.own q::b,k,h,0,a,e=>by simp only[List.getElem?_cons_zero,Option.some.injEq,Slot.own.injEq]at e;subst e;simp only[fe,eV]at h;exact⟨by simpa using h.1.1,h.1.2⟩
 |.own q::b,k,h,i+1,a,e=>by simp only[fe,eV]at h;have:=lD (k:=k+1) h.2 i a (by simpa using e);rwa[Bi,mq]at this
 |.val q::b,k,h,0,a,e=>by simp at e
 |.none::b,k,h,0,a,e=>by simp at e
 |.val q::b,k,h,i+1,a,e=>by have:=lD (k:=k+1) (by simpa[fe]using h) i a (by simpa using e);rwa[Bi,mq]at this
 |.none::b,k,h,i+1,a,e=>by have:=lD (k:=k+1) (by simpa[fe]using h) i a (by simpa using e);rwa[Bi,mq]at this
def bF(len:Nat)(b:List Nat)(g:aj->R Slot):aj->R Slot:=λa=>if a.length=len/\fe b 0 a=ai then g a else .no
theorem dm{q:ez}{P:aG}{w:aC}{K:au}{o:Str->Option ah}{g:ax}{x:Str}{c:aX}{N b:List Str}{k n:Nat}{d:aj->R aQ}{pin:List Nat}(D:cE K o x c)(G:cb N b (aU c))(u:N.length=b.length+n)(v:∀(kV p t:ah) (C:Option af) (l B:ah) (m:List ah),m.length=b.length->ef (g_ x x (im c) (eR c) (aU c) .none kV p t C l B) ⟨m,[]⟩=pure (b.zip m))(y:∀(f:af) (l:ah) (A:aH) (j:List Env) (s:am) (H:Hp) (E:XK),Room k (A.deeper (g9 x (aU c) s.heap.objs.size f l))->fR (fY q P w K o g N x (aU c) f l A j s H E) E pin (eR c) d):cF q P w K o g x (k+1) b (bN K (bF b.length pin (bI n d))):=by
 have no:∀{a},bF b.length pin (bI n d) a≠.no->a.length=b.length/\fe pin 0 a=ai:=λ{a} h=>by
  unfold bF at h;by_cases z:a.length=b.length/\fe pin 0 a=ai
  .exact z
  .rw[if_neg z]at h;exact absurd rfl h
 exact IV D G u v (λa h=>(no h).1) (λa h i r e=>by have:=lD (no h).2 i r e;rwa[tU]at this) (λa h=>by unfold bF;rw[if_pos (no h)]) y
theorem Eu{f:af}{r:fM}{t:ez}{P:aG}{w:aC}{K:au}{q:Str->Option ah}{j:ax}{x a:Str}{g:aX}{N c:List Str}{k n:Nat}{d:aj->R aQ}{pin:List Nat}(J:lM K x a g f r)(I:cb N c (aU g))(y:N.length=c.length+n)(B:∀(kV p v:ah) (G:Option af) (m D:ah) (o:List ah),o.length=c.length->ef (g_ x a (im g) (eR g) (aU g) .none kV p v G m D) ⟨o,[]⟩=pure (c.zip o))(C:∀(f:af) (m:ah) (A:aH) (l:List Env) (s:am) (H:Hp) (E:XK),Room k (A.deeper (g9 a (aU g) s.heap.objs.size f m))->fR (fY t P w K q j N a (aU g) f m A l s H E) E pin (eR g) d):iJ P w K q j t (k+1) f r c (bN K (bF c.length pin (bI n d))):=by
 have no:∀{b},bF c.length pin (bI n d) b≠.no->b.length=c.length/\fe pin 0 b=ai:=λ{b} h=>by
  unfold bF at h;by_cases z:b.length=c.length/\fe pin 0 b=ai
  .exact z
  .rw[if_neg z]at h;exact absurd rfl h
 exact zc J I y B (λb h=>(no h).1) (λb h i u e=>by have:=lD (no h).2 i u e;rwa[tU]at this) (λb h=>by unfold bF;rw[if_pos (no h)]) C
theorem Ak{P:List ah->Prop}(h:∀a,P [a])(c:List ah)(d:c.length=1):P c:=by
 cases c with
 |nil=>cases d
 |cons a r=>cases r with
  |nil=>exact h a
  |cons b r=>cases d
theorem Az{P:List ah->Prop}(h:∀a b,P [a,b])(c:List ah)(d:c.length=2):P c:=by
 cases c with
 |nil=>cases d
 |cons a r=>exact Ak (P:=λr=>P (a::r)) (h a) r (wO d)
theorem yh{P:List ah->Prop}(h:∀a b c,P [a,b,c])(d:List ah)(f:d.length=3):P d:=by
 cases d with
 |nil=>cases f
 |cons a r=>exact Az (P:=λr=>P (a::r)) (h a) r (wO f)
theorem HY{P:List ah->Prop}(h:∀a b c d,P [a,b,c,d])(f:List ah)(g:f.length=4):P f:=by
 cases f with
 |nil=>cases g
 |cons a r=>exact yh (P:=λr=>P (a::r)) (h a) r (wO g)
theorem JI{d:fM}{c:List Str}(h:∀a,ef d ⟨[a],[]⟩=pure (c.zip [a]))(b:List ah)(f:b.length=1):ef d ⟨b,[]⟩=pure (c.zip b):=Ak (P:=λb=>ef d ⟨b,[]⟩=pure (c.zip b)) h b f
theorem Jx{f:fM}{d:List Str}(h:∀a b,ef f ⟨[a,b],[]⟩=pure (d.zip [a,b]))(c:List ah)(g:c.length=2):ef f ⟨c,[]⟩=pure (d.zip c):=Az (P:=λc=>ef f ⟨c,[]⟩=pure (d.zip c)) h c g
theorem JF{g:fM}{f:List Str}(h:∀a b c,ef g ⟨[a,b,c],[]⟩=pure (f.zip [a,b,c]))(d:List ah)(i:d.length=3):ef g ⟨d,[]⟩=pure (f.zip d):=yh (P:=λd=>ef g ⟨d,[]⟩=pure (f.zip d)) h d i
theorem JS{i:fM}{g:List Str}(h:∀a b c d,ef i ⟨[a,b,c,d],[]⟩=pure (g.zip [a,b,c,d]))(f:List ah)(j:f.length=4):ef i ⟨f,[]⟩=pure (g.zip f):=HY (P:=λf=>ef i ⟨f,[]⟩=pure (g.zip f)) h f j
theorem kc{P:aG}{w:aC}{X:Cx}:nv (b8 P w) X E0:=λ_ _ _ _ _ _ _ h=>by obtain⟨a,T,c,b,_,_,_,_,_,_,_,z⟩:=h;exact z.elim
theorem io:c8 "len"=aa (.builtin "len"):=by decide +kernel
theorem wc:c8 "all"=aa (.builtin "all"):=by decide +kernel
theorem ve:c8 "sorted"=aa (.builtin "sorted"):=by decide +kernel
theorem nu:c8 "isinstance"=aa (.builtin "isinstance"):=by decide +kernel
theorem Gq:c8 "int"=aa (.type "int"):=by decide +kernel
theorem Gf:c8 "bool"=aa (.type "bool"):=by decide +kernel
theorem yV:c8 "str"=aa (.type "str"):=by decide +kernel
theorem Di:c8 "list"=aa (.type "list"):=by decide +kernel
theorem uN:c8 "tuple"=aa (.type "tuple"):=by decide +kernel
theorem EK:c8 "set"=aa (.type "set"):=by decide +kernel
def j9:ay->Bool
 |.Starred _ _=>ai
 |_=>ak
theorem jm{e:ay}{es:List ay}{env:Env}(h:j9 e=ak):aM (e::es) env=(ak,aK e env)::aM es env:=by
 cases e <;> first|rfl|cases h
section
variable{X:Cx}{E:XK}{e:ay}{a:List ay}{d:aj->R PV}{b:aj->R (List PV)}{c:aj->R (List bB)}
theorem a9(g:DE X E e d)(f:DA X E a b)(h:j9 e=ak:=by rfl):DA X E (e::a) (aF d b):=E9 g f (jm h)
theorem ba(g:DE X E e d)(f:DG X E a c)(h:j9 e=ak:=by rfl):DG X E (e::a) (gV d c):=CS g f (jm h)
end
def sh:List ah:=[.type "ValueError",.type "Exception",.type "BaseException",.type "object"]
theorem HP{K:au}{h:ax}{C:af}{B:List ah}{nw:String}(X:K.In h)(q:oj K C B nw=ai):∃i N v p bs D j a G c E A z y x w g,h.get? C=aa (excClassObj v p C N bs i D j a G c E A z y x w nw)/\h.Ns N g/\g "__init__"=ae/\OwnTail h B i:=by
 unfold oj at q;split at q
 case h_2=>cases q
 case h_1 d0 cdata slots look=>
  split at q
  case h_2=>cases q
  case h_1 C2 tl s0 s1 s2 s3 nn s5 em es=>
   rw[eV,eV,eV,eV,eV]at q;obtain⟨⟨⟨⟨⟨u,t⟩,f⟩,s⟩,b⟩,r⟩:=q;have o:=beq_iff_eq.mp u;have n:=beq_iff_eq.mp t;have d:=beq_iff_eq.mp r;subst o n;cases cdata;dsimp only at em f b d;subst em;have m:=Bj _ |>.mp f
   subst m;have l:slots=#[s0,s1,s2,s3,aa (.builtin nn),s5]:=by cases slots;exact congrArg Array.mk es
   subst l;exact⟨tl,_,_,_,_,_,_,_,_,_,d0,s0,s1,s2,s3,s5,_,X _ _ look,Heap.Ns.of_isNs (PySem.W.isNs_of_in X b),PySem.W.nsMap_none_of_in X b d,PySem.W.tail_of_in X s⟩
theorem xZ{K:au}{h:ax}{a:Str->Option ah}{x:Str}{C:af}{B:List ah}{nw:String}(X:K.In h)(e:a x=aa (.ref C))(q:oj K C B nw=ai):OwnCls x C B nw a h:=⟨e,HP X q⟩
def subB(K:au)(D C:af):Bool:=match K.lookup C with
 |some ⟨_,_,.cls a,_⟩=>a.mro.contains (.ref D)
 |_=>ak
def zf(K:au)(C:af):Bool :=
 tf K (.ref C) "__getattribute__" == aa (aa (.builtin "BaseException.__getattribute__"))&&tf K (.ref C) "__getattr__" == aa ae&&tf K (.ref C) "__class__" == aa (aa (.builtin "object.__class__")) &&
 PySem.W.specialIn K (.builtin "object.__class__") "__get__" == aa (aa (.builtin "getset_descriptor.__get__"))&&PySem.W.takesIn K (.builtin "object.__class__") == aa ai&&PySem.W.mroIn K C (.type "object") == aa ai&&PySem.W.mroIn K C (.type "BaseException") == aa ai&&(PySem.W.clsIn K C).isSome
def ue(K:au):Bool:=K.all λp=>match p.2.cls with
 |.type t=>t != "list"
 |_=>ai
theorem z6{a:af}{o:Obj}:∀{K:au},K.lookup a=aa o->(a,o)∈K
 |[],e=>by cases e
 | (b,u)::K,e=>by
  rw[iz]at e;cases q:a == b with
  |true=>rw[q]at e;cases e;rw[beq_iff_eq.mp q];exact iT ..
  |false=>rw[q]at e;exact iy _ (z6 e)
theorem y8{K:au}{H:Hp}{F:af->Prop}:∀a:List Int,aS K H F (a.map .int) (a.map V.int)
 |[]=>rfl
 |x::a=>⟨.int x,a.map V.int,rfl,rfl,y8 a⟩
theorem Hl{K:au}{H:Hp}{a:af}{b:List V}(h:ue K=ai)(s:bK K H a b):Rd H a (.lst b):=by
 rcases s with s|⟨o,d,n,c,f,_⟩
 .exact s
 .have:=lh.mp h _ (z6 c);rw[f]at this;simp at this
theorem HU{K:au}{g:aj->R Slot}{H:Hp}{a:af}{c:List Int}{E:XK}(d:Rd H a (.lst (c.map V.int)))(h:g [.val (.lst (c.map .int))]=.ok (.val (.bl ai)) [.val (.lst (c.map .int))]):bN K g [.ref a] H (λv _=>v=.bl ai) E:=by
 refine⟨λb=>b=a,λ_ _=>False,[.val (.lst (c.map .int))],⟨rfl,λb e=>?_,λi pv e=>?_,λi l e=>?_,λi b z=>z.elim,λi j b z=>z.elim⟩,?_⟩
 .subst e;rcases d with d|⟨o,d⟩ <;> exact⟨_,d⟩
 .cases i with
  |zero=>cases e;exact⟨_,rfl,a,_,rfl,d,rfl,y8 c⟩
  |succ i=>simp at e
 .cases i with
  |zero=>cases e
  |succ i=>simp at e
 .rw[h];exact λv q n p m _ _ f _ _=>f.1
theorem JO{K:au}{x:Str}{i:Int}{t:Tok}(e:cX K bG x=aa (aa (.int i t))):∃t,cX K bG x=aa (aa (.int i t)):=⟨t,e⟩
theorem JJ{K:au}{x:Str}{l:Tx}{t:Tok}(e:cX K bG x=aa (aa (.str (tS l) t))):∃t,cX K bG x=aa (aa (.str (tS l) t)):=⟨t,e⟩
def cP(K:au)(x:Str)(a:aX):Prop:=∃f oc g kV h d j b i c,cX K bG x=aa (aa (.ref f))/\K.lookup f=aa ⟨oc,g,.func (g_ x x (im a) (eR a) (aU a) .none kV h d j b i),c⟩/\tt K b x=ai/\p_ K (.ref f)=ai
theorem Jw{K:au}{x:Str}{b:aX}{f:af}{oc kV j h d m:ah}{i n:Option af}{g:Array (Option ah)}(a:cX K bG x=aa (aa (.ref f)))(l:K.lookup f=aa ⟨oc,i,.func (g_ x x (im b) (eR b) (aU b) .none kV j h n d m),g⟩)(c:tt K d x=ai) (k:p_ K (.ref f)=ai):cP K x b:=⟨f,oc,i,kV,j,h,n,d,m,g,a,l,c,k⟩
theorem cP.at{K:au}{h:ax}{mg:Str->Option ah}{x:Str}{st:aX}(d:cP K x st)(X:K.In h)(G:h.Ns bG mg):cE K mg x st:=by obtain⟨f,oc,i,kV,j,g,o,n,m,b,a,l,c,k⟩:=d;exact⟨f,_,i6 X G a,zU l c k⟩
def CJ(a:List (bz×PV))(k:bz):Option PV:=(a.find? λb=>decide (b.1=k)).map (·.2)
def DV:PV->Option bz
 |.int i=>aa (.inl i)
 |.str x=>aa (.inr (tS x))
 |_=>ae
section
variable{K:au}{F:af->Prop}{S:Nat->af->Prop}{d:aj}{f:St}{H:Hp}{i:Nat}{l:List (bz×PV)}{m:List (bz×V)}{a:af}
theorem aI.updO{s po':PO}{o':HO}(r:aI K F S d f H)(e:d[i]?=aa (.own s))(P:gR s=ai)(G:f[i]?=aa (aa (.ref a)))(O:dq o')(h:∀A,(∀x v,aJ K H F x v->aJ K A F x v)->(∀x v,aS K H F x v->aS K A F x v)->A a=aa o'->∀J:af->Prop,(∀b,J b↔b=a)->dE K A F po' a J):aI K F S (d.set i (.own po')) f (L2.upd H a o')/\bg (U S) (U S) F F H (L2.upd H a o'):=by
 obtain⟨Q,I,N⟩:=r.own i s e;rw[G]at I;cases I;have t:=yq N P;have C:S i a:=(t a).mpr rfl;have E:∀b,S i b->b=a:=λb z=>(t b).mp z;have B:i<d.length:=(cD.mp e).1;have g:bg (U S) (U S) F F H (L2.upd H a o'):=⟨λ_ z=>z,λb o q n=>by rw[bS (by rintro rfl;exact n ⟨i,C⟩)];exact q,λb o q=>by
  by_cases D:b=a
  .subst D;exact⟨_,cB⟩
  .exact⟨o,by rw[bS D];exact q⟩,λ_ z=>.inl z,λ_ z=>.inl z⟩
 refine⟨⟨by rw[i5];exact r.len,λb z=>let ⟨o,q⟩:=r.ex b z;g.there b o q,λj pv q=>?_,λj s q=>?_,λj b z=>?_,r.dist⟩,g⟩
 .have p:i≠j:=by rintro rfl;rw[fK B]at q;cases q
  rw[dP p]at q;obtain⟨v,y,u⟩:=r.val j pv q;exact⟨v,y,u.grow g r.fit⟩
 .by_cases p:i=j
  .subst p;rw[fK B]at q;cases q;exact⟨a,G,h _ (λ_ _ z=>z.grow g r.fit) (λ_ _ z=>z.grow g r.fit) cB _ t⟩
  .rw[dP p]at q;obtain⟨c,y,u⟩:=r.own j s q;refine⟨c,y,u.mono (λ_ _ z=>z.grow g r.fit) (λ_ _ z=>z.grow g r.fit) λb o z w=>?_⟩;rw[bS (by rintro rfl;exact p (r.dist i j b C z))];exact w
 .obtain⟨⟨s,y⟩,u,o,M,L⟩:=r.foot j b z;by_cases p:i=j
  .subst p;rw[E b z];exact⟨⟨_,fK B⟩,by rw[<-E b z];exact u,_,cB,O⟩
  .exact⟨⟨s,by rw[dP p];exact y⟩,u,o,by rw[bS (by rintro rfl;exact p (r.dist i j b C z))];exact M,L⟩
end
def vZ(b:aj)(i:Nat):Option (List (bz×PV)):=match b[i]? with
 |some (.own (.dK a))=>aa a
 |_=>ae
section
variable{X:Cx}{E:XK}{pin:List Nat}{e b c:ay}{de C I:aj->R PV}{A:Pos}
def z_(i:Nat)(C:aj->R PV):aj->R PV:=λd=>(a6 (vZ d i) d).bind λ_ d=>(C d).bind λk a=>(a6 (vZ a i) a).bind λf a=>a6 ((DV k).bind λk=>CJ f k) a
def rQ(X:Cx)(E:XK)(m:List ay)(d:aj->R (PO×List bB)):Prop :=
 ∀F S i f H Q,aI X.K F S i f H->Ok X.K E f F S H (d i) (λp _ h n g=>∀a l j,dE X.K g h p.1 a l->(∀b,l b->H b=ae/\¬h b/\¬U n b/\∃o,g b=aa o/\dq o)->gi X.K (f++[aa (.ref a)]) h g p.2 j->Q j g)->lw X m f H Q
theorem gi.app{K:au}{g:St}{F:af->Prop}{H:Hp}(d:St):∀{l:List bB}{j:List V},gi K g F H l j->gi K (g++d) F H l j
 |[],_,h=>h
 |.inl _::_,_,⟨v,r,e,a,f⟩=>⟨v,r,e,a,f.app d⟩
 |.inr i::_,_,⟨v,r,e,a,f⟩=>⟨v,r,e,by rw[f_ (cD.mp a).1];exact a,f.app d⟩
theorem dE.stay{K:au}{O l F i:af->Prop}{H h:Hp}{j:PO}{a:af}{d:af->Prop}(q:dE K H F j a d)(g:bg O l F i H h)(fit:Fit O F H)(f:∀b,d b->¬F b/\¬O b/\∃o,H b=aa o/\dq o):dE K h i j a d/\∀b,d b->¬i b/\¬l b/\∃o,h b=aa o/\dq o:=by refine⟨q.mono (λ_ _ z=>z.grow g fit) (λ_ _ z=>z.grow g fit) λb o z w=>(g.stay w (f b z).2.1 (f b z).1).1,λb z=>?_⟩;obtain⟨u,t,o,s,r⟩:=f b z;obtain⟨p,n,m⟩:=g.stay s t u;exact⟨n,m,o,p,r⟩
variable{m:List ay}{dn:aj->R PO}{B:aj->R (List bB)}{t:aj->R (PO×List bB)}
def gN(dn:aj->R PO)(B:aj->R (List bB)):aj->R (PO×List bB):=λf=>(dn f).bind λg d=>(B d).bind λh a=>.ok (g,.inr a.length::h) a
theorem Dx(w:DN X E e dn)(v:DG X E m B)(u:j9 e=ak:=by rfl):rQ X E (e::m) (gN dn B):=λF S q i H Q r h=>by refine lK (gT br eP (jm u)) (w F S q i H _ r ((Ok.bind h).imp λT d P L N n W y a J s o=>?_));refine v P L d i N _ n ((Ok.bind y).imp λY p O K M l D x j G=>?_);obtain⟨f,g⟩:=s.stay D n.fit λb z=>(o b z).2;refine x O K M l (bg.refl ..) a J (.ref a::j) f (λb z=>⟨(o b z).1,g b z⟩) ⟨.ref a,j,rfl,?_,G.app _⟩;rw[l.len,mf (aT _),Nat.sub_self];rfl
def rX(d:aj->R PV)(t:aj->R (PO×List bB)):aj->R (PO×List bB):=λg=>(d g).bind λx f=>(t f).bind λp a=>.ok (p.1,.inl x::p.2) a
theorem xz(y:DE X E e de)(w:rQ X E m t)(u:j9 e=ak:=by rfl):rQ X E (e::m) (rX de t):=λF S l f H Q q h=>by refine lK (gT br eP (jm u)) (y F S l f H _ q ((Ok.bind h).imp λx d Y O T g K G v o=>?_));refine w Y O d f T _ g ((Ok.bind G).imp λp j W N P r J D a M n s i L=>?_);exact D W N P r (bg.refl ..) a M _ s (λb z=>⟨lE K (i b z).1,(i b z).2⟩) ⟨v,n,rfl,o.grow J g.fit,L⟩
theorem aI.push{K:au}{F:af->Prop}{S:Nat->af->Prop}{d:aj}{y:St}{H:Hp}{w:PO}{a:af}{i:af->Prop}(r:aI K F S d y H)(D:dE K H F w a i)(x:∀b,i b->¬F b/\¬U S b/\∃o,H b=aa o/\dq o):aI K F (λj b=>S j b\/(j=d.length/\i b)) (d++[.own w]) (y++[aa (.ref a)]) H:=by
 have lt:∀j b,S j b->j<d.length:=λj b z=>by obtain⟨⟨p,q⟩,_⟩:=r.foot j b z;exact(cD.mp q).1
 refine⟨by simp[r.len],r.ex,λj pv q=>?_,λj p q=>?_,λj b z=>?_,λj k b g f=>?_⟩
 .by_cases h:j<d.length
  .rw[f_ h]at q;obtain⟨v,u,l⟩:=r.val j pv q;exact⟨v,by rw[f_ (by rw[<-r.len];exact h)];exact u,l⟩
  .rw[mf ∅]at q;cases s:j-d.length with
   |zero=>rw[s]at q;simp at q
   |succ n=>rw[s]at q;simp at q
 .by_cases h:j<d.length
  .rw[f_ h]at q;obtain⟨v,u,l⟩:=r.own j p q;refine⟨v,by rw[f_ (by rw[<-r.len];exact h)];exact u,?_⟩;have:(λb=>S j b\/(j=d.length/\i b))=S j:=by funext b;exact propext ⟨λz=>z.elim id λz=>absurd z.1 (cC h),.inl⟩
   rw[this];exact l
  .rw[mf ∅]at q;cases s:j-d.length with
   |zero=>
    rw[s]at q;simp at q;subst q;have L:j=d.length:=∅
    subst L;refine⟨a,by rw[r.len,mf (aT _),Nat.sub_self];rfl,?_⟩;have:(λb=>S d.length b\/(d.length=d.length/\i b))=i:=by funext b;exact propext ⟨λz=>z.elim (λz=>absurd (lt _ _ z) (eC _)) (·.2),λz=>.inr ⟨rfl,z⟩⟩
    rw[this];exact D
   |succ n=>rw[s]at q;simp at q
 .rcases z with z|⟨rfl,z⟩
  .obtain⟨⟨p,q⟩,l⟩:=r.foot j b z;exact⟨⟨p,by rw[f_ (lt j b z)];exact q⟩,l⟩
  .obtain⟨J,M,G⟩:=x b z;exact⟨⟨w,by rw[mf (aT _),Nat.sub_self];rfl⟩,J,G⟩
 .rcases g with g|⟨rfl,g⟩ <;> rcases f with f|⟨rfl,f⟩
  .exact r.dist j k b g f
  .exact absurd ⟨j,g⟩ (x b f).2.1
  .exact absurd ⟨k,f⟩ (x b g).2.1
  .rfl
theorem aI.pop{K:au}{F:af->Prop}{S:Nat->af->Prop}{d:aj}{n:Slot}{h:St}{u:Option V}{H:Hp}(r:aI K F S (d++[n]) (h++[u]) H):aI K F (λj b=>S j b/\j<d.length) d h H:=by
 have len:d.length=h.length:=by have:=r.len;simpa using this
 refine⟨len,r.ex,λj pv q=>?_,λj p q=>?_,λj b z=>?_,λj k b l i=>r.dist j k b l.1 i.1⟩
 .have a:=(cD.mp q).1;obtain⟨v,g,f⟩:=r.val j pv (by rw[f_ a];exact q);exact⟨v,by rw[f_ (by rw[<-len];exact a)]at g;exact g,f⟩
 .have a:=(cD.mp q).1;obtain⟨v,g,f⟩:=r.own j p (by rw[f_ a];exact q);refine⟨v,by rw[f_ (by rw[<-len];exact a)]at g;exact g,?_⟩;have:(λb=>S j b/\j<d.length)=S j:=by funext b;simp[a]
  rw[this];exact f
 .obtain⟨⟨p,q⟩,f⟩:=r.foot j b z.1;exact⟨⟨p,by rw[f_ z.2]at q;exact q⟩,f⟩
def yK{d:Type}:R d->R d
 |.ok s a=>.ok s a.dropLast
 |.er c a=>.er c a.dropLast
 |.no=>.no
def ri(g:aj->R Slot)(t:aj->R (PO×List bB)):aj->R Slot:=λd=>(t d).bind λp a=>(a6 (if(cz p.2).Nodup then fH (a++[.own p.1]) p.2 else ae) a).bind λf a=>yK (jl (a++[.own p.1]) p.2 (g f))
theorem xr{a:aj}{n:Nat}(h:a.length=n+1):∃l x,a=l++[x]/\l.length=n:=by
 refine⟨a.dropLast,a.getLast (by intro z;rw[z]at h;cases h),(List.dropLast_concat_getLast _).symm,by rw[List.length_dropLast,h];rfl⟩
theorem bg.pushed{K:au}{F s:af->Prop}{S i:Nat->af->Prop}{f H p:Hp}{n:Nat}{h:af->Prop}(g:bg (U λj b=>S j b\/(j=n/\h b)) (U i) F s H p){r:af->Prop}{l:Nat->af->Prop}(a:bg (U l) (U S) r F f H)(d:∀b,h b->f b=ae):bg (U l) (U λj b=>i j b/\j<n) r s f p where
 fro:=λb z=>g.fro b (a.fro b z)
 keep:=λb o q no=>g.keep b o (a.keep b o q no) λ⟨j,z⟩=>by
  rcases z with z|⟨_,z⟩
  .rcases a.onew b ⟨j,z⟩with w|w
   .exact no w
   .rw[w]at q;cases q
  .rw[d b z]at q;cases q
 there:=λb o q=>let ⟨o',q'⟩:=a.there b o q;g.there b o' q'
 fnew:=λb z=>by
  rcases g.fnew b z with w|w|⟨j,w|⟨_,w⟩⟩
  .exact a.fnew b w
  .exact .inr (.inl (lE a w))
  .exact .inr ((a.onew b ⟨j,w⟩).symm)
  .exact .inr (.inl (d b w))
 onew:=λb ⟨j,z,_⟩=>by
  rcases g.onew b ⟨j,z⟩with⟨k,w|⟨_,w⟩⟩|w
  .exact a.onew b ⟨k,w⟩
  .exact .inr (d b w)
  .exact .inr (lE a w)
variable{D:ez}{x:Str}{k:Nat}{G:List Str}{g:aj->R Slot}{p:Pos}
theorem Hh(c:cF D X.prog X.w X.K X.mg X.base x k G (bN X.K g))(hr:Room k X.A)(hx:nv D X E)(ha:rQ X E (e::m) t)(hg:Gl X x:=by rfl)(hd:(x==("__debug__":Str))=ak:=by decide) (h1:aM (e::m) X.env=(ak,aK e X.env)::aM m X.env:=by rfl) (h2:(cV A (aM m X.env)).any (·.1)=ak:=by rfl):DR X E (.Call (.Name x p) (e::m) [] A) (ri g t):=λF S ε W H Q rl h=>by
 obtain⟨f,fd,hm,Fn,hb,hk⟩:=c.ex;refine bU (yg Fn hr hg hm hk hb .nil hx eP hd h1 h2) (ha F S ε W H _ rl ?_);unfold ri at h;cases ed:t ε with
 |no=>rw[ed]at h;exact h.elim
 |er cv d=>rw[ed]at h;exact h
 |ok pa d=>
  obtain⟨P,q⟩:=pa;rw[ed]at h;simp only[R.bind_ok]at h;intro F1 S1 H1 r1 g1 a Sa vs ow Z T;dsimp only at h T ow;have O:=r1.push ow λb z=>(Z b z).2;by_cases L:(cz q).Nodup
  .rw[if_pos L]at h;cases m:fH (d++[.own P]) q with
   |none=>rw[m]at h;exact h.elim
   |some ss=>
    rw[m]at h;simp only[fE,R.bind_ok]at h;rw[iW];refine⟨F1,j8 q _,ss,O.cal T m L,?_⟩;have len:∀n,(gh (d++[.own P]) q n).length=d.length+1:=λn=>by rw[rA];simp
    cases eg:g ss with
    |no=>rw[eg]at h;exact h.elim
    |er cv n=>
     rw[eg]at h;intro y F' S' H' Y g';unfold jl at h;dsimp only at h;by_cases u:g6 q n=ai
     .rw[if_pos u]at h;obtain⟨S2,J,g2,_⟩:=O.called T m L Y g' (λ_ z=>z) (lS u);obtain⟨l,sl,N,ll⟩:=xr (len n);rw[N]at J;have h:Ok X.K E W F S H (R.er cv (gh (d++[.own P]) q n).dropLast:R Slot) _:=h;rw[N,List.dropLast_concat]at h;have M:=bg.pushed (K:=X.K) g2 g1 λb z=>(Z b z).1;rw[<-ll]at M;exact h y F' _ H' J.pop M
     .rw[if_neg u]at h;exact h.elim
    |ok s n=>
     rw[eg]at h;intro v F' S' H' Sr Y g' rv r fr;unfold jl at h;dsimp only at h;by_cases u:g6 q n=ai
     .rw[if_pos u]at h;obtain⟨S2,J,g2,u2⟩:=O.called T m L Y g' (λ_ z=>.inl z) (lS u);obtain⟨l,sl,N,ll⟩:=xr (len n);rw[N]at J;have h:Ok X.K E W F S H (R.ok s (gh (d++[.own P]) q n).dropLast:R Slot) _:=h;rw[N,List.dropLast_concat]at h;have M:=bg.pushed (K:=X.K) g2 g1 λb z=>(Z b z).1;rw[<-ll]at M;refine h F' _ H' J.pop M v Sr rv λb z=>⟨lE g1 (fr b z),(r b z).1,λ⟨j,w,_⟩=>?_,(r b z).2.2⟩
      rcases u2 b ⟨j,w⟩with w|⟨i,w⟩
      .exact(r b z).2.1 w
      .obtain⟨_,_,o,y1,_⟩:=O.foot i b w;rw[fr b z]at y1;cases y1
     .rw[if_neg u]at h;exact h.elim
  .rw[if_neg L]at h;exact h.elim
end
section
variable{X:Cx}{E:XK}{pin:List Nat}{e b c o:ay}{de m l d:aj->R PV}{j:aj->R (List PV)}{i p q g:Pos}
def D6(K:au)(r:V->List V->Hp->VK->Prop)(n:TE)(t:TA):TE:=λf H Q=>n f H λx h=>(∃p a,x=.ref p/\h p=aa (.tup a))/\t f h λa s=>r x a s Q
theorem xp{n:Str}{y:String}{r:V->List V->Hp->VK->Prop}{C:TE}{t:TA}{u f:Pos}{es:List ay}(w:PySem.Slot "tuple" n y)(li:typeOf (.builtin y)=pure (.type "method_descriptor"))(hm:sV X y r)(ho:PE X o C)(ha:PA X (e::es) t)(i_:mh o n X.env (aK o X.env)=aK o X.env:=by rfl)(T:((cV f (aM (e::es) X.env)).all (λx=>!x.1)&&(backToKw f (tw [] X.env)).all (λx=>x.1.isSome)&&decide ((e::es).length+([]:List kr).length+(if([]:List kr).isEmpty then 0 else 1)<30))=ai:=by rfl)(ja:(u.endLine == f.line)=ai:=by rfl) (hs:aM (e::es) X.env=(ak,aK e X.env)::aM es X.env:=by rfl) (W:(cV f (aM es X.env)).any (·.1)=ak:=by rfl):PE X (.Call (.Attribute o n u) (e::es) [] f) (D6 X.K r C t):=by
 intro B s A H Q I h;refine wpAny_Call_method_late i_ T ja rfl (aO (ho B s A H _ I h) λv D h'=>?_);obtain⟨x,K,J,S,⟨p,L,rfl,hp⟩,Z⟩:=h';cases S;obtain⟨_,its,_,⟨ob,e1,e2,_⟩,o2,e3,e4⟩:=(show cN X.prog X.w K D.heap p (.tup L)from J.hok p _ hp)
 refine⟨"tuple",y,PySem.F.plainAttrs_tuple,w,li,⟨ob,e1,e2⟩,λa z=>?_,?_⟩
 .cases z;exact⟨o2,e3,e4⟩
 have G:=ha f B D A K _ J Z;rw[hs]at G ⊢;refine Calls.callWith_builtin (by show(ak||(cV f (aM es X.env)).any (·.1))=ak;rw[W] <;> rfl) (AZ ?_);exact aO G λN O h2=>by obtain⟨M,H2,I2,P,Y⟩:=h2;exact hm B O A H2 (.ref p) M (.ref p) N Q I2 rfl P Y
def lG(f:List PV->PV->Option PV)(d de:aj->R PV):aj->R PV:=λε=>(d ε).bind λx h=>match x with
 |.tup n=>(de h).bind λk a=>a6 (f n k) a
 |_=>.no
theorem FQ{f a:Pos}(W:DE X E o d)(Z:DE X E e de)(T:mh o "count" X.env (aK o X.env)=aK o X.env:=by rfl)(P:(f.endLine == a.line)=ai:=by rfl) (et:j9 e=ak:=by rfl):DE X E (.Call (.Attribute o "count" f) [e] [] a) (lG j4 d de):=λF S J B H Q N h=>by
 have y:=jm (es:=[]) (env:=X.env) et;refine bU (xp PySem.F.slot_tuple_count PySem.F.type_tuple_count BJ br (gT br ju y) T (by rw[y];rfl) P y rfl) (W F S J B H _ N ((Ok.bind h).imp λx r F1 S1 H1 t g1 A v L=>?_));split at A
 .rename_i K;obtain⟨p,C,rfl,D,M⟩:=L;refine⟨⟨p,C,rfl,D⟩,Z F1 S1 r B H1 _ t ((Ok.bind A).imp λk I F2 S2 H2 O G q w s=>?_)⟩;unfold j4 at q;cases n:b7 k with
  |none=>rw[n]at q;exact q.elim
  |some z=>
   cases u:fA K with
   |none=>rw[n,u]at q;exact q.elim
   |some ws=>rw[n,u]at q;obtain⟨rfl,Y⟩:=lA (M.grow G t.fit) u;rw[gk s n];exact⟨p,C,z,rfl,rfl,bO.of (G.imm t.fit D id),mK n,Y,q F2 S2 H2 O (bg.refl ..) _ rfl⟩
 .exact A.elim
end
section
variable{X:Cx}
def zF:List (bz×PV)->Option (List Tx)
 |[]=>aa []
 | (.inr k,_)::r=>(zF r).map (k.cps.toList::·)
 |_=>ae
def Eh(b:List (bz×PV)):Option PO:=(zF b).bind λa=>if a.length<64/\(∀x∈a,x.length<=cA)then aa (.lst (ao (bd a)))else ae
def IC(i:Nat):aj->R PO:=λa=>(a6 (vZ a i) a).bind λb a=>a6 (Eh b) a
end
end Pu
namespace L2
def sd:Bool->Keyed->Array Keyed->Nat->Nat->Nat->StateT be Sem (Option Nat):=sortPriv% PySem.Builtin.gallop
def zM:Array Keyed->Array Keyed->StateT be Sem (Array Keyed):=sortPriv% PySem.Builtin.mergeLo
def zO:Array Keyed->Array Keyed->StateT be Sem (Array Keyed):=sortPriv% PySem.Builtin.mergeHi
def kO(a:KeyKind)(p:Keyed):a.α:=(a.keyOf p.1).getD a.dflt
def eK(b:KeyKind)(p:Keyed):Prop:=∃a,b.keyOf p.1=aa a
theorem eK.k{κ:KeyKind}{p:Keyed}(h:eK κ p):κ.keyOf p.1=aa (kO κ p):=by obtain⟨a,e⟩:=h;unfold kO;rw[e];rfl
def fZ(κ:KeyKind)(kz:fN)(c:aG)(w:aC)(A:aH)(s:am):Prop :=
 ∀(E:ah->am->Prop) (x y:ah) (a b:κ.α) {Q:Bool->am->Prop},κ.keyOf x=aa a->κ.keyOf y=aa b->Q (κ.blt a b) s->aq (ar c w) A (keyLt' kz x y) Q E s
theorem OneLt.ok{κ:KeyKind}(f:κ.OneLt){prog:aG}{w:aC}{A:aH}{s:am}:fZ κ oneType' prog w A s:=λE x y a b _ d c h=>by rw[keyLt'_oneType];exact f prog w A E s x y a b d c h
structure SB(kz:fN)(st:be):Prop where
 kind:kindOf st=kz
 failed:failedOf st=ae
section
variable{a:aG}{w:aC}{A:aH}{E:ah->am->Prop}{s:am}{d:KeyKind}{f:fN}
theorem pZ(j:fZ d f a w A s){b:be}{x y:Keyed}{Q:Option Bool->be->Prop}(i:SB f b)(g:eK d x)(c:eK d y)(h:Q (aa (d.blt (kO d x) (kO d y))) b):wpS (ar a w) A E s (lt' x y) Q b:=by rw[lt'_eq];refine aA (i7 ?_);rw[i.kind];exact aA (ol (wpAny_attempt (j _ x.1 y.1 _ _ g.k c.k ⟨rfl,aE h⟩)))
theorem cZ{c:be}{b:Array Keyed}{i:Nat}(g:i<b.size){Q:Keyed->be->Prop}(h:Q b[i] c):wpS (ar a w) A E s (elem' b i) Q c:=by rw[elem'_eq,getElem?_pos b i g];exact aE h
def xl(c:Bool)(g:Keyed)(j:Array Keyed)(h i:Nat):StateT be Sem (Option Bool) :=elem' j (h+i) >>= λx=>if c=ai then lt' x g else lt' g x >>= λb=>pure (b.map (!·))
def jq(d:KeyKind)(b:Bool)(c x:Keyed):Bool:=if b=ai then d.blt (kO d x) (kO d c)else !d.blt (kO d c) (kO d x)
theorem Eo(p:fZ d f a w A s){l:be}{c:Bool}{j:Keyed}{g:Array Keyed}{b i:Nat}{Q:Option Bool->be->Prop}(o:SB f l)(n:eK d j)(q:b+i<g.size)(m:eK d g[b+i])(h:Q (aa (jq d c j g[b+i])) l):wpS (ar a w) A E s (xl c j g b i) Q l:=by
 refine aA (cZ q ?_);cases c
 .rw[if_neg (by simp)];exact aA (pZ p o n m (aE h))
 .rw[if_pos rfl];exact pZ p o m n h
theorem zS(hO:fZ d f a w A s){K:be}(hk:SB f K){G:Bool}{L:Keyed}{y:Array Keyed}{t n b:Nat}{Q:Option Nat->be->Prop}(dS:eK d L)(hn:t+n<=y.size)(hA:∀i (g:i<y.size),eK d y[i]) (B:Nat->Bool) (hB:∀i (g:i<n),B i=jq d G L (y[t+i]'∅))(mono:∀i j,i<=j->j<n->B j=ai->B i=ai) (hh:b<n)(h:∀r,r<=n->(∀i,i<r->B i=ai)->(∀i,r<=i->i<n->B i=ak)->Q (aa r) K):wpS (ar a w) A E s (sd G L y t n b) Q K:=by
 have O:∀{i:Nat}{Q:Option Bool->be->Prop},i<n->Q (aa (B i)) K->wpS (ar a w) A E s (xl G L y t i) Q K:=λ{i Q} g q=>Eo hO hk dS ∅ (hA _ _) (by rw[<-hB i g];exact q);have dn:∀{i j:Nat},i<=j->j<n->B i=ak->B j=ak:=λ{i j} bf hj hf=>by
  cases e:B j with
  |false=>rfl
  |true=>rw[mono i j bf hj e]at hf;cases hf
 unfold sd;refine aA (O hh ?_);cases hr:B b with
 |true=>
  dsimp only;rw[if_pos rfl];refine aA (eH (eJ (I:=λx c m=>m=K/\∃l o,c=(ae,l,o)/\l<o/\x<o/\l<n-b/\B (b+l)=ai) (Q:=λc m=>m=K/\∃l o,c=(ae,l,o)/\l<o/\l<n-b/\B (b+l)=ai/\(n-b<=o\/(o<n-b/\B (b+o)=ak))) ?_ ?_ ?_) ?_)
  .rintro x c m _ P ⟨rfl,l,o,rfl,J,T,H,p⟩;dsimp only;by_cases u:o ≥ n-b
   .rw[if_pos u];exact aE ⟨rfl,l,o,rfl,J,H,p,.inl u⟩
   .rw[if_neg u];refine aA (O ∅ ?_);cases e:B (b+o)with
    |true=>exact aE ⟨rfl,o,2*o+1,rfl,∅,∅,∅,e⟩
    |false=>exact aE ⟨rfl,l,o,rfl,J,H,p,.inr ⟨∅,e⟩⟩
  .rintro c m ⟨rfl,l,o,rfl,J,T,H,p⟩;exact⟨rfl,l,o,rfl,J,H,p,.inl ∅⟩
  .exact⟨rfl,0,1,rfl,∅,∅,∅,hr⟩
  rintro c m ⟨rfl,l,o,rfl,J,H,p,M⟩;dsimp only;have Z:b+l+1<=b+min o (n-b):=∅
  have Y:b+min o (n-b)<=n:=∅
  have X:∀i,i<b+l+1->B i=ai:=λi g=>mono i (b+l) ∅ ∅ p;have W:∀i,b+min o (n-b)<=i->i<n->B i=ak:=by
   intro i g N;rcases M with M|⟨M,S⟩
   .lia
   .exact dn (i:=b+o) ∅ N S
  clear M;generalize b+l+1=lo at *;generalize b+min o (n-b)=g at *;refine aA (eH (eJ (I:=λx c v=>v=m/\∃l r,c=(ae,l,r)/\l<=r/\r<=n/\r-l<=n-x/\(∀i,i<l->B i=ai)/\(∀i,r<=i->i<n->B i=ak)) (Q:=λc v=>v=m/\∃l r,c=(ae,l,r)/\r<=n/\(∀i,i<r->B i=ai)/\(∀i,r<=i->i<n->B i=ak)) ?_ ?_ ?_) ?_)
  .rintro x c v _ P ⟨rfl,l,r,rfl,a1,D,a3,C,z⟩;dsimp only;by_cases u:l ≥ r
   .rw[if_pos u];have:l=r:=∅
    subst this;exact aE ⟨rfl,l,l,rfl,D,C,z⟩
   .rw[if_neg u];refine aA (O ∅ ?_);cases e:B (l+(r-l) / 2)with
    |true=>exact aE ⟨rfl,_,r,rfl,∅,D,∅,λi g=>mono _ _ ∅ ∅ e,z⟩
    |false=>exact aE ⟨rfl,l,_,rfl,∅,∅,∅,C,λi g N=>dn (i:=l+(r-l) / 2) g N e⟩
  .rintro c v ⟨rfl,l,r,rfl,a1,D,a3,C,z⟩;have:l=r:=∅
   subst this;exact⟨rfl,l,l,rfl,D,C,z⟩
  .exact⟨rfl,lo,g,rfl,Z,Y,∅,X,W⟩
  .rintro c v ⟨rfl,l,r,rfl,D,C,z⟩;exact aE (h r D C z)
 |false=>
  dsimp only;rw[if_neg (by simp)];refine aA (eH (eJ (I:=λx c m=>m=K/\∃l o,c=(ae,l,o)/\l<o/\x<o/\l<=b/\B (b-l)=ak) (Q:=λc m=>m=K/\∃l o,c=(ae,l,o)/\l<o/\l<=b/\B (b-l)=ak/\(b+1<=o\/(o<=b/\B (b-o)=ai))) ?_ ?_ ?_) ?_)
  .rintro x c m _ P ⟨rfl,l,o,rfl,J,T,H,p⟩;dsimp only;by_cases u:o ≥ b+1
   .rw[if_pos u];exact aE ⟨rfl,l,o,rfl,J,H,p,.inl u⟩
   .rw[if_neg u];refine aA (O ∅ ?_);cases e:B (b-o)with
    |false=>exact aE ⟨rfl,o,2*o+1,rfl,∅,∅,∅,e⟩
    |true=>exact aE ⟨rfl,l,o,rfl,J,H,p,.inr ⟨∅,e⟩⟩
  .rintro c m ⟨rfl,l,o,rfl,J,T,H,p⟩;exact⟨rfl,l,o,rfl,J,H,p,.inl ∅⟩
  .exact⟨rfl,0,1,rfl,∅,∅,∅,hr⟩
  rintro c m ⟨rfl,l,o,rfl,J,H,p,M⟩;dsimp only;have Z:b+1-min o (b+1)<=b-l:=∅
  have Y:b-l<=n:=∅
  have X:∀i,i<b+1-min o (b+1)->B i=ai:=by
   intro i g;rcases M with M|⟨M,S⟩
   .lia
   .exact mono i (b-o) ∅ ∅ S
  have W:∀i,b-l<=i->i<n->B i=ak:=λi g N=>dn (i:=b-l) ∅ N p;clear M p;generalize b+1-min o (b+1)=lo at *;generalize b-l=g at *;refine aA (eH (eJ (I:=λx c v=>v=m/\∃l r,c=(ae,l,r)/\l<=r/\r<=n/\r-l<=n-x/\(∀i,i<l->B i=ai)/\(∀i,r<=i->i<n->B i=ak)) (Q:=λc v=>v=m/\∃l r,c=(ae,l,r)/\r<=n/\(∀i,i<r->B i=ai)/\(∀i,r<=i->i<n->B i=ak)) ?_ ?_ ?_) ?_)
  .rintro x c v _ P ⟨rfl,l,r,rfl,a1,D,a3,C,z⟩;dsimp only;by_cases u:l ≥ r
   .rw[if_pos u];have:l=r:=∅
    subst this;exact aE ⟨rfl,l,l,rfl,D,C,z⟩
   .rw[if_neg u];refine aA (O ∅ ?_);cases e:B (l+(r-l) / 2)with
    |true=>exact aE ⟨rfl,_,r,rfl,∅,D,∅,λi g=>mono _ _ ∅ ∅ e,z⟩
    |false=>exact aE ⟨rfl,l,_,rfl,∅,∅,∅,C,λi g N=>dn (i:=l+(r-l) / 2) g N e⟩
  .rintro c v ⟨rfl,l,r,rfl,a1,D,a3,C,z⟩;have:l=r:=∅
   subst this;exact⟨rfl,l,l,rfl,D,C,z⟩
  .exact⟨rfl,lo,g,rfl,Z,Y,∅,X,W⟩
  .rintro c v ⟨rfl,l,r,rfl,D,C,z⟩;exact aE (h r D C z)
end
section
variable{κ:KeyKind}{kz:fN}
def bh(κ:KeyKind)(x y:Keyed):Prop:=κ.kle (kO κ x) (kO κ y)
theorem bh.trans{x y z:Keyed}(b:bh κ x y)(a:bh κ y z):bh κ x z:=qj b a
structure MS(κ:KeyKind)(T o ra rb:List Keyed):Prop where
 perm:(o++(ra++rb)).Perm T
 so:o.Pairwise (bh κ)
 sa:ra.Pairwise (bh κ)
 sb:rb.Pairwise (bh κ)
 oa:∀x∈o,∀y∈ra,bh κ x y
 ob:∀x∈o,∀y∈rb,bh κ x y
theorem MS.stepA{T o x f d:List Keyed}(h:MS κ T o (x++f) d)(i:∀u∈x,∀v∈d,bh κ u v):MS κ T (o++x) f d:=by
 obtain⟨n,m,c,l,g,j⟩:=h;rw[Bk]at c;refine⟨by simpa[jL]using n,?_,c.2.1,l,?_,?_⟩
 .rw[Bk];exact⟨m,c.1,λu a v b=>g u a v (wn _ b)⟩
 .intro u a v b;rcases g8.mp a with a|a
  .exact g u a v (jD _ b)
  .exact c.2.2 u a v b
 .intro u a v b;rcases g8.mp a with a|a
  .exact j u a v b
  .exact i u a v b
theorem MS.swap{T o b a:List Keyed}(h:MS κ T o b a):MS κ T o a b :=⟨(Bb _ List.perm_append_comm).trans h.perm,h.so,h.sb,h.sa,h.ob,h.oa⟩
theorem MS.stepB{T o x a b:List Keyed}(h:MS κ T o a (x++b))(c:∀u∈x,∀v∈a,bh κ u v):MS κ T (o++x) a b :=(h.swap.stepA c).swap
def eB(κ:KeyKind)(T:List Keyed)(r:Array Keyed):Prop:=r.toList.Perm T/\r.toList.Pairwise (bh κ)
theorem MS.endA{T o a:List Keyed}{r:Array Keyed}(h:MS κ T o a [])(e:r.toList=o++a):eB κ T r:=by obtain⟨f,d,c,i,b,g⟩:=h;refine⟨by rw[e];simpa using f,?_⟩;rw[e,Bk];exact⟨d,c,b⟩
theorem MS.last{T o b a:List Keyed}{r:Array Keyed}(h:MS κ T o b a)(c:∀u∈a,∀v∈b,bh κ u v)(e:r.toList=o++(a++b)):eB κ T r:=by
 have d:MS κ T o b (a++[]):=by simpa using h
 exact(d.stepB c).endA (by rw[e];simp)
theorem iP(a:Array Keyed)(i j:Nat):(a.extract i j).toList=(a.toList.drop i).take (j-i):=by simp[Array.toList_extract,List.extract_eq_take_drop]
theorem nt(a:Array Keyed)(i:Nat):(a.extract i a.size).toList=a.toList.drop i:=by rw[iP,kt];simp
theorem yX{a:Array Keyed}{i:Nat}(h:i<a.size):a.toList.drop i=a[i]::a.toList.drop (i+1):=by rw[tT (by simpa using h)];simp
theorem AD(a:Array Keyed)(i k:Nat):a.toList.drop i=(a.extract i (i+k)).toList++a.toList.drop (i+k):=by rw[iP,show i+k-i=k by lia,<-List.drop_drop,n6]
theorem mM{a:Array Keyed}{i:Nat}{x:Keyed}(h:x∈a.toList.drop i):∃j,∃d:j<a.size,i<=j/\a[j]=x:=by
 obtain⟨k,c,e⟩:=tW h;rw[Bl]at e;have b:i+k<a.size:=by simp at c;lia
 exact⟨i+k,b,∅,by simpa using e⟩
theorem yS{a:Array Keyed}{i k:Nat}{x:Keyed}(h:x∈(a.extract i (i+k)).toList):∃j,∃c:j<a.size,i<=j/\j<i+k/\a[j]=x:=by
 rw[iP]at h;obtain⟨m,b,e⟩:=tW h;rw[Bm,Bl]at e;refine⟨i+m,?_,∅,?_,by simpa using e⟩
 all_goals simp at b;lia
def pt(κ:KeyKind)(a:Array Keyed):Prop:=∀i j (b:j<a.size) (c:i<=j),bh κ (a[i]'∅) a[j]
theorem pt.pw{a:Array Keyed}(h:pt κ a):a.toList.Pairwise (bh κ):=by rw[List.pairwise_iff_getElem];intro i j c b d;have:=h i j (by simpa using b) ∅;simpa using this
structure dD(κ:KeyKind)(a b c:Array Keyed)(d f:Nat):Prop where
 ms:MS κ (a.toList++b.toList) c.toList (a.toList.drop d) (b.toList.drop f)
 la:d<=a.size
 lb:f<=b.size
variable{a b c:Array Keyed}{d f:Nat}
theorem dD.pushA(h:dD κ a b c d f)(i:d<a.size)(l:∀j (g:j<b.size),f<=j->bh κ a[d] b[j]):dD κ a b (c.push a[d]) (d+1) f:=by refine⟨?_,i,h.lb⟩;rw[qg];refine MS.stepA (by rw[wP,<-yX i];exact h.ms) λu n v m=>?_;obtain⟨j,g,o,rfl⟩:=mM m;rw[eG.mp n];exact l j g o
theorem dD.pushB(h:dD κ a b c d f)(i:f<b.size)(l:∀j (g:j<a.size),d<=j->bh κ b[f] a[j]):dD κ a b (c.push b[f]) d (f+1):=by refine⟨?_,h.la,i⟩;rw[qg];refine MS.stepB (by rw[wP,<-yX i];exact h.ms) λu n v m=>?_;obtain⟨j,g,o,rfl⟩:=mM m;rw[eG.mp n];exact l j g o
theorem dD.extA{k:Nat}(h:dD κ a b c d f)(p:d+k<=a.size)(m:∀i (l:i<a.size),d<=i->i<d+k->∀j (g:j<b.size),f<=j->bh κ a[i] b[j]):dD κ a b (c++a.extract d (d+k)) (d+k) f:=by refine⟨?_,p,h.lb⟩;rw[fh];refine MS.stepA (by rw[<-AD];exact h.ms) λu o v n=>?_;obtain⟨j,g,s,rfl⟩:=mM n;obtain⟨i,l,r,q,rfl⟩:=yS o;exact m i l r q j g s
theorem dD.extB{k:Nat}(h:dD κ a b c d f)(p:f+k<=b.size)(m:∀i (l:i<b.size),f<=i->i<f+k->∀j (g:j<a.size),d<=j->bh κ b[i] a[j]):dD κ a b (c++b.extract f (f+k)) d (f+k):=by refine⟨?_,h.la,p⟩;rw[fh];refine MS.stepB (by rw[<-AD];exact h.ms) λu o v n=>?_;obtain⟨j,g,s,rfl⟩:=mM n;obtain⟨i,l,r,q,rfl⟩:=yS o;exact m i l r q j g s
theorem dD.doneA(h:dD κ a b c d f)(e:f=b.size):eB κ (a.toList++b.toList) (c++a.extract d a.size++b.extract f b.size):=by have:=h.ms;rw[show b.toList.drop f=[] by rw[wQ];simp[e]]at this;refine this.endA ?_;rw[fh,fh,nt,nt,show b.toList.drop f=[] by rw[wQ];simp[e],iW]
theorem dD.doneB(h:dD κ a b c d f)(e:d=a.size):eB κ (a.toList++b.toList) (c++a.extract d a.size++b.extract f b.size):=by have:=h.ms;rw[show a.toList.drop d=[] by rw[wQ];simp[e]]at this;refine this.swap.endA ?_;rw[fh,fh,nt,nt,show a.toList.drop d=[] by rw[wQ];simp[e],iW]
theorem dD.last(h:dD κ a b c d f)(e:d+1=a.size)(n:∀j (g:j<b.size),bh κ b[j] (a[d]'∅)):eB κ (a.toList++b.toList) (c++b.extract f b.size++a.extract d a.size):=by
 refine h.ms.last (λu m v l=>?_) (by rw[fh,fh,nt,nt,jL]);obtain⟨j,g,q,rfl⟩:=mM m;obtain⟨i,o,p,rfl⟩:=mM l;have:i=d:=∅
 subst this;exact n j g
end
section
variable{b:aG}{w:aC}{A:aH}{E:ah->am->Prop}{s:am}{a:KeyKind}{c:fN}
theorem vJ(x:fZ a c b w A s){l:be}(t:SB c l){f:Keyed}{d:Array Keyed}{base n hint:Nat}{Q:Option Nat->be->Prop}(C:eK a f)(q:base+n<=d.size)(y:∀i (g:i<d.size),eK a d[i]) (o:∀i j (D:i<=j) (m:j<base+n),base<=i->bh a (d[i]'∅) (d[j]'∅)) (u:hint<n)(h:∀r,r<=n->(∀i (g:i<d.size),base<=i->i<base+r->bh a d[i] f)->(∀i (g:i<d.size),base+r<=i->i<base+n->a.klt (kO a f) (kO a d[i]))->Q (aa r) l):wpS (ar b w) A E s (sd ak f d base n hint) Q l:=by
 refine zS x t C q y (λi=>if g:i<n then jq a ak f (d[base+i]'∅)else ak) (λi g=>by rw[dif_pos g]) ?_ u ?_
 .intro i j D m e;rw[dif_pos m]at e;rw[dif_pos ∅];simp only[jq,jK,if_false,Bj]at e ⊢;exact qj (o (base+i) (base+j) ∅ ∅ ∅) e
 .intro r p B z;refine h r p (λi g v G=>?_) (λi g v G=>?_)
  .have:=B (i-base) ∅;rw[dif_pos ∅]at this;simp only[jq,jK,if_false,Bj,show base+(i-base)=i by lia]at this;exact this
  .have:=z (i-base) ∅ ∅;rw[dif_pos ∅]at this;simp only[jq,jK,if_false,Bool.not_eq_false',show base+(i-base)=i by lia]at this;exact this
theorem vg(x:fZ a c b w A s){l:be}(t:SB c l){f:Keyed}{d:Array Keyed}{base n hint:Nat}{Q:Option Nat->be->Prop}(C:eK a f)(q:base+n<=d.size)(y:∀i (g:i<d.size),eK a d[i]) (o:∀i j (D:i<=j) (m:j<base+n),base<=i->bh a (d[i]'∅) (d[j]'∅)) (u:hint<n)(h:∀r,r<=n->(∀i (g:i<d.size),base<=i->i<base+r->a.klt (kO a d[i]) (kO a f))->(∀i (g:i<d.size),base+r<=i->i<base+n->bh a f d[i])->Q (aa r) l):wpS (ar b w) A E s (sd ai f d base n hint) Q l:=by
 refine zS x t C q y (λi=>if g:i<n then jq a ai f (d[base+i]'∅)else ak) (λi g=>by rw[dif_pos g]) ?_ u ?_
 .intro i j D m e;rw[dif_pos m]at e;rw[dif_pos ∅];simp only[jq,if_true]at e ⊢;exact KeyOrd.klt_of_kle_of_klt (o (base+i) (base+j) ∅ ∅ ∅) e
 .intro r p B z;refine h r p (λi g v G=>?_) (λi g v G=>?_)
  .have:=B (i-base) ∅;rw[dif_pos ∅]at this;simp only[jq,if_true,show base+(i-base)=i by lia]at this;exact this
  .have:=z (i-base) ∅ ∅;rw[dif_pos ∅]at this;simp only[jq,if_true,show base+(i-base)=i by lia]at this;exact this
end
structure eA(st aw:be):Prop where
 kind:kindOf aw=kindOf st
 arr:arrOf aw=arrOf st
 pend:aR aw=aR st
 failed:failedOf aw=failedOf st
theorem eA.rfl{st:be}:eA st st:=⟨_root_.rfl,_root_.rfl,_root_.rfl,_root_.rfl⟩
theorem eA.sb{b:fN}{a c:be}(h:eA a c)(k:SB b a):SB b c:=⟨h.kind.trans k.kind,h.failed.trans k.failed⟩
section
variable{prog:aG}{w:aC}{A:aH}{E:ah->am->Prop}{s:am}{κ:KeyKind}{kz:fN}
theorem bL{a d:Type}{M:Model}{c:Prop}[Decidable c]{t e:StateT a Sem d}{Q:d->a->Prop}{b:a}(g:c->wpS M A E s t Q b)(f:¬c->wpS M A E s e Q b):wpS M A E s (if c then t else e) Q b:=by
 split
 .exact g ‹_›
 .exact f ‹_›
def FY:Nat->StateT be Sem Unit:=sortPriv% PySem.Builtin.setMinGallop
theorem eA.trans{a b c:be}(f:eA a b)(d:eA b c):eA a c:=⟨d.kind.trans f.kind,d.arr.trans f.arr,d.pend.trans f.pend,d.failed.trans f.failed⟩
theorem uO{a b:be}{g:Nat}{Q:Unit->be->Prop}(d:eA b a)(h:∀c,eA b c->Q () c):wpS (ar prog w) A E s (FY g) Q a :=kA (h _ (d.trans ⟨rfl,rfl,rfl,rfl⟩))
theorem GS(hO:fZ κ kz prog w A s){L:be}(hk:SB kz L){a b:Array Keyed}{Q:Array Keyed->be->Prop}(ha:0<a.size)(hb:0<b.size)(hA:∀i (O:i<a.size),eK κ a[i]) (hB:∀i (O:i<b.size),eK κ b[i]) (Z:pt κ a) (sb:pt κ b)(h0:bh κ b[0] a[0]) (hl:∀j (p:j<b.size),bh κ b[j] a[a.size-1])(h:∀r D,eA L D->eB κ (a.toList++b.toList) r->Q r D):wpS (ar prog w) A E s (zM a b) Q L:=by
 have jX:∀{i:Nat} (O:i<a.size),i+1=a.size->∀j (p:j<b.size),bh κ b[j] a[i]:=λ{i} O e j p=>by
  have:i=a.size-1:=∅
  subst this;exact hl j p
 have I0:dD κ a b #[b[0]] 0 1:=by
  have v:dD κ a b #[] 0 0:=⟨⟨by simp,by simp,by simpa using Z.pw,by simpa using sb.pw,by simp,by simp⟩,∅,∅⟩
  exact v.pushB hb λj p _=>h0.trans (Z 0 j p ∅)
 unfold zM;refine aA (ol (ku ⟨rfl,?_⟩));refine aA (cZ hb ?_);by_cases e1:1=b.size
 .rw[if_pos (by simp[<-e1])];exact aE (h _ _ .rfl (I0.doneA e1))
 rw[if_neg (by simpa using e1)];by_cases e2:0+1=a.size
 .rw[if_pos (by simp[<-e2])];exact aE (h _ _ .rfl (I0.last e2 (jX ∅ ∅)))
 rw[if_neg (by simpa using e2)];refine aA (i7 ?_);refine aA (eH (eJ (I:=λx c D=>eA L D/\∃d f l J,c=(ae,d,f,l,J)/\dD κ a b d f l/\f+1<a.size/\l<b.size/\x+1<=f+l) (Q:=λc D=>eA L D/\∃r,c.1=aa r/\eB κ (a.toList++b.toList) r) ?_ ?_ ?_) ?_);rotate_left
 .rintro c D ⟨_,d,f,l,J,rfl,u,v,q,M⟩;lia
 .exact⟨.rfl,_,0,1,_,rfl,I0,∅,∅,∅⟩
 .rintro⟨c1,c⟩ D ⟨t,r,rfl,X⟩;exact aE (h r D t X)
 rintro x c D _ hx ⟨t,d,f,l,J,rfl,u,v,q,M⟩;refine aA (eH (eJ (I:=λy c B=>B=D/\∃d f l C z,c=(ae,d,f,l,C,z)/\dD κ a b d f l/\f+1<a.size/\l<b.size/\x+1+y<=f+l) (Q:=λc B=>B=D/\((∃r Y,c=(aa r,Y)/\eB κ (a.toList++b.toList) r)\/∃d f l C z,c=(ae,d,f,l,C,z)/\dD κ a b d f l/\f+1<a.size/\l<b.size/\x+1+1<=f+l)) ?_ ?_ ?_) ?_)
 .rintro y c B _ hy ⟨rfl,d,f,l,C,z,rfl,u,v,q,M⟩;dsimp only;refine aA (cZ q (aA (cZ ∅ (aA (pZ hO (t.sb hk) (hB l q) (hA f ∅) ?_)))));cases e:κ.blt (kO κ b[l]) (kO κ (a[f]'∅))with
  |true=>
   dsimp only;rw[if_pos rfl];refine aA (cZ q ?_);have N:=u.pushB q λj p dj=>bh.trans (i8 e) (Z f j p dj);by_cases G:l+1=b.size
   .rw[if_pos (by simp[G])];exact aE ⟨rfl,.inl ⟨_,_,rfl,N.doneA G⟩⟩
   rw[if_neg (by simpa using G)];split
   .exact aE ⟨rfl,.inr ⟨_,_,_,_,_,rfl,N,∅,∅,∅⟩⟩
   .exact aE ⟨rfl,_,_,_,_,_,rfl,N,∅,∅,∅⟩
  |false=>
   dsimp only;rw[if_neg (by simp)];refine aA (cZ ∅ ?_);have N:=u.pushA ∅ λj p dj=>bh.trans (show bh κ (a[f]'∅) b[l] from e) (sb l j p dj);by_cases G:f+1+1=a.size
   .rw[if_pos (by simp[G])];exact aE ⟨rfl,.inl ⟨_,_,rfl,N.last G (jX ∅ ∅)⟩⟩
   rw[if_neg (by simpa using G)];split
   .exact aE ⟨rfl,.inr ⟨_,_,_,_,_,rfl,N,∅,∅,∅⟩⟩
   .exact aE ⟨rfl,_,_,_,_,_,rfl,N,∅,∅,∅⟩
 .rintro c B ⟨rfl,d,f,l,C,z,rfl,u,v,q,M⟩;lia
 .exact⟨rfl,_,_,_,_,_,rfl,u,v,q,∅⟩
 rintro c B ⟨rfl,⟨r,Y,rfl,X⟩|⟨d,f,l,C,z,rfl,u,v,q,M⟩⟩
 .exact aE ⟨t,r,rfl,X⟩
 refine aA (ol (ku ⟨rfl,?_⟩));refine aA (eH (eJ (I:=λy c B=>eA L B/\∃d f l J C z,c=(ae,d,f,l,J,C,z)/\dD κ a b d f l/\f+1<a.size/\l<b.size/\x+2+y<=f+l) (Q:=λc B=>eA L B/\((∃r Y,c=(aa r,Y)/\eB κ (a.toList++b.toList) r)\/∃d f l J C z,c=(ae,d,f,l,J,C,z)/\dD κ a b d f l/\f+1<a.size/\l<b.size/\x+1+1<=f+l)) ?_ ?_ ?_) ?_);rotate_left
 .rintro c B ⟨_,d,f,l,J,C,z,rfl,u,v,q,M⟩;lia
 .exact⟨t,_,_,_,_,_,_,rfl,u,v,q,∅⟩
 .rintro c B ⟨t,⟨r,Y,rfl,X⟩|⟨d,f,l,J,C,z,rfl,u,v,q,M⟩⟩
  .exact aE ⟨t,r,rfl,X⟩
  .dsimp only;refine aA (kA (aE ⟨⟨t.kind,t.arr,t.pend,t.failed⟩,_,_,_,_,rfl,u,v,q,∅⟩))
 clear v q M u t I0 e1 e2;rintro y c B _ hy ⟨t,d,f,l,J,C,z,rfl,u,v,q,M⟩;clear hx hy;have h_:∀{i j:Nat} (K:i<=j) (p:j<b.size),bh κ (b[i]'∅) b[j]:=λ{i j} K p=>sb i j p K;have mB:∀{i j:Nat} (K:i<=j) (p:j<a.size),bh κ (a[i]'∅) a[j]:=λ{i j} K p=>Z i j p K;refine(?_:wpS (ar prog w) A E s _ ?Q _);extract_lets -merge x1 x2 x3 x4 x5 x6 x7 x8 x9 xa xb xc jp;have p:∀g T,eA L T->wpS (ar prog w) A E s (jp () g) ?Q T:=by
  intro g T H;dsimp -zeta only[jp,x1,x2,x3,x4,x5,x6,x7,x8,x9,xa,xb,xc];refine aA (uO H λT H=>?_);refine aA (cZ q ?_);refine aA (vJ hO (H.sb hk) (base:=f) (n:=a.size-f) (hint:=0) (hB l q) ∅ hA (λi j K p _=>mB K ∅) ∅ λk eW bH dX=>?_);dsimp -zeta only;extract_lets -merge y1 jp2;have qP:∀o n,dD κ a b o n l->f+k<=n->n+1<a.size->wpS (ar prog w) A E s (jp2 () o n) ?Q T:=by
   intro o n W lr e4;dsimp -zeta only[jp2,y1];refine aA (cZ q ?_);have P:=W.pushB q λj p g=>i8 (dX j p ∅ ∅);refine bL (λe5=>?_) λe5=>?_
   .exact aE ⟨H,.inl ⟨_,_,rfl,P.doneA (by simpa using e5)⟩⟩
   have e5':l+1≠b.size:=by simpa using e5
   refine aA (cZ ∅ ?_);refine aA (vg hO (H.sb hk) (base:=l+1) (n:=b.size-(l+1)) (hint:=0) (hA _ _) ∅ hB (λi j K p _=>h_ K ∅) ∅ λk' m1 m2 m3=>?_);dsimp -zeta only;extract_lets -merge z1 z2 jp3;have qR:∀o m,dD κ a b o n m->l+1+k'<=m->m<b.size->wpS (ar prog w) A E s (jp3 () o m) ?Q T:=by
    intro o m qS e6 e7;dsimp -zeta only[jp3,z1,z2];refine aA (cZ ∅ ?_);have qT:=qS.pushA ∅ (λj p g=>m3 j p ∅ ∅);refine bL (λe7=>?_) λe7=>?_
    .have S:n+1+1=a.size:=by simpa using e7
     exact aE ⟨H,.inl ⟨_,_,rfl,qT.last S (jX ∅ S)⟩⟩
    have S:n+1+1≠a.size:=by simpa using e7
    refine bL (λe8=>?_) λe8=>?_
    .exact aE ⟨H,.inr ⟨_,_,_,_,_,_,rfl,qT,∅,∅,∅⟩⟩
    .exact aE ⟨H,_,_,_,_,_,_,rfl,qT,∅,∅,∅⟩
   clear_value jp3;refine bL (λw6=>?_) (λw6=>?_)
   .have qS:=P.extB (k:=k') ∅ (λi O g1 g2 j p g3=>bh.trans (i8 (m2 i O g1 g2)) (mB g3 p));refine bL (λe6=>?_) λe6=>?_
    .exact aE ⟨H,.inl ⟨_,_,rfl,qS.doneA (by simpa using e6)⟩⟩
    have e6':l+1+k'≠b.size:=by simpa using e6
    exact qR _ _ qS ∅ ∅
   .exact qR _ _ P ∅ ∅
  clear_value jp2;refine bL (λhk0=>?_) (λhk0=>?_)
  .have W:dD κ a b (d++a.extract f (f+k)) (f+k) l:=u.extA ∅ λi O g1 g2 j p g3=>(bH i O g1 g2).trans (h_ g3 p);refine bL (λG=>?_) λG=>?_
   .have lr:f+k+1=a.size:=by simpa using G
    exact aE ⟨H,.inl ⟨_,_,rfl,W.last lr (jX ∅ lr)⟩⟩
   have lr:f+k+1≠a.size:=by simpa using G
   refine bL (λe4=>?_) λe4=>?_
   .exact aE ⟨H,.inl ⟨_,_,rfl,W.doneB (by simpa using e4)⟩⟩
   have e4':f+k≠a.size:=by simpa using e4
   exact qP _ _ W ∅ ∅
  .exact qP _ _ u ∅ ∅
 exact bL (λ_=>p _ _ t) λ_=>p _ _ t
end
def vG(d:KeyKind):KeyKind where
 α:=d.α
 blt:=λa b=>d.blt b a
 irrefl:=d.irrefl
 trans:=λa b c g f=>d.trans c b a f g
 negTrans:=λa b c h=>(d.negTrans c b a h).symm
 total:=λa b g f=>d.total a b f g
 keyOf:=d.keyOf
 dflt:=d.dflt
section
variable{κ:KeyKind}{g:fN}
theorem oE{x y:Keyed}(h:bh κ y x):bh (vG κ) x y:=h
theorem xm{a:Array Keyed}{n:Nat}(h:0<n)(b:n<=a.size):(a.toList.take n).reverse=(a[n-1]'∅)::(a.toList.take (n-1)).reverse:=by
 obtain⟨m,rfl⟩:∃m,n=m+1:=⟨n-1,∅⟩
 rw[List.take_succ_eq_append_getElem (by simp;lia),Bn];simp
theorem Aa(a:Array Keyed)(p n:Nat)(b:p<=n):a.toList.take n=a.toList.take p++(a.extract p n).toList:=by
 rw[iP]
 conv=>lhs;rw[show n=p+(n-p) by lia]
 rw[List.take_add]
theorem mY{a:Array Keyed}{n:Nat}(d:n<=a.size){x:Keyed}(h:x∈a.toList.take n):∃j,∃f:j<a.size,j<n/\a[j]=x:=by
 obtain⟨m,b,e⟩:=tW h;rw[Bm]at e;have c:m<n:=by simp at b;lia
 exact⟨m,∅,c,by simpa using e⟩
theorem vi{a:Array Keyed}{p n:Nat}(d:n<=a.size){x:Keyed}(h:x∈(a.extract p n).toList):∃j,∃f:j<a.size,p<=j/\j<n/\a[j]=x:=by
 rw[iP]at h;obtain⟨m,b,e⟩:=tW h;rw[Bm,Bl]at e;have c:p+m<n:=by simp at b;lia
 exact⟨p+m,∅,∅,c,by simpa using e⟩
theorem lR(a:Array Keyed)(n:Nat):(a.extract 0 n).toList=a.toList.take n:=by rw[iP];simp
structure dI(κ:KeyKind)(a b c:Array Keyed)(f d:Nat):Prop where
 ms:MS (vG κ) (a.toList++b.toList) c.toList (a.toList.take f).reverse (b.toList.take d).reverse
 la:f<=a.size
 lb:d<=b.size
variable{a b c:Array Keyed}{f d:Nat}
theorem dI.pushA(h:dI κ a b c f d)(o:0<f)(p:f-1<a.size)(l:∀j (i:j<b.size),j<d->bh κ b[j] a[f-1]):dI κ a b (c.push a[f-1]) (f-1) d:=by refine⟨?_,∅,h.lb⟩;rw[qg];refine MS.stepA (by rw[wP,<-xm o h.la];exact h.ms) λu n v m=>?_;obtain⟨j,i,q,rfl⟩:=mY h.lb (mr.mp m);rw[eG.mp n];exact oE (l j i q)
theorem dI.pushB(h:dI κ a b c f d)(o:0<d)(p:d-1<b.size)(l:∀j (i:j<a.size),j<f->bh κ a[j] b[d-1]):dI κ a b (c.push b[d-1]) f (d-1):=by refine⟨?_,h.la,∅⟩;rw[qg];refine MS.stepB (by rw[wP,<-xm o h.lb];exact h.ms) λu n v m=>?_;obtain⟨j,i,q,rfl⟩:=mY h.la (mr.mp m);rw[eG.mp n];exact oE (l j i q)
theorem dI.extA{p:Nat}(h:dI κ a b c f d)(l:p<=f)(o:∀i (n:i<a.size),p<=i->i<f->∀j (m:j<b.size),j<d->bh κ b[j] a[i]):dI κ a b (c++(a.extract p f).reverse) p d:=by refine⟨?_,bX l h.la,h.lb⟩;rw[fh,Array.toList_reverse];refine MS.stepA (by rw[<-Bn,<-Aa _ _ _ l];exact h.ms) λu r v q=>?_;obtain⟨j,m,w,rfl⟩:=mY h.lb (mr.mp q);obtain⟨i,n,t,s,rfl⟩:=vi h.la (mr.mp r);exact oE (o i n t s j m w)
theorem dI.extB{p:Nat}(h:dI κ a b c f d)(l:p<=d)(o:∀i (n:i<b.size),p<=i->i<d->∀j (m:j<a.size),j<f->bh κ a[j] b[i]):dI κ a b (c++(b.extract p d).reverse) f p:=by refine⟨?_,h.la,bX l h.lb⟩;rw[fh,Array.toList_reverse];refine MS.stepB (by rw[<-Bn,<-Aa _ _ _ l];exact h.ms) λu r v q=>?_;obtain⟨j,m,w,rfl⟩:=mY h.la (mr.mp q);obtain⟨i,n,t,s,rfl⟩:=vi h.lb (mr.mp r);exact oE (o i n t s j m w)
theorem ut{T:List Keyed}{r q:Array Keyed}(h:eB (vG κ) T q)(e:r.toList=q.toList.reverse):eB κ T r:=by refine⟨by rw[e];exact(Bo _).trans h.1,?_⟩;rw[e,Bp];exact h.2
theorem dI.doneA(h:dI κ a b c f d)(e:f=0):eB κ (a.toList++b.toList) (a.extract 0 f++b.extract 0 d++c.reverse):=by have:=h.ms;rw[e,wM,List.reverse_nil]at this;refine ut (q:=(c.toList++(b.toList.take d).reverse).toArray) (this.swap.endA (by simp)) ?_;rw[fh,fh,lR,lR,e];simp
theorem dI.doneB(h:dI κ a b c f d)(e:d=0):eB κ (a.toList++b.toList) (a.extract 0 f++b.extract 0 d++c.reverse):=by have:=h.ms;rw[e,wM,List.reverse_nil]at this;refine ut (q:=(c.toList++(a.toList.take f).reverse).toArray) (this.endA (by simp)) ?_;rw[fh,fh,lR,lR,e];simp
theorem dI.first(h:dI κ a b c f d)(e:d=1)(p:∀j (n:j<a.size),bh κ (b[0]'(by have:=h.lb;lia)) a[j]):eB κ (a.toList++b.toList) (b.extract 0 d++a.extract 0 f++c.reverse):=by
 refine ut (q:=(c.toList++((a.toList.take f).reverse++(b.toList.take d).reverse)).toArray) (h.ms.swap.last (λu m v l=>?_) (by simp)) ?_
 .obtain⟨i,o,s,rfl⟩:=mY h.la (mr.mp m);obtain⟨j,n,r,rfl⟩:=mY h.lb (mr.mp l);have:j=0:=∅
  subst this;exact oE (p i o)
 .rw[fh,fh,lR,lR];simp
end
section
variable{f:aG}{w:aC}{A:aH}{E:ah->am->Prop}{s:am}{d:KeyKind}{l:fN}
theorem DL(hO:fZ d l f w A s){T:be}(hk:SB l T){a b:Array Keyed}{Q:Array Keyed->be->Prop}(ha:0<a.size)(hb:0<b.size)(hA:∀i (hi:i<a.size),eK d a[i]) (hB:∀i (hi:i<b.size),eK d b[i]) (sa:pt d a) (sb:pt d b)(h0:bh d b[0] a[0]) (hl:∀j (v:j<b.size),bh d b[j] a[a.size-1])(h:∀r K,eA T K->eB d (a.toList++b.toList) r->Q r K):wpS (ar f w) A E s (zO a b) Q T:=by
 have h_:∀{i j:Nat} (S:i<=j) (v:j<b.size),bh d (b[i]'∅) b[j]:=λ{i j} S v=>sb i j v S;have mB:∀{i j:Nat} (S:i<=j) (v:j<a.size),bh d (a[i]'∅) a[j]:=λ{i j} S v=>sa i j v S;have hf:∀j (v:j<a.size),bh d b[0] a[j]:=λj v=>h0.trans (mB ∅ v);have I0:dI d a b #[a[a.size-1]] (a.size-1) b.size:=by
  have B:dI d a b #[] a.size b.size:=by
   refine⟨⟨?_,by simp,?_,?_,by simp,by simp⟩,∅,∅⟩
   .simp only[<-km,Bq,gb];exact List.Perm.append (Bo _) (Bo _)
   .simp only[<-km,Bq,Bp];exact sa.pw
   .simp only[<-km,Bq,Bp];exact sb.pw
  exact B.pushA ha ∅ λj v _=>hl j v
 unfold zO;refine aA (ol (ku ⟨rfl,?_⟩));refine aA (cZ ∅ ?_);refine bL (λe1=>aE (h _ _ .rfl (I0.doneA (by simpa using e1)))) λe1=>?_;have oy:a.size-1≠0:=by simpa using e1
 refine bL (λe2=>?_) λe2=>?_
 .have jf:b.size=1:=by simpa using e2
  exact aE (h _ _ .rfl (I0.first jf hf))
 have jf:b.size≠1:=by simpa using e2
 refine aA (i7 ?_);refine aA (eH (eJ (I:=λx c K=>eA T K/\∃t u q P,c=(ae,u,q,t,P)/\dI d a b t u q/\0<u/\u<=a.size/\1<q/\q<=b.size/\x+1+u+q<=a.size+b.size) (Q:=λc K=>eA T K/\∃r,c.1=aa r/\eB d (a.toList++b.toList) r) ?_ ?_ ?_) ?_);rotate_left
 .rintro c K ⟨_,t,u,q,P,rfl,z,B,N,L,O,W⟩;lia
 .exact⟨.rfl,_,_,_,_,rfl,I0,∅,∅,∅,∅,∅⟩
 .rintro⟨c1,c⟩ K ⟨J,r,rfl,hD⟩;exact aE (h r K J hD)
 rintro x c K _ hx ⟨J,t,u,q,P,rfl,z,B,N,L,O,W⟩;refine aA (eH (eJ (I:=λy c G=>G=K/\∃t u q H D,c=(ae,u,q,t,H,D)/\dI d a b t u q/\0<u/\u<=a.size/\1<q/\q<=b.size/\x+1+y+u+q<=a.size+b.size) (Q:=λc G=>G=K/\((∃r c',c=(aa r,c')/\eB d (a.toList++b.toList) r)\/∃t u q H D,c=(ae,u,q,t,H,D)/\dI d a b t u q/\0<u/\u<=a.size/\1<q/\q<=b.size/\x+1+1+u+q<=a.size+b.size)) ?_ ?_ ?_) ?_)
 .rintro y c G _ hy ⟨rfl,t,u,q,H,D,rfl,z,B,N,L,O,W⟩;dsimp only;refine aA (cZ ∅ (aA (cZ ∅ (aA (pZ hO (J.sb hk) (hB (q-1) ∅) (hA (u-1) ∅) ?_)))));cases e:d.blt (kO d (b[q-1]'∅)) (kO d (a[u-1]'∅))with
  |true=>
   dsimp only;rw[if_pos rfl];refine aA (cZ ∅ ?_);have X:=z.pushA B ∅ λj v dj=>bh.trans (h_ (show j<=q-1 by lia) ∅) (i8 e);refine bL (λM=>?_) λM=>?_
   .exact aE ⟨rfl,.inl ⟨_,_,rfl,X.doneA (by simpa using M)⟩⟩
   have lr:u-1≠0:=by simpa using M
   refine bL (λe4=>?_) λe4=>?_
   .exact aE ⟨rfl,.inr ⟨_,_,_,_,_,rfl,X,∅,∅,∅,∅,∅⟩⟩
   .exact aE ⟨rfl,_,_,_,_,_,rfl,X,∅,∅,∅,∅,∅⟩
  |false=>
   dsimp only;rw[if_neg (by simp)];refine aA (cZ ∅ ?_);have X:=z.pushB ∅ ∅ λj v dj=>bh.trans (mB (show j<=u-1 by lia) ∅) (show bh d (a[u-1]'∅) (b[q-1]'∅)from e);refine bL (λM=>?_) λM=>?_
   .exact aE ⟨rfl,.inl ⟨_,_,rfl,X.first (by simpa using M) hf⟩⟩
   have lr:q-1≠1:=by simpa using M
   refine bL (λe4=>?_) λe4=>?_
   .exact aE ⟨rfl,.inr ⟨_,_,_,_,_,rfl,X,∅,∅,∅,∅,∅⟩⟩
   .exact aE ⟨rfl,_,_,_,_,_,rfl,X,∅,∅,∅,∅,∅⟩
 .rintro c G ⟨rfl,t,u,q,H,D,rfl,z,B,N,L,O,W⟩;lia
 .exact⟨rfl,_,_,_,_,_,rfl,z,B,N,L,O,∅⟩
 rintro c G ⟨rfl,⟨r,c',rfl,hD⟩|⟨t,u,q,H,D,rfl,z,B,N,L,O,W⟩⟩
 .exact aE ⟨J,r,rfl,hD⟩
 refine aA (ol (ku ⟨rfl,?_⟩));refine aA (eH (eJ (I:=λy c G=>eA T G/\∃t u q P H D,c=(ae,u,q,t,P,H,D)/\dI d a b t u q/\0<u/\u<=a.size/\1<q/\q<=b.size/\x+2+y+u+q<=a.size+b.size) (Q:=λc G=>eA T G/\((∃r c',c=(aa r,c')/\eB d (a.toList++b.toList) r)\/∃t u q P H D,c=(ae,u,q,t,P,H,D)/\dI d a b t u q/\0<u/\u<=a.size/\1<q/\q<=b.size/\x+1+1+u+q<=a.size+b.size)) ?_ ?_ ?_) ?_);rotate_left
 .rintro c G ⟨_,t,u,q,P,H,D,rfl,z,B,N,L,O,W⟩;lia
 .exact⟨J,_,_,_,_,_,_,rfl,z,B,N,L,O,∅⟩
 .rintro c G ⟨J,⟨r,c',rfl,hD⟩|⟨t,u,q,P,H,D,rfl,z,B,N,L,O,W⟩⟩
  .exact aE ⟨J,r,rfl,hD⟩
  .dsimp only;exact aA (uO J λZ C=>aE ⟨C,_,_,_,_,rfl,z,B,N,L,O,∅⟩)
 clear B N L O W z J I0 e1 e2;rintro y c G _ hy ⟨J,t,u,q,P,H,D,rfl,z,B,N,L,O,W⟩;clear hx hy;refine(?_:wpS (ar f w) A E s _ ?Q _);extract_lets -merge x1 x2 x3 x4 x5 x6 x7 x8 x9 xa xb xc jp;have v:∀g Z,eA T Z->wpS (ar f w) A E s (jp () g) ?Q Z:=by
  intro g Z C;dsimp -zeta only[jp,x1,x2,x3,x4,x5,x6,x7,x8,x9,xa,xb,xc];refine aA (uO C λZ C=>?_);refine aA (cZ ∅ ?_);refine aA (vJ hO (C.sb hk) (base:=0) (n:=u) (hint:=u-1) (hB (q-1) ∅) ∅ hA (λi j S v _=>mB S ∅) ∅ λp eW bH dX=>?_);dsimp -zeta only;extract_lets -merge y1 y2 jp2;have qP:∀n o,dI d a b o n q->0<n->n<=p->wpS (ar f w) A E s (jp2 () n o) ?Q Z:=by
   intro n o qQ lr e4;dsimp -zeta only[jp2,y1,y2];refine aA (cZ ∅ ?_);have Y:=qQ.pushB ∅ ∅ λj v g=>bH j v ∅ ∅;refine bL (λe5=>?_) λe5=>?_
   .exact aE ⟨C,.inl ⟨_,_,rfl,Y.first (by simpa using e5) hf⟩⟩
   have e5':q-1≠1:=by simpa using e5
   refine aA (cZ ∅ ?_);refine aA (vg hO (C.sb hk) (base:=0) (n:=q-1) (hint:=q-1-1) (hA _ _) ∅ hB (λi j S v _=>h_ S ∅) ∅ λp' m1 m2 m3=>?_);dsimp -zeta only;extract_lets -merge z1 z2 z3 jp3;have qR:∀m o,dI d a b o n m->1<m->m<=p'->wpS (ar f w) A E s (jp3 () m o) ?Q Z:=by
    intro m o qS e6 e7;dsimp -zeta only[jp3,z1,z2,z3];refine aA (cZ ∅ ?_);have qT:=qS.pushA ∅ ∅ (λj v g=>i8 (m2 j v ∅ ∅));refine bL (λe7=>?_) λe7=>?_
    .exact aE ⟨C,.inl ⟨_,_,rfl,qT.doneA (by simpa using e7)⟩⟩
    have e7':n-1≠0:=by simpa using e7
    refine bL (λe8=>?_) λe8=>?_
    .exact aE ⟨C,.inr ⟨_,_,_,_,_,_,rfl,qT,∅,∅,∅,∅,∅⟩⟩
    .exact aE ⟨C,_,_,_,_,_,_,rfl,qT,∅,∅,∅,∅,∅⟩
   clear_value jp3;refine bL (λw6=>?_) (λw6=>?_)
   .have qS:=Y.extB (p:=p') ∅ (λi hi g1 g2 j v g3=>bh.trans (mB (show j<=n-1 by lia) ∅) (m3 i hi ∅ ∅));refine bL (λe6=>?_) λe6=>?_
    .exact aE ⟨C,.inl ⟨_,_,rfl,qS.first (by simpa using e6) hf⟩⟩
    refine bL (λe9=>?_) λe9=>?_
    .exact aE ⟨C,.inl ⟨_,_,rfl,qS.doneB (by simpa using e9)⟩⟩
    have e6':p'≠1:=by simpa using e6
    have e9':p'≠0:=by simpa using e9
    exact qR _ _ qS ∅ ∅
   .exact qR _ _ Y ∅ ∅
  clear_value jp2;refine bL (λhk0=>?_) (λhk0=>?_)
  .have qQ:dI d a b (t++(a.extract p u).reverse) p q:=z.extA ∅ λi hi g1 g2 j v g3=>bh.trans (h_ (show j<=q-1 by lia) ∅) (i8 (dX i hi ∅ ∅));refine bL (λM=>?_) λM=>?_
   .exact aE ⟨C,.inl ⟨_,_,rfl,qQ.doneA (by simpa using M)⟩⟩
   have lr:p≠0:=by simpa using M
   exact qP _ _ qQ ∅ ∅
  .exact qP _ _ z ∅ ∅
 exact bL (λ_=>v _ _ J) λ_=>v _ _ J
end
def putL(a:Array Keyed)(c:Nat)(l:List Keyed):Array Keyed:=l.zipIdx.foldl (λa (b:Keyed×Nat)=>a.setIfInBounds (c+b.2) b.1) a
theorem uA:∀(l:List Keyed) (n b:Nat) (a:Array Keyed),b+n+l.length<=a.size -> ((l.zipIdx n).foldl (λa (c:Keyed×Nat)=>a.setIfInBounds (b+c.2) c.1) a).size=a.size /\ ∀k,((l.zipIdx n).foldl (λa (c:Keyed×Nat)=>a.setIfInBounds (b+c.2) c.1) a)[k]?=if b+n<=k/\k<b+n+l.length then l[k-(b+n)]? else a[k]?
 |[],n,b,a,_=>⟨rfl,λk=>by rw[if_neg (by simp)];rfl⟩
 |x::l,n,b,a,h=>by
  have g:b+(n+1)+l.length<=(a.setIfInBounds (b+n) x).size:=by simp at h ⊢;lia
  obtain⟨j,i⟩:=uA l (n+1) b (a.setIfInBounds (b+n) x) g;rw[List.zipIdx_cons,mi];refine⟨by rw[j];simp,λk=>?_⟩;rw[i];by_cases f:b+n=k
  .subst f;rw[if_neg ∅,if_pos (by simp)];rw[Array.getElem?_setIfInBounds_self_of_lt (by simp at h;lia)];simp
  .by_cases d:b+(n+1)<=k/\k<b+(n+1)+l.length
   .rw[if_pos d,if_pos (by simp;lia)];rw[show k-(b+n)=k-(b+(n+1))+1 by lia,List.getElem?_cons_succ]
   .rw[if_neg d,if_neg (by simp;lia),Array.getElem?_setIfInBounds_ne f]
theorem C5{a:Array Keyed}{b:Nat}{l:List Keyed}(h:b+l.length<=a.size):(putL a b l).size=a.size:=(uA l 0 b a ∅).1
theorem vo{a:Array Keyed}{b:Nat}{l:List Keyed}(h:b+l.length<=a.size)(k:Nat):(putL a b l)[k]?=if b<=k/\k<b+l.length then l[k-b]? else a[k]? :=(uA l 0 b a ∅).2 k
theorem GT{a:Array Keyed}{b n:Nat}{l:List Keyed}(h:b+n<=a.size)(d:l.Perm ((a.toList.drop b).take n)):(putL a b l).toList.Perm a.toList:=by
 have f:l.length=n:=by rw[d.length_eq,k8,qa];simp;lia
 have e:(putL a b l).toList=a.toList.take b++(l++a.toList.drop (b+n)):=by
  apply wK;intro k;rw[wR,vo ∅,List.getElem?_append,List.getElem?_append,k8,List.getElem?_take,List.getElem?_drop,f];simp only[km,wR];rw[show min b a.size=b by lia];by_cases c:k<b
  .rw[if_neg ∅,if_pos c,if_pos c]
  .rw[if_neg c];by_cases i:k<b+n
   .rw[if_pos ∅,if_pos ∅]
   .rw[if_neg ∅,if_neg ∅];congr 1;lia
 rw[e];have g:a.toList=a.toList.take b++((a.toList.drop b).take n++a.toList.drop (b+n)):=by rw[<-List.drop_drop,n6,n6]
 conv=>rhs;rw[g]
 exact Bb _ (List.Perm.append_right _ d)
section
variable{κ:KeyKind}{kz:fN}
def Run(κ:KeyKind)(a:Array Keyed)(b n:Nat):Prop:=∀i j x y,b<=i->i<=j->j<b+n->a[i]?=aa x->a[j]?=aa y->bh κ x y
theorem bh.refl(x:Keyed):bh κ x x:=jN _
structure Wr(a a':Array Keyed)(lo n:Nat):Prop where
 perm:a'.toList.Perm a.toList
 size:a'.size=a.size
 out:∀k,k<lo\/lo+n<=k->a'[k]?=a[k]?
theorem Run.keep{a m:Array Keyed}{c n b f:Nat}(h:Run κ a c n)(w:Wr a m b f)(d:c+n<=b\/b+f<=c):Run κ m c n:=by intro i j x y q p o l g;rw[w.out i ∅]at l;rw[w.out j ∅]at g;exact h i j x y q p o l g
end
section
variable{b:aG}{w:aC}{A:aH}{E:ah->am->Prop}{s:am}{κ:KeyKind}{c:fN}
theorem Hy{a:Type}{M:Model}{Q:PUnit->a->Prop}{f d:a}(h:Q ⟨⟩ d):wpS M A E s (set d:StateT a Sem PUnit) Q f:=by unfold wpS;rw[StateT.run_set];exact aB ⟨rfl,h⟩
theorem Jf(a:Array Keyed){p q t:Nat}(f:p<=q)(d:q<=t):(a.extract p q).toList++(a.extract q t).toList=(a.extract p t).toList:=by rw[iP,iP,iP,show t-p=(q-p)+(t-q) by lia,List.take_add,List.drop_drop,show p+(q-p)=q by lia]
theorem Ip{a:Array Keyed}{d f p k g:Nat}(hsz:d+f+p<=a.size)(hk:k<f)(h0:0<g)(hnb:g<=p)(r1:Run κ a d f)(Z:Run κ a (d+f) p)(a1:∀i (o:i<a.size),d<=i->i<d+k->bh κ a[i] (a[d+f]'∅)) (b2:∀i (o:i<a.size),d+f+g<=i->i<d+f+p->bh κ (a[d+f-1]'∅) a[i]){r:Array Keyed} (v:eB κ ((a.extract (d+k) (d+f)).toList++(a.extract (d+f) (d+f+g)).toList) r):Wr a (putL a (d+k) r.toList) d (f+p)/\Run κ (putL a (d+k) r.toList) d (f+p):=by
 rw[Jf _ ∅ ∅]at v;have aZ:r.toList.length=f-k+g:=by rw[v.1.length_eq,iP,k8,qa,km];lia
 have G:d+k+r.toList.length<=a.size:=∅
 have C:∀m∈r.toList,∃t,∃D:t<a.size,d+k<=t/\t<d+f+g/\a[t]=m:=λm C=>vi ∅ (v.1.mem_iff.mp C);have I:∀{i j:Nat} (B:i<=j) (l:j<d+f),d<=i->bh κ (a[i]'∅) (a[j]'∅):=λ{i j} B l o=>r1 i j _ _ o B l (getElem?_pos _ _ _) (getElem?_pos _ _ _);have H:∀{i j:Nat} (B:i<=j) (l:j<d+f+p),d+f<=i->bh κ (a[i]'∅) (a[j]'∅):=λ{i j} B l o=>Z i j _ _ o B l (getElem?_pos _ _ _) (getElem?_pos _ _ _);have L:∀i (o:i<a.size) j (l:j<a.size),d<=i->i<d+k->d+f<=j->j<d+f+p->bh κ a[i] a[j]:=λi o j l c1 K P c4=>(a1 i o c1 K).trans (H P c4 (aT _));refine⟨⟨?_,C5 G,λq hq=>?_⟩,?_⟩
 .refine GT (n:=f-k+g) ∅ ?_;have:=v.1;rwa[iP,show d+f+g-(d+k)=f-k+g by lia]at this
 .rw[vo G,if_neg ∅]
 .intro i j x y h1 M h3 u h;rw[vo G]at u h;by_cases O:d+k<=i/\i<d+k+r.toList.length
  .rw[if_pos O]at u;obtain⟨t,D,Y,X,rfl⟩:=C x (tq u);by_cases z:d+k<=j/\j<d+k+r.toList.length
   .rw[if_pos z]at h;by_cases J:i=j
    .subst J;rw[u]at h;cases h;exact bh.refl _
    .obtain⟨W,T⟩:=cD.mp u;obtain⟨S,Q⟩:=cD.mp h;have:=List.pairwise_iff_getElem.mp v.2 (i-(d+k)) (j-(d+k)) W S ∅;rw[T,Q]at this;exact this
   .rw[if_neg z]at h;obtain⟨l,rfl⟩:=n8.mp h;by_cases N:t<d+f
    .exact(I (show t<=d+f-1 by lia) ∅ ∅).trans (b2 j l ∅ ∅)
    .exact H ∅ ∅ ∅
  .rw[if_neg O]at u;obtain⟨o,rfl⟩:=n8.mp u;by_cases z:d+k<=j/\j<d+k+r.toList.length
   .rw[if_pos z]at h;obtain⟨t,D,Y,X,rfl⟩:=C y (tq h);by_cases N:t<d+f
    .exact I ∅ N ∅
    .exact L i o t D ∅ ∅ ∅ ∅
   .rw[if_neg z]at h;obtain⟨l,rfl⟩:=n8.mp h;by_cases K:i<d+k
    .by_cases P:j<d+k
     .exact I M ∅ h1
     .exact L i o j l ∅ K ∅ ∅
    .exact H M ∅ ∅
theorem xx{a:Array Keyed}{f d g:Nat}(q:f+d+g<=a.size)(t:0<d)(r:0<g)(n:Run κ a f d)(m:Run κ a (f+d) g)(u:bh κ (a[f+d-1]'∅) (a[f+d]'∅)):Run κ a f (d+g):=by
 intro i j x y p o z l h;by_cases v:j<f+d
 .exact n i j x y p o v l h
 .by_cases B:i<f+d
  .exact((n i (f+d-1) x _ p ∅ ∅ l (getElem?_pos _ _ _)).trans u).trans (m (f+d) j _ y ∅ ∅ ∅ (getElem?_pos _ _ _) h)
  .exact m i j x y ∅ o ∅ l h
theorem Wr.same{a:Array Keyed}{lo n:Nat}:Wr a a lo n:=⟨qf _,rfl,λ_ _=>rfl⟩
theorem GQ(K:fZ κ c b w A s){o:be}(hk:SB c o)(v:∀i (m:i<(arrOf o).size),eK κ (arrOf o)[i]){i d a pw g D:Nat}(N:(aR o)[i]?=aa (d,a,pw)) (M:(aR o)[i+1]?=aa (d+a,g,D)) (x:0<a) (G:0<g) (p:d+a+g<=(arrOf o).size)(z:Run κ (arrOf o) d a) (y:Run κ (arrOf o) (d+a) g) {Q:Bool->be->Prop}(h:∀t,SB c t->aR t=((aR o).setIfInBounds i (d,a+g,pw)).eraseIdxIfInBounds (i+1)->Wr (arrOf o) (arrOf t) d (a+g)->Run κ (arrOf t) d (a+g)->Q ai t):wpS (ar b w) A E s (mergeAt' i) Q o:=by
 obtain⟨kd,f,J,mg,fl⟩:=o;have S:c=kd:=hk.kind.symm;have mz:fl=ae:=hk.failed;subst mz;subst S;replace v:∀i (m:i<f.size),eK κ f[i]:=v;replace p:d+a+g<=f.size:=p;replace z:Run κ f d a:=z;replace y:Run κ f (d+a) g:=y;replace N:J[i]?=aa (d,a,pw):=N;replace M:J[i+1]?=aa (d+a,g,D):=M;replace h:∀t,SB c t->aR t=(J.setIfInBounds i (d,a+g,pw)).eraseIdxIfInBounds (i+1)->Wr f (arrOf t) d (a+g)->Run κ (arrOf t) d (a+g)->Q ai t:=h;have g1:∀{i j:Nat} (q:i<=j) (l:j<d+a),d<=i->bh κ (f[i]'∅) (f[j]'∅):=λ{i j} q l m=>z i j _ _ m q l (getElem?_pos _ _ _) (getElem?_pos _ _ _);have g2:∀{i j:Nat} (q:i<=j) (l:j<d+a+g),d+a<=i->bh κ (f[i]'∅) (f[j]'∅):=λ{i j} q l m=>y i j _ _ m q l (getElem?_pos _ _ _) (getElem?_pos _ _ _);unfold mergeAt';refine aA (i7 ?_);dsimp only;rw[N,M];dsimp only;refine aA (Hy ?_);generalize (J.setIfInBounds i (d,a+g,pw)).eraseIdxIfInBounds (i+1)=pend at *;refine aA (cZ ∅ ?_);refine aA (vJ K ⟨rfl,rfl⟩ (base:=d) (n:=a) (hint:=0) (v _ _) ∅ v (λi j q l m=>g1 q l m) x λk m1 m2 m3=>?_);dsimp only;refine bL (λX=>?_) λX=>?_
 .have Y:a<=k:=by have:a-k=0:=(by simpa using X);lia
  refine aE (h _ ⟨rfl,rfl⟩ rfl Wr.same (xx p x G z y (m2 _ _ ∅ ∅)))
 have Y:k<a:=by have:a-k≠0:=(by simpa using X);lia
 refine aA (cZ ∅ ?_);refine aA (vg K ⟨rfl,rfl⟩ (base:=d+a) (n:=g) (hint:=g-1) (v _ _) ∅ v (λi j q l m=>g2 q l m) ∅ λu n1 Z O=>?_);dsimp only;have H:d+k+(a-k)-1=d+a-1:=∅
 simp only[H]at Z O;refine bL (λW=>?_) λW=>?_
 .have jf:u=0:=by simpa using W
  refine aE (h _ ⟨rfl,rfl⟩ rfl Wr.same (xx p x G z y (O _ _ ∅ ∅)))
 have jf:u≠0:=by simpa using W
 have xs:(f.extract (d+k) (d+a)).size=a-k:=by simp;lia
 have ys:(f.extract (d+a) (d+a+u)).size=u:=by simp;lia
 refine bL (λ_=>?_) λ_=>?_
 all_goals
  first
   |refine aA (GS K ⟨rfl,rfl⟩ ∅ ∅ ?_ ?_ ?_ ?_ ?_ ?_ ?_)
   |refine aA (DL K ⟨rfl,rfl⟩ ∅ ∅ ?_ ?_ ?_ ?_ ?_ ?_ ?_)
  .intro j l;rw[kB];exact v _ _
  .intro j l;rw[kB];exact v _ _
  .intro i j l q;rw[kB,kB];exact g1 ∅ ∅ ∅
  .intro i j l q;rw[kB,kB];exact g2 ∅ ∅ ∅
  .rw[kB,kB];exact i8 (m3 _ _ ∅ ∅)
  .intro j l;rw[kB,kB];have:=Z (d+a+j) ∅ ∅ ∅;have e:d+k+((f.extract (d+k) (d+a)).size-1)=d+a-1:=∅
   simp only[e];exact i8 this
  .rintro r ⟨P,I,L,mg',T⟩ ⟨C,B,c3,c4⟩ hD;change P=c at C;change I=f at B;change L=pend at c3;change T=ae at c4;subst C B c3 c4;refine aA (kA ?_);refine aA (i7 ?_);obtain⟨w1,w2⟩:=Ip p Y ∅ n1 z y (λi m C B=>m2 i m C B) (λi m C B=>O i m C B) hD;exact aE (h _ ⟨rfl,rfl⟩ rfl w1 w2)
end
section
variable{κ:KeyKind}{kz:fN}
theorem uH{a:Array Keyed}{i:Nat}{x:Keyed}(h:a[i]?=aa x):KK κ a i=kO κ x:=by unfold KK kO;rw[h]
theorem sD{a:Array Keyed}{i:Nat}(h:i<a.size):KK κ a i=kO κ a[i]:=uH (getElem?_pos _ _ _)
def eX(κ:KeyKind)(a:Array Keyed)(lo n:Nat):Prop:=∀i j,lo<=i->i<=j->j<lo+n->κ.kle (KK κ a i) (KK κ a j)
def kJ(κ:KeyKind)(a:Array Keyed)(lo n:Nat):Prop:=∀i j,lo<=i->i<=j->j<lo+n->κ.kle (KK κ a j) (KK κ a i)
theorem eX.run{a:Array Keyed}{b n:Nat}(h:eX κ a b n):Run κ a b n:=by intro i j x y l g f d c;have:=h i j l g f;rw[uH d,uH c]at this;exact this
theorem Wr.trans{a b c:Array Keyed}{d n:Nat}(g:Wr a b d n)(f:Wr b c d n):Wr a c d n :=⟨f.perm.trans g.perm,f.size.trans g.size,λk h=>(f.out k h).trans (g.out k h)⟩
theorem Wr.mono{a b:Array Keyed}{d n c f:Nat}(h:Wr a b d n)(j:c<=d)(i:d+n<=c+f):Wr a b c f :=⟨h.perm,h.size,λk g=>h.out k ∅⟩
theorem BN{a:Array Keyed}{i j:Nat}(b:j<=a.size)(d:i<=j):Wr a (mirror a i j ((j-i) / 2)) i (j-i) :=⟨Br.mp (mirror_perm _ _ _ _),mirror_size _ _ _ _,λk c=>by rw[getElem?_mirror_all b,if_neg ∅]⟩
theorem Fe{a:Array Keyed}{b d:Nat}(c:b<a.size)(f:d<=b):Wr a (bubble a b d) (b-d) (d+1) :=⟨Br.mp (bubble_perm _ _ _),bubble_size _ _ _,λk g=>by rw[getElem?_bubble c d f,if_neg ∅,if_neg ∅]⟩
def AllK(κ:KeyKind)(a:Array Keyed):Prop:=∀i (b:i<a.size),eK κ a[i]
theorem AllK.of{a b:Array Keyed}(h:AllK κ a)(p:b.toList.Perm a.toList):AllK κ b:=by intro i f;have c:b[i]∈a.toList:=p.mem_iff.mp (by simp);obtain⟨j,d,e⟩:=tW c;rw[<-e];simpa using h j (by simpa using d)
end
section
variable{d:aG}{w:aC}{A:aH}{E:ah->am->Prop}{s:am}{κ:KeyKind}{f:fN}
theorem lH(m:fZ κ f d w A s){a:be}(l:SB f a)(g:AllK κ (arrOf a)){i j:Nat}{Q:Option Bool->be->Prop}(c:i<(arrOf a).size)(b:j<(arrOf a).size)(h:Q (aa (κ.blt (KK κ (arrOf a) i) (KK κ (arrOf a) j))) a):wpS (ar d w) A E s (ltAt' i j) Q a:=by rw[sD c,sD b]at h;rw[ltAt'_eq];refine aA (i7 ?_);exact aA (cZ c (aA (cZ b (pZ m l (g i c) (g j b) h))))
theorem pB{b a:be}{lo n i j:Nat}{Q:Unit->be->Prop}(l:SB f a)(o:aR a=aR b)(g:Wr (arrOf b) (arrOf a) lo n)(r:i<=j)(p:j<=(arrOf b).size)(q:lo<=i)(t:j<=lo+n)(h:∀c,SB f c->aR c=aR b->Wr (arrOf b) (arrOf c) lo n->(∀k,KK κ (arrOf c) k=if i<=k/\k<j then KK κ (arrOf a) (i+j-1-k)else KK κ (arrOf a) k)->Q () c):wpS (ar d w) A E s (reverseSlice' i j) Q a:=by
 have m:j<=(arrOf a).size:=by rw[g.size];exact p
 exact wpS_reverse (h _ ⟨l.kind,l.failed⟩ o (g.trans ((BN m r).mono q ∅)) λk=>KK_mirror m k)
theorem I_{i:Type}{c:Prop}[Decidable c]{j h:StateT be Sem i}{Q:i->be->Prop}{g:be}{J:be->Prop}(l:¬c->J g)(a:∀b,J b->wpS (ar d w) A E s h Q b)(m:c->(∀b,J b->wpS (ar d w) A E s h Q b)->wpS (ar d w) A E s j Q g):wpS (ar d w) A E s (if c then j else h) Q g :=bL (λe=>m e a) λe=>a g (l e)
theorem vh{a:Array Keyed}{lo x:Nat}(b:eX κ a lo x)(h:1<=x)(e:κ.kle (KK κ a (lo+x-1)) (KK κ a (lo+x))):eX κ a lo (x+1):=λi j c n o=>by
 by_cases g:j<lo+x
 .exact b i j c n g
 .have m:j=lo+x:=∅
  subst m;by_cases l:i=lo+x
  .subst l;exact jN _
  .exact qj (b i (lo+x-1) c ∅ ∅) e
theorem xq{a:Array Keyed}{lo x:Nat}(b:kJ κ a lo x)(h:1<=x)(e:κ.kle (KK κ a (lo+x)) (KK κ a (lo+x-1))):kJ κ a lo (x+1):=λi j c n o=>by
 by_cases g:j<lo+x
 .exact b i j c n g
 .have m:j=lo+x:=∅
  subst m;by_cases l:i=lo+x
  .subst l;exact jN _
  .exact qj e (b i (lo+x-1) c ∅ ∅)
theorem Ew{a:Array Keyed}{lo x b:Nat}(g:∀i,lo+x-(b+1)<=i->i<lo+x->KK κ a i=KK κ a (lo+x-1))(h:KK κ a (lo+x)=KK κ a (lo+x-1)):∀i,lo+(x+1)-(b+1+1)<=i->i<lo+(x+1)->KK κ a i=KK κ a (lo+(x+1)-1):=λi l j=>by
 rw[show lo+(x+1)-1=lo+x by lia];by_cases c:i=lo+x
 .rw[c]
 .rw[g i ∅ ∅,h]
theorem x0{a b:Array Keyed}{i j n:Nat}(g:∀k,KK κ b k=if i<=k/\k<j then KK κ a (i+j-1-k)else KK κ a k)(c:∀k,i<=k->k<j->KK κ a k=KK κ a n):∀k,KK κ b k=KK κ a k:=λk=>by
 rw[g];split
 .rw[c _ ∅ ∅,c k ∅ ∅]
 .rfl
theorem Ct(S:fZ κ f d w A s){u:be}(P:SB f u)(T:AllK κ (arrOf u)){lo a:Nat}(h1:1<=a)(hsz:lo+a<=(arrOf u).size){Q:Option Nat->be->Prop}(h:∀n p,SB f p->aR p=aR u->Wr (arrOf u) (arrOf p) lo a->1<=n->n<=a->eX κ (arrOf p) lo n->Q (aa n) p):wpS (ar d w) A E s (countRun' lo a) Q u:=by
 have one:eX κ (arrOf u) lo 1:=λi j r v C=>by
  have:i=j:=∅
  subst this;exact jN _
 have go:∀{t:be},Wr (arrOf u) (arrOf t) lo a->(arrOf t).size=(arrOf u).size:=λw=>w.size;unfold countRun';refine aA (eH (eJ (I:=λx c g=>g=u/\c=(ae,x)/\eX κ (arrOf u) lo x) (Q:=λc g=>g=u/\∃n,c=(ae,n)/\1<=n/\n<=a/\eX κ (arrOf u) lo n/\(n=a\/κ.klt (KK κ (arrOf u) (lo+n)) (KK κ (arrOf u) (lo+n-1)))) ?_ ?_ ?_) ?_)
 .rintro x c g qU qV ⟨rfl,rfl,o⟩;dsimp only;refine aA (lH S P T ∅ ∅ ?_);cases e:κ.blt (KK κ (arrOf g) (lo+x)) (KK κ (arrOf g) (lo+x-1))with
  |true=>exact aE ⟨rfl,x,rfl,∅,∅,o,.inr e⟩
  |false=>exact aE ⟨rfl,rfl,vh o ∅ e⟩
 .rintro c g ⟨rfl,rfl,o⟩;rw[show max 1 a=a by lia]at o ⊢;exact⟨rfl,a,rfl,∅,∅,o,.inl rfl⟩
 .exact⟨rfl,rfl,one⟩
 rintro c p ⟨rfl,n,rfl,n1,n2,o,hn⟩;dsimp only;refine bL (λe1=>aE (h n p P rfl Wr.same n1 n2 o)) λe1=>?_;have oy:n≠a:=by simpa using e1
 replace hn:κ.klt (KK κ (arrOf p) (lo+n)) (KK κ (arrOf p) (lo+n-1)):=hn.resolve_left oy;refine I_ (J:=λB=>SB f B/\aR B=aR p/\Wr (arrOf p) (arrOf B) lo a/\kJ κ (arrOf B) lo (n+1)) (λen=>⟨P,rfl,Wr.same,λi j r v C=>?_⟩) (λB ⟨bH,fP,oz,hD⟩=>?_) λen key=>?_
 .have en':n=1:=∅
  by_cases hi:i=j
  .subst hi;exact jN _
  .have e1:i=lo+n-1:=∅
   have e2:j=lo+n:=∅
   rw[e1,e2];exact i8 hn
 .refine aA (ol (ku ⟨rfl,?_⟩));refine aA (eH (eJ (I:=λx c l=>∃b,c=(ae,x,b)/\SB f l/\aR l=aR p/\Wr (arrOf p) (arrOf l) lo a/\kJ κ (arrOf l) lo x/\b+1<=x/\(∀i,lo+x-(b+1)<=i->i<lo+x->KK κ (arrOf l) i=KK κ (arrOf l) (lo+x-1))) (Q:=λc l=>∃m b,c=(ae,m,b)/\SB f l/\aR l=aR p/\Wr (arrOf p) (arrOf l) lo a/\1<=m/\m<=a/\kJ κ (arrOf l) lo m/\b+1<=m/\(∀i,lo+m-(b+1)<=i->i<lo+m->KK κ (arrOf l) i=KK κ (arrOf l) (lo+m-1))) ?_ ?_ ?_) ?_)
  .rintro x c l qU qV ⟨b,rfl,z,G,y,D,hq,H⟩;have sz3:=y.size;dsimp only;refine aA (lH S z (T.of y.perm) ∅ ∅ ?_);cases e3:κ.blt (KK κ (arrOf l) (lo+x)) (KK κ (arrOf l) (lo+x-1))with
   |true=>
    have hd':kJ κ (arrOf l) lo (x+1):=xq D ∅ (i8 e3);dsimp only;rw[if_pos rfl];refine bL (λw8=>?_) λw8=>?_
    .refine aA (pB (κ:=κ) (lo:=lo) (n:=a) z G y ∅ ∅ ∅ ∅ λbn ig fu Y w_=>?_);have X:=x0 w_ H;exact aE ⟨0,rfl,ig,fu,Y,λi j r v C=>by rw[X,X];exact hd' i j r v C,∅,λi r v=>by congr 1;lia⟩
    .exact aE ⟨0,rfl,z,G,y,hd',∅,λi r v=>by congr 1;lia⟩
   |false=>
    dsimp only;rw[if_neg (by simp)];refine aA (lH S z (T.of y.perm) ∅ ∅ ?_);cases e4:κ.blt (KK κ (arrOf l) (lo+x-1)) (KK κ (arrOf l) (lo+x))with
    |true=>exact aE ⟨x,b,rfl,z,G,y,∅,∅,D,hq,H⟩
    |false=>have ex:KK κ (arrOf l) (lo+x)=KK κ (arrOf l) (lo+x-1):=KeyOrd.kle_antisymm e4 e3;exact aE ⟨b+1,rfl,z,G,y,xq D ∅ (by rw[ex];exact jN _),∅,Ew H ex⟩
  .rintro c l ⟨b,rfl,z,G,y,D,hq,H⟩;rw[show max (n+1) a=a by lia]at D hq H ⊢;exact⟨a,b,rfl,z,G,y,∅,∅,D,hq,H⟩
  .exact⟨0,rfl,bH,fP,oz,hD,∅,λi r v=>by congr 1;lia⟩
  rintro c l ⟨m,b,rfl,z,G,y,m1,m2,D,hq,H⟩;dsimp only;refine bL (λw8=>?_) λw8=>?_
  .refine aA (pB (κ:=κ) (lo:=lo) (n:=a) z G y ∅ ∅ ∅ ∅ λbn ig fu Y w_=>?_);have X:=x0 w_ H;have O:kJ κ (arrOf bn) lo m:=λi j r v C=>by rw[X,X];exact D i j r v C
   refine aA (pB (κ:=κ) (lo:=lo) (n:=a) ig fu Y ∅ ∅ ∅ ∅ λt Z N K W=>?_);have M:eX κ (arrOf t) lo m:=λi j r v C=>by rw[W,W,if_pos ⟨r,∅⟩,if_pos ⟨∅,C⟩];exact O _ _ ∅ ∅ ∅
   have sz5:=K.size;refine aA (eH (eJ (I:=λx c g=>g=t/\c=(ae,x)/\eX κ (arrOf t) lo x) (Q:=λc g=>g=t/\∃n,c=(ae,n)/\1<=n/\n<=a/\eX κ (arrOf t) lo n/\(n=a\/κ.klt (KK κ (arrOf t) (lo+n)) (KK κ (arrOf t) (lo+n-1)))) ?_ ?_ ?_) ?_)
   .rintro x c g qU qV ⟨rfl,rfl,o⟩;dsimp only;refine aA (lH S Z (T.of K.perm) ∅ ∅ ?_);cases e:κ.blt (KK κ (arrOf g) (lo+x)) (KK κ (arrOf g) (lo+x-1))with
    |true=>exact aE ⟨rfl,x,rfl,∅,∅,o,.inr e⟩
    |false=>exact aE ⟨rfl,rfl,vh o ∅ e⟩
   .rintro c g ⟨rfl,rfl,o⟩;rw[show max m a=a by lia]at o ⊢;exact⟨rfl,a,rfl,∅,∅,o,.inl rfl⟩
   .exact⟨rfl,rfl,M⟩
   rintro c g ⟨rfl,q,rfl,q1,q2,L,_⟩;exact aE (h q g Z N K q1 q2 L)
  .have ig:=z;have fu:=G;have Y:=y;have O:=D;refine aA (pB (κ:=κ) (lo:=lo) (n:=a) ig fu Y ∅ ∅ ∅ ∅ λt Z N K W=>?_);have M:eX κ (arrOf t) lo m:=λi j r v C=>by rw[W,W,if_pos ⟨r,∅⟩,if_pos ⟨∅,C⟩];exact O _ _ ∅ ∅ ∅
   have sz5:=K.size;refine aA (eH (eJ (I:=λx c g=>g=t/\c=(ae,x)/\eX κ (arrOf t) lo x) (Q:=λc g=>g=t/\∃n,c=(ae,n)/\1<=n/\n<=a/\eX κ (arrOf t) lo n/\(n=a\/κ.klt (KK κ (arrOf t) (lo+n)) (KK κ (arrOf t) (lo+n-1)))) ?_ ?_ ?_) ?_)
   .rintro x c g qU qV ⟨rfl,rfl,o⟩;dsimp only;refine aA (lH S Z (T.of K.perm) ∅ ∅ ?_);cases e:κ.blt (KK κ (arrOf g) (lo+x)) (KK κ (arrOf g) (lo+x-1))with
    |true=>exact aE ⟨rfl,x,rfl,∅,∅,o,.inr e⟩
    |false=>exact aE ⟨rfl,rfl,vh o ∅ e⟩
   .rintro c g ⟨rfl,rfl,o⟩;rw[show max m a=a by lia]at o ⊢;exact⟨rfl,a,rfl,∅,∅,o,.inl rfl⟩
   .exact⟨rfl,rfl,M⟩
   rintro c g ⟨rfl,q,rfl,q1,q2,L,_⟩;exact aE (h q g Z N K q1 q2 L)
 .refine aA (lH S P T ∅ ∅ ?_);cases e2:κ.blt (KK κ (arrOf p) lo) (KK κ (arrOf p) (lo+n-1))with
  |true=>exact aE (h n p P rfl Wr.same n1 n2 o)
  |false=>
   dsimp only;rw[if_neg (by simp)];have gA:∀i,lo<=i->i<lo+n->KK κ (arrOf p) i=KK κ (arrOf p) lo:=λi r v=>KeyOrd.kle_antisymm (qj (o i (lo+n-1) r ∅ ∅) e2) (o lo i (aT _) r v);refine aA (pB (κ:=κ) (lo:=lo) (n:=a) P rfl Wr.same ∅ ∅ ∅ ∅ λB bH fP oz kE=>?_);have hD:kJ κ (arrOf B) lo (n+1):=by
    have hv:∀i,lo<=i->i<lo+n->KK κ (arrOf B) i=KK κ (arrOf p) lo:=λi r v=>by rw[kE,if_pos ⟨r,v⟩];exact gA _ ∅ ∅
    have hl:κ.klt (KK κ (arrOf B) (lo+n)) (KK κ (arrOf p) lo):=by rw[kE,if_neg ∅,<-gA (lo+n-1) ∅ ∅];exact hn
    intro i j r v C;by_cases hj:j<lo+n
    .rw[hv i r ∅,hv j ∅ hj];exact jN _
    .have gf:j=lo+n:=∅
     subst gf;by_cases hi:i=lo+n
     .subst hi;exact jN _
     .rw[hv i r ∅];exact i8 hl
   exact key B ⟨bH,fP,oz,hD⟩
theorem Gr{g c:be}{lo n a b:Nat}{Q:Unit->be->Prop}(l:SB f c)(o:aR c=aR g)(j:Wr (arrOf g) (arrOf c) lo n)(t:b<=a)(p:a<(arrOf g).size)(r:lo<=b)(q:a<lo+n)(h:∀i,SB f i->aR i=aR g->Wr (arrOf g) (arrOf i) lo n->(∀k,KK κ (arrOf i) k=if k=b then KK κ (arrOf c) a else if b<k/\k<=a then KK κ (arrOf c) (k-1)else KK κ (arrOf c) k)->Q () i):wpS (ar d w) A E s (moveDown' a b) Q c:=by
 have m:a<(arrOf c).size:=by rw[j.size];exact p
 rw[moveDown'_eq];refine kA (h _ ⟨l.kind,l.failed⟩ o (j.trans ((Fe m (show a-b<=a by lia)).mono ∅ ∅)) λk=>?_);have:=KK_bubble (κ:=κ) m (show a-b<=a by lia) k;rw[show a-(a-b)=b by lia]at this;exact this
theorem BX(M:fZ κ f d w A s){b:be}(L:SB f b)(N:AllK κ (arrOf b)){lo n ok:Nat}(K:ok<=n)(H:lo+n<=(arrOf b).size)(J:eX κ (arrOf b) lo ok){Q:Bool->be->Prop}(h:∀v,SB f v->aR v=aR b->Wr (arrOf b) (arrOf v) lo n->eX κ (arrOf v) lo n->Q ai v):wpS (ar d w) A E s (binarySort' lo n ok) Q b:=by
 unfold binarySort';refine aA (eH (eJ (I:=λk c a=>c=(ae,())/\SB f a/\aR a=aR b/\Wr (arrOf b) (arrOf a) lo n/\eX κ (arrOf a) lo (min k n)) (Q:=λc a=>c=(ae,())/\SB f a/\aR a=aR b/\Wr (arrOf b) (arrOf a) lo n/\eX κ (arrOf a) lo n) ?_ ?_ ?_) ?_)
 .rintro k c a eW bH ⟨rfl,p,u,o,g⟩;have sz:=o.size;rw[show min k n=k by lia]at g;refine aA (eH (eJ (I:=λx c m=>m=a/\∃l r,c=(ae,l,r)/\l<=r/\r<=k/\r-l<=k-x /\ (∀i,i<l->κ.kle (KK κ (arrOf a) (lo+i)) (KK κ (arrOf a) (lo+k)))/\(∀i,r<=i->i<k->κ.klt (KK κ (arrOf a) (lo+k)) (KK κ (arrOf a) (lo+i)))) (Q:=λc m=>m=a/\∃l r,c=(ae,l,r)/\l<=k /\ (∀i,i<l->κ.kle (KK κ (arrOf a) (lo+i)) (KK κ (arrOf a) (lo+k)))/\(∀i,l<=i->i<k->κ.klt (KK κ (arrOf a) (lo+k)) (KK κ (arrOf a) (lo+i)))) ?_ ?_ ?_) ?_)
  .rintro x c m _ Z ⟨rfl,l,r,rfl,Y,y,X,t,q⟩;dsimp only;refine bL (λS=>?_) λS=>?_
   .have:l=r:=∅
    subst this;exact aE ⟨rfl,l,l,rfl,y,t,q⟩
   .refine aA (lH M p (N.of o.perm) ∅ ∅ ?_);cases e:κ.blt (KK κ (arrOf m) (lo+k)) (KK κ (arrOf m) (lo+(l+r) / 2))with
    |true=>exact aE ⟨rfl,l,(l+r) / 2,rfl,∅,∅,∅,t,λi B O=>KeyOrd.klt_of_klt_of_kle e (g _ _ ∅ ∅ ∅)⟩
    |false=>exact aE ⟨rfl,(l+r) / 2+1,r,rfl,∅,∅,∅,λi B=>qj (g (lo+i) (lo+(l+r) / 2) ∅ ∅ ∅) e,q⟩
  .rintro c m ⟨rfl,l,r,rfl,Y,y,X,t,q⟩;have:l=r:=∅
   subst this;exact⟨rfl,l,l,rfl,y,t,q⟩
  .exact⟨rfl,0,k,rfl,∅,∅,∅,λi hi=>∅,λi B O=>∅⟩
  .rintro c m ⟨rfl,l,r,rfl,y,t,q⟩;dsimp only;refine aA (Gr (κ:=κ) (lo:=lo) (n:=n) p u o ∅ ∅ ∅ ∅ λa_ z T P C=>aE ⟨rfl,z,T,P,?_⟩);rw[show min (k+1) n=k+1 by lia];intro i j G D W;rw[C,C]
   repeat' split
   all_goals first
    | (exfalso;lia)
    |exact jN _
    | (have:=t (i-lo) ∅;rw[show lo+(i-lo)=i by lia]at this;exact this)
    | (have:=q (j-1-lo) ∅ ∅;rw[show lo+(j-1-lo)=j-1 by lia]at this;exact i8 this)
    |exact g _ _ ∅ ∅ ∅
 .rintro c a ⟨rfl,p,u,o,g⟩;rw[show min (max (max ok 1) n) n=n by lia]at g;exact⟨rfl,p,u,o,g⟩
 .refine⟨rfl,L,rfl,Wr.same,λi j G D W=>?_⟩;by_cases B:ok=0
  .have:i=j:=∅
   subst this;exact jN _
  .exact J i j G D ∅
 .rintro c a ⟨rfl,p,u,o,g⟩;exact aE (h a p u o g)
end
theorem Gp{c:Prop}[Decidable c]{a b n:Nat}(f:a+1<n)(d:b+1<n):(if c then a else b)+1<n:=by split <;> assumption
def ir:Nat->List (Nat×Nat)->Nat->Prop
 |f,[],t=>f=t
 |f,(a,n)::l,t=>a=f/\0<n/\ir (f+n) l t
theorem ir.app:∀{l1:List (Nat×Nat)}{f t:Nat}{b:List (Nat×Nat)},ir f (l1++b) t↔∃m,ir f l1 m/\ir m b t
 |[],f,t,b=>by simp[ir]
 | (a,n)::l1,f,t,b=>by
  simp only[iB,ir,ir.app (l1:=l1)];constructor
  .rintro⟨h,g,m,d,c⟩;exact⟨m,⟨h,g,d⟩,c⟩
  .rintro⟨m,⟨h,g,d⟩,c⟩;exact⟨h,g,m,d,c⟩
theorem ir.le:∀{l:List (Nat×Nat)}{f t:Nat},ir f l t->f+l.length<=t/\∀e∈l,f<=e.1/\e.1+e.2<=t
 |[],f,t,h=>⟨by cases h;simp,by simp⟩
 | (a,n)::l,f,t,⟨g,j,d⟩=>by
  obtain⟨i,c⟩:=ir.le d;refine⟨by simp;lia,λe b=>?_⟩;rcases bw.mp b with rfl|b
  .subst g;exact⟨aT _,by simp;lia⟩
  .have:=c e b;exact⟨∅,this.2⟩
def PL(a:Array (Nat×Nat×Nat)):List (Nat×Nat):=a.toList.map λe=>(e.1,e.2.1)
structure fD(κ:KeyKind)(arr:Array Keyed)(pd:Array (Nat×Nat×Nat))(lo:Nat):Prop where
 ch:ir 0 (PL pd) lo
 run:∀e∈PL pd,Run κ arr e.1 e.2
theorem su(a:Array (Nat×Nat×Nat)):(PL a).length=a.size:=by simp[PL]
theorem kK(a:Array (Nat×Nat×Nat))(e:Nat×Nat×Nat):PL (a.push e)=PL a++[(e.1,e.2.1)]:=by simp[PL]
theorem rT(a:Array (Nat×Nat×Nat))(k pw:Nat):PL (a.modify k λx=>(x.1,x.2.1,pw))=PL a:=by
 apply wK;intro i;simp only[PL,iY,wR,Array.getElem?_modify];split
 .cases a[i]? <;> rfl
 .rfl
theorem Fi{j:Array (Nat×Nat×Nat)}{i:Nat}(h:i+1<j.size):∃a f b d g sb c m,j[i]?=aa (b,d,g)/\j[i+1]?=aa (sb,c,m)/\PL j=a++(b,d)::(sb,c)::f /\ PL ((j.setIfInBounds i (b,d+c,g)).eraseIdxIfInBounds (i+1))=a++(b,d+c)::f:=by
 obtain⟨l⟩:=j;simp only[bQ]at h;have e:l=l.take i++l[i]::l[i+1]::l.drop (i+2):=by rw[<-tT,<-tT,n6]
 obtain⟨a,x,y,f,n,p⟩:∃a x y f,a.length=i/\l=a++x::y::f:=⟨l.take i,l[i],l[i+1],l.drop (i+2),by simp;lia,e⟩
 subst n p;obtain⟨b,d,g⟩:=x;obtain⟨sb,c,m⟩:=y;refine⟨a.map λe=>(e.1,e.2.1),f.map λe=>(e.1,e.2.1),b,d,g,sb,c,m,by simp,by simp[mf],by simp[PL],?_⟩;have o:((a++(b,d,g)::(sb,c,m)::f).toArray.setIfInBounds a.length (b,d+c,g)).eraseIdxIfInBounds (a.length+1)=(a++(b,d+c,g)::f).toArray:=by rw[List.setIfInBounds_toArray,List.set_append_right _ _ (aT _),List.eraseIdxIfInBounds_toArray];congr 1;rw[List.eraseIdx_append_of_length_le ∅];simp
 rw[o];simp[PL]
section
variable{prog:aG}{w:aC}{A:aH}{E:ah->am->Prop}{s:am}{κ:KeyKind}{kz:fN}
theorem fD.keep{a f:Array Keyed}{c:Array (Nat×Nat×Nat)}{b n:Nat}(h:fD κ a c b)(w:Wr a f b n):fD κ f c b :=⟨h.ch,λe d=>(h.run e d).keep w (.inl (h.ch.le.2 e d).2)⟩
theorem vp(I:fZ κ kz prog w A s){a:be}(G:SB kz a)(J:AllK κ (arrOf a)){i l:Nat}(g:fD κ (arrOf a) (aR a) l)(D:l<=(arrOf a).size)(H:i+1<(aR a).size){Q:Bool->be->Prop}(h:∀c,SB kz c->Wr (arrOf a) (arrOf c) 0 l->fD κ (arrOf c) (aR c) l->(aR c).size+1=(aR a).size->Q ai c):wpS (ar prog w) A E s (mergeAt' i) Q a:=by
 obtain⟨X,W,f,j,T,sb,t,S,L,K,d,p⟩:=Fi H;have u:=g.ch;rw[d]at u;obtain⟨m,x,P,O,N,M,v⟩:=ir.app.mp u;subst P N;have b1:=x.le;have b2:=v.le;have z:Run κ (arrOf a) f j:=g.run (f,j) (by rw[d];simp);have y:Run κ (arrOf a) (f+j) t:=g.run (f+j,t) (by rw[d];simp);refine GQ I G J L K O M ∅ z y λc B n o C=>h c B (o.mono ∅ ∅) ⟨?_,?_⟩ ?_
 .rw[n,p];exact ir.app.mpr ⟨f,x,rfl,∅,by rw[<-mq];exact v⟩
 .rw[n,p];intro e b;rcases g8.mp b with b|b
  .exact(g.run e (by rw[d];exact wn _ b)).keep o (.inl (b1.2 e b).2)
  .rcases bw.mp b with rfl|b
   .exact C
   .exact(g.run e (by rw[d];simp[b])).keep o (.inr (by have:=(b2.2 e b).1;lia))
 .have r:=su (aR c);have q:=su (aR a);rw[n,p]at r;rw[d]at q;rw[n,<-r,<-q];simp;lia
theorem CH(hO:fZ κ kz prog w A s){st:be}(hk:SB kz st)(hA:AllK κ (arrOf st))(hp:aR st=#[]){Q:Unit->be->Prop}(h:∀aw,SB kz aw->(arrOf aw).toList.Perm (arrOf st).toList->Run κ (arrOf aw) 0 (arrOf st).size->Q () aw):wpS (ar prog w) A E s sortRuns' Q st:=by
 unfold sortRuns';refine aA (i7 ?_);dsimp only;obtain⟨b,Ju⟩:∃b,b=(arrOf st).size:=⟨_,rfl⟩
 have Jo:((sortPriv% PySem.Builtin.SortState.a) st).size=b:=Ju.symm;simp only[Jo];refine aA (eH (eJ (I:=λx c o=>∃f,c=(ae,f)/\x<=f/\f<=b/\SB kz o/\(arrOf o).toList.Perm (arrOf st).toList/\(arrOf o).size=b/\fD κ (arrOf o) (aR o) f) (Q:=λc o=>c=(ae,b)/\SB kz o/\(arrOf o).toList.Perm (arrOf st).toList/\(arrOf o).size=b/\fD κ (arrOf o) (aR o) b) ?_ ?_ ?_) ?_);rotate_left
 .rintro c o ⟨f,rfl,b1,b2,eW,L,T,O⟩;have:f=b:=∅
  subst this;exact⟨rfl,eW,L,T,O⟩
 .exact⟨0,rfl,∅,∅,hk,qf _,Ju.symm,by rw[hp];exact⟨rfl,by simp[PL]⟩⟩
 .rintro c o ⟨rfl,eW,L,T,O⟩;dsimp only;refine aA (eH (eJ (I:=λx c l=>c=(ae,())/\SB kz l/\(arrOf l).toList.Perm (arrOf st).toList/\(arrOf l).size=b/\fD κ (arrOf l) (aR l) b/\(aR l).size+x<=b+1) (Q:=λc l=>c=(ae,())/\SB kz l/\(arrOf l).toList.Perm (arrOf st).toList/\(arrOf l).size=b/\fD κ (arrOf l) (aR l) b/\(aR l).size<=1) ?_ ?_ ?_) ?_)
  .rintro x c l _ hx ⟨rfl,D,fP,fk,P,hb⟩;refine aA (i7 ?_);refine bL (λe1=>aE ⟨rfl,D,fP,fk,P,e1⟩) λe1=>?_;have oy:1<(aR l).size:=Nat.lt_of_not_le e1;refine aA (vp hO D (hA.of fP) P ∅ ?_ λN M gG G hq=>?_)
   .exact Gp (show(aR l).size-2-1+1<(aR l).size by lia) (show(aR l).size-2+1<(aR l).size by lia)
   .exact aE ⟨rfl,M,gG.perm.trans fP,gG.size.trans fk,G,∅⟩
  .rintro c l ⟨rfl,D,fP,fk,P,hb⟩;exact⟨rfl,D,fP,fk,P,∅⟩
  .have:=O.ch.le.1;rw[su]at this;exact⟨rfl,eW,L,T,O,∅⟩
  .rintro c l ⟨rfl,D,fP,fk,P,hb⟩;refine aE (h l D fP ?_);rw[<-Ju];have hc:=P.ch;have hr:=P.run;have hl:=su (aR l)
   match hq:PL (aR l),hc,hr,hl with
   |[],hc,hr,hl=>
    cases hc;intro i j x y a1 a2 a3;lia
   |[(a,n)],hc,hr,hl=>
    obtain⟨d1,d2,d3⟩:=hc;cases d1;have d3':0+n=b:=d3;have:=hr (0,n) (by simp);rw[show b=n by lia];exact this
   |_::_::_,hc,hr,hl=>simp at hl;lia
 rintro x c o _ hx ⟨f,rfl,b1,b2,eW,L,T,O⟩;dsimp only;refine bL (λe1=>?_) λe1=>?_
 .have:f=b:=∅
  subst this;exact aE ⟨rfl,eW,L,T,O⟩
 refine aA (Ct hO eW (hA.of L) ∅ ∅ λr l D Z oz f1 f2 lu=>?_);dsimp only;refine bL (λe2=>?_) λe2=>?_
 .refine aA (ol (ku ⟨rfl,?_⟩));refine aA (BX hO D ((hA.of L).of oz.perm) ∅ (by rw[oz.size];lia) lu λN M hq3 gG Y=>?_);rw[if_neg (by simp)];have K:Wr (arrOf o) (arrOf N) f (b-f):=oz.trans (gG.mono ∅ ∅);have q0:aR N=aR o:=hq3.trans Z;generalize hn:min (b-f) _=n at *;have n1:0<n:=∅
  have n2:f+n<=b:=∅
  clear D oz lu Z gG hq3;have G:fD κ (arrOf N) (aR N) f:=by rw[q0];exact O.keep K
  have dU:(arrOf N).toList.Perm (arrOf st).toList:=K.perm.trans L;have ln:(arrOf N).size=b:=K.size.trans T;have hR:Run κ (arrOf N) f n:=Y.run;clear K q0;refine aA (i7 ?_);obtain⟨kd,arr,S,mg,fl⟩:=N;dsimp only;cases hbk:S.back? with
  |none=>
   dsimp only;refine aA (kA (aE ⟨f+n,rfl,∅,n2,⟨M.kind,M.failed⟩,dU,ln,?_⟩));refine⟨?_,?_⟩
   .show ir 0 (PL (S.push (f,n,0))) _;rw[kK];exact ir.app.mpr ⟨f,G.ch,rfl,n1,rfl⟩
   .show ∀e∈PL (S.push (f,n,0)),_;rw[kK];intro e m;rcases g8.mp m with m|m
    .exact G.run e m
    .rw[eG.mp m];exact hR
  |some bk=>
   obtain⟨s1,m1,q1⟩:=bk;dsimp only;refine aA (eH (eJ (I:=λx c g=>c=(ae,())/\SB kz g/\(arrOf g).toList.Perm (arrOf st).toList/\(arrOf g).size=b/\fD κ (arrOf g) (aR g) f/\Run κ (arrOf g) f n) (Q:=λc g=>c=(ae,())/\SB kz g/\(arrOf g).toList.Perm (arrOf st).toList/\(arrOf g).size=b/\fD κ (arrOf g) (aR g) f/\Run κ (arrOf g) f n) ?_ (λ_ _ hh=>hh) ?_) ?_)
   .rintro y c g _ hy ⟨rfl,z,B,J,u,H⟩;refine aA (i7 ?_);have qp:∀{p:be},p=g->((ae,()):Option Unit×Unit)=(ae,())/\SB kz p/\(arrOf p).toList.Perm (arrOf st).toList/\(arrOf p).size=b/\fD κ (arrOf p) (aR p) f/\Run κ (arrOf p) f n:=λe=>by subst e;exact⟨rfl,z,B,J,u,H⟩
    by_cases hg:1<(aR g).size
    .obtain⟨v,q,d,t,C⟩:=g;have X:d.size > 1:=hg;dsimp only;rw[if_pos X,getElem?_pos d (d.size-2) ∅];obtain⟨u1,u2,u3⟩:=d[d.size-2];dsimp only;refine bL (λ_=>aE (qp rfl)) λ_=>?_;refine aA (vp hO z (hA.of B) u ∅ (show d.size-2+1<d.size by lia) λp kF W hP5 _=>?_);exact aE ⟨rfl,kF,W.perm.trans B,W.size.trans J,hP5,H.keep W (.inr ∅)⟩
    .obtain⟨v,q,d,t,C⟩:=g;have X:¬d.size > 1:=hg;dsimp only;rw[if_neg X];exact aE (qp rfl)
   .exact⟨rfl,M,dU,ln,G,hR⟩
   rintro c g ⟨rfl,z,B,J,u,H⟩;obtain⟨v,q,d,t,C⟩:=g;dsimp only;refine aA (kA (aA (kA (aE ⟨f+n,rfl,∅,n2,⟨z.kind,z.failed⟩,B,J,?_⟩))));refine⟨?_,?_⟩
   .show ir 0 (PL ((d.modify (d.size-1) λx=>(x.1,x.2.1,_)).push (f,n,0))) _;rw[kK,rT];exact ir.app.mpr ⟨f,u.ch,rfl,n1,rfl⟩
   .show ∀e∈PL ((d.modify (d.size-1) λx=>(x.1,x.2.1,_)).push (f,n,0)),_;rw[kK,rT];intro e m;rcases g8.mp m with m|m
    .exact u.run e m
    .rw[eG.mp m];exact H
 .have M:=D;have Y:=lu;have K:Wr (arrOf o) (arrOf l) f (b-f):=oz;have q0:aR l=aR o:=Z;have n1:0<r:=∅
  have n2:f+r<=b:=∅
  have G:fD κ (arrOf l) (aR l) f:=by rw[q0];exact O.keep K
  have dU:(arrOf l).toList.Perm (arrOf st).toList:=K.perm.trans L;have ln:(arrOf l).size=b:=K.size.trans T;have hR:Run κ (arrOf l) f r:=Y.run;clear K q0;refine aA (i7 ?_);obtain⟨kd,arr,S,mg,fl⟩:=l;dsimp only;cases hbk:S.back? with
  |none=>
   dsimp only;refine aA (kA (aE ⟨f+r,rfl,∅,n2,⟨M.kind,M.failed⟩,dU,ln,?_⟩));refine⟨?_,?_⟩
   .show ir 0 (PL (S.push (f,r,0))) _;rw[kK];exact ir.app.mpr ⟨f,G.ch,rfl,n1,rfl⟩
   .show ∀e∈PL (S.push (f,r,0)),_;rw[kK];intro e m;rcases g8.mp m with m|m
    .exact G.run e m
    .rw[eG.mp m];exact hR
  |some bk=>
   obtain⟨s1,m1,q1⟩:=bk;dsimp only;refine aA (eH (eJ (I:=λx c g=>c=(ae,())/\SB kz g/\(arrOf g).toList.Perm (arrOf st).toList/\(arrOf g).size=b/\fD κ (arrOf g) (aR g) f/\Run κ (arrOf g) f r) (Q:=λc g=>c=(ae,())/\SB kz g/\(arrOf g).toList.Perm (arrOf st).toList/\(arrOf g).size=b/\fD κ (arrOf g) (aR g) f/\Run κ (arrOf g) f r) ?_ (λ_ _ hh=>hh) ?_) ?_)
   .rintro y c g _ hy ⟨rfl,z,B,J,u,H⟩;refine aA (i7 ?_);have qp:∀{p:be},p=g->((ae,()):Option Unit×Unit)=(ae,())/\SB kz p/\(arrOf p).toList.Perm (arrOf st).toList/\(arrOf p).size=b/\fD κ (arrOf p) (aR p) f/\Run κ (arrOf p) f r:=λe=>by subst e;exact⟨rfl,z,B,J,u,H⟩
    by_cases hg:1<(aR g).size
    .obtain⟨v,q,d,t,C⟩:=g;have X:d.size > 1:=hg;dsimp only;rw[if_pos X,getElem?_pos d (d.size-2) ∅];obtain⟨u1,u2,u3⟩:=d[d.size-2];dsimp only;refine bL (λ_=>aE (qp rfl)) λ_=>?_;refine aA (vp hO z (hA.of B) u ∅ (show d.size-2+1<d.size by lia) λp kF W hP5 _=>?_);exact aE ⟨rfl,kF,W.perm.trans B,W.size.trans J,hP5,H.keep W (.inr ∅)⟩
    .obtain⟨v,q,d,t,C⟩:=g;have X:¬d.size > 1:=hg;dsimp only;rw[if_neg X];exact aE (qp rfl)
   .exact⟨rfl,M,dU,ln,G,hR⟩
   rintro c g ⟨rfl,z,B,J,u,H⟩;obtain⟨v,q,d,t,C⟩:=g;dsimp only;refine aA (kA (aA (kA (aE ⟨f+r,rfl,∅,n2,⟨z.kind,z.failed⟩,B,J,?_⟩))));refine⟨?_,?_⟩
   .show ir 0 (PL ((d.modify (d.size-1) λx=>(x.1,x.2.1,_)).push (f,r,0))) _;rw[kK,rT];exact ir.app.mpr ⟨f,u.ch,rfl,n1,rfl⟩
   .show ∀e∈PL ((d.modify (d.size-1) λx=>(x.1,x.2.1,_)).push (f,r,0)),_;rw[kK,rT];intro e m;rcases g8.mp m with m|m
    .exact u.run e m
    .rw[eG.mp m];exact H
end
theorem uV{n:Nat}(h:n<=1000000):n<aY:=wC h (by decide)
theorem Run.sortedTo{κ:KeyKind}{a:Array Keyed}{n:Nat}(h:Run κ a 0 n)(c:n<=a.size):SortedToK κ a n:=by intro i j b d;have:=h i j _ _ (jH _) b ∅ (getElem?_pos a i ∅) (getElem?_pos a j ∅);rw[sD (show i<a.size by lia),sD (show j<a.size by lia)];exact this
theorem KeysOf.all{κ:KeyKind}{a:Array Keyed}(h:KeysOf κ a):AllK κ a:=λi b=>h _ (by simp)
section
variable{P:aG}{w:aC}{A:aH}{E:ah->am->Prop}{s:am}
theorem CM{κ:KeyKind}{kz:fN}{a:af}{c:List ah}{n:Nat}{F:Fin->am->Prop}(q:s.heap.get? a=aa (cY "list" c.toArray n))(I:KeysOf κ (jO c))(B:c.length<=1000000)(C:∀r:ax,(∀b o,b≠a->s.heap.get? b=aa o->r.get? b=aa o)->2<=c.length->fZ κ kz P w A {s with heap:=r}/\∀{E:ah->am->Prop}{Q:fN->am->Prop},Q kz {s with heap:=r}->aq (ar P w) A (keyKind' c.toArray) Q E {s with heap:=r})(h:∀d:be,(arrOf d).Perm (jO c)->SortedToK κ (arrOf d) (jO c).size->F (.done (.ret .none)) {s with heap:=sortedHeap s.heap a c ((arrOf d).map (·.2))}):aq (ar P w) A (Builtin.«list.sort» ⟨[.ref a],[]⟩) F E s:=by
 rw[list_sort_plain];have y:a<s.heap.objs.size:=bj q;have x:c.length<=aY:=ki (uV B);refine ap (listItems_at q rfl ?_);refine ap (wL q rfl ?_);obtain⟨t,v⟩:∃t,(s.heap.update a (ga λ_=>#[])).get? a=aa (cY "list" #[] t):=⟨_,tR q (λ_=>#[])⟩
 refine ap (seqEpoch_at v rfl ?_);refine ap (wpAny_newTuple ?_ (hsz:=by rw[wI];exact x));refine ap (wpAny_newList ?_);refine jG ?_;have l:(((s.heap.update a (ga λ_=>#[])).push (cY "tuple" c.toArray 0)).push (cY "list" #[] 0)).get? a=aa (cY "list" #[] t):=by rw[Heap.get?_push_ne _ _ _ (by rw[gz,Bh];exact cC (jM y)),Heap.get?_push_ne _ _ _ (by rw[Bh];exact cC y)];exact v
 have keep:∀b o,b≠a->s.heap.get? b=aa o->(((s.heap.update a (ga λ_=>#[])).push (cY "tuple" c.toArray 0)).push (cY "list" #[] 0)).get? b=aa o:=λb o m e=>a8 _ (a8 _ (by rw[Be _ _ _ _ m];exact e));show aq (ar P w) A _ F E {s with heap:=((s.heap.update a (ga λ_=>#[])).push (cY "tuple" c.toArray 0)).push (cY "list" #[] 0)};dsimp only;have f:∀d:be,failedOf d=ae->(arrOf d).Perm (jO c)->SortedToK κ (arrOf d) (jO c).size ->
   aq (ar P w) A (do
    let touched:=(<-seqEpoch a) != t
    Builtin.List.listUpdate (.ref a) λ_=>(arrOf d).map (·.2)
    if let aa e:=failedOf d then rule "list.sort.comparison-raised";throw e
    if touched then rule "list.sort.modified";raiseError "ValueError" "list modified during sort"
    ret .none) F E {s with heap:=((s.heap.update a (ga λ_=>#[])).push (cY "tuple" c.toArray 0)).push (cY "list" #[] 0)}:=λd m p u=>by
  refine ap (seqEpoch_at l rfl ?_);refine ap (wL l rfl ?_ (hsz2:=by refine bX (jI ((Array.size_map ..).trans (p.size_eq.trans (pairsOf_size _)))) (Nat.le_succ_of_le x)));rw[m];simp only[bne_self_eq_false,jK,if_false];exact aB (h d p u)
 by_cases g:c.toArray.size<2
 .rw[if_pos g,if_pos g];refine ap (aB ?_);refine ap (aB ?_);refine f (SortSt.mk' general' (c.toArray.zip c.toArray) #[] 7 ae) rfl (Array.Perm.refl _) λi j M D=>?_;have:i=j:=by rw[pairsOf_size]at D;rw[bQ]at g;lia
  subst this;exact jN _
 .rw[if_neg g,if_neg g];obtain⟨G,H⟩:=C _ keep (by rw[bQ]at g;lia);refine ap (H ?_);refine ap (c9 (CH (κ:=κ) (kz:=kz) G (st:=SortSt.mk' kz (c.toArray.zip c.toArray) #[] 7 ae) (Q:=λ_ d=>SB kz d/\(arrOf d).toList.Perm (jO c).toList/\Run κ (arrOf d) 0 (jO c).size) ⟨rfl,rfl⟩ (KeysOf.all I) rfl λd L K J=>⟨L,K,J⟩) ?_ λ_ _ e=>e);rintro⟨⟨⟩,d⟩ s' ⟨rfl,m,p,u⟩;have z:(arrOf d).Perm (jO c):=Br.mpr p;exact f d m.failed z (u.sortedTo (by rw[z.size_eq];exact aT _))
theorem HQ{g:KeyKind}(o:g.OneLt){a:af}{d:List ah}{n:Nat}{F:Fin->am->Prop}(m:s.heap.get? a=aa (cY "list" d.toArray n))(p:KeysOf g (jO d)) (j:∀c b rest,d=c::b::rest->keyKind' (c::b::rest).toArray=pure oneType') (l:d.length<=1000000)(h:∀i:be,(arrOf i).Perm (jO d)->SortedToK g (arrOf i) (jO d).size->F (.done (.ret .none)) {s with heap:=sortedHeap s.heap a d ((arrOf i).map (·.2))}):aq (ar P w) A (Builtin.«list.sort» ⟨[.ref a],[]⟩) F E s :=
 CM m p l (λr _ f=>⟨OneLt.ok o,λq=>by
  obtain⟨c,b,rest,rfl⟩:∃c b rest,d=c::b::rest:=by
   match d,f with
   |[],f=>simp at f
   |[_],f=>simp at f
   |c::b::rest,_=>exact⟨c,b,rest,rfl⟩
  rw[j _ _ _ rfl];exact aB q⟩) h
theorem yY{v:ah}{Q:ah->am->Prop}(u:aq (ar P w) A.in1 (collect v) (λd s1=>∃ss:List Str,cR d ss/\d.length<=1000000/\∀(i:ax) (out:Array ah) (f:List Str) (e:Nat),(∀b o,s1.heap.get? b=aa o->i.get? b=aa o) -> i.get? s1.heap.objs.size=aa (cY "list" out e)->cR out.toList f->f.Perm ss->sortedS f=ai->Q (.ref s1.heap.objs.size) {s1 with heap:=i}) E s):aq (ar P w) A (call (.builtin "sorted") [v]) Q E s:=by refine Calls.call_function_entry kind_sorted plain_sorted entry_sorted (args_sorted1 _) ?_;unfold Builtin.«sorted»;refine ap (m:=checkCount "sorted" 1 1 _) (aB ?_);refine ap (aO u λd s1 ⟨ss,h,p,j⟩=>?_);refine ap (wpAny_newList ?_);have g:(s1.heap.push (cY "list" d.toArray 0)).get? s1.heap.objs.size=aa (cY "list" d.toArray 0):=bW _ rfl;refine ap (jG (qc slot_list_sort ⟨_,g,rfl⟩ entry_list_sort (HQ strKind_oneLt g h.keysOf (λa b c e=>keyKind_strs (by rw[<-e];exact h)) p λx r q=>⟨_,rfl,?_⟩) (args_list_sort _)));obtain⟨f,B,z,y⟩:=sorted_out_str h r q;obtain⟨e,t⟩:=sortedHeap_at (out:=(arrOf x).map (·.2)) g;refine aB ⟨_,rfl,j _ _ f e (λb o l=>?_) t B z y⟩;have n:b<s1.heap.objs.size:=bj l;rw[sortedHeap_old (cC n) (by rw[gz];exact jM n)];exact a8 _ l
end
section
variable{X:Cx}
theorem Inv.sorted2{h:List (af×Obj)}{g:St}{H:Hp}{s1:am}{c:List Tx}{ss d:List Str}{f:ax}{a:Array ah}{e:Nat}(I:Inv X h g H s1)(l:ss=c.map tS)(s:c.length<=1000000)(k:∀b o,s1.heap.get? b=aa o->f.get? b=aa o) (j:f.get? s1.heap.objs.size=aa (cY "list" a e)) (r:cR a.toList d) (q:d.Perm ss) (p:sortedS d=ai):Inv X h g (upd H s1.heap.objs.size (.lst (cf (bd c)))) {s1 with heap:=f}:=by
 have n:d.map (λz=>z.cps.toList)=bd c:=by
  refine zV ?_ (Iz p);have:=q.map λz=>z.cps.toList;rw[l,hV]at this;have m:(c.map ((λz:Str=>z.cps.toList) ∘ tS))=c:=by simp[Function.comp_def,kQ]
  rw[m]at this;exact this
 have i:bq (cf (bd c)) a.toList:=by rw[<-n];exact zu r
 refine I.laid (t':=s1.toks) k (aT _) ⟨?_,a.toList,e,i,?_⟩
 .rw[vQ,GU];exact ki (uV ∅)
 .rw[Array.toArray_toList];exact j
theorem xU:fQ X (.builtin "sorted") (λt H Q=>∃(p:af) (d:List Tx),t=[.ref p]/\(bK X.K H p (cf d)\/bO X.K H p (cf d))/\d.length<=1000000/\∀l,H l=ae->Q (.ref l) (upd H l (.lst (cf (bd d))))):=by
 intro G s w H t M Q I r h;obtain⟨p,d,rfl,f,A,q⟩:=h;obtain⟨u,rfl,x⟩:=vals1 r;cases x;have b:∀(T:String) (o:Obj) (a:List ah) (n:Nat),(T = "list"\/T = "tuple")->s.heap.get? p=aa o->o.cls=.type T->o.data=.seq a.toArray n->bq (cf d) a ->
   aq (ar X.prog X.w) X.A (call (.builtin "sorted") [Value.ref p]) (EP X G w Q) X.xe s:=λT o a n E j i g c=>by
  have D:=c.length;rw[vQ]at D;have m:=uV (n:=a.length) ∅;refine yY (wpAny_collect_seq p E j i g (λN B=>?_) (by rw[bQ];lia));have v:=I.kept (t':=s.toks) B;refine⟨_,uh c,by rw[wI];lia,λO z P e k j L K J=>?_⟩;exact⟨.ref _,_,Inv.sorted2 v rfl A k j L K J,rfl,q _ v.fresh⟩
 rcases f with f|f
 .obtain⟨a,c,y,C⟩:=I.list f;obtain⟨o,e,i,n,g⟩:=y.isList;exact b "list" o a n (.inl rfl) e i g c
 .obtain⟨a,c,⟨o,e,i,n,g⟩,C⟩:=I.tuple f;exact b "tuple" o a n (.inr rfl) e i g c
end
end L2
namespace Pu
open L2
section
variable{X:Cx}{K:au}
def nz:List PV->Option PO
 |[.lst b]=>(eQ b).bind λa=>if a.length<=1000000 then aa (.lst (ao (bd a)))else ae
 |[.tup b]=>(eQ b).bind λa=>if a.length<=1000000 then aa (.lst (ao (bd a)))else ae
 |_=>ae
theorem Aq:lI K (λm H Q=>∃(p:af) (b:List Tx),m=[.ref p]/\(bK K H p (cf b)\/bO K H p (cf b))/\b.length<=1000000/\∀l,H l=ae->Q (.ref l) (upd H l (.lst (cf (bd b))))) nz:=λF H m y Q o w n e q=>by
 have f:∀{g:List PV}{c:List V}{a:af},((eQ g).bind λb=>if b.length<=1000000 then aa (PO.lst (ao (bd b)))else ae)=aa o->aS K H F g c->(bK K H a c\/bO K H a c) ->
   ∃(p:af) (b:List Tx),[V.ref a]=[.ref p]/\(bK K H p (cf b)\/bO K H p (cf b))/\b.length<=1000000/\∀l,H l=ae->Q (.ref l) (upd H l (.lst (cf (bd b)))):=λ{g c a} e d t=>by
  cases h:eQ g with
  |none=>rw[h]at e;cases e
  |some b=>
   rw[h]at e;simp only[hU]at e;split at e
   .rename_i r;cases e;rw[oF h]at d;obtain⟨rfl,u⟩:=JA.mp d;refine⟨a,b,rfl,t,r,λl i=>q l F _ _ (Al.new0 i) (rM i (JA.mpr ⟨rfl,λx s=>u x ((iH b).mem_iff.mp s)⟩)) (r8 i w trivial)⟩
   .cases e
 unfold nz at e;split at e
 .obtain⟨v,rfl,a,c,rfl,j,_,d⟩:=fz n;exact f e d (.inl (.inl j))
 .obtain⟨v,rfl,a,c,rfl,j,d⟩:=fz n;exact f e d (.inr (bO.of j))
 .cases e
end
end Pu
namespace L2
def ro(a:Int)(n:Nat):It:=⟨λi _=>i<n,λi H x b=>b=H/\x=.int (a-i),λi _=>n<=i⟩
theorem EF{P:aG}{w:aC}{K:au}{J:ay}(c:af)(f:Int)(n:Nat):m8 P w K J (ro f n) [c] c (λi h=>wp h c (f+(i:Nat) * -1) ((n:Int)-(i:Nat)) (-1)) where
 mem:=by simp
 obj:=λi h a b d=>by
  have e:b=c:=by simpa using d
  subst e;exact⟨_,a,λv z=>by
   have G:Data.fields _=Data.cell v:=z;cases G⟩
 keep:=λi h j a k=>k c (by simp) _ a
 item:=by intro X q l r p i D s A H E I g a m;subst q l r;obtain⟨y,x,f2,f3,f4,u⟩:=g c (by simp);have W:=Walks.range (prog:=X.prog) (w:=X.w) (I.ok.hd p) c f (-1) n;refine W.item i s _ _ m a λv j B M C L=>?_;obtain⟨t,rfl⟩:=M;have O:Inv X D A H {s with heap:=j,toks:=B}:=I.turned (λb o d e=>L b o (by simpa using d) e) y x f3 f4 u;refine⟨_,rfl,oH (s:={s with heap:=j,toks:=B}) (n:="range_iterator") C rfl rfl (by decide) ⟨.int (f-i),H,O,⟨t,?_⟩,⟨rfl,rfl⟩,C,λb d=>(g b d).1⟩⟩;rw[show f+(i:Int) * -1=f-i by lia]
 done:=by intro X q l r p i D s A H E I g a m;subst q l r;obtain⟨y,x,f2,f3,f4,u⟩:=g c (by simp);exact wpAny_pyNext_range_end (I.ok.hd p) a (by have:n<=i:=m;lia) λj N=>⟨rfl,I.turned (t':=s.toks) (λb o d e=>N b o d e) y x f3 f4 u⟩
 self:=λ_ _ _ _ _ a h=>wpAny_pyIter_rangeiter a h
theorem rangeSize_down(a b:Int):wq a b (-1)=if a > b then a-b else 0:=by
 unfold wq;rw[if_neg (by decide)];split
 .rw[show(- -1:Int)=1 from rfl,Int.ediv_one];lia
 .rfl
theorem small_down{a b:Int}(g:-(2^62)<=a)(c:a<2^62)(f:-(2^62)<=b)(d:b<2^62):Builtin.Range.small a b (-1)=ai:=by unfold Builtin.Range.small;rw[rangeSize_down];simp only[Builtin.Range.rangeFitsLong,eV,tJ,decide_eq_true_eq,beq_iff_eq,show ¬((-1:Int) > 0) by decide,if_false];split <;> lia
section
variable{X:Cx}{d:ay}
theorem HH{h:List (af×Obj)}{f:St}{H:Hp}{s:am}{R:It->Hp->Prop}{E:ah->am->Prop}{c a:Int}{t u v:Tok}{g:Nat}(I:Inv X h f H s)(p:-(2^62)<=a)(n:a<2^62)(m:-(2^62)<=c)(l:c<2^62)(q:R (ro a (a-c).toNat) H):aq (ar X.prog X.w) X.A (kn (.ref s.heap.objs.size)) (oK X h f d R) E {s with heap:=s.heap.push {cls:=.type "range",data:=.fields #[.int a t,.int c u,.int (-1) v]},toks:=g}:=by
 refine wpAny_pyIter_range (IsRange.new ..) (small_down p n m l) ?_;have i:Inv X h f H {s with heap:=s.heap.push {cls:=.type "range",data:=.fields #[.int a t,.int c u,.int (-1) v]},toks:=g}:=I.kept λb o e=>a8 _ e;refine⟨(s.heap.push {cls:=.type "range",data:=.fields #[.int a t,.int c u,.int (-1) v]}).objs.size,[(s.heap.push {cls:=.type "range",data:=.fields #[.int a t,.int c u,.int (-1) v]}).objs.size],_,_,H,rfl,i.kept (t':=g) λb o e=>a8 _ e,EF _ a (a-c).toNat,?_,λb j=>?_,q⟩
 .have w:a+((0:Nat):Int) * -1=a:=by simp
  have r:(((a-c).toNat:Nat):Int)-((0:Nat):Int)=wq a c (-1):=by rw[rangeSize_down];split <;> lia
  show wp _ _ (a+((0:Nat):Int) * -1) ((((a-c).toNat:Nat):Int)-((0:Nat):Int)) (-1);rw[w,r];exact bW _ rfl
 .have e:b=(s.heap.push {cls:=.type "range",data:=.fields #[.int a t,.int c u,.int (-1) v]}).objs.size:=by simpa using j
  subst e;exact i.fpOk (aT _) (i.hok.fresh (aT _))
def FD(c:TA):TI:=λa H R=>c a H λb f=>∃i j:Int,b=[.int i,.int j,.int (-1)]/\(-(2^62)<=i/\i<2^62/\-(2^62)<=j/\j<2^62)/\R (ro i (i-j).toNat) f
theorem GD{a b c:ay}{n:TA}{p g:Pos}(D:Gl X "range")(C:X.mg "range"=ae)(E:PA X [a,b,c] n)(B:aM [a,b,c] X.env=[(ak,aK a X.env),(ak,aK b X.env),(ak,aK c X.env)]:=by rfl)(o:aM [b,c] X.env=[(ak,aK b X.env),(ak,aK c X.env)]:=by rfl):PI X d (.Call (.Name "range" p) [a,b,c] [] g) (FD n):=by
 intro G s u H R I h;refine Call_ (l0 I D C boot_range (wt (aO (E g G s u H _ I h) λL N ⟨K,O,J,w,m⟩=>?_) (by rw[B,o]) (by rw[o];rfl)));obtain⟨i,j,e,⟨m,A,z,y⟩,q⟩:=m;subst e;cases w with
 |cons r f=>
  cases f with
  |cons x f=>
   cases f with
   |cons l f=>
    cases f;obtain⟨t,rfl⟩:=r;obtain⟨M,rfl⟩:=x;obtain⟨v,rfl⟩:=l;exact call_range_3 (by decide) (HH J m A z y q) (.inl (PyProof.noPylong_small (by decide)))
def nK(a:Int)(n:Nat):List V:=(cq n).map λi=>V.int (a-(i:Nat))
theorem uF(a:Int)(n:Nat):(nK a n).length=n:=by simp[nK]
theorem D_{a:Int}{n:Nat}:Walk (ro a n) (nK a n) (λ_=>True):=λH _ i=>by
 refine⟨λx b=>?_,λa=>by rw[uF]at a;exact jI a.symm⟩;have c:i<n:=by have:=(cD.mp b).1;rw[uF]at this;exact this
 refine⟨c,λy g z=>⟨z.1,?_⟩⟩;unfold nK at b;rw[iY,A7 c]at b;have f:V.int (a-(i:Nat))=x:=dO b;rw[z.2,<-f]
end
end L2
namespace Pu
open L2
section
variable{X:Cx}{K:au}{E:XK}{m l a b c e:ay}{d:aj->R PV}{g:aj->R (List PV)}{p f o:Pos}
def jA(h:Int)(n:Nat):List PV:=(cq n).map λi=>PV.int (h-(i:Nat))
theorem G1{H:Hp}{F:af->Prop}(h:Int)(n:Nat):aS K H F (jA h n) (nK h n):=by
 unfold jA nK
 induction (cq n)with
 |nil=>rfl
 |cons x j i=>exact⟨_,_,rfl,rfl,i⟩
def oN:List PV->Option (List PV)
 |[.int i,.int j,.int c]=>if c=-1/\j<=1000000/\-1000000<=j/\i<=1000000/\-1000000<=i then aa (jA i (i-j).toNat)else ae
 |_=>ae
theorem Cs(B:X.mg "range"=ae)(D:DA X E [a,b,c] g)(C:Gl X "range":=by rfl)(A:aM [a,b,c] X.env=[(ak,aK a X.env),(ak,aK b X.env),(ak,aK c X.env)]:=by rfl)(O:aM [b,c] X.env=[(ak,aK b X.env),(ak,aK c X.env)]:=by rfl):DI X E m (.Call (.Name "range" p) [a,b,c] [] f) (dL oN g):=λF S w r H Rr x h=>by
 refine uI (GD C B eP A O) (D F S w r H _ x ((Ok.bind h).imp λW s T P Q y g1 n Y N=>?_));unfold oN at n;split at n
 .rename_i i j c;split at n
  .rename_i q;obtain⟨v,Z,rfl,M,L⟩:=N;obtain⟨u,z,rfl,J,I⟩:=L;obtain⟨t,rfl,G⟩:=fz I;obtain⟨rfl,q⟩:=q;refine⟨i,j,by rw[show v=V.int i from M,show u=V.int j from J,show t=V.int (-1)from G],⟨∅,∅,∅,∅⟩,n T P Q y (bg.refl ..) _ _ _ (G1 i (i-j).toNat) (by rw[uF,kZ];lia) D_ λ_ _ _ _=>trivial⟩
  .exact n.elim
 .exact n.elim
end
end Pu
namespace L2
section
variable{X:Cx}
theorem E_(w:X.calm=ai):fQ X (.builtin "sorted") (λc H Q=>∃(p:af) (a:List Tx),c=[.ref p]/\H p=aa (lC X p a)/\a.length<4000/\∀l,H l=ae->Q (.ref l) (upd H l (.lst (cf (bd a))))):=by
 intro B s g H c G Q I r h;obtain⟨p,a,rfl,t,J,q⟩:=h;obtain⟨u,rfl,j⟩:=vals1 r;cases j;obtain⟨S,_,_⟩:=(show cN X.prog X.w H s.heap p (lC X p a)from I.hok p _ t)
 refine yY (Fb (xk (I.ok.hd w)) S λi E ss D C M k z y=>?_);obtain⟨d,g',d',t',n⟩:=i;obtain rfl:g'=s.gens:=z;obtain rfl:n=s.os:=y;have f:Inv X B g H {s with heap:=d,drawn:=d',toks:=t'}:=by have:=Inv.call (ch:=[]) I (g':=s.gens) (d':=d') (t':=t') (Un.kept (fs:=dY X.stack) (ex:=[]) k) (I.hok.kept k) I.bare (λb x=>absurd x (by simp));exact this
 refine⟨ss,D,∅,λK m L e o v b1 b2 A=>?_⟩;exact⟨.ref _,_,Inv.sorted2 (s1:={s with heap:=d,drawn:=d',toks:=t'}) (ss:=a.map tS) f rfl ∅ o v b1 (b2.trans C) A,rfl,q _ f.fresh⟩
end
end L2
namespace Pu
open L2
section
variable{X:Cx}{E:XK}{d:List Nat}{e j:ay}{m f:aj->R (List PV)}{c p q b i g a:Pos}
theorem GG(l:List Tx):(ca l).Nodup:=by
 unfold ca;have:∀(l n:List Tx),n.Nodup->(l.foldl (λks x=>if x∈ks then ks else ks++[x]) n).Nodup:=by
  intro l
  induction l with
  |nil=>exact λn h=>h
  |cons x l r=>
   intro n h;rw[mi];refine r _ ?_;split
   .exact h
   .rename_i t;rw[List.nodup_append];exact⟨h,by simp,λy s z o e=>by simp at o;subst o;subst e;exact t s⟩
 exact this l [] List.nodup_nil
def CY(X:Cx):List V->Hp->VK->Prop:=λn H Q=>∃(p:af) (h:List Tx),n=[.ref p]/\H p=aa (lC X p h)/\h.length<4000/\∀l,H l=ae->Q (.ref l) (upd H l (.lst (cf (bd h))))
end
end Pu
namespace Mx
def F5:Nat->Nat->Nat
 |0,x=>x
 |n+1,x=>F5 n (5*x+1)
end Mx
namespace L2
theorem DJ{d:Pos}{a b:Int}{c g:ah}(l:List ah)(h:TriplesOk l)(e:p8 d (l++[cH a,cH b,c])=aa g):p8 d l=aa g\/g=c:=by
 fun_induction TriplesOk l with
 |case1=>simp[p8,cH]at e;exact .inr e.2.symm
 |case2 o t n u x rest i=>
  simp only[iB,p8]at e ⊢;split at e
  .rename_i f;rw[if_pos f];exact .inl e
  .rename_i f;rw[if_neg f];exact i h e
 |case3 l m j=>exact h.elim
section
variable{X:Cx}{i:List (af×Obj)}{d:St}{H:Hp}{s:am}
structure rN(X:Cx)(x:Str)(c P:af):Prop where
 mem:x∈pR
 tab:iS X.K x=aa (c,P)
 hd:tD X.K c P=ai
 code:X.env.code=.ref c
theorem HN(I:Inv X i d H s){x:Str}{c P:af}(L:rN X x c P){j:nU}{y:ay}{l:cy}{G:Pos}{w:List (Str×af)}(hq:X.env.qual++"<lambda>"=x++".<locals>.<lambda>") (lm:tE l X.env=pure w) (qx:defaultsOf j X.env=([],[])) {Q:ah->am->Prop}(h:∀f c' p H' Z,Inv X i d H' Z->(∀b o,H b=aa o->H' b=aa o)->Z.heap.get? f=aa (wS "<lambda>" (X.env.qual++"<lambda>") j y l w ((X.mg "__name__").getD .none) c' p)->f≠X.env.locals -> Z.heap.CodeRec (.ref c') (X.env.qual++"<lambda>")->c'≠X.env.locals->Q (.ref f) Z):aq (ar X.prog X.w) X.A (aK (.Lambda j y l G) X.env) Q X.xe s:=by
 have N:=I.tab x L.mem c P L.tab;obtain⟨ps,hP,C,g⟩:=I.hok P _ N;have K:s.heap.Ns bG X.mg:=I.mod.glob.keeps I.bk;have hgP:bG≠P:=λz=>by
  obtain⟨o,es,ep,e,hd,_⟩:=K;rw[z,hP]at e;cases e;cases hd
 have T:s.heap.BuiltinsAt X.mg P:=by
  obtain⟨bm,ob,b1,b2,b3,b4,b5,b6⟩:=I.mod.bm;refine⟨bm,ob,b1,b2,λz=>?_,λz=>?_,I.bk _ _ b3,b4,b5,b6⟩
  .obtain⟨o,es,ep,e,hd,_⟩:=I.mod.glob;rw[<-z,b3]at e;cases e;rw[b6]at hd;cases hd
  .have e:=I.bk _ _ b3;rw[z,hP]at e;cases e;simp at b4
 have hC:=PySem.W.codeHd_of_K I.kIn L.hd;have Lne:X.env.locals≠P:=λz=>by have:=I.free;rw[z,N]at this;cases this
 refine PySem.W.kla_eval qx ?_;cases hf:p8 G ps.toList with
 |some cv=>
  obtain⟨A,rfl,iD,ud⟩:=g G _ hf;refine PySem.W.kla_makeFunctionHit (mg:=X.mg) lm I.ok.glob K L.code hC hP C hf T λp Y tk hk hsz=>?_;have D:∀b o,s.heap.get? b=aa o->(Y.push (wS "<lambda>" (X.env.qual++"<lambda>") j y l w ((X.mg "__name__").getD .none) A p)).get? b=aa o:=λb o e=>a8 _ (hk b o e);refine h _ A p H _ (I.un (Un.kept D) (I.hok.kept D)) (λ_ _ e=>e) (bW _ rfl) (kX (d_ I.lt hsz)) ?_ λz=>?_
  .have J:s.heap.CodeRec (.ref A) (X.env.qual++"<lambda>"):=by rw[hq];exact ud
   exact J.keeps D
  .have:=I.free;rw[<-z,iD]at this;cases this
 |none=>
  refine PySem.W.kla_makeFunction (mg:=X.mg) lm I.ok.glob K L.code hC hP C hf hgP T λA p Y tk hx eu aW ud S=>?_;generalize ho:wS "<lambda>" (X.env.qual++"<lambda>") j y l w ((X.mg "__name__").getD .none) A p=fo;have D:∀b o,b≠P->s.heap.get? b=aa o->(Y.push fo).get? b=aa o:=λb o n e=>a8 _ (hx b o n e);have fr:H A=ae:=I.hok.fresh eu;have B:(Y.push fo).CodeRec (.ref A) (X.env.qual++"<lambda>"):=ud.keeps λb o e=>a8 _ e;have nP:∀b,H b=ae->b≠P:=λb n z=>by rw[z,N]at n;cases n
  have nc:∀b o,s.heap.get? b=aa o->b≠A:=λb o e=>cC (d_ (bj e) eu);have E:∀b o,H b=aa o->(upd H A (.own P)) b=aa o:=λb o e=>by rw[bS (lL e fr)];exact e
  have I':Inv X i d (upd H A (.own P)) {s with heap:=Y.push fo,gens:=s.gens,drawn:=s.drawn,toks:=tk}:=by
   refine I.step (ch:=[]) (λ_ z=>nomatch z) (λb o _ _ _ e n=>D b o (nP b n) e) (λb o _ _ _ e n=>⟨o.slots,D b o (nP b n) e⟩) (λb o _ e n=>by rw[bS (nc b o e)];exact n)
    (λb o _ e=>?_) (λb xs e=>E b _ e) (λb o u e=>E b _ e) (λb q e=>E b _ e) (λm hm=>?_) (λa u e=>?_) I.bare
   .by_cases W:b=P
    .subst W;exact⟨_,a8 _ S⟩
    .exact⟨o,D b o W e⟩
   .exact(hm.extBut hx Lne).push _
   .by_cases ha:a=A
    .subst ha;rw[cB]at e;cases e;obtain⟨_,o,_,_,z,e2,_⟩:=B;cases z;exact⟨o,e2⟩
    .rw[bS ha]at e;by_cases W:a=P
     .subst W;rw[N]at e;cases e;refine⟨_,a8 _ S,by rw[fh];exact TriplesOk_snoc _ _ _ _ C,λO cv M=>?_⟩;rw[fh]at M;rcases DJ _ C M with z|rfl
      .obtain⟨c2,rfl,h1,h2⟩:=g O cv z;refine⟨c2,rfl,E c2 _ h1,?_⟩;obtain⟨c3,o,vs,t,z,e2,r⟩:=h2;cases z;exact⟨c2,o,vs,t,rfl,D c2 o (λz=>by rw[z,N]at h1;cases h1) e2,r⟩
      .exact⟨A,rfl,cB,hq ▸ B⟩
     .refine(I.hok a u e).stay (λb v M r=>D b v ?_ r) (λb r=>E b _ r) λb xs r=>E b _ r;rcases M with rfl|M
      .exact W
      .rintro rfl;rw[N]at M;cases M
  exact h _ A p _ _ I' E (by rw[<-ho];exact bW _ rfl) (kX (d_ I.lt (bX eu (ki aW)))) B (kX (d_ I.lt eu))
end
open Att
theorem z0:∀{c:List V}{vs:List ah}{i:Nat}{v:ah},bq c vs->vs[i]?=aa v->∃x,c[i]?=aa x/\RelV x v
 |_,_,_,_,.nil,e=>by simp at e
 |_,_,0,_,.cons h _,e=>by simp at e;subst e;exact⟨_,rfl,h⟩
 |_,_,i+1,_,.cons _ t,e=>by obtain⟨x,a,b⟩:=z0 (i:=i) t (by simpa using e);exact⟨x,by simpa using a,b⟩
section
variable{X:Cx}{d:List (af×Obj)}{c:St}{H:Hp}{s:am}
theorem Inv.mapKept{i:ax}{l:Nat}{m:Str->Option ah}(I:Inv X d c H s)(t:s.heap.Ns X.env.locals m)(f:i.Ns X.env.locals m)(k:∀b o,b≠X.env.locals->s.heap.get? b=aa o->i.get? b=aa o):Inv X d c H {s with heap:=i,toks:=l}:=by
 refine I.step (g':=s.gens) (d':=s.drawn) (ch:=[]) (λ_ z=>nomatch z) (λb o h _ _ e _=>k b o h e) (λb o h _ _ e _=>⟨o.slots,k b o h e⟩) (λ_ _ _ _ n=>n) (λb o _ e=>?_) (λ_ _ e=>e) (λ_ _ _ e=>e) (λ_ _ e=>e) (λq w=>?_) (λa u e=>?_) I.bare
 .by_cases j:b=X.env.locals
  .subst j;obtain⟨p,_,_,x,_⟩:=f;exact⟨p,x⟩
  .exact⟨o,k b o j e⟩
 .have:q=m:=w.eq_nsMap.trans t.eq_nsMap.symm;rw[this];exact f
 .refine(I.hok a u e).stay (λb v g r=>k b v ?_ r) (λ_ r=>r) λ_ _ r=>r;rintro rfl;have:=I.free;rcases g with rfl|g
  .rw[e]at this;cases this
  .rw[g]at this;cases this
end
end L2
namespace Pu
open L2
structure vV(K:au)(mg:Str->Option ah)(x:Str)(c T:af):Prop where
 tab:iS K x=aa (c,T)
 hd:tD K c T=ai
 code:∀f fd oc od osl,mg x=aa (.ref f)->K.lookup f=aa ⟨oc,od,.func fd,osl⟩->fd.code=.ref c
theorem GI{K:au}{h:ax}{b:Str->Option ah}{x:Str}{c T:af}(X:K.In h)(G:h.Ns bG b)(a:iS K x=aa (c,T))(l:tD K c T=ai):vV K b x c T:=by
 refine⟨a,l,λf o oc n g i j=>?_⟩;unfold iS at a;split at a
 .rename_i p e;have d:=i6 X G e;rw[i]at d;cases d;rw[j]at a;dsimp only at a;split at a
  .rename_i q m;split at a
   .split at a
    .cases a;exact m
    .cases a
   .cases a
  .cases a
 .cases a
theorem Ht{y:ez}{P:aG}{w:aC}{K:au}{m:Str->Option ah}{b:ax}{x:Str}{j:aX}{N l:List Str}{k n:Nat}{d:aj->R aQ}{pin:List Nat}(Z:∃c T,vV K m x c T)(M:x∈pR)(D:cE K m x j)(Y:cb N l (aU j))(Q:N.length=l.length+n)(C:∀(kV v G:ah) (X:Option af) (o W:ah) (q:List ah),q.length=l.length->ef (g_ x x (im j) (eR j) (aU j) .none kV v G X o W) ⟨q,[]⟩=pure (l.zip q))(S:∀(f:af) (o:ah) (c T:af) (A:aH) (a:List Env) (s:am) (H:Hp) (E:XK),Room k (A.deeper (g9 x (aU j) s.heap.objs.size f o))->rN (fY y P w K m b N x (aU j) f o A a s H E) x c T->fR (fY y P w K m b N x (aU j) f o A a s H E) E pin (eR j) d):cF y P w K m b x (k+1) l (bN K (bF l.length pin (bI n d))):=by
 have no:∀{g},bF l.length pin (bI n d) g≠.no->g.length=l.length/\fe pin 0 g=ai:=λ{g} h=>by
  unfold bF at h;by_cases z:g.length=l.length/\fe pin 0 g=ai
  .exact z
  .rw[if_neg z]at h;exact absurd rfl h
 obtain⟨f,u,B,p⟩:=D.ex;obtain⟨c,T,L⟩:=Z;refine⟨f,u,B,xy p Y Q C (λg h=>(no h).1) (λg h i r e=>by have:=(lD (no h).2 i r e).1;rwa[tU]at this) (λg rs aD h=>.inr λi r e=>(lD (no (by rw[h];exact nofun)).2 i r e).2) (λg h=>by unfold bF;rw[if_pos (no h)]) λA a s H E O=>?_,p.binds C,p.kp⟩;obtain⟨oc,I,_,_,_,_,_,_,t,_,J,_⟩:=p.ex;exact S f u.code c T A a s H E O ⟨M,L.tab,L.hd,L.code f u oc I t B J⟩
end Pu
theorem L2.Room.d1{k:Nat}{A:PySem.Around}(r:L2.Room k A):A.depth+1<PySem.recursionLimit:=by have:=r.dp;lia
namespace L2
open Mx
section
variable{P:aG}{w:aC}{A:aH}{E:ah->am->Prop}{s:am}
structure Keyd(P:aG)(w:aC)(K:Type)[DecidableEq K] where
 is:ax->K->ah->Prop
 hash:K->Int
 room:aH->Prop
 keep:∀{h h':ax}{k:K}{v:ah},is h k v->(∀b o,h.get? b=aa o->o.cls=.type "tuple"->h'.get? b=aa o)->is h' k v
 ref:∀{h:ax}{k:K}{v:ah},is h k v->∃a o,v=.ref a/\h.get? a=aa o
 eqBool:∀{A:aH}{E:ah->am->Prop}{s:am}{x y:K}{u v:ah}{Q:Bool->am->Prop},room A->is s.heap x u->is s.heap y v->Q (decide (x=y)) s->aq (ar P w) A (PySem.eqBool u v) Q E s
 quiet:∀{A:aH}{E:ah->am->Prop}{s:am}{k:K}{v:ah}{Q:Bool->am->Prop},is s.heap k v->Q ai s->aq (ar P w) A (qk 8 v) Q E s
 cls:∀{A:aH}{E:ah->am->Prop}{s:am}{k:K}{v:ah}{Q:Bool->am->Prop},is s.heap k v->Q ak s->aq (ar P w) A (ofAClassStatement 8 v) Q E s
 hbv:∀{A:aH}{E:ah->am->Prop}{s:am}{k:K}{v:ah}{Q:Bool->am->Prop},is s.heap k v->Q ak s->aq (ar P w) A (hashByValue 8 v) Q E s
variable{K:Type}[DecidableEq K]{c:Keyd P w K}
end
section
variable{P:aG}{w:aC}{A:aH}{E:ah->am->Prop}{s:am}
theorem tupTy{a:af}{b:Array ah}(h:IsTup s.heap a b):s.TypeIs (.ref a) "tuple":=let ⟨o,ho,hc,_⟩:=h;⟨o,ho,hc⟩
theorem quiet_tup{n:Nat}{a:af}{b:Array ah}{Q:Bool->am->Prop}(i:IsTup s.heap a b)(q:∀v∈b.toList,∀(E:ah->am->Prop) (Q:Bool->am->Prop),Q ai s->aq (ar P w) A (qk n v) Q E s)(h:Q ai s):aq (ar P w) A (qk (n+1) (.ref a)) Q E s:=by
 have g:=tupTy i;obtain⟨o,p,_,m,t⟩:=i;unfold qk;refine ap (tz g F.slot_tuple_eq.lookup ?_);show aq _ _ (isInstance (.ref a) (.type "tuple") >>= _) _ _ s;refine ap (Bc g isSubtype_tuple_tuple ?_);simp only[Bool.not_true,jK,if_false];refine ap (tO p t ?_);refine ap ?_;show aq _ _ (forIn b _ _) _ _ s;rw[<-Array.forIn_toList];refine wT _ (λrest r c=>r.1=ae/\c=s/\∀v∈rest,v∈b.toList) _ ?_ ?_ _ _ ⟨rfl,rfl,λv l=>l⟩
 .rintro v rest r c ⟨f,rfl,j⟩;refine ap (q v (j v iT) _ _ ?_);simp only[Bool.not_true,jK,if_false];exact aB ⟨rfl,rfl,λu d=>j u (iy _ d)⟩
 .rintro⟨y,x⟩ c ⟨f,rfl,_⟩;simp only at f;subst f;exact aB h
theorem tup_uniq{h:ax}{a:af}{x y:Array ah}(g:IsTup h a x)(f:IsTup h a y):x=y:=by
 obtain⟨o,e,_,n,d⟩:=g;obtain⟨i,b,_,j,c⟩:=f;rw[e]at b;cases b;rw[d]at c;cases c;rfl
theorem strs_uniq:∀{a:List ah}{x y:List Str},cR a x->cR a y->x=y
 |_,_,_,.nil,.nil=>rfl
 |_,_,_,.cons z t h,.cons _ _ b=>by rw[strs_uniq h b]
theorem all_getD{a b:List Str}:((cq (min a.length b.length)).all (λj=>a.getD j eU == b.getD j eU)&&a.length == b.length)=decide (a=b):=by
 rw[kY,eV,lh,decide_eq_true_iff,beq_iff_eq];constructor
 .rintro⟨g,f⟩;refine List.ext_getElem f λi d c=>?_;have:=g i (List.mem_range.mpr ∅);rw[beq_iff_eq]at this;simpa[d,c]using this
 .rintro rfl;exact⟨λx _=>by simp,rfl⟩
theorem strs_len{a:List ah}{b:List Str}(h:cR a b):a.length=b.length:=h.length
theorem eq_strs{b h:af}{c a:Array ah}{i d:List Str}(u:A.units<cLine)(o:IsTup s.heap b c)(f:cR c.toList i)(p:IsTup s.heap h a)(g:cR a.toList d):qd A s (.ref b) (.ref h) (decide (i=d)):=by
 by_cases n:b=h
 .subst n;obtain rfl:=tup_uniq o p;obtain rfl:=strs_uniq f g;rw[decide_eq_true rfl];exact .same _
 .have m:=strs_len f;have l:=strs_len g;rw[km]at m l;rw[<-all_getD,<-m,<-l];refine .of_refs n (.tuples o p u λj r q=>?_);obtain⟨t,e⟩:=sq j c[j] f (by simp[r]);obtain⟨x,v⟩:=sq j a[j] g (by simp[q]);rw[e,v];exact AY _ _ _ _
theorem tup_kept{h d:ax}{a:af}{x:Array ah}(f:IsTup h a x)(k:∀b o,h.get? b=aa o->o.cls=.type "tuple"->d.get? b=aa o):IsTup d a x:=by obtain⟨o,e,c,r⟩:=f;exact⟨o,k a o e c,c,r⟩
theorem strs_mem_shape{a:List ah}{b:List Str}(h:cR a b):∀v∈a,∃z t,v=Value.str z t:=λv c=>h.all v c
end
section
open PySem.SeqAt
open PySem.AutoSeq1 (wpAny_loadPart')
open PySem.MeetsSeq PySem.MeetsSeq2 PySem.MeetsSeq3
end
end L2
namespace Pu
open L2
abbrev JD:=List bz
end Pu
namespace L2
theorem FS{P:aG}{w:aC}{A:aH}{E:ah->am->Prop}{s:am}{t b:af}{f:List ah}{Q:ah->am->Prop}(v:IsTup s.heap t #[])(x:IsTup s.heap b f.toArray)(h:Q (.ref b) s):aq (ar P w) A (fL .Add (.ref t) (.ref b)) Q E s:=by
 obtain⟨⟨z,y,p,r⟩,i,l,n,j⟩:=id v;obtain⟨⟨q,c,d,a⟩,o,m,u,g⟩:=id x;simp only at l j m g;subst l j m g;exact concat_meets ⟨_,i,rfl⟩ ⟨_,o,rfl⟩ AS seq_tuple_add AT AU (AV _ _)
  (tuple_addW0 t b #[] f.toArray n u y c r a rfl) ⟨i,o,h⟩
def vT(K:au):R2:=λx y H Q=>∃a b c,x=.ref a/\y=.ref b/\bO K H a []/\bO K H b c/\Q (.ref b) H
theorem JR{X:Cx}:bp X (fL .Add) (vT X.K):=by
 intro t s o H x y v u Q I f d h;obtain⟨a,b,p,rfl,rfl,n,m,q⟩:=h;cases f;cases d;obtain⟨l,g,j,_⟩:=I.tuple n;obtain⟨c,r,i,_⟩:=I.tuple m;cases g;exact FS j i ⟨.ref b,H,I,rfl,q⟩
end L2
namespace Pu
open L2
theorem xQ{X:Cx}:bp X (fL .Add) (λx y H Q=>vT X.K x y H Q\/rO X.K x y H Q):=JR.or gY
end Pu
namespace L2
section
variable{P:aG}{w:aC}{A:aH}{E:ah->am->Prop}{s:am}
theorem GO{h:ax}{o:Obj}{l:af}{a:Array ah}(x:h.IsTuple l a):(h.push o).IsTuple l a:=let ⟨ob,e,r⟩:=x;⟨ob,a8 _ e,r⟩
set_option maxRecDepth 100000 in
theorem FA{l:af}{a:Array ah}{Q:ah->am->Prop}(hh:A.handled=ae)(hl:s.heap.IsTuple l a){J:Nat->ax->Prop}(hJ:∀i h d,J i h->(∀b o,b<=s.heap.objs.size->h.get? b=aa o->d.get? b=aa o)->J i d) (W:J 0 (s.heap.push {cls:=.type "set",dict:=ae,data:=.set #[] 0 (.fresh 0 0 (!cG w))}))(kC:∀(i:Nat) (v:ah) (f:am) (E:ah->am->Prop) (Q:Bool->am->Prop),i<a.size->a[i]?=aa v->J i f.heap->(∀d m b,f.toks<=m->iU s.heap.objs.size f.heap d->J (i+1) d->Q b {f with heap:=d,toks:=m})->aq (ar P w) A.in1.in1.in1 (setAdd s.heap.objs.size v) Q E f)(h:∀(d:ax) (m:Nat),J a.size d->(∀b o,b<s.heap.objs.size->s.heap.get? b=aa o->d.get? b=aa o)->Q (.ref s.heap.objs.size) {s with heap:=d,toks:=m}):aq (ar P w) A (call (.type "set") [.ref l]) Q E s:=by
 obtain⟨c,tl,hmro⟩:=F.called_set.mro;have L:=F.called_set.made;have jP:=F.called_set.sub;refine wpAny_call (codeAny_of_tree ?_);show aq _ _ (callAny (.type "set") _) _ _ _;refine aB ⟨Code.quiet_builtin _ (by decide +kernel),lf F.entry_type_call ?_⟩;rw[Around.under_plain (weight_type_call_type "set" [.ref l] []) rfl];have h1:=F.called_set.notType;have h2:=F.called_set.canCreate;have hct:=PySem.F.typeCall_set_1 (.ref l)
 repeat any_goals (first|assumption|wp_step)
 refine tm (Es (P:=P) (w:=w) (.ref l) (E:=E) (Q:=λp f=>p=.ref s.heap.objs.size/\f={s with heap:=s.heap.push {cls:=.type "set",dict:=ae,data:=.set #[] 0 (.fresh 0 0 (!cG w))}}/\True) λS0=>⟨rfl,rfl,trivial⟩) λr f K=>?_;cases r with
 |error e=>exact K
 |ok fl=>
  cases fl with
  |ret p=>
   obtain⟨rfl,rfl,S0⟩:=K;have hS:=bW (h:=s.heap) (o:=({cls:=.type "set",dict:=ae,data:=.set #[] 0 (.fresh 0 0 (!cG w))}:Obj));have S:(s.heap.push {cls:=.type "set",dict:=ae,data:=.set #[] 0 (.fresh 0 0 (!cG w))}).get? s.heap.objs.size=aa {cls:=.type "set",dict:=ae,data:=.set #[] 0 (.fresh 0 0 (!cG w))}:=bW _ rfl;have hT:Shared.TypeIs {s with heap:=s.heap.push {cls:=.type "set",dict:=ae,data:=.set #[] 0 (.fresh 0 0 (!cG w))}} (.ref s.heap.objs.size) "set":=⟨_,S,rfl⟩
   have hli:=F.called_set.init.lookup;have hbi:=F.called_set.init.bind (.ref s.heap.objs.size)
   repeat any_goals (first|assumption|wp_step)
   refine tm (codeAny_call_builtin (R:=wants (λr Y=>r=.none/\∃d m,Y={s with heap:=d,toks:=m}/\J a.size d /\ (∀b o,b<s.heap.objs.size->s.heap.get? b=aa o->d.get? b=aa o)) E) F.called_set.init.plain F.entry_set_init (check_set_init_1 hT ?_)) λr2 Y H=>?_
   .obtain⟨⟨ocls,n,G,g⟩,t,lm,nl,y⟩:=hl;simp only at lm y;subst lm;subst y;have q:(s.heap.push {cls:=.type "set",dict:=ae,data:=.set #[] 0 (.fresh 0 0 (!cG w))}).get? l=aa {cls:=.type "tuple",dict:=n,data:=.seq a nl,slots:=g}:=a8 _ t;have hsls:=PySem.F.sub_tuple_set;have hslf:=PySem.F.sub_tuple_frozenset;have cr:(Value.type "tuple" == Value.type "dict")=ak:=by decide
    have Z:(s.heap.push {cls:=.type "set",dict:=ae,data:=.set #[] 0 (.fresh 0 0 (!cG w))}).IsTuple l a:=⟨_,q,rfl,nl,rfl⟩
    unfold Builtin.«set.__init__» noKeywords Builtin.Frozenset.updateFrom;generalize T:kn=PI
    wp_walk
    subst T;refine wpAny_pyIter_tuple Z (ap (wpAny_runValue ?_));have x:l<s.heap.objs.size:=bj t;have N:A.in1.in1.in1.handled=ae:=by simp[hh]
    have j:(s.heap.push {cls:=.type "set",dict:=ae,data:=.set #[] 0 (.fresh 0 0 (!cG w))}).objs.size=s.heap.objs.size+1:=wD ..;have u:l≠(s.heap.push {cls:=.type "set",dict:=ae,data:=.set #[] 0 (.fresh 0 0 (!cG w))}).objs.size:=by rw[j];exact cC (jM x)
    have O:s.heap.objs.size∉[(s.heap.push {cls:=.type "set",dict:=ae,data:=.set #[] 0 (.fresh 0 0 (!cG w))}).objs.size,l]:=by rw[j];simp only[bw,eG,iA,or_false,not_or];exact⟨cC (lg _),kX x⟩
    refine DU ((Walks.tuple N _ l u a).toS) s.heap.objs.size O (λi h d M k=>hJ i h d M λb o B e=>k b o (by rw[j];simp only[eG];exact cC (Nat.lt_succ_of_le B)) e) (λi v f E Q hi hv M hq=>kC i v f E Q hi hv M hq) (a.size-0) 0 _ ∅ (jH _)
     ⟨⟨_,bW _ rfl,rfl,rfl⟩,(GO Z)⟩ (hJ 0 _ _ W λb o _ e=>a8 _ e) ?_
    intro s' z I;obtain⟨d,g',d',C,D⟩:=s';obtain rfl:g'=s.gens:=z.gens;obtain rfl:d'=s.drawn:=z.drawn;obtain rfl:D=s.os:=z.os;show aq _ _ _ _ _ _;refine aB ?_;show aq _ _ (ret Value.none) _ _ _;refine aB ⟨rfl,d,C,rfl,I,λb o B e=>z.heap b o ?_ (a8 _ (a8 _ e))⟩;rw[j];simp only[bw,eG,iA,or_false,not_or];exact⟨cC B,cC (jM B)⟩
   .cases r2 with
    |error e=>exact H
    |ok X=>
     cases X with
     |ret r=>
      obtain⟨rfl,d,m,rfl,I,lq⟩:=H
      repeat any_goals (first|assumption|wp_step)
      exact h _ _ I lq
     |_=>exact H.elim
  |_=>exact K.elim
theorem EZ{l:af}{a:Array ah}{c:List Str}{Q:ah->am->Prop}(u:A.handled=ae)(p:s.heap.IsTuple l a)(r:cR a.toList c)(y:(met (λi=>c.getD i eU) a.size).length<4000)(h:∀(d:ax) (j:Nat),iu P w d s.heap.objs.size (met (λi=>c.getD i eU) a.size)->(∀b o,b<s.heap.objs.size->s.heap.get? b=aa o->d.get? b=aa o)->Q (.ref s.heap.objs.size) {s with heap:=d,toks:=j}):aq (ar P w) A (call (.type "set") [.ref l]) Q E s:=by
 refine FA u p (J:=λi h=>iu P w h s.heap.objs.size (met (λi=>c.getD i eU) i)) (λi h d S k=>S.at λo e=>k _ o (aT _) e)
  ⟨#[],0,_,[],bW _ rfl,.nil,qf _,λe x=>by simp at x,by decide,rfl,rfl,λh=>absurd rfl h⟩ (λi v f E Q m n S q=>?_) h
 obtain⟨t,rfl⟩:=sq i v r (by rw[wR];exact n);unfold setAdd;refine jG ?_;have B:(gy P w).is (c.getD i eU) (.str (c.getD i eU) t)=ai:=by show nO _ (.str _ t)=ai;simp[nO]
 refine ap ((gy P w).pyHash (k:=c.getD i eU) B ?_);refine CL (s:={f with toks:=f.toks+1}) S (wC (yO _ (ki m)) y) λd b z g=>?_;rw[<-zG (λi=>c.getD i eU)]at g;exact q d _ b (tF _) z g
end
section
variable{X:Cx}
theorem Ii(A:X.calm=ai):fQ X (.type "set") (λg H Q=>∃(p:af) (c:List Tx),g=[.ref p]/\bO X.K H p (cf c)/\(ca c).length<4000/\∀a,H a=ae->Q (.ref a) (upd H a (lC X a (ca c)))):=by
 intro N s C H g D Q I r h;obtain⟨p,c,rfl,y,f,q⟩:=h;obtain⟨u,rfl,m⟩:=vals1 r;cases m;obtain⟨d,i,x,G⟩:=I.tuple y;have z:=i.length;rw[vQ]at z;refine EZ (P:=X.prog) (w:=X.w) (I.ok.hd A) x (by simpa using uh i) (by rw[bQ,show d.length=c.length by lia,xO,fg];exact f) λB l S k=>?_;have j:iu X.prog X.w B s.heap.objs.size ((ca c).map tS):=by
  have e:d.toArray.size=c.length:=by rw[bQ];lia
  rw[e,xO]at S;exact S
 refine⟨.ref s.heap.objs.size,_,I.laid (t':=l) (o:=lC X s.heap.objs.size (ca c)) (λb o e=>k b o (bj e) e) (aT _) ?_,rfl,q _ I.fresh⟩;obtain⟨L,M,t,E,e,_⟩:=j.ex;exact⟨j,⟨_,e⟩,λK J v n=>v.at n⟩
end
end L2
namespace Pu
open L2
section
variable{X:Cx}{E:XK}{e:ay}{g:aj->R (List PV)}{p q f d:Pos}
def lZ:List PV->Option PO
 |[.tup b]=>(eQ b).bind λa=>if(ca a).length<4000 then aa (.lst (ao (bd (ca a))))else ae
 |_=>ae
def De(X:Cx)(r:List V->Hp->VK->Prop):List V->Hp->VK->Prop:=λc H Q=>∃(p:af) (b:List Tx),c=[.ref p]/\bO X.K H p (cf b)/\(ca b).length<4000/\∀a,H a=ae->r [.ref a] (upd H a (lC X a (ca b))) Q
theorem CT:lI X.K (De X (CY X)) lZ:=λF H G I Q K C t e q=>by
 unfold lZ at e;split at e
 .obtain⟨v,rfl,a,J,rfl,B,n⟩:=fz t;obtain⟨i,D,m⟩:=Option.bind_eq_some_iff.mp e;rw[oF D]at n;obtain⟨rfl,y⟩:=JA.mp n;split at m
  .rename_i s;cases m;refine⟨a,i,rfl,bO.of B,s,λb A=>⟨b,ca i,rfl,cB,s,λl h=>?_⟩⟩;have j:l≠b:=by rintro rfl;rw[cB]at h;cases h
   have r:H l=ae:=by rw[bS j]at h;exact h
   have al:Al F F H (upd (upd H b (lC X b (ca i))) l (.lst (cf (bd (ca i))))):=(Al.new0 A).trans (Al.new0 h);refine q l F _ (λc=>c=l) al ⟨⟨_,cB,JA.mpr ⟨rfl,λx u=>y x ((nh _ _).mp ((iH _).mem_iff.mp u))⟩⟩,λc=>Iff.rfl⟩ λc z=>?_;subst z;exact⟨r,λz=>Exists.elim (C _ z) (λo w=>by rw[r]at w;cases w),_,cB,trivial⟩
  .cases m
 .cases e
theorem Cu(c:X.calm=ai)(m:DA X E [e] g)(j:X.mg "sorted"=ae)(a:X.mg "set"=ae)(l:Gl X "sorted":=by rfl)(b:Gl X "set":=by rfl)(h:j9 e=ak:=by rfl):DN X E (.Call (.Name "sorted" p) [.Call (.Name "set" q) [e] [] d] [] f) (dL lZ g):=λF S r o H Q i n=>bU (sN (E_ c) l j ve (gT (vO (Ii c) b a EK eP (by decide) (by decide) (jm h) rfl) ju (jm rfl)) (by decide) (by decide) (jm rfl) rfl) (r_ CT m i n)
end
end Pu
namespace L2
open Mx
section
variable{P:aG}{w:aC}{A:aH}{E:ah->am->Prop}{s:am}
def pN(P:aG)(w:aC)(A:aH)(h:ax)(v:ah)(x:Int)(d:Nat):Prop :=
 ∀(s:am) (E:ah->am->Prop) (Q:Int->am->Prop),s.heap=h->Q x {s with toks:=s.toks+d}->aq (ar P w) A (pyHash v) Q E s
theorem yF{h:ax}{a:af}{f:Array ah}{hs:List (ah×Int×Nat)}(t:A.units<cLine)(r:IsTup h a f)(v:f.toList=hs.map (·.1))(y:∀p∈hs,pN P w A.in1 h p.1 p.2.1 p.2.2):pN P w A h (.ref a) (nQ (jC (hs.map (·.2.1)))) ((hs.map (·.2.2)).sum+1):=λs E Q B g=>by
 subst B;have j:s.TypeIs (.ref a) "tuple":=tupTy r;obtain⟨o,u,_,n,z⟩:=r;unfold pyHash
 first|unfold pyHashByItsType|skip
 first|refine ap (wpAny_cRoomFor_or (.inr t) ?_)|skip
 refine ap (tz j F.slot_tuple_hash.lookup ?_);show aq _ _ (if(aa (Value.builtin "tuple.__hash__") == aa Value.none)=ai then _ else _) Q E _;rw[if_neg (by rw[beq_builtin_none];exact dQ)];refine ap (tz j F.slot_tuple_hash.lookup ?_);show aq _ _ (callSpecialIfBoundUnlessNone? (.ref a) "__hash__" _ >>= _) Q E _;refine ap (wpAny_callSpecialIfBoundUnlessNone?_slot j Jm (qc Jm j F.entry_tuple_hash ?_ (F.args_tuple_hash_1 _)));show aq _ _ (Builtin.Tuple.tupleItemsOf (.ref a) >>= _) _ _ _;refine ap (wpAny_tupleItemsOf u z ?_);refine ap ?_;rw[<-Array.forIn_toList,v];refine wT _
  (λrest (b:Array Int) q=>∃c d,hs=c++d/\rest=d.map (·.1)/\b.toList=c.map (·.2.1)/\q={s with toks:=s.toks+(c.map (·.2.2)).sum})
  _ ?_ ?_ _ _ ⟨[],hs,rfl,rfl,rfl,rfl⟩
 .rintro x rest b q ⟨c,d,rfl,i,m,rfl⟩;cases d with
  |nil=>cases i
  |cons p d=>
   rw[lc]at i;injection i with h1 h2;subst h1 h2;refine ap (y p (by simp) _ _ _ rfl ?_)
   first
    |exact aB ⟨c++[p],d,by simp,rfl,by simp[m],by simp[mq]⟩
    |exact ap (aB (aB ⟨c++[p],d,by simp,rfl,by simp[m],by simp[mq]⟩))
 .rintro b q ⟨c,d,rfl,i,m,rfl⟩;have:d=[]:=by cases d with|nil=>rfl|cons=>cases i
  subst this;rw[iW]at g;show aq _ _ (retInt (jC b.toList)) _ _ _;rw[m];refine wpAny_ret_mkInt ?_;show aq _ _ (if(decide (-(2:Int)^63<=jC (c.map (·.2.1)))&&decide (jC (c.map (·.2.1))<2^63))=ai then _ else _) Q E _;unfold nQ at g;by_cases l:(decide (-(2:Int)^63<=jC (c.map (·.2.1)))&&decide (jC (c.map (·.2.1))<2^63))=ai
  .rw[if_pos l];rw[if_pos l]at g;exact aB (by simpa[mq]using g)
  .rw[if_neg l];rw[if_neg l]at g;exact ap (ku (aB (by simpa[mq]using g)))
theorem xK{h:ax}(z:Str)(t:Tok):pN P w A h (.str z t) (jB w z) 1:=λs E Q _ a=>(gy P w).pyHash (s:=s) (k:=z) (by show nO z (.str z t)=ai;simp[nO]) a
def oW(h:ax)(k:Str×List Str)(a:af):Prop:=∃(b:af) (t:Tok) (c:Array ah),IsTup h a #[.str k.1 t,.ref b]/\IsTup h b c/\cR c.toList k.2
theorem oW.inj{h:ax}{k d:Str×List Str}{a:af}(x:oW h k a)(y:oW h d a):k=d:=by obtain⟨b,t,g,l,j,i⟩:=x;obtain⟨q,p,f,n,o,c⟩:=y;have:=congrArg Array.toList (tup_uniq l n);simp at this;obtain⟨⟨m,_⟩,rfl⟩:=this;obtain rfl:=tup_uniq j o;exact Prod.ext m (strs_uniq i c)
theorem Il{h:ax}{c:List ah}{b:List Str}(x:cR c b):∃hs:List (ah×Int×Nat),c=hs.map (·.1)/\hs.map (·.2.1)=b.map (jB w)/\(hs.map (·.2.2)).sum=b.length/\∀p∈hs,pN P w A h p.1 p.2.1 p.2.2:=by
 induction x with
 |nil=>exact⟨[],rfl,rfl,rfl,λp a=>by simp at a⟩
 |cons z t _ d=>
  obtain⟨hs,j,i,g,f⟩:=d;refine⟨(.str z t,jB w z,1)::hs,by rw[j];rfl,by rw[lc,i];rfl,by simp[g];lia,λp a=>?_⟩;rcases bw.mp a with rfl|a
  .exact xK z t
  .exact f p a
theorem zx{h b:ax}{a d:af}{x:Array ah}{o:Obj}{es ep}(g:IsTup h a x)(i:h.get? d=aa o)(j:o.data=.dict es ep)(hs:iU d h b):IsTup b a x:=by
 obtain⟨f,e,c,n,r⟩:=g;have l:a≠d:=by
  rintro rfl;rw[i]at e;cases e;rw[j]at r;cases r
 exact⟨f,(hs.2 a l).trans e,c,n,r⟩
def B4(P:aG)(w:aC):HeapKind P w (Str×List Str) where
 is:=oW
 hash:=xW w
 draws:=λk=>k.2.length+3
 room:=λA=>A.units+4<cLine
 inj:=λx y=>x.inj y
 keeps:=λ⟨b,t,c,l,i,g⟩ G H hs=>⟨b,t,c,zx l G H hs,zx i G H hs,g⟩
 pyHash:=λ{A E s k a Q} N x O=>by
  obtain⟨b,t,c,l,i,g⟩:=x;obtain⟨hs,M,L,K,J⟩:=Il (P:=P) (w:=w) (A:=A.in1.in1) (h:=s.heap) g;have f:pN P w A.in1 s.heap (.ref b) (nQ (jC (k.2.map (jB w)))) (k.2.length+1):=by have:=yF (P:=P) (w:=w) (A:=A.in1) (show A.units+1<cLine by lia) i M J;rw[L,K]at this;exact this
  have d:=yF (P:=P) (w:=w) (A:=A) (hs:=[(.str k.1 t,jB w k.1,1),(.ref b,nQ (jC (k.2.map (jB w))),k.2.length+1)]) ∅ l rfl λp D=>by
   simp only[bw,iA,or_false]at D;rcases D with rfl|rfl
   .exact xK _ _
   .exact f
  refine d s E Q rfl ?_;have S:([((Value.str k.1 t,jB w k.1,1):ah×Int×Nat),(.ref b,nQ (jC (k.2.map (jB w))),k.2.length+1)].map (·.2.2)).sum+1=k.2.length+3:=by simp;lia
  rw[S];exact O
 eqBool:=λ{A E s x y a Y Q} N C B q=>by
  by_cases m:a=Y
  .subst m;obtain rfl:=C.inj B;rw[decide_eq_true rfl]at q;exact SeqAt.EqAt.same _ _ _ _ _ q
  .obtain⟨b,t,c,l,i,g⟩:=C;obtain⟨b',t',u,W,X,r⟩:=B;have T:decide (x=y)=((cq (min 2 2)).all (λj=>if j=0 then x.1 == y.1 else decide (x.2=y.2))&&2 == 2):=by obtain⟨x1,x2⟩:=x;obtain⟨y1,Z⟩:=y;rw[kY];simp[tI]
   rw[T]at q;refine SeqAt.EqAt.of_refs m (.tuples l W ∅ λj I j2=>?_) _ _ _ _ q
   match j,I with
   |0,_=>exact AY _ _ _ _
   |1,_=>exact eq_strs (show A.units+1<cLine by lia) i g X r
 quiet:=λ⟨b,t,c,l,i,g⟩ q=>by
  refine quiet_tup (n:=7) l (λv o E Q q=>?_) q;simp only[bw,iA,or_false]at o;rcases o with rfl|rfl
  .exact tK (by unfold qk;rfl) q
  .refine quiet_tup (n:=6) i (λv o E Q q=>?_) q;obtain⟨z,t,rfl⟩:=strs_mem_shape g v o;exact tK (by unfold qk;rfl) q
abbrev KN(H:Hp):List ((Str×List Str)×V)->List ((Str×List Str)×af×ah)->Prop:=iR λp q=>p.1=q.1/\lJ H p.1 q.2.1/\RelV p.2 q.2.2
theorem KN.val{H:Hp}{a:List ((Str×List Str)×V)}{b:List ((Str×List Str)×af×ah)}(r:KN H a b)(k:Str×List Str):nN (gU a k) ((atKey b k).map (·.2)):=by
 induction r with
 |nil=>exact True.intro
 |@cons p q ps qs h t ih=>
  obtain⟨c,_,d⟩:=h;by_cases e:p.1=k
  .rw[zJ e,show atKey (q::qs) k=aa q.2 by simp[atKey,qe,c.symm.trans e]];exact d
  .have f:¬q.1=k:=λz=>e (c.trans z);rw[yU e,show atKey (q::qs) k=atKey qs k by simp[atKey,qe,f]];exact ih
theorem yx:∀{ks:List Str}{a:List ah},bq (ks.map V.str) a->cR a ks
 |[],_,r=>by rw[List.map_nil]at r;cases r;exact .nil
 |k::ks,_,r=>by
  rw[lc]at r;cases r with
  |cons h t=>obtain⟨b,rfl⟩:=h;exact .cons _ _ (yx t)
theorem rP{H:Hp}{h:ax}{k:Str×List Str}{a:af}(ok:cJ P w H h)(e:lJ H k a):oW h k a:=by
 obtain⟨b,n,m⟩:=e;obtain⟨_,o,c,f,_⟩:=ok a _ n;obtain⟨_,i,g,d,_⟩:=ok b _ m;cases c with
 |cons l c=>cases c with
  |cons j c=>
   cases c;obtain⟨t,rfl⟩:=l;cases (show _=Value.ref b from j);exact⟨b,t,i.toArray,f,d,by simpa using yx g⟩
theorem vP{H:Hp}{h:ax}{a:af}{b:List ((Str×List Str)×V)}(ok:cJ P w H h)(e:H a=aa (.dN b)):b.length<=aY/\(a == nR)=ak/\∃d,KN H b d/\h.DictOfH (B4 P w) a d:=by
 obtain⟨z,y,d,r,o,u,v,n,j,i,g,f⟩:=ok a _ e;refine⟨z,y,d,r,o,u,v,n,j,i,g,λx c=>?_,f⟩;have all:∀{l:List ((Str×List Str)×V)}{m:List ((Str×List Str)×af×ah)},KN H l m->∀x∈m,oW h x.1 x.2.1:=by
  intro l m q
  induction q with
  |nil=>intro x c;exact nomatch c
  |@cons p q ps qs hq t ih=>
   intro x c;rcases bw.mp c with e|c
   .subst e;exact rP ok (by rw[<-hq.1];exact hq.2.1)
   .exact ih x c
 exact all r x c
end
def Gv(g ty:TE):TE:=λf H Q=>g f H λx h=>ty f h λy d=>∃a b c k v,x=.ref a/\y=.ref b/\d a=aa (.dN c)/\lJ d k b/\gU c k=aa v/\Q v d
def D8(d:Bool)(ty h:TE):TE:=λg H Q=>ty g H λy i=>h g i λx f=>∃a b c k,x=.ref a/\y=.ref b/\f a=aa (.dN c)/\lJ f k b/\Q (.bl (d^^(gU c k).isSome)) f
def Dp(h ty g:TE):TS:=λD d H=>g d H λv j=>h d j λx i=>ty d i λy f=>∃a b c k,x=.ref a/\y=.ref b/\f a=aa (.dN c)/\lJ f k b/\gU c k=ae/\c.length<aY/\D.nx d (upd f a (.dN (c++[(k,v)])))
section
variable{X:Cx}{o i e d:ay}{f g n:Pos}{l j m:TE}
theorem Do(hu:X.A.units+8<cLine)(S:PE X o l)(W:PE X i j)(O:vf i):PE X (.Subscript o i f) (Gv l j):=by intro A s t H Q I h;refine Ir PySem.F.slot_dict_getitem.lookup O (aO (S A s t H _ I h) λu C ⟨x,H1,I1,E,J⟩=>aO (W A C t H1 _ I1 J) λL s2 ⟨y,H2,r,D,a,b,K,k,v,ex,Z,e,T,N,G⟩=>?_);subst ex Z;obtain rfl:u=Value.ref a:=E;obtain rfl:L=Value.ref b:=D;obtain⟨z,hd,B,q,w⟩:=vP r.hok e;obtain⟨w',M,c⟩:=nN.some_of (v:=v) (o:=(atKey B k).map (·.2)) (by rw[<-N];exact q.val k);obtain⟨p,P,Y⟩:=tX.mp M;refine⟨w.typeIs,wpAny_getItem_heap (show X.A.in1.units+4<cLine from(show X.A.units+1+4<cLine by lia)) (rP r.hok T) w P ?_⟩;rw[Y];exact⟨v,H2,r.tok _,c,G⟩
theorem Ex(Z:X.A.units+8<cLine)(K:PE X i j)(G:PE X o l):PC X .NotIn i o (D8 ai j l):=by intro w s t H Q I h;refine aO (K w s t H _ I h) λE A ⟨y,T,P,B,D⟩=>aO (G w A t T _ P D) λu Y ⟨x,S,r,C,a,b,p,k,N,M,e,J,v⟩=>?_;subst N M;obtain rfl:u=Value.ref a:=C;obtain rfl:E=Value.ref b:=B;obtain⟨z,L,W,c,O⟩:=vP r.hok e;refine wpAny_notIn_heap (show X.A.in1.units+4<cLine from(show X.A.units+1+4<cLine by lia)) (rP r.hok J) L O ?_;have q:=(c.val k).isSome_eq;rw[Option.isSome_map]at q;rw[<-q];rw[Bool.true_xor]at v;exact⟨.bl (!(gU p k).isSome),S,r.tok _,rfl,v⟩
theorem HV(hu:X.A.units+8<cLine)(ho:PE X o l)(hi:PE X i j)(hv:PE X d m)(K:iV d (aa (.Subscript o i g)) f.line X.env=pure ak):PS X (.Assign [.Subscript o i g] d f) (Dp l j m):=by
 intro O s C H D I h;refine wpAny_Assign_Subscript (aO (hv O s C H _ I h) λr Z ⟨v,H1,I1,rv,q1⟩=>aO (ho O Z C H1 _ I1 q1) λu Y ⟨x,H2,I2,rx,q2⟩=>aO (hi O Y C H2 _ I2 q2) λiv s3 ⟨y,Q,P,ry,a,b,w,k,ex,ey,e,T,hn,hl,q3⟩=>?_) K;subst ex ey;obtain rfl:u=Value.ref a:=rx;obtain rfl:iv=Value.ref b:=ry;obtain⟨z,hd,J,t,dd⟩:=vP P.hok e;have hz:J.length<=aY:=by rw[<-Paired.length t];exact z
 refine wpAny_setItem_heap (hsz:=hz) (show X.A.in1.units+4<cLine from(show X.A.units+1+4<cLine by lia)) (rP P.hok T) dd λh' B K=>?_;have L:atKey J k=ae:=by have q:=(t.val k).isSome_eq;rw[hn,Option.isSome_map]at q;simpa using q.symm
 rw[storedH_new L]at B;obtain⟨q,es,ep,S,A,h3,h4,_,h5⟩:=B;refine⟨C,upd Q a (.dN (w++[(k,v)])),Cd (ob:=.dN (w++[(k,v)])) P (by rw[e];exact True.intro) K ⟨q,S⟩ ⟨by rw[cW];exact hl,hd,J++[(k,b,r)],?_,q,es,ep,S,A,h3,h4,h5⟩,q3⟩;have E:∀{c:af}{G:List V},Q c=aa (.tup G)->upd Q a (.dN (w++[(k,v)])) c=aa (.tup G):=λ{c G} W=>by rw[bS (B6 W e (λz=>nomatch z))];exact W
 refine Paired.snoc (Paired.mapP t λp q z=>⟨z.1,?_,z.2.2⟩) ⟨rfl,?_,rv⟩
 .obtain⟨N,M,A⟩:=z.2.1;exact⟨N,E M,E A⟩
 .obtain⟨N,M,A⟩:=T;exact⟨N,E M,E A⟩
def El:TE:=λ_ H Q=>∀p,H p=ae->Q (.ref p) (upd H p (.dN []))
theorem Dc{P:aG}{w:aC}{H:Hp}(h:ax)(a:nR<h.objs.size):cN P w H (h.push {cls:=.type "dict",data:=.dict #[]}) h.objs.size (.dN []):=by
 obtain⟨z,y,u,r,o,s,t,q,p,c,b,v⟩:=FH (P:=P) (w:=w) (H:=H) h a;cases r;exact⟨z,y,[],.nil,o,s,t,q,p,c,b,.nil⟩
theorem BF:PE X (.Dict [] [] f) El:=λc s b H Q I h=>wpAny_Dict_empty ⟨.ref s.heap.objs.size,_,I.laid (a:=s.heap.objs.size) (o:=.dN []) (t':=s.toks) (λ_ _ q=>a8 _ q) (aT _) (Dc s.heap I.big),rfl,h _ (I.hok.fresh (aT _))⟩
end
end L2
namespace Pu
open L2
def valN(a:List ((Tx×List Tx)×PV))(k:Tx×List Tx):Option PV:=(a.find? λb=>decide (b.1=k)).map (·.2)
def j0:PV->Option (Tx×List Tx)
 |.tup [.str t,.tup a]=>(eQ a).map λb=>(t,b)
 |_=>ae
theorem Em{x y:Tx×List Tx}(h:nS x=nS y):x=y:=by have d:=congrArg Prod.fst h;have c:=congrArg Prod.snd h;refine Prod.ext (mZ d) ?_;exact(List.map_inj_right λa b e=>mZ e).mp c
section
variable{K:au}{F:af->Prop}{S:Nat->af->Prop}{ε:aj}{g:St}{H:Hp}{i:Nat}{d:List ((Tx×List Tx)×PV)}{f:List ((Str×List Str)×V)}{a:af}
theorem vd{x:PV}{v:V}{k:Tx×List Tx}(r:aJ K H F x v)(e:j0 x=aa k):∃b,v=.ref b/\lJ H (nS k) b:=by
 unfold j0 at e;split at e
 .rename_i t s;obtain⟨j,q,rfl⟩:=tX.mp e;obtain rfl:=oF q;obtain⟨b,u,rfl,n,h⟩:=r;obtain⟨y,B,rfl,p,h⟩:=h;obtain⟨w,A,rfl,o,h⟩:=h;cases h;obtain⟨c,z,rfl,m,l⟩:=o;obtain⟨rfl,_⟩:=JA.mp l;refine⟨b,rfl,c,?_,?_⟩
  .rw[n,p.1];rfl
  .rw[m];show aa (HO.tup (cf j))=aa (HO.tup ((j.map tS).map V.str));rw[hV];rfl
 .cases e
theorem jw.len(h:jw K H F d f):f.length=d.length:=by
 unfold jw at h
 induction h with
 |nil=>rfl
 |cons _ _ b=>simp[b]
theorem jw.val(h:jw K H F d f)(k:Tx×List Tx):(∃x v,valN d k=aa x/\gU f (nS k)=aa v/\aJ K H F x v)\/(valN d k=ae/\gU f (nS k)=ae):=by
 unfold jw at h
 induction h with
 |nil=>exact .inr ⟨rfl,rfl⟩
 |@cons p q ps qs r _ ih=>
  by_cases e:p.1=k
  .refine .inl ⟨p.2,q.2,by simp[valN,qe,e],?_,r.2⟩;rw[zJ (by rw[<-r.1,e])]
  .have b:¬q.1=nS k:=by rw[<-r.1];exact λz=>e (Em z)
   rw[yU b];have:valN (p::ps) k=valN ps k:=by simp[valN,qe,e]
   rw[this];exact ih
theorem aI.dnAt(r:aI K F S ε g H)(e:ε[i]?=aa (.own (.dN d))):∃a f,g[i]?=aa (aa (.ref a))/\H a=aa (.dN f)/\jw K H F d f/\S i a/\∀b,S i b->b=a:=by obtain⟨a,n,⟨j,m,l⟩,c⟩:=r.own i _ e;exact⟨a,j,n,m,l,(c a).mpr rfl,λb h=>(c b).mp h⟩
end
def fG(b:aj)(i:Nat):Option (List ((Tx×List Tx)×PV)):=match b[i]? with
 |some (.own (.dN a))=>aa a
 |_=>ae
theorem mW{b:aj}{i:Nat}{a:List ((Tx×List Tx)×PV)}(h:fG b i=aa a):b[i]?=aa (.own (.dN a)):=by
 unfold fG at h;split at h
 .cases h;assumption
 .cases h
section
variable{X:Cx}{E:XK}{pin:List Nat}{e b c:ay}{de d g:aj->R PV}{f:Pos}
def pW(i:Nat)(d:aj->R PV):aj->R PV:=λa=>(a6 (fG a i) a).bind λ_ a=>(d a).bind λk ε1=>(a6 (fG ε1 i) ε1).bind λh ε1=>a6 ((j0 k).bind λk=>valN h k) ε1
theorem Iv(i:Nat){y:Str}{B:Pos}(hu:X.A.units+64<cLine)(N:DE X E b d)(P:X.N[i]?=aa y:=by rfl)(T:gm X.env.scope y:=by eq_refl)(M:(y==("__debug__":Str))=ak:=by decide) (Y:(y==("__classdict__":Str))=ak:=by decide) (K:vf b:=by exact λ_ _=>rfl):DE X E (.Subscript (.Name y B) b f) (pW i d):=λF S p A H Q r h=>by
 unfold pW at h;cases o:fG p i with
 |none=>rw[o]at h;exact h.elim
 |some w=>
  rw[o]at h;simp only[fE,R.bind_ok]at h;obtain⟨a,C,z,_⟩:=r.dnAt (mW o);refine bU (Do ∅ (iK P T M Y) br K) ⟨.ref a,z,N F S p A H _ r ((Ok.bind h).imp λk l F1 Z H1 s g1 q u G=>?_)⟩;cases n:fG l i with
  |none=>rw[n]at q;exact q.elim
  |some J=>
   rw[n]at q;simp only[fE,R.bind_ok]at q;obtain⟨a',D,j,O,L,_⟩:=s.dnAt (mW n);rw[z]at j;cases j;cases m:j0 k with
   |none=>rw[m]at q;exact q.elim
   |some t=>
    rw[m,hU]at q;obtain⟨W,rfl,I⟩:=vd G m;rcases L.val t with⟨x,v,h1,h2,h3⟩|⟨h1,h2⟩
    .rw[h1]at q;exact⟨a,W,D,nS t,v,rfl,rfl,O,I,h2,q F1 Z H1 s (bg.refl ..) v h3⟩
    .rw[h1]at q;exact q.elim
def pJ(i:Nat)(d de:aj->R PV):aj->R aQ:=λj=>(de j).bind λy ε1=>(a6 (fG ε1 i) ε1).bind λ_ ε1=>(d ε1).bind λk a=>(a6 (fG a i) a).bind λh a=>(a6 (j0 k) a).bind λk a=>if h.length<cA/\(valN h k).isNone=ai then .ok .next (a.set i (.own (.dN (h++[(k,y)]))))else .no
theorem G2(i:Nat){y:Str}{M l:Pos}(hu:X.A.units+64<cLine)(hb:DE X E b d)(he:DE X E e de)(hN:X.N[i]?=aa y:=by rfl)(h8:gm X.env.scope y:=by eq_refl)(hd:(y==("__debug__":Str))=ak:=by decide) (bY:(y==("__classdict__":Str))=ak:=by decide) (hs:iV e (aa (.Subscript (.Name y M) b l)) f.line X.env=pure ak:=by rfl):DS X E pin (.Assign [.Subscript (.Name y M) b l] e f) (pJ i d de):=λF S T t H D rl h=>by
 refine gX (HV ∅ (iK hN h8 hd bY) br br hs) (he F S T t H _ rl (h.bindE.imp λy n F1 S1 H1 z g1 q v Y=>?_));cases L:fG n i with
 |none=>rw[L]at q;exact q.elim
 |some O=>
  rw[L]at q;simp only[fE,R.bind_ok]at q;obtain⟨a,W,J,ha0,_⟩:=z.dnAt (mW L);refine⟨.ref a,J,hb F1 S1 n t H1 _ z (q.bindE.imp λk w Q S2 H2 N g2 j u Z=>?_)⟩;cases s:fG w i with
  |none=>rw[s]at j;exact j.elim
  |some o=>
   rw[s]at j;simp only[fE,R.bind_ok]at j;obtain⟨a',r,p,ha,C,_⟩:=N.dnAt (mW s);rw[J]at p;cases p;cases K:j0 k with
   |none=>rw[K]at j;exact j.elim
   |some m=>
    rw[K]at j;simp only[fE,R.bind_ok]at j;split at j
    .rename_i B;obtain⟨B,P⟩:=B;obtain⟨bb,rfl,my⟩:=vd Z K;have A:gU r (nS m)=ae:=by
      rcases C.val m with⟨x,v,h1,h2,h3⟩|⟨h1,h2⟩
      .rw[h1]at P;cases P
      .exact h2
     have bH:jw X.K H2 Q (o++[(m,y)]) (r++[(nS m,v)]):=Paired.snoc C ⟨rfl,Y.grow g2 z.fit⟩;obtain⟨r3,g3⟩:=N.updO (po':=.dN (o++[(m,y)])) (o':=.dN (r++[(nS m,v)])) (mW s) rfl J trivial λH' m1 m2 I Sa G=>⟨⟨_,I,bH.mono m1⟩,G⟩
     exact⟨a,bb,r,nS m,rfl,rfl,ha,my,A,by rw[C.len];exact d_ B jt,j Q S2 t _ r3 g3 (gM.refl _ _)⟩
    .exact j.elim
def vF:aj->R PO:=λa=>.ok (.dN []) a
theorem Jb:DN X E (.Dict [] [] f) vF:=λF S m l H Q i h=>bU BF λp a=>by
 have al:Al F F H (upd H p (.dN [])):=Al.new0 a;refine h F S _ (i.al al) al.grow p (λb=>b=p) ⟨⟨[],cB,.nil⟩,λb=>Iff.rfl⟩ λb z=>?_;subst z;refine⟨a,λz=>?_,λ⟨j,z⟩=>?_,_,cB,trivial⟩
 .obtain⟨o,q⟩:=i.ex b z;rw[a]at q;cases q
 .obtain⟨_,_,o,q,_⟩:=i.foot j b z;rw[a]at q;cases q
def l8(a:Bool)(i:Nat)(d:aj->R PV):aj->R PV:=λj=>(d j).bind λk ε1=>(a6 (fG ε1 i) ε1).bind λh ε1=>a6 ((j0 k).map λk=>.bl (a^^(valN h k).isSome)) ε1
theorem B0(i:Nat){y:Str}{o:Pos}(Z:X.A.units+64<cLine)(M:DE X E b d)(O:X.N[i]?=aa y:=by rfl)(P:gm X.env.scope y:=by eq_refl)(L:(y==("__debug__":Str))=ak:=by decide) (Y:(y==("__classdict__":Str))=ak:=by decide) (J:l_ .NotIn (.Name y o)=ak:=by rfl):DT X E (.Compare b [.NotIn] [.Name y o] f) (dB (l8 ai i d)):=λF S A z H Q D h=>by
 refine pT (HD (Ex ∅ br (iK O P L Y)) J) ?_;have r:=oJ h;unfold l8 at r;refine M F S A z H _ D ((Ok.bind r).imp λk j w s t l g1 q u C=>?_);cases n:fG j i with
 |none=>rw[n]at q;exact q.elim
 |some I=>
  rw[n]at q;simp only[fE,R.bind_ok]at q;obtain⟨a,B,T,N,K,_⟩:=l.dnAt (mW n);cases m:j0 k with
  |none=>rw[m]at q;exact q.elim
  |some p=>
   rw[m,Option.map_some]at q;obtain⟨W,rfl,G⟩:=vd C m;refine⟨.ref a,T,a,W,B,nS p,rfl,rfl,N,G,?_⟩;rcases K.val p with⟨x,v,h1,h2,h3⟩|⟨h1,h2⟩
   .rw[h1]at q;rw[h2];exact q w s t l (bg.refl ..) _ rfl
   .rw[h1]at q;rw[h2];exact q w s t l (bg.refl ..) _ rfl
end
end Pu
namespace L2
open Mx SeqAt
def cO(x:Int)(y:Str)(a:Int)(b:Str):Bool:=if x=a then decide (y.cps.toList<b.cps.toList)else decide (x<a)
theorem Ej(l b:af)(x a:Int)(y c:Str)(t u B z:Tok)(n L:Nat)(S J:Option af)(K D:Array (Option ah)):Meets (Builtin.«tuple.__lt__» ⟨[.ref l,.ref b],[]⟩) (λ_ R s=>s.heap.get? l=aa {cls:=.type "tuple",dict:=S,data:=.seq #[.int x t,.str y u] n,slots:=K}/\s.heap.get? b=aa {cls:=.type "tuple",dict:=J,data:=.seq #[.int a B,.str c z] L,slots:=D} /\ R (.ok (.ret (.bool (cO x y a c)))) s) :=
 .of_wp λprog w A R s h=>by
  obtain⟨r,g,d,j,m⟩:=s;obtain⟨N,O,h⟩:=h;have f2:=AutoSeq1.sub_tuple_tuple
  wp_walk using tu N,tu O,wT _ (λrest b G=>b.1=ae/\G=⟨r,g,d,j,m⟩/\(rest=[((Value.int x t:ah),(Value.int a B:ah)),(.str y u,.str c z)] \/ x=a/\rest=[((Value.str y u:ah),(Value.str c z:ah))]\/x=a/\y=c/\rest=[])) _
  case turn=>
   rintro⟨p,q⟩ rest b G ⟨H,rfl,f|⟨C,f⟩|⟨_,_,f⟩⟩
   .cases f;refine ap (EqAt.int_int x t a B prog w _ _ ?_);by_cases e:x=a
    .subst e;rw[beq_self_eq_true]
     wp_walk
     exact⟨rfl,rfl,.inr (.inl ⟨rfl,rfl⟩)⟩
    .rw[beq_false_of_ne e];have I:R (.ok (.ret (.bool (decide (x<a))))) ⟨r,g,d,j,m⟩:=by unfold cO at h;rwa[if_neg e]at h
     have o:∀(E:ah->am->Prop) (Q:ah->am->Prop),Q (.bool (decide (x<a))) ⟨r,g,d,j,m⟩->aq (ar prog w) A.in1 (richCompare .Lt (.int x t) (.int a B)) Q E ⟨r,g,d,j,m⟩:=λE Q h=>CmpOf.ints_lt (prog:=prog) (w:=w) (A:=A.in1) (P:=λi v=>∃t,v=.int (if i=0 then x else a) t) (λi=>if i=0 then x else a) (λi v h=>h) 0 1 _ _ _ _ _ ⟨t,rfl⟩ ⟨B,rfl⟩ (by simpa using h)
     wp_walk using o
     exact⟨_,rfl,by simpa using I⟩
   .cases f;subst C;refine ap (EqAt.str_str y u c z prog w _ _ ?_);by_cases e:y=c
    .subst e;rw[beq_self_eq_true]
     wp_walk
     exact⟨rfl,rfl,.inr (.inr ⟨rfl,rfl,rfl⟩)⟩
    .rw[beq_false_of_ne e];have I:R (.ok (.ret (.bool (decide (y.cps.toList<c.cps.toList))))) ⟨r,g,d,j,m⟩:=by unfold cO at h;rwa[if_pos rfl]at h
     have o:∀(E:ah->am->Prop) (Q:ah->am->Prop),Q (.bool (decide (y.cps.toList<c.cps.toList))) ⟨r,g,d,j,m⟩->aq (ar prog w) A.in1 (richCompare .Lt (.str y u) (.str c z)) Q E ⟨r,g,d,j,m⟩:=λE Q h=>(PyProof.Rows.lt_str h:aq (ar prog w) A.in1 (cM .Lt (.str y u) (.str c z)) Q E _)
     wp_walk using o
     exact⟨_,rfl,by simpa using I⟩
   .cases f
  case fin=>
   rintro⟨b1,b2⟩ G ⟨H,rfl,f|⟨C,f⟩|⟨C,hy,_⟩⟩
   .cases f
   .cases f
   .simp only at H;subst H C hy;have M:cO x y x y=ak:=by unfold cO;rw[if_pos rfl];exact decide_eq_false (wU _)
    rw[M]at h
    wp_walk
    exact⟨_,rfl,by simpa[Builtin.Tuple.tupleCompareSizes]using h⟩
  case h=>exact⟨rfl,rfl,.inl rfl⟩
def lN(h:ax)(k:Int×Str)(v:ah):Prop:=∃a t u,v=.ref a/\IsTup h a #[.int k.1 t,.str k.2 u]
section
variable{P:aG}{w:aC}{A:aH}{E:ah->am->Prop}{s:am}
theorem Ix{k a:Int×Str}{v i:ah}{Q:ah->am->Prop}(H:lN s.heap k v)(d:lN s.heap a i)(I:A.units<cLine)(h:Q (.bool (cO k.1 k.2 a.1 a.2)) s):aq (ar P w) A (richCompare .Lt v i) Q E s:=by
 obtain⟨l,t,u,rfl,J⟩:=H;obtain⟨b,C,B,rfl,K⟩:=d;obtain⟨⟨M,L,y,D⟩,m,p,n,o⟩:=id J;obtain⟨⟨z,f,g,c⟩,r,q,G,j⟩:=id K;simp only at p o q j;subst p o q j;exact richCompare_meets_room (op:=.Lt) ⟨_,m,rfl⟩ ⟨_,r,rfl⟩ PySem.F.slot_tuple_lt PySem.F.entry_tuple_lt (PySem.F.args_tuple_lt_2 _ _) (Ej l b k.1 a.1 k.2 a.2 t u C B n G L f D c)
  ⟨m,r,show Value.bool (cO k.1 k.2 a.1 a.2)≠Value.notImplemented/\Q (.bool (cO k.1 k.2 a.1 a.2)) s from⟨(λx=>nomatch x),h⟩⟩ I
theorem lN.keep{h c:ax}{k:Int×Str}{v:ah}(x:lN h k v)(g:∀b o,h.get? b=aa o->o.cls=.type "tuple"->c.get? b=aa o):lN c k v:=by obtain⟨a,t,u,rfl,d⟩:=x;exact⟨a,t,u,rfl,tup_kept d g⟩
theorem CG{a b c:Int×Str}(f:cO a.1 a.2 b.1 b.2=ai)(d:cO b.1 b.2 c.1 c.2=ai):cO a.1 a.2 c.1 c.2=ai:=by
 unfold cO at *;split at f <;> split at d <;> split <;> simp only[decide_eq_true_iff]at * <;> first|lia|skip
 exact List.lt_trans f d
variable{q l I S:af}{vs:List ah}{kf:Nat->Int×Str}{R:Result->am->Prop}{Q:ah->am->Prop}
def x_(P:aG)(w:aC)(A:aH)(s:am)(q:af)(vs:List ah)(kf:Nat->Int×Str):Prop:=∀(i:Nat) (v:ah),vs[i]?=aa v->∀(h:ax) (d:Nat),(∀b o,s.heap.get? b=aa o->h.get? b=aa o) ->
 aq (ar P w) A.in1 (call (.ref q) [v]) (λu f=>∃c a,f={s with heap:=c,toks:=a}/\(∀b o,h.get? b=aa o->c.get? b=aa o)/\lN c (kf i) u) (λ_ _=>False) {s with heap:=h,toks:=d}
theorem zN{a:Array ah}{c:Nat}{p:Prop}(h:(cY "list" a c).cls=.type "tuple"):p:=absurd h (by show ¬(_:ah)=_;simp[cY])
structure CB(s:am)(l I S:af)(vs:List ah)(kf:Nat->Int×Str)(j i:Nat)(h:ax):Prop where
 keep:∀b o,s.heap.get? b=aa o->h.get? b=aa o
 it:h.IsListIter I l (j+1)
 st:∃vb kb c,h.get? S=aa (cY "list" #[vb,kb] c)/\vs[i]?=aa vb/\lN h (kf i) kb
 ij:i<=j
 best:∀j',j'<=j->cO (kf j').1 (kf j').2 (kf i).1 (kf i).2=ak
theorem Ca(hh:A.handled=ae)(hu:A.units+4<cLine)(hl:s.heap.IsList l vs.toArray)(fI:s.heap.get? I=ae)(fS:s.heap.get? S=ae)(re:S≠I)(n:x_ P w A s q vs kf)(hR:∀i v N t,vs[i]?=aa v->(∀j,j<vs.length->cO (kf j).1 (kf j).2 (kf i).1 (kf i).2=ak)->(∀b o,s.heap.get? b=aa o->N.get? b=aa o)->R (.ok (.ret v)) {s with heap:=N,toks:=t}):∀(r j i:Nat) (h:ax) (Z:Nat),vs.length-(j+1)=r->j+1<=vs.length->CB s l I S vs kf j i h->k6 (ar P w) A (.builtin "min.loop" ⟨[.ref I,.ref q,.ref S],[]⟩) R {s with heap:=h,toks:=Z}:=by
 have qr:(toString "min"++toString ".loop" : String) = "min.loop":=by decide
 have hlI:l≠I:=λz=>by obtain⟨o,e,_⟩:=hl;rw[z,fI]at e;cases e
 have hlS:l≠S:=λz=>by obtain⟨o,e,_⟩:=hl;rw[z,fS]at e;cases e
 have W:=Walks.list (prog:=P) (w:=w) (A:=A.in1) hh I l hlI vs.toArray;have y:vs.toArray.size=vs.length:=bQ ..;have lk:∀{h:ax},(∀b o,s.heap.get? b=aa o->h.get? b=aa o)->h.IsList l vs.toArray:=λk=>by obtain⟨o,e,r⟩:=hl;exact⟨o,k _ _ e,r⟩
 intro r
 induction r with
 |zero=>
  intro j i h Z hr hj M;obtain⟨T,kb,c,K,m,G⟩:=M.st;refine lf Bs ?_;rw[ml om _];refine ap (tO K rfl ?_);refine ap (ql (W.done _ _ _ ⟨by rw[y,show vs.length=j+1 by lia];exact M.it,lk M.keep⟩ λN t lq=>?_));have x:=mj N S (ga λ_=>(#[]:Array ah));refine ap ?_;refine wpAny_updateSeq (lq S _ (by simpa using re) K) rfl (ap (wV (aB ?_)));refine hR i T _ _ m (λf gf=>M.best f ∅) λb o e=>?_;have nb:b≠I:=λz=>by rw[z,fI]at e;cases e
  have nb2:b≠S:=λz=>by rw[z,fS]at e;cases e
  exact(x.2 b nb2).trans (lq b o (by simpa using nb) (M.keep b o e))
 |succ r ih=>
  intro j i h Z hr hj M;obtain⟨T,kb,c,K,m,G⟩:=M.st;have aW:j+1<vs.length:=∅
  refine lf Bs ?_;rw[ml om _];refine ap (tO K rfl ?_);refine ap (ql (W.item (j+1) _ _ _ (by rw[y];exact aW) ⟨M.it,lk M.keep⟩ λv h1 Y hP et eW=>?_));have hv:vs[j+1]?=aa v:=by simpa using hP
  obtain⟨oI,eI,mw,C⟩:=id et.1;have d:∀b o,s.heap.get? b=aa o->h1.get? b=aa o:=λb o e=>eW b o (by intro z;rw[eG.mp z,fI]at e;cases e) (M.keep b o e);refine ap (ql (jG (c9 (n (j+1) v hv h1 Y d) (λu s2 he=>?_) λ_ _ hF=>hF.elim)));obtain⟨J,X,rfl,O,D⟩:=he;have p:∀b o,h.get? b=aa o->o.cls=.type "tuple"->J.get? b=aa o:=λb o e ht=>O b o (eW b o (by
   intro z;rw[eG.mp z]at e;obtain⟨o',e',c',_⟩:=M.it;rw[e]at e';cases e';rw[ht]at c';simp at c') e)
  have BB:=G.keep p;have a:∀b o,s.heap.get? b=aa o->J.get? b=aa o:=λb o e=>O b o (d b o e);have g:=O S _ (eW S _ (by simpa using re) K);have L:=O I _ eI;refine ap (ql (jG (ap (Ix (s:={s with heap:=J,toks:=X}) (A:=A.in1) D BB (show A.units+1<cLine by lia) ?_))));refine ap (jG (kl ?_));refine ap (wV (aB ?_));by_cases ji:cO (kf (j+1)).1 (kf (j+1)).2 (kf i).1 (kf i).2=ai
  .have x:=mj J S (ga λ_=>#[v,u]);obtain⟨c2,gD⟩:∃c2,(J.update S (ga λ_=>#[v,u])).get? S=aa (cY "list" #[v,u] c2):=⟨_,tR g λ_=>#[v,u]⟩
   simp only[ji,if_true];refine ap ?_;refine wpAny_updateSeq g rfl (ap (wV ?_));rw[qr];refine aB ⟨mn om _,ih (j+1) (j+1) _ _ ∅ aW ⟨λb o e=>?_,⟨oI,(x.2 I re.symm).trans L,mw,C⟩,⟨v,u,c2,gD,hv,?_⟩,aT _,λf gf=>?_⟩⟩
   .exact(x.2 b (λz=>by rw[z,fS]at e;cases e)).trans (a b o e)
   .refine D.keep λb o e ht=>(x.2 b ?_).trans e;rintro rfl;rw[g]at e;cases e;exact zN ht
   .by_cases e:f=j+1
    .subst e;cases B:cO (kf (j+1)).1 (kf (j+1)).2 (kf (j+1)).1 (kf (j+1)).2 with
     |false=>rfl
     |true=>unfold cO at B;rw[if_pos rfl,decide_eq_true_iff]at B;exact absurd B (wU _)
    .cases B:cO (kf f).1 (kf f).2 (kf (j+1)).1 (kf (j+1)).2 with
     |false=>rfl
     |true=>have:=CG B ji;rw[M.best f ∅]at this;cases this
  .have H:cO (kf (j+1)).1 (kf (j+1)).2 (kf i).1 (kf i).2=ak:=by simpa using ji
   simp only[H,jK,if_false];refine ap (wV ?_);rw[qr];refine aB ⟨mn om _,ih (j+1) i _ _ ∅ aW ⟨a,⟨oI,L,mw,C⟩,⟨T,kb,c,g,m,BB⟩,by have:=M.ij;lia,λf gf=>?_⟩⟩;by_cases e:f=j+1
   .subst e;exact H
   .exact M.best f ∅
theorem Er(X:A.handled=ae)(hu:A.units+4<cLine)(g:s.heap.IsList l vs.toArray)(cr:0<vs.length)(c:x_ P w A s q vs kf)(hQ:∀i v h' n,vs[i]?=aa v->(∀j,j<vs.length->cO (kf j).1 (kf j).2 (kf i).1 (kf i).2=ak)->(∀b o,s.heap.get? b=aa o->h'.get? b=aa o)->Q v {s with heap:=h',toks:=n}):aq (ar P w) A (call (.builtin "min") [.ref l] [(qb "key",.ref q)]) Q E s:=by
 have N:(toString "min"++toString ".loop" : String) = "min.loop":=by decide
 refine kmk_tree PySem.F.kind_min PySem.F.plain_min PySem.F.entry_min (kmk_min_key _ _) ?_;refine ap (tK (show Builtin.Builtins.bindParams "min" ["key","default"] 0 ⟨[],[(qb "key",.ref q)]⟩=pure [aa (.ref q),ae] from rfl) ?_);refine ap (aB ?_);refine ap (A8 g ?_);refine ap (wpAny_newList ?_ (jH _));rw[N];generalize h:s.heap.objs.size=I;generalize J:s.heap.push {cls:=.type "list_iterator",data:=.fields #[.ref l,.int 0 0]}=g1;have H:g1.get? I=aa {cls:=.type "list_iterator",data:=.fields #[.ref l,.int 0 0]}:=by rw[<-J,<-h];exact bW _ rfl
 have G:∀b o,s.heap.get? b=aa o->g1.get? b=aa o:=λb o e=>by rw[<-J];exact a8 _ e
 have d:g1.objs.size=I+1:=by rw[<-J,<-h];exact gz ..
 generalize hS:g1.objs.size=S at d;have K:s.heap.get? I=ae:=sY (by rw[<-h];exact aT _);have fS:s.heap.get? S=ae:=sY (by rw[h,d];exact tF _);have t:S≠I:=by rw[d];exact Nat.succ_ne_self _
 refine aB ⟨mn om _,?_⟩;have O:∀b o,s.heap.get? b=aa o->(g1.push (cY "list" #[] 0)).get? b=aa o:=λb o e=>a8 _ (G b o e);have gS:(g1.push (cY "list" #[] 0)).get? S=aa (cY "list" #[] 0):=by rw[<-hS];exact bW _ rfl
 have gI:(g1.push (cY "list" #[] 0)).get? I=aa {cls:=.type "list_iterator",data:=.fields #[.ref l,.int 0 0]}:=a8 _ H;have C:l≠I:=λz=>by obtain⟨o,e,_⟩:=g;rw[z,K]at e;cases e
 have W:=Walks.list (prog:=P) (w:=w) (A:=A.in1) X I l C vs.toArray;have x:vs.toArray.size=vs.length:=bQ ..;refine lf Bs ?_;rw[ml om _];refine ap (tO gS rfl ?_);refine ap (ql (W.item 0 _ _ _ (by rw[x];exact cr) ⟨⟨_,gI,rfl,rfl⟩,(let ⟨o,e,r⟩:=g;⟨o,O _ _ e,r⟩)⟩ λv Z m hP et eW=>?_));have T:vs[0]?=aa v:=by simpa using hP
 obtain⟨oI,eI,mw,B⟩:=id et.1;have a:∀b o,s.heap.get? b=aa o->Z.get? b=aa o:=λb o e=>eW b o (by intro z;rw[eG.mp z,K]at e;cases e) (O b o e);refine ap (ql (jG (c9 (c 0 v T Z m a) (λu s2 he=>?_) λ_ _ hF=>hF.elim)));obtain⟨Y,tk2,rfl,M,D⟩:=he;have f:=M S _ (eW S _ (by simpa using t) gS);have p:=mj Y S (ga λ_=>#[v,u]);obtain⟨L,gD⟩:∃L,(Y.update S (ga λ_=>#[v,u])).get? S=aa (cY "list" #[v,u] L):=⟨_,tR f λ_=>#[v,u]⟩
 refine ap ?_;refine wpAny_updateSeq f rfl ?_;rw[N];refine aB ⟨mn om _,Ca X hu g K fS t c hQ _ 0 0 _ _ rfl cr ⟨λb o e=>?_,⟨oI,(p.2 I t.symm).trans (M I _ eI),mw,B⟩,⟨v,u,L,gD,T,?_⟩,aT _,λj' gf=>?_⟩⟩
 .exact(p.2 b (λz=>by rw[z,fS]at e;cases e)).trans (M b o (a b o e))
 .refine D.keep λb o e ht=>(p.2 b ?_).trans e;rintro rfl;rw[f]at e;cases e;exact zN ht
 .obtain rfl:j'=0:=∅
  cases y:cO (kf 0).1 (kf 0).2 (kf 0).1 (kf 0).2 with
  |false=>rfl
  |true=>unfold cO at y;rw[if_pos rfl,decide_eq_true_iff]at y;exact absurd y (wU _)
end
open Att
section
variable{a:aG}{w:aC}{A:aH}{E:ah->am->Prop}{s:am}
structure uC(x:Str)(params:nU)(scope:cy):Prop where
 bind:∀(name qual:Str) (body:ay) (cl:List (Str×af)) (pm aN ct v:ah),ef (PySem.W.kla_fn name qual params body scope cl pm aN ct) ⟨[v],[]⟩=pure [(x,v)]
 lx:scope.names.lookup x=aa .local
 ly:scope.names.lookup ("len" : Str)=aa .globalImplicit
 nc:∀z∈scope.names,z.2≠.cell
 co:scope.isCoroutine=ak
 gen:scope.isGenerator=ak
 kind:scope.kind=.function
 dx:(x==("__debug__":Str))=ak
abbrev wa(x:Str)(k:Nat)(g f d c b:Pos):ay:=.Tuple [.Call (.Name "len" g) [.Name x f] [] d,.Name x c] k b
theorem Dy{f B:af}{x g:Str}{c:nU}{d:cy}{k:Nat}{K J I H G:Pos}{j:List (Str×af)}{D p:ah}{z:Str}{t:Tok}{q:Str->Option ah}{Q:ah->am->Prop}(L:uC x c d)(Y:A.depth<ti) (M:s.heap.get? f=aa (wS "<lambda>" g c (wa x k K J I H G) d j D B p)) (X:s.heap.CodeRec (.ref B) g) (m:s.heap.NoLimit)(O:s.heap.Ns bG q) (N:q "len"=ae) (P:∃l,s.heap.Ns kW l/\l "len"=aa (.builtin "len")) (y:z.length<=aY)(h:∀n C u,(∀b o,s.heap.get? b=aa o->n.get? b=aa o)->lN n ((z.length:Nat),z) u->Q u {s with heap:=n,toks:=C}):aq (ar a w) A (call (.ref f) [.str z t]) Q E s:=by refine wpAny_call (PySem.W.kla_callFunE Y M rfl L.co L.gen rfl X ?_);rw[L.bind];refine aB (wpAny_newFunctionEnv L.nc (λz y=>by rw[eG.mp y];exact L.lx) (λi r S=>?_) L.kind);have keep:∀b o,s.heap.get? b=aa o->i.get? b=aa o:=λb o e=>(S.2 b (cC (bj e))).trans (a8 _ e);refine⟨m.keeps keep,PySem.W.kla_codeExpr ?_⟩;obtain⟨l,W,T⟩:=P;have Z:=o9;refine wpAny_Tuple_spliced ?_;refine tj ?_;refine tp (AO L.kind L.ly (Calls.loadGlobal_builtin (O.keeps keep) N (W.keeps keep) T ?_));refine Jh (tj (sZ (AN L.kind L.lx r (v:=.str z t) (by simp) (wu ?_)) L.dx)) rfl rfl;refine len_str ∅ ?_;refine tj (sZ (AN L.kind L.lx r (v:=.str z t) (by simp) (wu ?_)) L.dx);refine⟨by rw[kZ];simp,?_⟩;exact h _ _ _ (λb o e=>a8 _ (keep b o e)) ⟨_,_,_,rfl,⟨_,bW _ rfl,rfl,_,rfl⟩⟩
end
section
variable{X:Cx}{g:List (af×Obj)}{d:St}{H:Hp}{s:am}
def Ho(i:TA):TE:=λd H Q=>i d H λj h=>∃(a:af) (c:List Str),j=[.ref a]/\Rd h a (.lst (c.map .str))/\c≠[]/\(∀x∈c,x.length<=aY) /\
 ∀x f,x∈c->(∀y∈c,cO (y.length:Nat) y (x.length:Nat) x=ak)->(∀b o,h b=aa o->f b=aa o)->Q (.str x) f
theorem Gw{z x n:Str}{p0:Pos}{c P:af}{l:nU}{r:cy}{k:Nat}{p p1 p2 p3 p4 p5 J kp G:Pos}{ta:TA}(hc:X.calm=ai)(hr:X.A.depth+1<ti)(hu:X.A.units+8<cLine)(LA:rN X n c P)(LO:uC x l r)(hq:X.env.qual++"<lambda>"=n++".<locals>.<lambda>")(qI:tE r X.env=pure []) (qx:defaultsOf l X.env=([],[]))(hg:Gl X "min") (hm:X.mg "min"=ae) (N:X.mg "len"=ae) (ha:PA X [.Name z p0] ta):PE X (.Call (.Name "min" p) [.Name z p0] [⟨aa "key",.Lambda l (wa x k p1 p2 p3 p4 p5) r J,kp⟩] G) (Ho ta):=by
 intro g s d H Q I h;refine tp (l0 I hg hm (show c8 "min"=aa (.builtin "min") by kernel_rfl) ?_ (by decide) (by decide));refine callWith_kw (aO (ha G g s d H _ I h) λus s1 ⟨vs,H1,I1,r1,q⟩=>?_);obtain⟨a,A,rfl,hA,cr,aZ,hQ⟩:=q;obtain⟨u,rfl⟩:∃u,us=[u]:=by
  cases r1 with
  |cons _ t=>cases t;exact⟨_,rfl⟩
 obtain rfl:u=.ref a:=by
  cases r1 with
  |cons z _=>exact z
 refine kws_cons (HN I1 LA hq qI qx λf c' ctv Z s2 w D hf hfL ud hcL=>kws_nil ?_);have T:Rd Z a (.lst (A.map .str)):=hA.elim (λz=>.inl (D _ _ z)) λ⟨o,z⟩=>.inr ⟨o,D _ _ z⟩;obtain⟨m,je,hl⟩:=id w.loc;obtain⟨zl,E,n0,rv,eL⟩:=T.ok w.hok;have B:E.length=A.length:=by rw[<-rv.length,fg]
 have L:∀(i:Nat) (v:ah),E[i]?=aa v->∃x t,A[i]?=aa x/\v=.str x t:=λi v K=>by obtain⟨xv,C,rx⟩:=z0 rv K;rw[iY]at C;obtain⟨x,qU,rfl⟩:=tX.mp C;obtain⟨t,rfl⟩:=rx;exact⟨x,t,qU,rfl⟩
 obtain⟨mb,kG,S⟩:=w.mod.blt;have O:mb "len"=aa (.builtin "len"):=(S "len" (by decide)).trans (show c8 "len"=aa (.builtin "len") by kernel_rfl);show aq _ _ (call (.builtin "min") [.ref a] [(qb "key",.ref f)]) _ _ _;refine Er (vs:=E) (kf:=λi=>(((A.getD i eU).length:Nat),A.getD i eU)) (w.ok.hd hc) ∅ ⟨_,eL,rfl,n0,rfl⟩ (by rw[B];exact List.length_pos_iff.mpr cr) (λi v K W tk k=>?_) λi v W tk K jR k=>?_
 .obtain⟨x,t,C,rfl⟩:=L i v K;have Y:A.getD i eU=x:=by simp[C]
  dsimp only;rw[Y];obtain⟨cc,oc,vc,tc,z,ec,rc⟩:=ud;cases z;refine Dy (s:={s2 with heap:=W,toks:=tk}) LO (Nat.lt_of_succ_lt hr) (k _ _ hf) ⟨_,oc,vc,tc,rfl,k _ _ ec,rc⟩ (w.mod.nolimit.keeps λb o e=>k b o (w.bk b o e)) ((w.mod.glob.keeps w.bk).keeps k) N ⟨mb,(kG.keeps w.bk).keeps k,O⟩ (aZ x (tq C)) λh2 M u k2 hu=>?_;exact⟨h2,M,rfl,k2,hu⟩
 .obtain⟨x,t,C,rfl⟩:=L i v K;have Y:A.getD i eU=x:=by simp[C]
  refine⟨.str x,Z,?_,⟨t,rfl⟩,hQ x Z (tq C) (λy hy=>?_) D⟩
  .have:W.Ns X.env.locals m:=je.keeps k;exact w.mapKept je this λb o _ e=>k b o e
  .obtain⟨j,hj⟩:=List.mem_iff_getElem?.mp hy;have:=jR j (by rw[B];exact(cD.mp hj).1);have ey:A.getD j eU=y:=by simp[hj]
   rw[Y,ey]at this;exact this
end
end L2
namespace Pu
open L2
def bo(x y:Tx):Bool:=if x.length=y.length then decide (x<y)else decide (x.length<y.length)
def kP:List Tx->Option Tx
 |[]=>ae
 |x::r=>aa (r.foldl (λb y=>if bo y b then y else b) x)
theorem E6(x:Tx):bo x x=ak:=by unfold bo;rw[if_pos rfl];exact decide_eq_false (wU x)
theorem vz{x y z:Tx}(b:bo x y=ai)(a:bo y z=ai):bo x z=ai:=by
 unfold bo at *;split at b <;> split at a <;> split <;> simp only[decide_eq_true_iff]at * <;> first|lia|skip
 exact List.lt_trans b a
theorem u7{x y:Tx}(b:bo x y=ak)(a:bo y x=ak):x=y:=by
 unfold bo at *;split at b
 .rename_i e;rw[if_pos e.symm]at a;simp only[decide_eq_false_iff_not]at b a;exact List.le_antisymm (List.not_lt.mp a) (List.not_lt.mp b)
 .rename_i e;rw[if_neg (λz=>e z.symm)]at a;simp only[decide_eq_false_iff_not]at b a;lia
theorem y9(r:List Tx):∀b:Tx,(r.foldl (λb y=>if bo y b then y else b) b∈b::r)/\∀y∈b::r,bo y (r.foldl (λb y=>if bo y b then y else b) b)=ak:=by
 induction r with
 |nil=>intro b;exact⟨by simp,λy d=>by simp at d;subst d;exact E6 y⟩
 |cons c r n=>
  intro b;rw[mi];obtain⟨l,i⟩:=n (if bo c b then c else b);refine⟨?_,λy d=>?_⟩
  .rcases bw.mp l with h|h
   .rw[h];split <;> simp
   .simp[h]
  .generalize r.foldl (λb y=>if bo y b then y else b) (if bo c b then c else b)=m at l i;have a:=i _ (iT ..);cases f:bo y m with
   |false=>rfl
   |true=>
    rcases bw.mp d with rfl|d
    .by_cases g:bo c y=ai
     .rw[if_pos g]at a;rw[vz g f]at a;cases a
     .rw[if_neg g]at a;rw[f]at a;cases a
    .rcases bw.mp d with rfl|d
     .by_cases g:bo y b=ai
      .rw[if_pos g]at a;rw[f]at a;cases a
      .rw[if_neg g]at a;have o:bo y b=ak:=by simpa using g
       by_cases j:bo b y=ai
       .rw[vz j f]at a;cases a
       .rw[u7 o (by simpa using j)]at f;rw[f]at a;cases a
     .rw[i y (by simp[d])]at f;cases f
theorem zI{a:List Tx}{x:Tx}(h:x∈a)(c:∀y∈a,bo y x=ak):kP a=aa x:=by
 cases a with
 |nil=>cases h
 |cons b r=>obtain⟨f,d⟩:=y9 r b;show aa _=aa x;congr 1;exact u7 (c _ f) (d x h)
theorem GM(x y:Tx):cO ((tS x).length:Nat) (tS x) ((tS y).length:Nat) (tS y)=bo x y:=by
 unfold cO bo;have b:(tS x).length=x.length:=by simp[tS,k_]
 have a:(tS y).length=y.length:=by simp[tS,k_]
 rw[b,a];simp only[kQ,Int.natCast_inj,Int.ofNat_lt]
def mX(i:Nat):aj->R PV:=λa=>(a6 (gn a i) a).bind λb a=>a6 ((eQ b).bind λc=>(kP c).map .str) a
section
variable{X:Cx}{E:XK}
theorem C7(i:Nat){z x n:Str}{c P:af}{d:nU}{f:cy}{k:Nat}{p W T O N M L j Y q:Pos}(hc:X.calm=ai)(hr:X.A.depth+1<ti)(hu:X.A.units+64<cLine)(LA:rN X n c P)(hm:X.mg "min"=ae)(u:X.mg "len"=ae)(hq:X.env.qual++"<lambda>"=n++".<locals>.<lambda>":=by rfl) (K:tE f X.env=pure []:=by rfl)(LO:uC x d f:=by exact⟨λ_ _ _ _ _ _ _ _=>rfl,rfl,rfl,by decide,rfl,rfl,rfl,by decide⟩)(hN:X.N[i]?=aa z:=by rfl) (h8:gm X.env.scope z:=by eq_refl) (hd:(z==("__debug__":Str))=ak:=by decide) (bY:(z==("__classdict__":Str))=ak:=by decide)(J:defaultsOf d X.env=([],[]):=by rfl) (hg:Gl X "min":=by rfl):DE X E (.Call (.Name "min" p) [.Name z W] [⟨aa "key",.Lambda d (wa x k T O N M L) f j,Y⟩] q) (mX i):=λF S D σ H Q A h=>by
 unfold mX at h;cases w:gn D i with
 |none=>rw[w]at h;exact h.elim
 |some G=>
  rw[w]at h;simp only[fE,R.bind_ok]at h;cases v:eQ G with
  |none=>rw[v]at h;exact h.elim
  |some s=>
   rw[v,hU]at h;cases l:kP s with
   |none=>rw[l]at h;exact h.elim
   |some r=>
    rw[l]at h;simp only[Option.map_some,fE]at h;obtain rfl:=oF v;obtain⟨a,ea,⟨us,ha,I⟩,_⟩:=A.own i _ (kT w);obtain⟨rfl,B⟩:=JA.mp I;refine bU (Gw hc hr ∅ LA LO hq K J hg hm u (gT (iK hN h8 hd bY) ju (by rfl))) ?_;refine⟨_,ea,a,s.map tS,rfl,.inl ?_,λz=>?_,λy t=>?_,λy C t Z m=>?_⟩
    .rw[ha,hV];rfl
    .rw[List.map_eq_nil_iff]at z;subst z;cases l
    .obtain⟨y,g,rfl⟩:=eF.mp t;have:=B y g;have e:(tS y).length=y.length:=by simp[tS,k_]
     rw[e];exact bX this jt
    .obtain⟨y,g,rfl⟩:=eF.mp t;have:kP s=aa y:=zI g λz hz=>by have:=Z (tS z) (eF.mpr ⟨z,hz,rfl⟩);rwa[GM]at this
     rw[this]at l;cases l;have al:Al F F H C:=⟨λ_ z=>z,λb o e=>m b o e,λ_ z=>.inl z⟩
     exact h F S C (A.al al) al.grow (tV r) ⟨rfl,B r g⟩
end
end Pu
namespace L2
open SeqAt
theorem IY{a:Type}{M:Model}{A:aH}{E:ah->am->Prop}{s:am}{Q:a->am->Prop}{n:Nat}{f:Nat->a->Sem (ForInStep a)}{b:a}(h:aq M A (forIn (List.range' 0 n 1) b f) Q E s):aq M A (forIn ([0:n]:JX) b f) Q E s:=by rw[Std.Legacy.Range.forIn_eq_forIn_range'];simpa[Std.Legacy.Range.size]using h
theorem IB(l:af)(a:Array ah)(n:Nat)(I:Option af)(t:Array (Option ah))(x:ah)(e:ah->Bool)(j:Nat)(L:j<a.size)(H:e a[j]=ai)(G:∀m (K:m<a.size),m<j->e a[m]=ak):Meets (Builtin.«tuple.index» ⟨[.ref l,x],[]⟩) (λA R s=>s.heap.get? l=aa {cls:=.type "tuple",dict:=I,data:=.seq a n,slots:=t}/\(∀y,y∈a->EqAt A.in1 s y x (e y))/\R (.ok (.ret (.int j s.toks))) {s with toks:=s.toks+1}) :=
 .of_wp λf w A R s h=>by
  obtain⟨v,g,d,r,u⟩:=s;obtain⟨z,D,h⟩:=h
  wp_walk using tu z,IY
  refine wT _ (λrest (b:Option Fin×Unit) o=>b.1=ae/\o=⟨v,g,d,r,u⟩/\∃i,i<=j/\rest=List.range' i (a.size-i) 1) _ ?_ ?_ _ _ ⟨rfl,rfl,0,jH _,by simp⟩
  .rintro i rest b o ⟨E,rfl,k,B,c⟩;have p:a.size-k=(a.size-k-1)+1:=∅
   rw[p,List.range'_succ]at c;injection c with hi c;subst hi;have q:i<a.size:=∅
   have C:a[i]?=aa a[i]:=tN q;rw[C];dsimp only;refine ap (D a[i] (Array.getElem_mem q) f w _ _ ?_);by_cases J:i=j
   .subst J;rw[H]
    wp_walk
    exact⟨_,rfl,h⟩
   .rw[G i q ∅]
    wp_walk
    exact⟨rfl,rfl,i+1,∅,by rw[c];congr 1⟩
  .rintro b o ⟨E,rfl,k,B,c⟩;have:a.size-k=0:=by have:=congrArg me c;simpa using this.symm
   lia
section
variable{X:Cx}
def Iw(K:au):V->List V->Hp->VK->Prop:=λx b H Q=>∃(p:af) (a:List V) (y:V) (j:Nat),x=.ref p/\b=[y]/\bO K H p a/\d8 y=ai/\a.all d8=ai/\j<a.length /\
 (∀z,a[j]?=aa z->cg z y=ai)/\(∀(i:Nat) z,i<j->a[i]?=aa z->cg z y=ak)/\Q (.int j) H
theorem Hm:p6 X "tuple.index" (Iw X.K):=by
 intro ag s Z H x vs v us Q I D E h;obtain⟨p,d,y,j,rfl,rfl,N,S,z,hj,P,O,q⟩:=h;cases D;obtain⟨u,rfl,G⟩:=E.one;obtain⟨a,r,⟨⟨Y,W,B,C⟩,e,t,n,o⟩,hz⟩:=I.tuple N;simp only at t o;subst t o;have hl:a.length=d.length:=r.length.symm;have c:∀(i:Nat) (l:i<a.toArray.size),∃w,d[i]?=aa w/\gu y a.toArray[i]=cg w y:=λi l=>by
  have K:i<a.length:=by simpa using l
  have A:d[i]?=aa d[i]:=eE ∅;obtain⟨w,b,J⟩:=r.get A;have T:a[i]=w:=by rw[eE K]at b;exact dO b
  refine⟨_,A,?_⟩;rw[<-rG J (lh.mp z _ (A_ _))];simp[T]
 refine tx F.slot_tuple_index ⟨_,e,rfl⟩ F.entry_tuple_index (F.args_tuple_index_2 _ _) (IB p a.toArray n W C u (gu y) j (by simp;lia) ?_ ?_) ⟨e,λw L=>mR G S r z w (by simpa using L),?_⟩
 .obtain⟨w,b,f⟩:=c j (by simp;lia);rw[f];exact P w b
 .intro m M g;obtain⟨w,b,f⟩:=c m M;rw[f];exact O m w g b
 .exact⟨.int _,H,I.tok _,⟨_,rfl⟩,q⟩
end
end L2
namespace Pu
open L2
section
variable{X:Cx}{E:XK}{pin:List Nat}{e o:ay}{d de:aj->R PV}{y:Str}
theorem EH{b a:Pos}(Z:DE X E o d)(he:DE X E e de)(Y:mh o "index" X.env (aK o X.env)=aK o X.env:=by rfl)(P:(b.endLine == a.line)=ai:=by rfl) (et:j9 e=ak:=by rfl):DE X E (.Call (.Attribute o "index" b) [e] [] a) (lG nE d de):=λF S I u H Q N h=>by
 have s:=jm (es:=[]) (env:=X.env) et;refine bU (xp PySem.F.slot_tuple_index PySem.F.type_tuple_index Hm br (gT br ju s) Y (by rw[s];rfl) P s rfl) (Z F S I u H _ N ((Ok.bind h).imp λx g F1 S1 H1 m g1 t v L=>?_));split at t
 .rename_i J;obtain⟨p,A,rfl,B,M⟩:=L;refine⟨⟨p,A,rfl,B⟩,he F1 S1 g u H1 _ m ((Ok.bind t).imp λk G F2 S2 H2 O D q w l=>?_)⟩;unfold nE at q;cases c:b7 k with
  |none=>rw[c]at q;exact q.elim
  |some z=>
   cases r:fA J with
   |none=>rw[c,r]at q;exact q.elim
   |some K=>
    rw[c,r]at q;cases n:K.findIdx? (λy=>cg y z)with
    |none=>rw[hU,hU,n]at q;exact q.elim
    |some j=>
     rw[hU,hU,n]at q;obtain⟨rfl,hf⟩:=lA (M.grow D m.fit) r;rw[gk l c];obtain⟨C,W,T⟩:=Jj.mp n;refine⟨p,A,z,j,rfl,rfl,bO.of (D.imm m.fit B id),mK c,hf,C,λy f=>?_,λi y hi f=>?_,q F2 S2 H2 O (bg.refl ..) _ rfl⟩
     .rw[eE C]at f;cases f;exact W
     .have:=T i hi;rw[eE ∅]at f;cases f;simpa using this
 .exact t.elim
def yT:V->List V->Hp->VK->Prop:=λx a H Q=>∃y c,x=tV y/\a=[tV c]/\Q (.bl (decide (c <:+ y))) H
theorem IG(y c:Tx):Txt.endswith (tS y) (tS c)=decide (c <:+ y):=by
 have f:(tS y).length=y.length:=by simp[tS,k_]
 have b:(tS c).length=c.length:=by simp[tS,k_]
 unfold Txt.endswith Builtin.Str.subAt;rw[f,b,kY,eV,decide_eq_true_iff,decide_eq_true_iff,beq_iff_eq];have g:(tS y).cps.extract (y.length-c.length) (y.length-c.length+c.length)=(tS c).cps↔(y.drop (y.length-c.length)).take c.length=c:=by show y.toArray.extract _ _=c.toArray↔_;rw[<-Array.toList_inj];simp[List.extract_eq_take_drop]
 rw[g];constructor
 .rintro⟨h,a⟩;have:y.drop (y.length-c.length)=c:=by rw[kt (by simp;lia)]at a;exact a
  rw[<-this];exact List.drop_suffix _ _
 .rintro⟨p,rfl⟩;refine⟨by simp,?_⟩;simp
theorem B5:sV X "str.endswith" yT:=by intro l s f H x g v i Q I a b h;obtain⟨y,c,rfl,rfl,q⟩:=h;obtain⟨t,rfl⟩:=a;obtain⟨u,rfl,j,rfl⟩:=vals1 b;exact SC.endswith ⟨.bl _,H,I.tok _,(by rw[IG];rfl),q⟩
def oM(y:Tx):List PV->Option PV
 |[.str c]=>aa (.bl (decide (c <:+ y)))
 |_=>ae
theorem Ik{K:au}:PM K yT oM:=λF H y b f Q pv g a e q=>by
 unfold oM at e;split at e
 .rename_i c;cases e;obtain⟨v,rfl,rfl,_⟩:=fz a;exact⟨y,c,rfl,rfl,q _ F H (Al.refl ..) rfl⟩
 .cases e
end
end Pu
namespace L2
section
variable{X:Cx}
def GH(K:au):V->List V->Hp->VK->Prop:=λx b H Q=>∃(p:af) (a:List V) (y:V),x=.ref p/\b=[y]/\bK K H p a/\d8 y=ai/\a.all d8=ai/\Q (.int ((a.countP λz=>cg z y:Nat):Int)) H
theorem IT:p6 X "list.count" (GH X.K):=by
 intro K s B H x D v E Q I j l h;obtain⟨p,C,y,rfl,rfl,t,z,f,q⟩:=h;cases j;obtain⟨u,rfl,m⟩:=l.one;obtain⟨b,r,⟨⟨A,J,g,i⟩,n,e,d,a,c⟩,G⟩:=I.list t;simp only at d c a;subst d c a;refine tx F.slot_list_count ⟨_,e,rfl⟩ F.entry_list_count (F.args_list_count_2 _ _) (SeqAt.list_countAt p b.toArray n ae i u (gu y)) ⟨e,λw o=>mR m z r f w (by simpa using o),?_⟩;exact⟨.int _,H,I.tok _,⟨_,by rw[wI,vW r f]⟩,q⟩
end
end L2
namespace Pu
open L2
section
variable{X:Cx}{E:XK}{pin:List Nat}{e o:ay}{d de:aj->R PV}{y:Str}
def sO(f:List PV->PV->Option PV)(d de:aj->R PV):aj->R PV:=λε=>(d ε).bind λx b=>match x with
 |.lst c=>(de b).bind λk a=>a6 (f c k) a
 |_=>.no
theorem DC{b a:Pos}(Y:DE X E o d)(he:DE X E e de)(W:mh o "count" X.env (aK o X.env)=aK o X.env:=by rfl)(T:(b.endLine == a.line)=ai:=by rfl) (et:j9 e=ak:=by rfl):DE X E (.Call (.Attribute o "count" b) [e] [] a) (sO j4 d de):=λF S M B H Q O h=>by
 have u:=jm (es:=[]) (env:=X.env) et;refine bU (sH Bf PySem.F.slot_list_count PySem.F.type_list_count IT br (gT br ju u) W (by rw[u];rfl) T u rfl) (Y F S M B H _ O ((Ok.bind h).imp λx l K S1 I j g1 i v N=>?_));split at i
 .rename_i m;obtain⟨p,C,rfl,D,hF,s⟩:=N;refine⟨.inl ⟨rfl,_,.inl D⟩,he K S1 l B I _ j ((Ok.bind i).imp λk L J S2 G P A q w n=>?_)⟩;unfold j4 at q;cases g:b7 k with
  |none=>rw[g]at q;exact q.elim
  |some z=>
   cases f:fA m with
   |none=>rw[g,f]at q;exact q.elim
   |some ws=>
    rw[g,f]at q;obtain⟨rfl,Z⟩:=lA (s.grow A j.fit) f;rw[gk n g];have t:aJ X.K G J (.lst m) (.ref p):=aJ.grow A j.fit (show aJ X.K I K (.lst m) (.ref p)from⟨p,C,rfl,D,hF,s⟩);obtain⟨p',c,e',fO,_,r⟩:=t;cases e';have e2:c=C:=by have i:=(lA r f).1;have h2:=(lA (s.grow A j.fit) f).1;rw[i,h2]
    subst e2;exact⟨p,c,z,rfl,rfl,.inl fO,mK g,Z,q J S2 G P (bg.refl ..) _ rfl⟩
 .exact i.elim
end
def mO:PV->PV->Option PV
 |.tup [],.tup b=>aa (.tup b)
 |.tup (x::a),.tup []=>if a.length<1000 then aa (.tup (x::a))else ae
 |x,y=>bT x y
theorem xD{K:au}:P2 K (λx y H Q=>vT K x y H Q\/rO K x y H Q) mO:=λF H x y v u Q pv d c e q=>by
 unfold mO at e;split at e
 .cases e;obtain⟨a,i,rfl,g,j⟩:=d;obtain⟨b,h,rfl,f,l⟩:=id c;rw[show i=[] from j]at g;exact .inl ⟨a,b,h,rfl,rfl,bO.of g,bO.of f,q _ F H (Al.refl ..) c⟩
 .split at e
  .rename_i n;cases e;obtain⟨a,i,rfl,g,j⟩:=id d;obtain⟨b,h,rfl,f,l⟩:=id c;rw[show h=[] from l]at f;have m:=j.len;refine .inr (.inr (.inl ⟨a,b,i,[],rfl,rfl,bO.of g,bO.of f,?_,?_,λ_=>q _ F H (Al.refl ..) d,λz=>absurd rfl z⟩))
   .rintro rfl;simp at m
   .rw[m,kZ];simp;lia
  .cases e
 .exact .inr (gL F H _ _ v u Q pv d c e q)
end Pu
local macro_rules | `(tactic| simp! [$xs,*]) => `(tactic| simp [Pu.bi, Pu.eM, Pu.dB, Pu.d2, Pu.d1, Pu.dV, Pu.dC, Pu.dL, Pu.dF, Pu.aF, Pu.aV, Pu.cm, Pu.oQ, Pu.dH, Pu.lY, Pu.bD, Pu.gV, Pu.gO, Pu.b_, Pu.jl, Pu.g6, Pu.cz, Pu.fH, Pu.gh, Pu.R.bind, Pu.a6, Pu.bF, Pu.fe, Pu.bI, Pu.back, Pu.gR, Pu.lv, Pu.Hr, Pu.C6, Pu.HM, Pu.Gz, Pu.bR, Pu.u8, Pu.gs, Pu.gv, Pu.ff, Pu.JW, Pu.sP, Pu.JT, Pu.lz, Pu.Af, Pu.Cv, Pu.uf, Pu.j3, Pu.JN, Pu.ni, Pu.fU, Pu.gn, Pu.pq, Pu.sx, Pu.oY, Pu.imm, Pu.JQ, Pu.m9, cQ, me, $xs,*])
local macro_rules | `(⇑$x) => `(.val (.int $x))
local macro_rules | `(↥$x) => `(.val (.str $x))
namespace Sh
open L2 Pu
set_option genInjectivity false in
structure Ad where
 SlitError:af
 NoText:af
 NoWidth:af
 NoView:af
 NoWindow:af
 Never:af
 Full:af
 Nothing:af
 Unlike:af
 NoPlace:af
 NoLetters:af
 BadText:af
 Seeker:af
 Slit:af
def yah(a:Ad):aj->R aQ:=cm (dL nA (aF (dF (dr [1] (dG (dV 0)) (dJ) (d2 (mS ak) (dV 0) (dV 1)))) (aV)))
def pQ(a:Ad):aj->R Slot:=bF 2 [] (bI 0 (yah a))
def yal(a:Ad):aj->R aQ:=cm (j3 (dL fF (aF (dV 0) (aF (dC (.raw (.ty "int"))) (aV)))) (Af (dL fF (aF (dV 0) (aF (dC (.raw (.ty "bool"))) (aV))))))
def rn(a:Ad):aj->R Slot:=bF 1 [] (bI 0 (yal a))
def yam(a:Ad):aj->R aQ:=cm (j3 (bR (bD (rn a) (gV (dV 0) (b_)))) (ni (fU λi j=>decide (i<=j)) (fU λi j=>decide (i<=j)) (dC (.int 1)) (dV 0) (dC (.int 4))))
def nM(a:Ad):aj->R Slot:=bF 1 [] (bI 0 (yam a))
def yan(a:Ad):aj->R aQ:=cm (j3 (dL fF (aF (dV 0) (aF (dC (.raw (.ty "str"))) (aV)))) (j3 (d2 (eqT ak) (dL bJ (aF (dV 0) (aV))) (dV 1)) (bR (bD (pQ a) (gV (dV 0) (gV (dV 2) (b_)))))))
def nH(a:Ad):aj->R Slot:=bF 3 [] (bI 0 (yan a))
def yae(a:Ad):aj->R aQ:=bi (eM (uf (lz (dB (dL fF (aF (dV 0) (aF (dC (.raw (.ty "tuple"))) (aV)))))) (lz (dB (ni (fU λi j=>decide (i<=j)) (fU λi j=>decide (i<=j)) (dC (.int 1)) (dL bJ (aF (dV 0) (aV))) (dC (.int 9)))))) (cm (dC (.bl ak))) (ff))
 (bi (eM (lz (dB (dL nA (aF (dF (dr [1,2] (dG (dV 0)) (dJ) (bR (bD (nH a) (gV (dV 0) (gV (dV 1) (gV (dV 2) (b_)))))))) (aV))))) (cm (dC (.bl ak))) (ff))
 (cm (d2 (eqT ak) (dF (dL sm (aF (dV 0) (aV)))) (dF (dL nz (aF (dV 0) (aV)))))))
def kN(a:Ad):aj->R Slot:=bF 3 [] (bI 0 (yae a))
def yak(a:Ad):aj->R aQ:=bi (eM (uf (lz (dB (dL fF (aF (dV 0) (aF (dC (.raw (.ty "tuple"))) (aV)))))) (dB (d2 (eqT ai) (dL bJ (aF (dV 0) (aV))) (dC (.int 2))))) (cm (dC (.bl ak))) (ff))
 (cm (j3 (bR (bD (nM a) (gV (d2 bZ (dV 0) (dC (.int 0))) (b_)))) (bR (bD (kN a) (gV (d2 bZ (dV 0) (dC (.int 1))) (gV (d2 bZ (dV 0) (dC (.int 0))) (gV (dV 1) (b_))))))))
def nr(a:Ad):aj->R Slot:=bF 2 [] (bI 0 (yak a))
def yaj(a:Ad):aj->R aQ:=oQ (bD (nr a) (gV (dV 0) (gV (dC (.str [97,98,99])) (b_))))
def sr(a:Ad):aj->R Slot:=bF 1 [] (bI 0 (yaj a))
def yag(a:Ad):aj->R aQ:=eM (lz (dB (bR (bD (sr a) (gV (dV 0) (b_)))))) (uD (.ref a.NoView) (λb=>c0 ((dC (.str [97,32,118,105,101,119,32,105,115,32,97,32,116,117,112,108,101,32,111,102,32,97,32,119,105,100,116,104,32,97,110,100,32,97,32,114,105,115,105,110,103,32,116,117,112,108,101,32,111,102,32,49,32,116,111,32,57,32,119,105,110,100,111,119,115])) b))) (ff)
def lO(a:Ad):aj->R Slot:=bF 1 [] (bI 0 (yag a))
def yad(a:Ad):aj->R aQ:=bi (λb=>eN (eZ 2 (dL oN (aF (d2 jy (dL bJ (aF (dV 1) (aV))) (dC (.int 1))) (aF (dC (.int 0)) (aF (d1 pc (dC (.int 1))) (aV))))) (eM (dB (o7 oM (dV 0) (aF (gJ fW (dV 1) (jo) (fX (dV 2))) (aV)))) (cm (gJ fW (dV 1) (fX (dV 2)) (jo))) (ff)) b))
 (cm (dV 1))
def o3(a:Ad):aj->R Slot:=bF 2 [] (bI 1 (yad a))
def yaz(a:Ad):aj->R aQ:=bi (dH 2 (lG nE (dV 0) (dV 1)))
 (cm (d2 mO (gJ fW (dV 0) (jo) (fX (dV 2))) (gJ fW (dV 0) (fX (d2 mO (dV 2) (dC (.int 1)))) (jo))))
def ph(a:Ad):aj->R Slot:=bF 2 [] (bI 1 (yaz a))
def yav(a:Ad)(rc:aj->R Slot):aj->R aQ:=bi (eM (dB (d2 (eqT ak) (dL bJ (aF (dV 1) (aV))) (dC (.int 0)))) (cm (dC (.str []))) (ff))
 (bi (eM (dB (l8 ai 2 (dL gv (aF (dV 0) (aF (dV 1) (aV)))))) (bi (lY 3 (dL gs (aV)))
 (bi (λb=>eN (eZ 4 (dG (dF (dL lZ (aF (dV 1) (aV))))) (pq 3 (d2 bT (bR (bD (o3 a) (gV (dV 0) (gV (dV 4) (b_))))) (bR (bD (rc) (gV (dV 4) (gV (bR (bD (ph a) (gV (dV 1) (gV (dV 4) (b_))))) (gO 2 (b_)))))))) b))
 (pJ 2 (dL gv (aF (dV 0) (aF (dV 1) (aV)))) (mX 3)))) (ff))
 (cm (pW 2 (dL gv (aF (dV 0) (aF (dV 1) (aV)))))))
def iF(a:Ad):Nat->aj->R Slot
 |0=>bF 3 [2] (bI 2 yN)
 |k+1=>bF 3 [2] (bI 2 (yav a (iF a k)))
def yax(a:Ad):aj->R aQ:=bi (sP (bD (lO a) (gV (dV 0) (b_))))
 (oQ (ri (iF a 10) (rX (dC (.str [])) (rX (d2 bZ (dV 0) (dC (.int 1))) (gN (vF) (b_))))))
def sw(a:Ad):aj->R Slot:=bF 1 [] (bI 0 (yax a))
def yap(a:Ad):aj->R aQ:=bi (eM (dB (d2 (fU λi j=>decide (i<j)) (dV 1) (dL bJ (aF (dV 0) (aV))))) (cm (d2 bZ (dV 0) (dV 1))) (ff))
 (bi (eM (dB (d2 (eqT ak) (dV 0) (dF (dL gs (aV))))) (cm (dC (.int 0))) (ff))
 (cm (d2 bT (d2 iO (d2 bZ (dV 0) (d2 eY (dV 1) (dL bJ (aF (dV 0) (aV))))) (dC (.int 31))) (dV 1))))
def nk(a:Ad):aj->R Slot:=bF 2 [] (bI 0 (yap a))
def yar(a:Ad):aj->R aQ:=bi (dH 3 (d2 eY (d2 bT (d2 bT (d2 iO (bR (bD (nk a) (gV (dV 0) (gV (dV 1) (b_))))) (dC (.int 1103515245))) (d2 iO (dC (.int 7919)) (dV 1))) (dC (.int 12345))) (dC (.int 2147483647))))
 (cm (d2 eY (d2 eY (d2 eY (d2 o_ (dV 3) (dC (.int 5))) (dC (.int 2147483647))) (dC (.int 999983))) (dV 2)))
def sL(a:Ad):aj->R Slot:=bF 3 [] (bI 1 (yar a))
def yaq(a:Ad):aj->R aQ:=bi (pq 1 (dC (.int 0)))
 (oQ (bD (sL a) (gV (dV 0) (gV (sx (λb=>oY (bJ b)) 1) (gV (dV 2) (b_))))))
def kg(a:Ad):aj->R Slot:=bF 3 [1] (bI 0 (yaq a))
def yas(a:Ad):aj->R aQ:=cm (d2 bZ (dV 2) (bR (bD (kg a) (gV (dV 0) (gO 1 (gV (dL bJ (aF (dV 2) (aV))) (b_)))))))
def rW(a:Ad):aj->R Slot:=bF 3 [1] (bI 0 (yas a))
def yat(a:Ad):aj->R aQ:=bi (dH 4 (bR (bD (rW a) (gV (dV 0) (gO 1 (gV (dF (dL gs (aF (dC (.int 1)) (aF (dC (.int 2)) (aF (dC (.int 2)) (aF (dC (.int 3)) (aF (dC (.int 3)) (aF (dC (.int 3)) (aV))))))))) (b_)))))))
 (bi (dH 5 (dC (.str [])))
 (bi (λb=>eN (eZ 6 (dL jv (aF (d2 bT (dV 2) (bR (bD (kg a) (gV (dV 0) (gO 1 (gV (d2 bT (d2 jy (dV 3) (dV 2)) (dC (.int 1))) (b_))))))) (aV))) (dH 5 (d2 bT (dV 5) (d2 bZ (dC (.str [97,98,99])) (bR (bD (kg a) (gV (dV 0) (gO 1 (gV (dV 4) (b_))))))))) b))
 (cm (dV 5))))
def oV(a:Ad):aj->R Slot:=bF 4 [1] (bI 3 (yat a))
def yai(a:Ad):aj->R aQ:=cm (j3 (dL fF (aF (dV 0) (aF (dC (.raw (.ty "str"))) (aV)))) (j3 (ni (fU λi j=>decide (i<=j)) (fU λi j=>decide (i<=j)) (dC (.int 1)) (dL bJ (aF (dV 0) (aV))) (dV 1)) (bR (bD (pQ a) (gV (dV 0) (gV (dC (.str [97,98,99])) (b_)))))))
def l5(a:Ad):aj->R Slot:=bF 2 [] (bI 0 (yai a))
def yaw(a:Ad):aj->R aQ:=oD (dr [0,1] (dL jv (aF (d2 bT (d2 jy (dL bJ (aF (dV 0) (aV))) (dV 1)) (dC (.int 1))) (aV))) (dJ) (gJ fW (dV 1) (fX (dV 0)) (fX (d2 bT (dV 0) (dV 2)))))
def l7(a:Ad):aj->R Slot:=bF 2 [] (bI 0 (yaw a))
def yau(a:Ad):aj->R aQ:=bi (lY 1 (dL gs (aV)))
 (bi (λb=>eN (eZ 2 (dG (dV 0)) (pE 1 (dF (dr [2] (dG (dC (.str [97,98,99]))) (dJ) (d2 bT (dV 1) (dV 0))))) b))
 (sv 1))
def pI(a:Ad):aj->R Slot:=bF 1 [] (bI 2 (yau a))
def yaf(a:Ad):aj->R aQ:=eM (lz (dB (bR (bD (l5 a) (gV (dV 0) (gV (dC (.int 60)) (b_))))))) (uD (.ref a.NoText) (λb=>c0 ((dC (.str [97,32,116,101,120,116,32,116,104,97,116,32,104,97,115,32,97,32,118,105,101,119,32,119,105,116,104,105,110,32,105,116,32,104,97,115,32,49,32,116,111,32,54,48,32,108,101,116,116,101,114,115,32,97,44,32,98,44,32,99])) b))) (ff)
def sQ(a:Ad):aj->R Slot:=bF 1 [] (bI 0 (yaf a))
def yay(a:Ad):aj->R aQ:=bi (sP (bD (sQ a) (gV (dV 0) (b_))))
 (bi (sP (bD (lO a) (gV (dV 1) (b_))))
 (bi (dH 2 (bR (bD (l7 a) (gV (dV 0) (gV (d2 bZ (dV 1) (dC (.int 0))) (b_))))))
 (cm (dL nA (aF (dF (dr [2,1] (dG (d2 bZ (dV 1) (dC (.int 1)))) (dJ) (d2 (fU λi j=>decide (j<=i)) (sO j4 (dV 1) (dV 0)) (lG j4 (d2 bZ (dV 2) (dC (.int 1))) (dV 0))))) (aV))))))
def lP(a:Ad):aj->R Slot:=bF 2 [] (bI 1 (yay a))
end Sh
local macro_rules | `(tactic| and_intros) => `(tactic| (refine' Pu.Jw ?a ?l ?c ?k; (case a => k_is); (case l => k_is); (case c => k_is); (case k => k_is)))
namespace K15
open L2 Pu Sh
def c7(i:Nat):aX:=PySem.Challenge.pw_slitview_k15_whole_no_shorter.main.body.getD i (.Pass ⟨0,0,0,0⟩)
abbrev uv:aX:=c7 27
abbrev ui:aX:=c7 28
abbrev u_:aX:=c7 29
abbrev v8:aX:=c7 30
abbrev uU:aX:=c7 31
abbrev uG:aX:=c7 10
abbrev wg:aX:=c7 12
abbrev rH:aX:=c7 9
abbrev vS:aX:=c7 13
abbrev rK:aX:=c7 14
abbrev vK:aX:=c7 15
abbrev vn:aX:=c7 16
abbrev wj:aX:=c7 18
abbrev uR:aX:=c7 21
abbrev v6:aX:=c7 22
abbrev uQ:aX:=c7 23
abbrev vH:aX:=c7 24
abbrev sB:aX:=c7 32
abbrev vX:aX:=c7 11
abbrev uj:aX:=c7 17
abbrev rV:aX:=c7 19
abbrev rk:aX:=c7 25
abbrev mI:aX:=c7 33
def nD(a:Ad):List af:=[a.NoText,a.NoView]
structure cT(K:au)(mg:Str->Option ah)(base:ax)(a:Ad):Prop where
 yap:cE K mg "_law_cell_at" uv
 yar:cE K mg "_law_mixed" ui
 yaq:cE K mg "_law_draw" u_
 yas:cE K mg "_law_pick" v8
 yat:cE K mg "_law_text" uU
 yal:cE K mg "is_whole_number" uG
 yam:cE K mg "is_width" wg
 yah:cE K mg "has_only" rH
 yan:cE K mg "is_window" vS
 yae:cE K mg "are_windows" rK
 yak:cE K mg "is_view_with" vK
 yaj:cE K mg "is_view" vn
 yag:cE K mg "check_view" wj
 yad:cE K mg "added_letters" uR
 yaz:cE K mg "without" v6
 yav:cE K mg "least_ending" uQ
 yax:cE K mg "shortest" vH
 yau:cE K mg "_law_three" sB
 yai:cE K mg "is_text_up_to" vX
 yaf:cE K mg "check_text_around" uj
 yaw:cE K mg "pieces" rV
 yay:cE K mg "within" rk
 yao:cE K mg "law" mI
 yaB:mg "all"=ae
 yaC:mg "bool"=ae
 yaD:mg "int"=ae
 yaE:mg "isinstance"=ae
 yaF:mg "len"=ae
 yaG:mg "list"=ae
 yaH:mg "min"=ae
 yaI:mg "range"=ae
 yaJ:mg "set"=ae
 yaK:mg "sorted"=ae
 yaL:mg "str"=ae
 yaM:mg "tuple"=ae
 yaP:∃t,mg "LETTERS"=aa (.str (tS [97,98,99]) t)
 yaQ:∃t,mg "MOST_LETTERS_AROUND"=aa (.int 60 t)
 yaR:∃t,mg "MOST_WINDOWS"=aa (.int 9 t)
 yaS:∃t,mg "WIDEST"=aa (.int 4 t)
 yac:mg "SlitError"=aa (.ref a.SlitError)
 yaa:mg "NoText"=aa (.ref a.NoText)
 yab:mg "NoView"=aa (.ref a.NoView)
 yaO:OwnCls "NoView" a.NoView [.type "ValueError",.type "Exception",.type "BaseException",.type "object"] "ValueError.__new__" mg base
 yaN:OwnCls "NoText" a.NoText [.type "ValueError",.type "Exception",.type "BaseException",.type "object"] "ValueError.__new__" mg base
 yaA:∃c T,vV K mg "least_ending" c T
section
variable{P:aG}{w:aC}{K:au}{d:Str->Option ah}{b:ax}{a:Ad}
theorem GL:cb ["_law_script","_law_k"] ["_law_script","_law_k"] (aU uv):=by ac_nf
theorem GV(G:cT K d b a):cF (b8 P w) P w K d b "_law_cell_at" 1 ["_law_script","_law_k"] (bN K (nk a)) :=
 dm (k:=0) (pin:=[]) G.yap GL rfl (λ_ _ _ _ _ _ g i=>Pu.Jx (λ_ _=>rfl) g i) (λf j A c s H E h=>by exact
  (ce (iN (oU Hv j_ (az 1) (d9 ip ix G.yaF io (a9 (az 0) bv)) rfl) (bC (cS (ii iq iw (az 0) (az 1)))) iI)
  (ce (iN (oU (pM h.units) o4 (az 0) (sC bv) rfl) (bC (cS bu)) iI)
  (bC (cS (cK gY gL (cK u5 uL (ii iq iw (az 0) (cK oP p7 (az 1) (d9 ip ix G.yaF io (a9 (az 0) bv)))) bu) (az 1)))))))
theorem F9:cb ["_law_script","_law_k","_law_many","_law_drawn"] ["_law_script","_law_k","_law_many"] (aU ui):=by ac_nf
theorem BG(G:cT K d b a):cF (b8 P w) P w K d b "_law_mixed" 2 ["_law_script","_law_k","_law_many"] (bN K (sL a)) :=
 dm (k:=1) (pin:=[]) G.yar F9 rfl (λ_ _ _ _ _ _ g i=>Pu.JF (λ_ _ _=>rfl) g i) (λf j A c s H E h=>by exact
  (ce (ik 3 F9.nd (cK oP p7 (cK gY gL (cK gY gL (cK u5 uL ((cx (GV G) (h.mono (by decide)) dy (ba (az 0) (ba (az 1) cn)))).de bu) (cK u5 uL bu (az 1))) bu) bu))
  (bC (cS (cK oP p7 (cK oP p7 (cK oP p7 (cK Hq Ja (az 3) bu) bu) bu) (az 2))))))
theorem Ie:cb ["_law_script","_law_town","_law_many"] ["_law_script","_law_town","_law_many"] (aU u_):=by ac_nf
theorem oG(G:cT K d b a):cF (b8 P w) P w K d b "_law_draw" 3 ["_law_script","_law_town","_law_many"] (bN K (kg a)) :=
 dm (k:=2) (pin:=[1]) G.yaq Ie rfl (λ_ _ _ _ _ _ g i=>Pu.JF (λ_ _ _=>rfl) g i) (λf j A c s H E h=>by exact
  (ce (zi 1 bu)
  (bC (um (cx (BG G) (h.mono (by decide)) dy (ba (az 0) (ba (GK 1 ip ix G.yaF io) (ba (az 2) cn))))))))
theorem Gb:cb ["_law_script","_law_town","_law_some"] ["_law_script","_law_town","_law_some"] (aU v8):=by ac_nf
theorem IJ(G:cT K d b a):cF (b8 P w) P w K d b "_law_pick" 4 ["_law_script","_law_town","_law_some"] (bN K (rW a)) :=
 dm (k:=3) (pin:=[1]) G.yas Gb rfl (λ_ _ _ _ _ _ g i=>Pu.JF (λ_ _ _=>rfl) g i) (λf j A c s H E h=>by exact
  (bC (cS (ii iq iw (az 2) ((cx (oG G) (h.mono (by decide)) dy (ba (az 0) (kL 1 (ba (d9 ip ix G.yaF io (a9 (az 2) bv)) cn))))).de))))
theorem IP:cb ["_law_script","_law_town","_law_low","_law_most","_law_few","_law_made","_law_k"] ["_law_script","_law_town","_law_low","_law_most"] (aU uU):=by ac_nf
theorem CA(G:cT K d b a):cF (b8 P w) P w K d b "_law_text" 5 ["_law_script","_law_town","_law_low","_law_most"] (bN K (oV a)) :=
 dm (k:=4) (pin:=[1]) G.yat IP rfl (λ_ _ _ _ _ _ h i=>Pu.JS (λ_ _ _ _=>rfl) h i) (λf j A c s H E g=>by exact
  (ce (ik 4 IP.nd ((cx (IJ G) (g.mono (by decide)) dy (ba (az 0) (kL 1 (ba (sC (a9 bu (a9 bu (a9 bu (a9 bu (a9 bu (a9 bu bv))))))) cn))))).de)
  (ce (ik 5 IP.nd (kU []))
  (ce (oZ (o8 6 tY rfl IP.nd (uw G.yaI (a9 (cK gY gL (az 2) ((cx (oG G) (g.mono (by decide)) kc (ba (az 0) (kL 1 (ba (cK gY gL (cK uo uu (az 3) (az 2)) bu) cn))))).de) bv)) (bC (ik 5 IP.nd (cK gY gL (az 5) (ii iq iw (kU [97,98,99]) ((cx (oG G) (g.mono (by decide)) kc (ba (az 0) (kL 1 (ba (az 4) cn))))).de))))))
  (bC (cS (az 5)))))))
theorem En:cb ["thing"] ["thing"] (aU uG):=by ac_nf
theorem Cw(G:cT K d b a):cF (b8 P w) P w K d b "is_whole_number" 1 ["thing"] (bN K (rn a)) :=
 dm (k:=0) (pin:=[]) G.yal En rfl (λ_ _ _ _ _ _ g h=>Pu.JI (λ_=>rfl) g h) (λf j A c s H E i=>by exact
  (bC (cS (kR (d9 mQ nq G.yaE nu (a9 (az 0) (a9 (mT G.yaD Gq) bv))) (mL (G_ (d9 mQ nq G.yaE nu (a9 (az 0) (a9 (mT G.yaC Gf) bv)))))))))
theorem HS:cb ["thing"] ["thing"] (aU wg):=by ac_nf
theorem Eg(G:cT K d b a):cF (b8 P w) P w K d b "is_width" 2 ["thing"] (bN K (nM a)) :=
 dm (k:=1) (pin:=[]) G.yam HS rfl (λ_ _ _ _ _ _ g i=>Pu.JI (λ_=>rfl) g i) (λf j A c s H E h=>by exact
  (bC (cS (kR ((cx (Cw G) (h.mono (by decide)) dy (ba (az 0) cn))).de (mL (Av mJ mJ j_ j_ bu (az 0) (vY G.yaS)))))))
theorem CO:cb ["text","signs"] ["text","signs"] (aU rH):=by ac_nf
theorem zw(G:cT K d b a):cF (b8 P w) P w K d b "has_only" 1 ["text","signs"] (bN K (pQ a)) :=
 dm (k:=0) (pin:=[]) G.yah CO rfl (λ_ _ _ _ _ _ i l=>Pu.Jx (λ_ _=>rfl) i l) (λf o A h s H E n=>by exact
  (bC (cS (d9 (v3 rfl) wl G.yaB wc (a9 (mH (cap:=[1]) (N':=["sign","signs"]) (gQ.of ["text","signs"] (aU rH) rfl rfl (by decide +kernel)) rfl (l6 (az 0)) (λC c g m j=>by exact mU) (λC c g m j=>by exact(nI Hx BV (az 0) (az 1) rfl))).de bv)))))
theorem CV:cb ["thing","width","signs"] ["thing","width","signs"] (aU vS):=by ac_nf
theorem D5(G:cT K d b a):cF (b8 P w) P w K d b "is_window" 2 ["thing","width","signs"] (bN K (nH a)) :=
 dm (k:=1) (pin:=[]) G.yan CV rfl (λ_ _ _ _ _ _ h i=>Pu.JF (λ_ _ _=>rfl) h i) (λf j A c s H E g=>by exact
  (bC (cS (kR (d9 mQ nq G.yaE nu (a9 (az 0) (a9 (mT G.yaL yV) bv))) (kR (nI (pM g.units) o4 (d9 ip ix G.yaF io (a9 (az 0) bv)) (az 1) rfl) (mL ((cx (zw G) (g.mono (by decide)) dy (ba (az 0) (ba (az 2) cn)))).de))))))
theorem Hd:cb ["thing","width","signs"] ["thing","width","signs"] (aU rK):=by ac_nf
theorem EO(G:cT K d b a):cF (b8 P w) P w K d b "are_windows" 3 ["thing","width","signs"] (bN K (kN a)) :=
 dm (k:=2) (pin:=[]) G.yae Hd rfl (λ_ _ _ _ _ _ j m=>Pu.JF (λ_ _ _=>rfl) j m) (λf o A h s H E i=>by exact
  (ce (iN ((xV (mV (l9 (d9 mQ nq G.yaE nu (a9 (az 0) (a9 (mT G.yaM uN) bv))))) (xP (mV (CQ mJ mJ j_ j_ bu (d9 ip ix G.yaF io (a9 (az 0) bv)) (vY G.yaR)))))).dt (bC (cS va)) iI)
  (ce (iN (mV (l9 (d9 (v3 rfl) wl G.yaB wc (a9 (mH (cap:=[1,2]) (N':=["window","width","signs"]) (gQ.of ["thing","width","signs"] (aU rK) rfl rfl (by decide +kernel)) rfl (l6 (az 0)) (λC c g n l=>by exact mU) (λC c g n l=>by exact((cx (D5 G) (i.mono (by decide)) kc (ba (az 0) (ba (az 1) (ba (az 2) cn))))).de)).de bv)))) (bC (cS va)) iI)
  (bC (cS (nI (pM i.units) o4 (EY IM FU G.yaG Di (a9 (az 0) bv)).de (xX xU Aq G.yaK ve (a9 (az 0) bv)).de rfl))))))
theorem BM:cb ["thing","signs"] ["thing","signs"] (aU vK):=by ac_nf
theorem CW(G:cT K d b a):cF (b8 P w) P w K d b "is_view_with" 4 ["thing","signs"] (bN K (nr a)) :=
 dm (k:=3) (pin:=[]) G.yak BM rfl (λ_ _ _ _ _ _ h i=>Pu.Jx (λ_ _=>rfl) h i) (λf j A c s H E g=>by exact
  (ce (iN ((xV (mV (l9 (d9 mQ nq G.yaE nu (a9 (az 0) (a9 (mT G.yaM uN) bv))))) (xP (oU (xS g.units) zB (d9 ip ix G.yaF io (a9 (az 0) bv)) bu rfl)))).dt (bC (cS va)) iI)
  (bC (cS (kR ((cx (Eg G) (g.mono (by decide)) dy (ba (ii iq iw (az 0) bu) cn))).de (mL ((cx (EO G) (g.mono (by decide)) dy (ba (ii iq iw (az 0) bu) (ba (ii iq iw (az 0) bu) (ba (az 1) cn))))).de))))))
theorem Ck:cb ["thing"] ["thing"] (aU vn):=by ac_nf
theorem Ha(G:cT K d b a):cF (b8 P w) P w K d b "is_view" 5 ["thing"] (bN K (sr a)) :=
 dm (k:=4) (pin:=[]) G.yaj Ck rfl (λ_ _ _ _ _ _ g i=>Pu.JI (λ_=>rfl) g i) (λf j A c s H E h=>by exact
  (bC (um (cx (CW G) (h.mono (by decide)) dy (ba (az 0) (ba (Aj G.yaP) cn))))))
theorem IS:cb ["thing"] ["thing"] (aU wj):=by ac_nf
theorem z7(G:cT K d b a):cF (b8 P w) P w K d b "check_view" 6 ["thing"] (bN K (lO a)) :=
 dm (k:=5) (pin:=[]) G.yag IS rfl (λ_ _ _ _ _ _ g i=>Pu.JI (λ_=>rfl) g i) (λf j A c s H E h=>by exact
  (bC (iN (mV (l9 ((cx (Ha G) (h.mono (by decide)) dy (ba (az 0) cn))).de)) (bC (zq xL rfl G.yaO PySem.F.excBase_ValueError (kU [97,32,118,105,101,119,32,105,115,32,97,32,116,117,112,108,101,32,111,102,32,97,32,119,105,100,116,104,32,97,110,100,32,97,32,114,105,115,105,110,103,32,116,117,112,108,101,32,111,102,32,49,32,116,111,32,57,32,119,105,110,100,111,119,115]))) iI)))
theorem GZ:cb ["ahead","window","shared"] ["ahead","window"] (aU uR):=by ac_nf
theorem G7(G:cT K d b a):cF (b8 P w) P w K d b "added_letters" 1 ["ahead","window"] (bN K (o3 a)) :=
 dm (k:=0) (pin:=[]) G.yad GZ rfl (λ_ _ _ _ _ _ g h=>Pu.Jx (λ_ _=>rfl) g h) (λf j A c s H E i=>by exact
  (ce (oZ (o8 2 tY rfl GZ.nd (Cs G.yaI (a9 (cK uo uu (d9 ip ix G.yaF io (a9 (az 1) bv)) bu) (a9 bu (a9 (FN D1 Ig bu) bv)))) (bC (iN (l9 (EI PySem.F.slot_str_endswith PySem.F.type_str_endswith B5 Ik (az 0) (a9 (pK pY pO (az 1) rY (mP (az 2))) bv))) (bC (cS (pK pY pO (az 1) (mP (az 2)) rY))) iI))))
  (bC (cS (az 1)))))
theorem Gh:cb ["windows","window","place"] ["windows","window"] (aU v6):=by ac_nf
theorem Fy(G:cT K d b a):cF (b8 P w) P w K d b "without" 1 ["windows","window"] (bN K (ph a)) :=
 dm (k:=0) (pin:=[]) G.yaz Gh rfl (λ_ _ _ _ _ _ g h=>Pu.Jx (λ_ _=>rfl) g h) (λf j A c s H E i=>by exact
  (ce (ik 2 Gh.nd (EH (az 0) (az 1)))
  (bC (cS (cK xQ xD (pK pY pO (az 0) rY (mP (az 2))) (pK pY pO (az 0) (mP (cK xQ xD (az 2) bu)) rY))))))
theorem yz:cb ["ahead","left","known","endings","window"] ["ahead","left","known"] (aU uQ):=by ac_nf
theorem B_(G:cT K d b a)(m:Nat):cF (b8 P w) P w K d b "least_ending" (2+m) ["ahead","left","known"] (bN K (iF a m)):=by
 induction m with
 |zero=>exact dm (k:=1) (pin:=[2]) G.yav yz rfl (λ_ _ _ _ _ _ i j=>Pu.JF (λ_ _ _=>rfl) i j) (λf o A h s H E g=>Ih)
 |succ m n=>exact Ht (k:=2+m) (pin:=[2]) G.yaA (by decide) G.yav yz rfl (λ_ _ _ _ _ _ i j=>Pu.JF (λ_ _ _=>rfl) i j) (λf o c T A h s H E g l=>by exact
  (ce (iN (oU (pM g.units) o4 (d9 ip ix G.yaF io (a9 (az 1) bv)) bu rfl) (bC (cS (kU []))) iI)
  (ce (iN (B0 2 g.units (rE (a9 (az 0) (a9 (az 1) bv)))) (ce (vD 3 yz.nd (rF bv))
  (ce (oZ (o8 4 tY rfl yz.nd (l6 (Cu rfl (a9 (az 1) bv) G.yaK G.yaJ).de) (bC (zi 3 (cK gY gL ((cx (G7 G) (g.mono ∅) kc (ba (az 0) (ba (az 4) cn)))).de ((cx n (g.mono ∅) kc (ba (az 4) (ba ((cx (Fy G) (g.mono ∅) kc (ba (az 1) (ba (az 4) cn)))).de (kL 2 cn))))).de)))))
  (bC (G2 2 g.units (rE (a9 (az 0) (a9 (az 1) bv))) (C7 3 rfl g.d1 g.units (by first|exact l|exact rN.nox l) G.yaH G.yaF))))) iI)
  (bC (cS (Iv 2 g.units (rE (a9 (az 0) (a9 (az 1) bv)))))))))
theorem E2:cb ["view"] ["view"] (aU vH):=by ac_nf
theorem HX(G:cT K d b a):cF (b8 P w) P w K d b "shortest" 13 ["view"] (bN K (sw a)) :=
 dm (k:=12) (pin:=[]) G.yax E2 rfl (λ_ _ _ _ _ _ h i=>Pu.JI (λ_=>rfl) h i) (λf j A c s H E g=>by exact
  (ce (uk (cx (z7 G) (g.mono (by decide)) dy (ba (az 0) cn)))
  (bC (um (Hh (B_ G 10) (g.mono (by decide)) dy (xz (kU []) (xz (ii iq iw (az 0) bu) (Dx (Jb) cn))))))))
theorem FG:cb ["_law_made","_law_longer","_law_line"] ["_law_made"] (aU sB):=by ac_nf
theorem HE(G:cT K d b a):cF (b8 P w) P w K d b "_law_three" 1 ["_law_made"] (bN K (pI a)) :=
 dm (k:=0) (pin:=[]) G.yau FG rfl (λ_ _ _ _ _ _ i l=>Pu.JI (λ_=>rfl) i l) (λf o A h s H E n=>by exact
  (ce (vD 1 FG.nd (rF bv))
  (ce (oZ (o8 2 tY rfl FG.nd (l6 (az 0)) (bC (EE 1 (mH (cap:=[2]) (N':=["_law_letter","_law_line"]) (gQ.of ["_law_made","_law_longer","_law_line"] (aU sB) rfl rfl (by decide +kernel)) rfl (l6 (kU [97,98,99])) (λC c g m j=>by exact mU) (λC c g m j=>by exact(cK gY gL (az 1) (az 0)))).de))))
  (bC (Go 1)))))
theorem Cc:cb ["thing","most"] ["thing","most"] (aU vX):=by ac_nf
theorem Iu(G:cT K d b a):cF (b8 P w) P w K d b "is_text_up_to" 2 ["thing","most"] (bN K (l5 a)) :=
 dm (k:=1) (pin:=[]) G.yai Cc rfl (λ_ _ _ _ _ _ g i=>Pu.Jx (λ_ _=>rfl) g i) (λf j A c s H E h=>by exact
  (bC (cS (kR (d9 mQ nq G.yaE nu (a9 (az 0) (a9 (mT G.yaL yV) bv))) (kR (Av mJ mJ j_ j_ bu (d9 ip ix G.yaF io (a9 (az 0) bv)) (az 1)) (mL ((cx (zw G) (h.mono (by decide)) dy (ba (az 0) (ba (Aj G.yaP) cn)))).de))))))
theorem Fx:cb ["thing"] ["thing"] (aU uj):=by ac_nf
theorem Ft(G:cT K d b a):cF (b8 P w) P w K d b "check_text_around" 3 ["thing"] (bN K (sQ a)) :=
 dm (k:=2) (pin:=[]) G.yaf Fx rfl (λ_ _ _ _ _ _ g i=>Pu.JI (λ_=>rfl) g i) (λf j A c s H E h=>by exact
  (bC (iN (mV (l9 ((cx (Iu G) (h.mono (by decide)) dy (ba (az 0) (ba (vY G.yaQ) cn)))).de)) (bC (zq xL rfl G.yaN PySem.F.excBase_ValueError (kU [97,32,116,101,120,116,32,116,104,97,116,32,104,97,115,32,97,32,118,105,101,119,32,119,105,116,104,105,110,32,105,116,32,104,97,115,32,49,32,116,111,32,54,48,32,108,101,116,116,101,114,115,32,97,44,32,98,44,32,99]))) iI)))
theorem HI:cb ["text","length"] ["text","length"] (aU rV):=by ac_nf
theorem ID(G:cT K d b a):cF (b8 P w) P w K d b "pieces" 1 ["text","length"] (bN K (l7 a)) :=
 dm (k:=0) (pin:=[]) G.yaw HI rfl (λ_ _ _ _ _ _ i l=>Pu.Jx (λ_ _=>rfl) i l) (λf o A h s H E n=>by exact
  (bC (EV (mH (cap:=[0,1]) (N':=["place","text","length"]) (gQ.of ["text","length"] (aU rV) rfl rfl (by decide +kernel)) rfl (uw G.yaI (a9 (cK gY gL (cK uo uu (d9 ip ix G.yaF io (a9 (az 0) bv)) (az 1)) bu) bv)) (λC c g m j=>by exact mU) (λC c g m j=>by exact(pK pY pO (az 1) (mP (az 0)) (mP (cK gY gL (az 0) (az 2)))))))))
theorem DP:cb ["text","view","there"] ["text","view"] (aU rk):=by ac_nf
theorem AJ(G:cT K d b a):cF (b8 P w) P w K d b "within" 7 ["text","view"] (bN K (lP a)) :=
 dm (k:=6) (pin:=[]) G.yay DP rfl (λ_ _ _ _ _ _ j m=>Pu.Jx (λ_ _=>rfl) j m) (λf o A h s H E i=>by exact
  (ce (uk (cx (Ft G) (i.mono (by decide)) dy (ba (az 0) cn)))
  (ce (uk (cx (z7 G) (i.mono (by decide)) dy (ba (az 1) cn)))
  (ce (ik 2 DP.nd ((cx (ID G) (i.mono (by decide)) dy (ba (az 0) (ba (ii iq iw (az 1) bu) cn)))).de)
  (bC (cS (d9 (v3 rfl) wl G.yaB wc (a9 (mH (cap:=[2,1]) (N':=["window","there","view"]) (gQ.of ["text","view","there"] (aU rk) rfl rfl (by decide +kernel)) rfl (l6 (ii iq iw (az 1) bu)) (λC c g n l=>by exact mU) (λC c g n l=>by exact(nI Fu j_ (DC (az 1) (az 0)) (FQ (ii iq iw (az 2) bu) (az 0)) rfl))).de bv))))))))
def yao(a:Ad):aj->R aQ:=bi (lY 1 (dL gs (aV)))
 (bi (dH 2 (d2 bT (dC (.int 1)) (bR (bD (kg a) (gV (dV 0) (gO 1 (gV (dC (.int 3)) (b_))))))))
 (bi (dH 3 (d2 bT (dC (.int 1)) (bR (bD (kg a) (gV (dV 0) (gO 1 (gV (dC (.int 4)) (b_))))))))
 (bi (dH 4 (dL gv (aF (dV 2) (aF (dL r9 (aF (dF (dL nz (aF (dF (dr [0,1,2] (dL jv (aF (dV 3) (aV))) (dJ) (bR (bD (oV a) (gV (dV 1) (gO 2 (gV (dV 3) (gV (dV 3) (b_))))))))) (aV)))) (aV))) (aV)))))
 (bi (dH 5 (bR (bD (sw a) (gV (dV 4) (b_)))))
 (bi (dH 6 (dF (dL gs (aF (dC (.str [])) (aV)))))
 (bi (λc=>eN (eZ 7 (dL pf (aF (dC (.int 1)) (aF (dC (.int 7)) (aV)))) (bi (dH 6 (bR (bD (pI a) (gV (dV 6) (b_)))))
 (bi (dH 8 (dF (dr [4] (dG (dV 6)) (dB (bR (bD (lP a) (gV (dV 0) (gV (dV 1) (b_)))))) (dV 0))))
 (eM (dB (d2 (eqT ai) (dV 8) (dF (dL gs (aV))))) (cm (d2 (eqT ak) (dV 5) (d2 bZ (dV 8) (dC (.int 0))))) (ff)))) c))
 (cm (j3 (d2 (fU λi j=>decide (j<i)) (dL bJ (aF (dV 5) (aV))) (dC (.int 6))) (bR (bD (lP a) (gV (dV 5) (gV (dV 4) (b_)))))))))))))
def oS(a:Ad):aj->R Slot:=bF 1 [] (bI 8 (yao a))
theorem FM:cb ["_law_script","_law_town","_law_width","_law_many","_law_asked","_law_made","_law_rows","_law_long","_law_found"] ["_law_script"] (aU mI):=by ac_nf
theorem Fs(G:cT K d b a){f:af}{m:fM}(p:lM K "law" "law" mI f m):iJ P w K d b (b8 P w) 14 f m ["_law_script"] (bN K (oS a)) :=
 Eu (k:=13) (pin:=[]) p FM rfl (λ_ _ _ _ _ _ n o=>Pu.JI (λ_=>rfl) n o) (λf q A j s H E h=>by exact
  (ce (vD 1 FM.nd (rF bv))
  (ce (ik 2 FM.nd (cK gY gL bu ((cx (oG G) (h.mono (by decide)) dy (ba (az 0) (kL 1 (ba bu cn))))).de))
  (ce (ik 3 FM.nd (cK gY gL bu ((cx (oG G) (h.mono (by decide)) dy (ba (az 0) (kL 1 (ba bu cn))))).de))
  (ce (ik 4 FM.nd (rE (a9 (az 2) (a9 (IU Hs HB G.yaM uN (a9 (xX xU Aq G.yaK ve (a9 (mH (cap:=[0,1,2]) (N':=["_law_k","_law_script","_law_town","_law_width"]) (gQ.of ["_law_script","_law_town","_law_width","_law_many","_law_asked","_law_made","_law_rows","_law_long","_law_found"] (aU mI) rfl rfl (by decide +kernel)) rfl (uw G.yaI (a9 (az 3) bv)) (λC c g l i=>by exact mU) (λC c g l i=>by exact((cx (CA G) (h.mono (by decide)) kc (ba (az 1) (kL 2 (ba (az 3) (ba (az 3) cn)))))).de)).de bv)).de bv)) bv))))
  (ce (ik 5 FM.nd ((cx (HX G) (h.mono (by decide)) dy (ba (az 4) cn))).de)
  (ce (ik 6 FM.nd (sC (a9 (kU []) bv)))
  (ce (oZ (o8 7 tY rfl FM.nd (E7 G.yaI (a9 bu (a9 bu bv))) (ce (ik 6 FM.nd ((cx (HE G) (h.mono (by decide)) kc (ba (az 6) cn))).de)
  (ce (BZ 8 FM.nd (cap:=[4]) (N':=["_law_text_here","_law_asked"]) (gQ.of ["_law_script","_law_town","_law_width","_law_many","_law_asked","_law_made","_law_rows","_law_long","_law_found"] (aU mI) rfl rfl (by decide +kernel)) rfl (l6 (az 6)) (λC c g l i=>by exact FK (l9 ((cx (AJ G) (h.mono (by decide)) kc (ba (az 0) (ba (az 1) cn)))).de)) (λC c g l i=>by exact(az 0)))
  (bC (iN (oU (xS h.units) zB (az 8) (sC bv) rfl) (bC (cS (nI (pM h.units) o4 (az 5) (ii iq iw (az 8) bu) rfl))) iI))))))
  (bC (cS (kR (nI Ey j_ (d9 ip ix G.yaF io (a9 (az 5) bv)) bu rfl) (mL ((cx (AJ G) (h.mono (by decide)) dy (ba (az 5) (ba (az 4) cn)))).de))))))))))))
end
end K15
namespace Mx
open L2 Pu
def cL:Tx:=[97,98,99]
def bE:Nat->List Tx
 |0=>[[]]
 |k+1=>cL.flatMap λc=>(bE k).map (c::·)
theorem ny:∀(k:Nat) (x:Tx),x∈bE k↔x.length=k/\∀c∈x,c∈cL
 |0,x=>by
  simp only[bE,eG];constructor
  .rintro rfl;simp
  .rintro⟨h,_⟩;exact List.length_eq_zero_iff.mp h
 |k+1,x=>by
  simp only[bE,List.mem_flatMap,eF];constructor
  .rintro⟨c,i,y,g,rfl⟩;obtain⟨f,b⟩:=(ny k y).mp g;refine⟨by simp[f],λd a=>?_⟩;rcases bw.mp a with rfl|a
   .exact i
   .exact b d a
  .rintro⟨f,b⟩;cases x with
   |nil=>cases f
   |cons c y=>exact⟨c,b c (by simp),y,(ny k y).mpr ⟨wO f,λd a=>b d (by simp[a])⟩,rfl⟩
theorem Ao:∀k:Nat,(bE k).length=3^k
 |0=>rfl
 |k+1=>by simp only[bE,cL,List.flatMap_cons,List.flatMap_nil,cW,fg,Ao k,iZ,Nat.pow_succ];lia
theorem Fq(i j:Nat):bE (i+j)=(bE i).flatMap λh=>(bE j).map (h++·):=by
 induction i with
 |zero=>simp[bE]
 |succ i a=>rw[show i+1+j=(i+j)+1 by lia];simp only[bE,a,List.flatMap_assoc,List.map_flatMap,List.flatMap_map,hV,Function.comp_def,iB]
theorem Ce(k:Nat):bE (k+1)=(bE k).flatMap λh=>cL.map λc=>h++[c]:=by rw[Fq k 1];congr 1
theorem z5:∀k:Nat,(bE k).Pairwise (λa b=>a<b)
 |0=>by simp[bE]
 |k+1=>by
  simp only[bE];rw[List.pairwise_flatMap];refine⟨λc _=>?_,?_⟩
  .rw[List.pairwise_map];exact(z5 k).imp λh=>List.cons_lt_cons_iff.mpr (.inr ⟨rfl,h⟩)
  .have:cL.Pairwise (λa b=>a<b):=by decide
   refine this.imp λh=>?_;intro x f y d;obtain⟨i,_,rfl⟩:=eF.mp f;obtain⟨g,_,rfl⟩:=eF.mp d;exact List.cons_lt_cons_iff.mpr (.inl h)
def bP(z:Tx)(w:Nat):List Tx:=((cq z.length).filter λi=>decide (i+w<=z.length)).map λi=>(z.drop i).take w
theorem zk(w L:Nat):∀m:Nat,(cq m).filter (λi=>decide (i+w<=L))=cq (min m (L+1-w))
 |0=>by simp
 |m+1=>by
  rw[tI,List.filter_append,zk w L m];by_cases h:m+w<=L
  .rw[show min m (L+1-w)=m by lia,show min (m+1) (L+1-w)=m+1 by lia,tI];simp[h]
  .rw[show min (m+1) (L+1-w)=min m (L+1-w) by lia];simp[h]
theorem nG(z:Tx)(w:Nat)(a:1<=w):bP z w=(cq (z.length+1-w)).map λi=>(z.drop i).take w:=by unfold bP;rw[zk,show min z.length (z.length+1-w)=z.length+1-w by lia]
def nw(w:Nat)(t:Tx):Tx->List Tx
 |[]=>[]
 |c::s=>(t.drop (t.length+1-w)++[c])::nw w (t++[c]) s
end Mx
namespace Sh
open L2 Pu Mx
section
theorem EM{ls:List Tx}(h:ls.length<=1000000):nz [.lst (ao ls)]=aa (.lst (ao (bd ls))):=by show(eQ (ao ls)).bind _=_;rw[oR,hU,if_pos h]
end
section
variable{a:Ad}
abbrev cu(b:List Int):Slot:=.val (.lst (b.map .int))
theorem As(b:List Int)(k:Int)(d:0<=k)(h:k<b.length):∃v,dA (b.map PV.int) k=aa (.int v):=by
 have c:k.toNat<b.length:=∅
 refine⟨b[k.toNat],?_⟩;rw[zE d (by rw[fg];exact c)];simp
theorem DM(b:List Int):Pu.eqT ak (.lst (b.map .int)) (.lst [])=aa (.bl b.isEmpty):=by
 cases b with
 |nil=>rfl
 |cons x c=>
  have f:∀l:List Int,fJ (l.map .int)=0:=λl=>by induction l with|nil=>rfl|cons y l d=>simp[fJ,gw,d]
  have:fJ ((x::c).map .int)=0:=f _;simp only[lc]at this;simp[Pu.eqT,b7,b0,eO,gw,this]
theorem vm(b:Bool)(i j:Int):Pu.eqT b (.int i) (.int j)=aa (.bl (b^^decide (i=j))):=by show(if lW (V.int i) (V.int j)then aa (PV.bl (b^^decide (V.int i=V.int j)))else ae)=_;have:lW (V.int i) (V.int j)=ai:=rfl;rw[if_pos this];simp
theorem ED(b:Bool)(x y:Tx):Pu.eqT b (.str x) (.str y)=aa (.bl (b^^decide (x=y))):=by show(if lW (tV x) (tV y)then aa (PV.bl (b^^decide (tV x=tV y)))else ae)=_;have:lW (tV x) (tV y)=ai:=rfl;rw[if_pos this];have e:(tV x=tV y)=(x=y):=propext ⟨Ed,λh=>by rw[h]⟩;simp only[e]
theorem Cf(b:List Int)(k:Int)(i:0<=k):∃v,nk a [cu b,⇑k]=.ok (⇑v) [cu b,⇑k]:=by
 by_cases h:k<b.length
 .obtain⟨v,c⟩:=As b k i h;refine⟨v,?_⟩;simp![nk,yap,bJ,bZ,c,h]
 .have e:=DM b;by_cases d:b=[]
  .subst d;refine⟨0,?_⟩;simp only[List.map_nil,List.isEmpty_nil]at e;have j:¬k<0:=∅
   simp![nk,yap,bJ,bZ,e,j]
  .have m:0<b.length:=by cases b with|nil=>exact absurd rfl d|cons=>simp
   obtain⟨v,c⟩:=As b (k % b.length) (Int.emod_nonneg _ ∅) (Bt _ ∅);refine⟨v*31+k,?_⟩;have l:b.isEmpty=ak:=by cases b with|nil=>exact absurd rfl d|cons=>rfl
   rw[l]at e;have g:eY (.int k) (.int (b.length:Int))=aa (.int (k % b.length)):=by simp[eY];lia
   have f:iO (.int v) (.int 31)=aa (.int (v*31)):=by simp[iO,pP]
   simp![nk,yap,bJ,bZ,h,e,g,c,f,bT]
theorem Fv(b:List Int)(k m:Int)(q:0<=k)(i:0<m):∃v,0<=v/\v<m/\sL a [cu b,⇑k,⇑m]=.ok (⇑v) [cu b,⇑k,⇑m]:=by
 obtain⟨c,p⟩:=Cf (a:=a) b k q;have r:0<=(c*1103515245+7919*k+12345) % 2147483647:=Int.emod_nonneg _ (by decide);have d1:(c*1103515245+7919*k+12345) % 2147483647<2147483647:=Bt _ (by decide);have o:iO (.int c) (.int 1103515245)=aa (.int (c*1103515245)):=by simp[iO,pP]
 have n:iO (.int 7919) (.int k)=aa (.int (7919*k)):=by simp[iO,pP]
 have h:eY (.int (c*1103515245+7919*k+12345)) (.int 2147483647)=aa (.int ((c*1103515245+7919*k+12345) % 2147483647)):=by simp[eY]
 generalize (c*1103515245+7919*k+12345) % 2147483647=d at r d1 h;have l:o_ (.int d) (.int 5)=aa (.int (d^5)):=by
  have:d.natAbs<2^64:=∅
  simp[o_,this]
 have g:eY (.int (d^5)) (.int 2147483647)=aa (.int (d^5 % 2147483647)):=by simp[eY]
 generalize d^5 % 2147483647=d5 at g;have f:eY (.int d5) (.int 999983)=aa (.int (d5 % 999983)):=by simp[eY]
 generalize d5 % 999983=d6 at f;have j:eY (.int d6) (.int m)=aa (.int (d6 % m)):=by simp[eY,i]
 refine⟨d6 % m,Int.emod_nonneg _ ∅,Bt _ i,?_⟩;simp![sL,yar,p,o,n,h,l,g,f,j,bT]
theorem pX(c:List Int)(b:List PV)(m:Int)(i:0<m)(j:b.length<=1000):∃v,0<=v/\v<m/\kg a [cu c,.own (.lst b),⇑m]=.ok (⇑v) [cu c,.own (.lst (b++[.int 0])),⇑m]:=by
 obtain⟨v,f,d,h⟩:=Fv (a:=a) c ((b.length:Int)+1) m ∅ i;refine⟨v,f,d,?_⟩;have g:b.length<cA:=by unfold cA;lia
 simp![kg,yaq,bJ,g,h]
theorem yv{c:Type}(b:List c)(v:Int)(f:0<=v)(g:v<b.length):∃x∈b,dA b v=aa x:=by
 have d:v.toNat<b.length:=∅
 exact⟨b[v.toNat],A_ _,zE f d⟩
theorem Hg(d:List Int)(c b:List PV)(i:c.length<=1000)(m:0<b.length):∃x∈b,rW a [cu d,.own (.lst c),.val (.lst b)]=.ok (.val x) [cu d,.own (.lst (c++[.int 0])),.val (.lst b)]:=by obtain⟨v,g,f,j⟩:=pX (a:=a) d c (b.length:Nat) ∅ i;obtain⟨x,l,h⟩:=yv b v g f;refine⟨x,l,?_⟩;simp![rW,yas,bJ,bZ,j,h]
theorem vI{n:Nat}(h:n<=1000000):jv [.int n]=aa (dw 0 n):=by show(if(n:Int)<=1000000/\-1000000<=(n:Int)then aa (dw 0 (n:Int).toNat)else ae)=_;rw[if_pos ⟨∅,∅⟩];simp
theorem uY{x y:Tx}(h:x.length+y.length<=cA):bT (.str x) (.str y)=aa (.str (x++y)):=by show(if(x++y).length<=cA then aa (PV.str (x++y))else ae)=_;rw[if_pos (by rw[cW];exact h)]
theorem gt{d1 d2:aj->R aQ}{ε ε1:aj}(h:d1 ε=.ok .next ε1):bi d1 d2 ε=d2 ε1:=by unfold bi;rw[h]
theorem yf{i:Nat}{db:aj->R aQ}{I:Nat->aj->Prop}{N:Nat}(step:∀k c x,k<N->I k c->∃b,db (c.set i (.val x))=.ok .next b/\I (k+1) b):∀(d:List PV) (k:Nat) (c:aj),k+d.length<=N->I k c->∃b,eT i db d c=.ok .next b/\I (k+d.length) b
 |[],k,c,_,h=>⟨c,rfl,h⟩
 |x::d,k,c,j,h=>by simp only[eh]at j;obtain⟨g,o,m⟩:=step k c x ∅ h;obtain⟨f,n,l⟩:=yf step d (k+1) g ∅ m;refine⟨f,by unfold eT;rw[o];exact n,?_⟩;rw[eh,show k+(d.length+1)=k+1+d.length by lia];exact l
theorem Ar{i:Nat}{db:aj->R aQ}{I:List PV->aj->Prop}(step:∀(x:PV) (r:List PV) c,I (x::r) c->∃b,db (c.set i (.val x))=.ok .next b/\I r b):∀(d:List PV) (c:aj),I d c->∃b,eT i db d c=.ok .next b/\I [] b
 |[],c,h=>⟨c,rfl,h⟩
 |x::d,c,h=>by obtain⟨g,n,l⟩:=step x d c h;obtain⟨f,m,j⟩:=Ar step d g l;exact⟨f,by unfold eT;rw[n];exact m,j⟩
theorem Gm(o:List Int)(l:List PV)(g b:Nat)(O:g<=b)(Z:b<=100)(Y:l.length<=500):∃(z:Tx) (j:List PV),g<=z.length/\z.length<=b/\(∀c∈z,c∈cL)/\j.length<=l.length+2+b /\ oV a [cu o,.own (.lst l),⇑g,⇑b]=.ok (↥z) [cu o,.own (.lst j),⇑g,⇑b]:=by
 obtain⟨f,A,L⟩:=Hg (a:=a) o l [.int 1,.int 2,.int 2,.int 3,.int 3,.int 3] ∅ (by decide);obtain⟨h,rfl,S,f1⟩:∃h:Int,f=.int h/\0<h/\h<=3:=by simp only[bw,iA,or_false]at A;rcases A with rfl|rfl|rfl|rfl|rfl|rfl <;> exact⟨_,rfl,by decide,by decide⟩
 obtain⟨m,X,W,p⟩:=pX (a:=a) o (l++[.int 0]) ((b:Int)-g+1) ∅ (by simp;lia);obtain⟨n,M⟩:∃n:Nat,(g:Int)+m=n:=⟨(g+m).toNat,∅⟩
 have K:jv [.int ((g:Int)+m)]=aa (dw 0 n):=by rw[M];exact vI ∅
 have aZ:(dw 0 n).length=n:=by simp[dw]
 obtain⟨C,B,j,z,r,rfl,y,H,q⟩:=yf (i:=6) (db:=dH 5 (d2 bT (dV 5) (d2 bZ (dC (.str [97,98,99])) (bR (bD (kg a) (gV (dV 0) (gO 1 (gV (dV 4) (Pu.b_)))))))))
  (I:=λk w=>∃j z r,w=[cu o,.own (.lst j),⇑g,⇑b,⇑h,↥z,r]/\z.length=k/\j.length<=l.length+2+k/\∀c∈z,c∈cL) (N:=n)
  (by
   rintro k w x hk ⟨j,z,r,rfl,y,H,q⟩;obtain⟨v,D,T,J⟩:=pX (a:=a) o j h S ∅;obtain⟨c,P,Q⟩:=yv cL v D (by simp[cL];lia);refine⟨[cu o,.own (.lst (j++[.int 0])),⇑g,⇑b,⇑h,↥(z++[c]),.val x],?_,j++[.int 0],z++[c],.val x,rfl,by simp[y],by simp;lia,λd p=>?_⟩
   .have s:bZ (.str [97,98,99]) (.int v)=aa (.str [c]):=by
     show(dA cL v).map _=_;rw[Q];rfl
    have E:bT (.str z) (.str [c])=aa (.str (z++[c])):=uY (by simp[cA];lia);simp![J,s,E]
   .simp only[g8,eG]at p;rcases p with p|rfl
    .exact q d p
    .exact P)
  (dw 0 n) 0 [cu o,.own (.lst (l++[.int 0]++[.int 0])),⇑g,⇑b,⇑h,.val (.str []),.none] ∅ ⟨l++[.int 0]++[.int 0],[],.none,rfl,rfl,by simp,by simp⟩
 refine⟨z,j,∅,∅,q,∅,?_⟩;have G:jy (.int b) (.int g)=aa (.int ((b:Int)-g)):=rfl;have u:bT (.int ((b:Int)-g)) (.int 1)=aa (.int ((b:Int)-g+1)):=rfl;have t:bT (.int g) (.int m)=aa (.int ((g:Int)+m)):=rfl;simp only[jL,iB,gb]at B;simp![oV,yat,L,G,u,t,p,eZ,K,eN,B]
theorem lF{cap:List Nat}{dt:aj->R Bool}{de:aj->R PV}{ε:aj}(p:PV->Bool)(f:PV->PV):∀(c:List PV),(∀x∈c,c0 (d7 cap dt x ε)=.ok (p x) ε/\(p x=ai->c0 (d7 cap de x ε)=.ok (f x) ε))->∀b,gZ cap dt de c b ε=.ok (b++(c.filter p).map f) ε
 |[],_,b=>by simp[gZ]
 |x::c,h,b=>by
  have i:=h x (by simp);have g:=lF p f c (λy j=>h y (by simp[j]));unfold gZ;rw[i.1];simp only[R.bind_ok];cases d:p x with
  |false=>simp only[g b,List.filter_cons,d];simp
  |true=>simp only[i.2 d,R.bind_ok,g (b++[f x]),List.filter_cons,d];simp
theorem Fc{z:Tx}{i w:Nat}(h:i+w<=z.length):d4 z (aa (i:Int)) (aa ((i:Int)+w))=(z.drop i).take w:=by
 unfold d4;have c:HT.sIx z.length 0 (aa (i:Int))=i:=by rw[HT.sIx_nat];lia
 have b:HT.sIx z.length z.length (aa ((i:Int)+w))=i+w:=by rw[show(i:Int)+w=((i+w:Nat):Int) by lia,HT.sIx_nat];lia
 rw[c,b,Nat.add_sub_cancel_left]
structure Good(l:Tx)(w:Nat)(ls:List Tx):Prop where
 len:∀x∈ls,x.length=w
 abc:∀x∈ls,∀c∈x,c∈l
 some:1<=ls.length
 few:ls.length<=9
theorem iM(b:List Tx):(ao b).length=b.length:=by simp[ao]
theorem HW{n:Nat}{v:Int}(c:0<=v)(b:v<n):j5 n v=aa v.toNat:=by unfold j5;rw[if_pos c,if_pos b]
theorem Au(c b:List Tx):ao c++ao b=ao (c++b):=by simp[ao]
theorem yC{c:Type}(b:List c)(n:Nat):d4 b ae (aa (n:Int))=b.take n:=by
 unfold d4;have d:HT.sIx b.length 0 ae=0:=rfl;rw[d,HT.sIx_nat,wH,Nat.sub_zero];by_cases h:n<=b.length
 .rw[Nat.min_eq_left h]
 .rw[Nat.min_eq_right ∅,kt (aT _),kt ∅]
theorem zg{c:Type}(b:List c)(n:Nat):d4 b (aa (n:Int)) ae=b.drop n:=by
 unfold d4;have d:HT.sIx b.length b.length ae=b.length:=rfl;rw[d,HT.sIx_nat];by_cases h:n<=b.length
 .rw[Nat.min_eq_left h,kt (by rw[qa];lia)]
 .rw[Nat.min_eq_right ∅,wW ∅,wW ∅];simp
theorem lV{t T:String}{b:Bool}{x:PV}(h:pV x=aa t)(e:gx [] (.type t) (.type T)=aa b):fF [x,.raw (.ty T)]=aa (.bl b):=by show((pV x).bind λt=>(gx [] (.type t) (.type T)).map λb=>PV.bl b)=_;rw[h,hU,e];rfl
theorem Ge:gx [] (.type "int") (.type "int")=aa ai:=by decide +kernel
theorem Hz:gx [] (.type "int") (.type "bool")=aa ak:=by decide +kernel
theorem za:gx [] (.type "str") (.type "str")=aa ai:=by decide +kernel
theorem uz:gx [] (.type "tuple") (.type "tuple")=aa ai:=by decide +kernel
theorem CF(bs:List Bool):jZ (bs.map .bl)=aa bs:=by
 induction bs with
 |nil=>rfl
 |cons b bs c=>show(jZ (bs.map .bl)).map (b::·)=_;rw[c];rfl
theorem uP(bs:List Bool):nA [.lst (bs.map .bl)]=aa (.bl (bs.all id)):=by show(jZ (bs.map .bl)).map _=_;rw[CF];rfl
theorem yW(z s:Tx):pQ a [↥z,↥s]=.ok (.val (.bl (z.all s.contains))) [↥z,↥s]:=by
 have b:=lF (cap:=[1]) (dt:=dJ) (de:=(d2 (mS ak) (dV 0) (dV 1))) (ε:=[↥z,↥s]) (λ_=>ai) (λx=>match x with|.str [c]=>.bl (s.contains c)|_=>.non) (z.map λc=>.str [c])
  (by
   intro x h;obtain⟨c,_,rfl⟩:=eF.mp h;refine⟨by simp![d7,dz,c0,dJ],λ_=>?_⟩;have g:mS ak (.str [c]) (.str s)=aa (.bl (s.contains c)):=by rw[<-Cq];simp[mS]
   simp![d7,dz,c0,g]) []
 have i:((z.map λc=>PV.str [c]).filter (λ_=>ai)).map (λx=>match x with|.str [c]=>PV.bl (s.contains c)|_=>.non)=(z.map s.contains).map .bl:=by rw[tZ.mpr (by simp),hV,hV];rfl
 rw[gb,i]at b;have f:(z.map s.contains).all id=z.all s.contains:=by rw[tG];rfl
 generalize z.map s.contains=bs at b f;have d:=uP bs;rw[f]at d;simp![pQ,yah,dr,dG,jx,b,d]
def gK(w:Int)(s z:Tx):Bool:=decide ((z.length:Int)=w)&&z.all s.contains
theorem CU(z s:Tx)(w:Int):nH a [↥z,⇑w,↥s]=.ok (.val (.bl (gK w s z))) [↥z,⇑w,↥s]:=by
 have d:fF [.str z,.raw (.ty "str")]=aa (.bl ai):=lV rfl za;have f:=yW (a:=a) z s;have c:bJ [.str z]=aa (.int (z.length:Nat)):=rfl;have b:=vm ak (z.length:Nat) w;unfold gK;by_cases h:((z.length:Nat):Int)=w
 .simp only[h,decide_true,Bool.xor_true,Bool.not_false]at b;simp![nH,yan,d,c,b,f,h]
 .simp only[h,decide_false,Bool.xor_false]at b;simp![nH,yan,d,c,b,h]
theorem xF(d c:List Tx):eO (ao d) (ao c)=aa (decide (d=c)):=by
 induction d generalizing c with
 |nil=>cases c <;> simp[ao,eO]
 |cons x d f=>
  cases c with
  |nil=>simp[ao,eO]
  |cons y c=>
   show(b0 (.str x) (.str y)).bind (λa=>(eO (ao d) (ao c)).map λb=>a&&b)=_;rw[f];have:b0 (.str x) (.str y)=aa (decide (x=y)):=by
    show aa (tS x == tS y)=_;by_cases h:x=y
    .subst h;simp
    .have:tS x≠tS y:=λz=>h (mZ z);simp[h,this]
   rw[this];simp[List.cons.injEq]
theorem xR(b:List Tx):fJ (ao b)=0:=by
 induction b with
 |nil=>rfl
 |cons x b c=>show max (gw (.str x)) (fJ (ao b))=0;rw[c];rfl
theorem Ic(b:Bool)(c d:List Tx):Pu.eqT b (.lst (ao c)) (.lst (ao d))=aa (.bl (b^^decide (c=d))):=by show(if gw (.lst (ao c))<=8 then(eO (ao c) (ao d)).map (λk=>PV.bl (b^^k))else ae)=_;rw[if_pos (by show fJ (ao c)+1<=8;rw[xR];decide),xF];rfl
theorem C9(b:List Tx)(w:Int)(s:Tx)(t:1<=b.length)(r:b.length<=9):kN a [.val (.tup (ao b)),⇑w,↥s]=.ok (.val (.bl (b.all (gK w s)&&decide (b=bd b)))) [.val (.tup (ao b)),⇑w,↥s]:=by
 have h:fF [.tup (ao b),.raw (.ty "tuple")]=aa (.bl ai):=lV rfl uz;have i:bJ [.tup (ao b)]=aa (.int (b.length:Nat)):=by simp[bJ,iM]
 have m:(1:Int)<=(b.length:Nat):=∅
 have l:((b.length:Nat):Int)<=9:=∅
 have d:=lF (cap:=[1,2]) (dt:=dJ) (de:=(bR (bD (nH a) (gV (dV 0) (gV (dV 1) (gV (dV 2) (Pu.b_))))))) (ε:=[.val (.tup (ao b)),⇑w,↥s]) (λ_=>ai) (λx=>match x with|.str z=>.bl (gK w s z)|_=>.non) (ao b)
  (by intro x o;obtain⟨z,_,rfl⟩:=eF.mp o;refine⟨by simp![d7,dz,c0,dJ],λ_=>?_⟩;have p:=CU (a:=a) z s w;simp![d7,dz,c0,p]) []
 have q:((ao b).filter (λ_=>ai)).map (λx=>match x with|.str z=>PV.bl (gK w s z)|_=>.non)=(b.map (gK w s)).map .bl:=by rw[tZ.mpr (by simp)];unfold ao;rw[hV,hV];rfl
 rw[gb,q]at d;have g:(b.map (gK w s)).all id=b.all (gK w s):=by rw[tG];rfl
 generalize b.map (gK w s)=bs at d g;have f:=uP bs;have n:b.length<=1000000:=∅
 have c:=Ic ak b (bd b);cases j:b.all (gK w s)with
 |false=>rw[g,j]at f;simp![kN,yae,h,i,m,l,dr,dG,jx,d,f]
 |true=>rw[g,j]at f;simp only[Bool.false_xor]at c;simp![kN,yae,h,i,m,l,dr,dG,jx,d,f,sm,nz,oR,n,c]
theorem IR(b:List Tx)(w:Int)(s:Tx)(h:b.length=0\/9<b.length):kN a [.val (.tup (ao b)),⇑w,↥s]=.ok (.val (.bl ak)) [.val (.tup (ao b)),⇑w,↥s]:=by
 have c:fF [.tup (ao b),.raw (.ty "tuple")]=aa (.bl ai):=lV rfl uz;have d:bJ [.tup (ao b)]=aa (.int (b.length:Nat)):=by simp[bJ,iM]
 by_cases f:(1:Int)<=(b.length:Nat)
 .have g:¬((b.length:Nat):Int)<=9:=∅
  simp![kN,yae,c,d,f,g]
 .simp![kN,yae,c,d,f]
theorem Hu(i:Int):rn a [⇑i]=.ok (.val (.bl ai)) [⇑i]:=by have c:fF [.int i,.raw (.ty "int")]=aa (.bl ai):=lV rfl Ge;have b:fF [.int i,.raw (.ty "bool")]=aa (.bl ak):=lV rfl Hz;simp![rn,yal,c,b]
theorem Du(i:Int):nM a [⇑i]=.ok (.val (.bl (decide (1<=i/\i<=4)))) [⇑i]:=by
 have h:=Hu (a:=a) i;by_cases b:1<=i
 .by_cases c:i<=4
  .simp![nM,yam,h,b,c]
  .simp![nM,yam,h,b,c]
 .simp![nM,yam,h,b]
def oO(s:Tx)(w:Int)(b:List Tx):Bool:=decide (1<=w/\w<=4)&&(decide (1<=b.length/\b.length<=9)&&(b.all (gK w s)&&decide (b=bd b)))
theorem IW(s:Tx)(w:Int)(b:List Tx):nr a [.val (.tup [.int w,.tup (ao b)]),↥s]=.ok (.val (.bl (oO s w b))) [.val (.tup [.int w,.tup (ao b)]),↥s]:=by
 have h:fF [.tup [.int w,.tup (ao b)],.raw (.ty "tuple")]=aa (.bl ai):=lV rfl uz;have l:bJ [.tup [.int w,.tup (ao b)]]=aa (.int 2):=rfl;have f:=vm ai 2 2;simp only[decide_true,Bool.true_xor,Bool.not_true]at f;have j:bZ (.tup [.int w,.tup (ao b)]) (.int 0)=aa (.int w):=rfl;have i:bZ (.tup [.int w,.tup (ao b)]) (.int 1)=aa (.tup (ao b)):=rfl;have d:=Du (a:=a) w;unfold oO;by_cases c:1<=w/\w<=4
 .rw[decide_eq_true c]at d ⊢;by_cases g:1<=b.length/\b.length<=9
  .have m:=C9 (a:=a) b w s g.1 g.2;rw[decide_eq_true g];simp![nr,yak,h,l,f,j,i,d,m]
  .have m:=IR (a:=a) b w s ∅;rw[decide_eq_false g];simp![nr,yak,h,l,f,j,i,d,m]
 .rw[decide_eq_false c]at d ⊢;simp![nr,yak,h,l,f,j,i,d]
abbrev vw(w:Int)(b:List Tx):Bool:=oO cL w b
theorem D3(w:Int)(b:List Tx):sr a [.val (.tup [.int w,.tup (ao b)])]=.ok (.val (.bl (vw w b))) [.val (.tup [.int w,.tup (ao b)])]:=by have c:=IW (a:=a) cL w b;simp only[cL]at c;simp![sr,yaj,c];rfl
theorem zX{w:Int}{b:List Tx}(h:vw w b=ai):lO a [.val (.tup [.int w,.tup (ao b)])]=.ok (.val .non) [.val (.tup [.int w,.tup (ao b)])]:=by have c:=D3 (a:=a) w b;rw[h]at c;simp![lO,yag,c]
theorem Good.vw{w:Nat}{d:List Tx}(g:Good cL w d)(n:1<=w)(m:w<=4)(h:d.Pairwise (λa b=>cU a b=ai)):vw w d=ai:=by
 have l:d.all (gK w cL)=ai:=by rw[lh];intro x f;unfold gK;rw[g.len x f,decide_eq_true rfl,Bool.true_and,lh];intro c i;simpa using g.abc x f c i
 have j:decide (d=bd d)=ai:=decide_eq_true (Hi h).symm;show oO cL w d=ai;unfold oO;rw[l,j,decide_eq_true (show 1<=(w:Int)/\(w:Int)<=4 by lia),decide_eq_true (show 1<=d.length/\d.length<=9 from⟨g.some,g.few⟩)];rfl
end
section
variable{a:Ad}
abbrev cp(w:Nat)(ls:List Tx):PV:=.tup [.int w,.tup (ao ls)]
theorem yM(b:List Tx):fA (ao b)=aa (cf b):=by
 induction b with
 |nil=>rfl
 |cons x b c=>show(b7 (.str x)).bind (λv=>(fA (ao b)).map (v::·))=_;rw[c];rfl
theorem zT(b:List Tx)(x:Tx):j4 (ao b) (.str x)=aa (.int (b.count x:Nat)):=by show(b7 (.str x)).bind (λv=>(fA (ao b)).map λc=>PV.int (c.countP λz=>cg z v))=_;rw[yM,<-C0];rfl
end
end Sh
namespace Mx
open L2 Pu
def G5(t:Tx)(w:Nat):List Tx:=(bE t.length).filter λz=>(bP z w).isPerm (bP t w)
def ovD(a w:Tx):Nat->Nat
 |0=>0
 |k+1=>if w.take (k+1) <:+ a then k+1 else ovD a w k
def ov(a w:Tx):Nat:=ovD a w (w.length-1)
def adW(a w:Tx):Tx:=w.drop (ov a w)
theorem ovD_le(a w:Tx):∀k,ovD a w k<=k
 |0=>aT _
 |k+1=>by unfold ovD;split;exact aT _;exact Nat.le_succ_of_le (ovD_le a w k)
theorem ovD_suf(a w:Tx):∀k,w.take (ovD a w k) <:+ a
 |0=>by simp[ovD]
 |k+1=>by unfold ovD;split;assumption;exact ovD_suf a w k
theorem ovD_max(a w:Tx):∀k j,j<=k->w.take j <:+ a->j<=ovD a w k
 |0,j,h,_=>h
 |k+1,j,h,hs=>by
  unfold ovD;split
  .exact h
  .rename_i b;refine ovD_max a w k j ?_ hs;rcases Bu h with h|h
   .lia
   .subst h;exact absurd hs b
theorem ov_lt{a w:Tx}(h:1<=w.length):ov a w<w.length:=by have:=ovD_le a w (w.length-1);unfold ov;lia
theorem ov_nil(w:Tx):ov [] w=0:=by have h:=ovD_suf [] w (w.length-1);have b:=ovD_le [] w (w.length-1);unfold ov;have:=List.suffix_nil.mp h;have a:=congrArg me this;rw[k8,iZ]at a;lia
theorem adW_nil(w:Tx):adW [] w=w:=by unfold adW;rw[ov_nil];rfl
theorem adW_len(a w:Tx):(adW a w).length=w.length-ov a w:=by simp[adW]
theorem lay{a w:Tx}{n:Nat}(d:w.length=n)(c:1<=n)(g:a.length=n):∃p:Tx,1<=p.length/\a++adW a w=p++w:=by
 obtain⟨p,b⟩:=ovD_suf a w (w.length-1);have f:=ov_lt (a:=a) (w:=w) ∅;refine⟨p,?_,?_⟩
 .have:=congrArg me b;rw[cW,k8]at this;have h:ov a w=ovD a w (w.length-1):=rfl;lia
 .show a++w.drop (ovD a w (w.length-1))=p++w;generalize ovD a w (w.length-1)=k at b;rw[<-b,jL,n6]
def chain:Tx->List Tx->Tx
 |_,[]=>[]
 |a,w::b=>adW a w++chain w b
theorem chain_len(n:Nat):∀(b:List Tx) (a:Tx),(∀x∈b,x.length=n)->(chain a b).length<=b.length*n
 |[],_,_=>by simp[chain]
 |w::b,a,h=>by have d:=h w (by simp);have f:=chain_len n b w λx c=>h x (by simp[c]);rw[chain,cW,adW_len,d,eh,wz];lia
theorem chain_abc(l:Tx):∀(d:List Tx) (a:Tx),(∀x∈d,∀c∈x,c∈l)->∀c∈chain a d,c∈l
 |[],_,_,c,b=>by cases b
 |w::d,a,h,c,b=>by
  rcases g8.mp b with b|b
  .exact h w (by simp) c (List.mem_of_mem_drop b)
  .exact chain_abc l d w (λx f=>h x (by simp[f])) c b
theorem wins_cons{n:Nat}(a:1<=n)(c:Nat)(t:Tx)(h:n<=t.length+1):bP (c::t) n=(c::t).take n::bP t n:=by rw[nG _ _ a,nG _ _ a,eh,show t.length+1+1-n=(t.length+1-n)+1 by lia,wF,lc,hV];rfl
theorem wins_pre{n:Nat}(a:1<=n)(t:Tx)(h:n<=t.length):∀p:Tx,∃l:List Tx,bP (p++t) n=l++bP t n/\(1<=p.length->(p++t).take n∈l)/\l.length=p.length
 |[]=>⟨[],rfl,λz=>by simp at z,rfl⟩
 |c::p=>by obtain⟨l,d,_,b⟩:=wins_pre a t h p;refine⟨(c::(p++t)).take n::l,?_,λ_=>by simp,by simp[b]⟩;rw[iB,wins_cons a c (p++t) (by simp;lia),d];rfl
theorem wins_pre1{n:Nat}(a:1<=n)(t:Tx)(h:n<=t.length)(p:Tx)(b:1<=p.length):∃l:List Tx,bP (p++t) n=(p++t).take n::(l++bP t n):=by
 cases p with
 |nil=>simp at b
 |cons c p=>obtain⟨l,d,_,f⟩:=wins_pre a t h p;refine⟨l,?_⟩;rw[iB,wins_cons a c (p++t) (by simp;lia),d]
theorem chain_has{n:Nat}(c:1<=n):∀(b:List Tx) (a:Tx),a.length=n->(∀x∈b,x.length=n)->(a::b).Sublist (bP (a++chain a b) n)
 |[],a,d,_=>by rw[chain,iW,nG _ _ c,d,show n+1-n=1 by lia];show [a].Sublist [(a.drop 0).take n];rw[wH,kt ∅];exact List.Sublist.refl _
 |w::b,a,d,h=>by
  have f:=h w (by simp);have i:=chain_has c b w f λx j=>h x (by simp[j]);obtain⟨p,m,e⟩:=lay (a:=a) f c d;have g:a++chain a (w::b)=p++(w++chain w b):=by rw[chain,<-jL,e,jL]
  obtain⟨l,o⟩:=wins_pre1 c (w++chain w b) (by simp;lia) p m;rw[g,o,<-g,Bv ∅,kt ∅];exact List.Sublist.cons_cons _ (i.trans (List.sublist_append_right _ _))
def Has(n:Nat)(t:Tx)(a:List Tx):Prop:=∀x,a.count x<=(bP t n).count x
theorem chain_has0{n:Nat}(c:1<=n){a b:List Tx}(h:∀x∈a,x.length=n)(p:a.Perm b):Has n (chain [] a) b:=λx=>by
 rw[<-p.count_eq];cases a with
 |nil=>simp
 |cons w a=>have:=chain_has c a w (h w (by simp)) λx d=>h x (by simp[d]);rw[chain,adW_nil];exact this.count_le x
theorem ltX_app(q x y:Tx):bo (q++x) (q++y)=bo x y:=by
 unfold bo;have e:(q++x<q++y)=(x<y):=by
  induction q with
  |nil=>rfl
  |cons c q a=>rw[iB,iB,List.cons_lt_cons_self];exact a
 simp only[cW,Nat.add_left_cancel_iff,Nat.add_lt_add_iff_left,e]
theorem ltX_len{x y:Tx}(h:x.length<y.length):bo x y=ai:=by unfold bo;rw[if_neg ∅];exact decide_eq_true h
theorem ltX_lenF{x y:Tx}(h:y.length<x.length):bo x y=ak:=by unfold bo;rw[if_neg ∅];exact decide_eq_false ∅
theorem ltX_le{x y:Tx}(h:bo x y=ak):y.length<=x.length:=by
 cases Nat.lt_or_ge x.length y.length with
 |inl z=>rw[ltX_len z]at h;cases h
 |inr z=>exact z
theorem ltX_le_trans{x y z:Tx}(b:bo y x=ak)(a:bo z y=ak):bo z x=ak:=by
 cases q:bo z x with
 |false=>rfl
 |true=>
  cases r:bo x y with
  |true=>have:=vz q r;rw[a]at this;cases this
  |false=>have:=u7 b r;subst this;rw[a]at q;cases q
theorem pick_sub:∀(m l:List Tx),(∀x,l.count x<=m.count x)->∃a:List Tx,a.Sublist m/\a.Perm l
 |[],l,h=>by
  have:l=[]:=by
   cases l with
   |nil=>rfl
   |cons x l=>have:=h x;simp at this
  subst this;exact⟨[],.slnil,.nil⟩
 |y::m,l,h=>by
  by_cases d:y∈l
  .obtain⟨a,c,b⟩:=pick_sub m (l.erase y) λx=>by
    have:=h x;by_cases e:y=x
    .subst e;rw[List.count_erase_self];rw[List.count_cons_self]at this;lia
    .rw[List.count_erase_of_ne (λz=>e z.symm)];rw[List.count_cons_of_ne e]at this;exact this
   exact⟨y::a,c.cons_cons y,(b.cons y).trans (List.perm_cons_erase d).symm⟩
  .obtain⟨a,c,b⟩:=pick_sub m l λx=>by
    have:=h x;by_cases e:y=x
    .subst e;rw[List.count_eq_zero.mpr d];lia
    .rw[List.count_cons_of_ne e]at this;exact this
   exact⟨a,c.cons y,b⟩
theorem sub_at{n:Nat}(b:1<=n):∀(t:Tx) {w:Tx}{a:List Tx},(w::a).Sublist (bP t n)->∃(q r:Tx),t=q++(w++r)/\w.length=n/\a.Sublist ((bP (w++r) n).tail)
 |[],w,a,h=>by
  have:bP [] n=[]:=rfl;rw[this]at h;cases h
 |c::t,w,a,h=>by
  by_cases d:n<=t.length+1
  .rw[wins_cons b c t d]at h;cases h with
   |cons _ h=>obtain⟨q,r,e,g,f⟩:=sub_at b t h;exact⟨c::q,r,by rw[e];rfl,g,f⟩
   |cons_cons _ h=>refine⟨[],(c::t).drop n,by simp,by simp;lia,?_⟩;rw[n6,wins_cons b c t d];exact h
  .have:bP (c::t) n=[]:=by rw[nG _ _ b,eh,show t.length+1+1-n=0 by lia];rfl
   rw[this]at h;cases h
theorem tail_wins{n:Nat}(b:1<=n){a r:Tx}(f:a.length=n):(bP (a++r) n).tail=bP ((a++r).drop 1) n:=by
 cases h:a++r with
 |nil=>have:=congrArg me h;rw[cW,iZ]at this;lia
 |cons c t=>have d:=congrArg me h;rw[cW,eh]at d;rw[wins_cons b c t ∅];rfl
theorem chain_least{n:Nat}(f:1<=n):∀(b:List Tx) (a r:Tx),a.length=n->b.Sublist ((bP (a++r) n).tail)->bo r (chain a b)=ak
 |[],a,r,_,_=>by
  unfold chain bo;split
  .rename_i e;rw[iZ]at e;rw[jJ e];rfl
  .exact decide_eq_false (by simp)
 |w::b,a,r,j,h=>by
  rw[tail_wins f j]at h;obtain⟨q,d,e,m,o⟩:=sub_at f _ h;have i:=chain_least f b w d m o;rw[chain];have A:∃p:Tx,1<=p.length/\a++r=p++(w++d):=by
   cases a with
   |nil=>simp at j;lia
   |cons c a=>rw[iB,A5,wH]at e;exact⟨c::q,by simp,by rw[iB,e];rfl⟩
  obtain⟨p,C,g⟩:=A;have z:=congrArg me g;simp only[cW]at z;have u:=ov_lt (a:=a) (w:=w) ∅;have B:n<=p.length+ov a w:=by
   by_cases t:n<=p.length
   .lia
   .have y:w.take (n-p.length) <:+ a:=by
     have x:a=p++w.take (n-p.length):=by have:=congrArg (List.take n) g;rw[Bv ∅,kt ∅,List.take_append,kt (show p.length<=n by lia),Bv ∅]at this;exact this
     exact⟨p,x.symm⟩
    have:=ovD_max a w (w.length-1) (n-p.length) ∅ y;have D:ov a w=ovD a w (w.length-1):=rfl;lia
  have l:=ltX_le i;by_cases v:p.length+ov a w=n
  .have s:r=adW a w++d:=by
    have:=congrArg (List.drop n) g;rw[A6 ∅,wW ∅,gb,List.drop_append,wW (show p.length<=n by lia),gb,A6 ∅]at this;rw[this];unfold adW;congr 2;lia
   rw[s,ltX_app];exact i
  .refine ltX_lenF ?_;rw[cW,adW_len];lia
theorem chain_least0{n:Nat}(b:1<=n){a:List Tx}{t:Tx}(h:a.Sublist (bP t n)):bo t (chain [] a)=ak:=by
 cases a with
 |nil=>
  unfold chain bo;split
  .rename_i e;rw[iZ]at e;rw[jJ e];rfl
  .exact decide_eq_false (by simp)
 |cons w a=>
  obtain⟨q,r,e,d,f⟩:=sub_at b t h;have:=chain_least b a w r d f;rw[chain,adW_nil,e];have g:=ltX_le this;cases q with
  |nil=>rw[gb,ltX_app];exact this
  |cons c q=>exact ltX_lenF (by simp;lia)
def leN:Nat->Tx->List Tx->Tx
 |0,_,_=>[]
 |n+1,a,l=>(kP ((bd (ca l)).map λw=>adW a w++leN n w (l.erase w))).getD []
def LE(a:Tx)(l:List Tx):Tx:=leN l.length a l
theorem minX_some{l:List Tx}(h:l≠[]):∃x,kP l=aa x/\x∈l/\∀y∈l,bo y x=ak:=by
 cases l with
 |nil=>exact absurd rfl h
 |cons b r=>obtain⟨c,a⟩:=y9 r b;exact⟨_,rfl,c,a⟩
theorem LE_step{a:Tx}{l:List Tx}(h:l≠[]):∃w∈l,LE a l=adW a w++LE w (l.erase w)/\∀y∈l,bo (adW a y++LE y (l.erase y)) (LE a l)=ak:=by
 have d:∀w,w∈bd (ca l)↔w∈l:=λw=>by rw[(iH _).mem_iff,nh]
 obtain⟨n,g⟩:∃n,l.length=n+1:=⟨l.length-1,by have:=List.length_pos_iff.mpr h;lia⟩
 have p:((bd (ca l)).map λw=>adW a w++leN n w (l.erase w))≠[]:=by
  intro z;rw[List.map_eq_nil_iff]at z;obtain⟨w,c⟩:=List.exists_mem_of_ne_nil l h;have:=(d w).mpr c;rw[z]at this;cases this
 have i:∀w∈l,leN n w (l.erase w)=LE w (l.erase w):=λw c=>by unfold LE;rw[t0 c,g];rfl
 obtain⟨x,o,m,j⟩:=minX_some p;have e:LE a l=x:=by unfold LE;rw[g];show(kP _).getD []=x;rw[o];rfl
 obtain⟨w,c,rfl⟩:=eF.mp m;have b:=(d w).mp c;refine⟨w,b,by rw[e,i w b],λy f=>?_⟩;rw[e,<-i y f];exact j _ (eF.mpr ⟨y,(d y).mpr f,rfl⟩)
theorem LE_chain:∀(m:Nat) (a:Tx) (l:List Tx),l.length=m->∃b:List Tx,b.Perm l/\LE a l=chain a b
 |0,a,l,h=>⟨[],by rw[jJ h],by rw[jJ h];rfl⟩
 |m+1,a,l,h=>by obtain⟨w,c,e,_⟩:=LE_step (a:=a) (l:=l) (by rintro rfl;simp at h);obtain⟨b,p,d⟩:=LE_chain m w (l.erase w) (by rw[t0 c,h];rfl);exact⟨w::b,(p.cons w).trans (List.perm_cons_erase c).symm,by rw[e,d];rfl⟩
theorem LE_least:∀(m:Nat) (a:Tx) (l b:List Tx),l.length=m->b.Perm l->bo (chain a b) (LE a l)=ak
 |0,a,l,b,h,p=>by have:=jJ h;subst this;rw[List.perm_nil.mp p];rfl
 |m+1,a,l,b,h,p=>by
  cases b with
  |nil=>have:=p.length_eq;simp at this;lia
  |cons w b=>
   have c:w∈l:=p.mem_iff.mp (by simp);obtain⟨_,_,_,f⟩:=LE_step (a:=a) (l:=l) (by rintro rfl;simp at h);have d:b.Perm (l.erase w):=by have:=p.erase w;rwa[List.erase_cons_head]at this
   have g:=LE_least m w (l.erase w) b (by rw[t0 c,h];rfl) d;rw[chain];refine ltX_le_trans (f w c) ?_;rw[ltX_app];exact g
def short(ls:List Tx):Tx:=LE [] ls
theorem short_has{n:Nat}(a:1<=n){ls:List Tx}(h:∀x∈ls,x.length=n):Has n (short ls) ls:=by obtain⟨c,p,e⟩:=LE_chain _ [] ls rfl;unfold short;rw[e];exact chain_has0 a (λx b=>h x (p.mem_iff.mp b)) p
theorem short_least{n:Nat}(c:1<=n){a:List Tx}{t:Tx}(h:Has n t a):bo t (short a)=ak:=by obtain⟨b,d,p⟩:=pick_sub _ _ h;exact ltX_le_trans (LE_least _ [] a b rfl p) (chain_least0 c d)
theorem short_len{n:Nat}{ls:List Tx}(h:∀x∈ls,x.length=n):(short ls).length<=ls.length*n:=by obtain⟨a,p,e⟩:=LE_chain _ [] ls rfl;unfold short;rw[e,<-p.length_eq];exact chain_len n a [] λx b=>h x (p.mem_iff.mp b)
theorem LE_len{n:Nat}{a:Tx}{ls:List Tx}(h:∀x∈ls,x.length=n):(LE a ls).length<=ls.length*n:=by obtain⟨b,p,e⟩:=LE_chain _ a ls rfl;rw[e,<-p.length_eq];exact chain_len n b a λx c=>h x (p.mem_iff.mp c)
theorem short_abc{l:Tx}{ls:List Tx}(h:∀x∈ls,∀c∈x,c∈l):∀c∈short ls,c∈l:=by obtain⟨a,p,e⟩:=LE_chain _ [] ls rfl;unfold short;rw[e];exact chain_abc l a [] λx b=>h x (p.mem_iff.mp b)
end Mx
namespace Sh
open L2 Pu Mx
section
variable{a:Ad}
def alB:aj->R aQ:=(eM (dB (o7 oM (dV 0) (aF (gJ fW (dV 1) (jo) (fX (dV 2))) (aV)))) (cm (gJ fW (dV 1) (fX (dV 2)) (jo))) (ff))
theorem al_one(t w:Tx)(k:Nat)(f:Slot):alB ([↥t,↥w,f].set 2 (⇑k))=.ok (if w.take k <:+ t then .ret (↥(w.drop k))else .next) [↥t,↥w,⇑k]:=by
 have c:fW (.str w) ae (aa ((k:Nat):Int))=aa (.str (w.take k)):=by show aa (PV.str (d4 w ae _))=_;rw[yC]
 have d:fW (.str w) (aa ((k:Nat):Int)) ae=aa (.str (w.drop k)):=by show aa (PV.str (d4 w _ ae))=_;rw[zg]
 have b:oM t [.str (w.take k)]=aa (.bl (decide (w.take k <:+ t))):=rfl;by_cases h:w.take k <:+ t
 .rw[if_pos h];rw[decide_eq_true h]at b;generalize w.take k=T at c b;generalize w.drop k=D at d;generalize ((k:Nat):Int)=KI at c d;simp![alB,o7,vt,gJ,fX,jo,c,d,b]
 .rw[if_neg h];rw[decide_eq_false h]at b;generalize w.take k=T at c b;generalize ((k:Nat):Int)=KI at c;simp![alB,o7,vt,gJ,fX,jo,c,b]
theorem al_loop(t w:Tx):∀(k:Nat) (b:Slot),∃c,eT 2 alB (jA ((k:Nat):Int) k) [↥t,↥w,b]=.ok (if ovD t w k=0 then .next else .ret (↥(w.drop (ovD t w k)))) [↥t,↥w,c]
 |0,b=>⟨b,rfl⟩
 |k+1,b=>by
  have e:jA (((k+1:Nat)):Int) (k+1)=.int ((k+1:Nat):Int)::jA ((k:Nat):Int) k:=by unfold jA;rw[wF,lc,hV];refine congr (congrArg List.cons (by simp)) (A9 λi _=>?_);show PV.int _=PV.int _;congr 1;lia
  have d:=al_one t w (k+1) b;rw[e,eT,d];unfold ovD;by_cases h:w.take (k+1) <:+ t
  .rw[if_pos h,if_pos h];exact⟨_,rfl⟩
  .rw[if_neg h,if_neg h];exact al_loop t w k _
theorem added_eq(t w:Tx)(o:1<=w.length)(p:w.length<=100):o3 a [↥t,↥w]=.ok (↥(adW t w)) [↥t,↥w]:=by
 obtain⟨j,i⟩:=al_loop t w (w.length-1) .none;have l:bJ [.str w]=aa (.int (w.length:Nat)):=by simp[bJ]
 have d:jy (.int (w.length:Nat)) (.int 1)=aa (.int ((w.length-1:Nat):Int)):=by show aa (PV.int ((w.length:Int)-1))=_;congr 2;lia
 have f:oN [.int ((w.length-1:Nat):Int),.int 0,.int (-1)]=aa (jA ((w.length-1:Nat):Int) (w.length-1)):=by show(if(-1:Int)=-1/\(0:Int)<=1000000/\(-1000000:Int)<=0/\((w.length-1:Nat):Int)<=1000000/\-1000000<=((w.length-1:Nat):Int)then aa (jA ((w.length-1:Nat):Int) (((w.length-1:Nat):Int)-0).toNat)else ae)=_;rw[if_pos ⟨rfl,by decide,by decide,∅,∅⟩];congr 2
 have m:pc (.int 1)=aa (.int (-1)):=rfl;have g:ov t w=ovD t w (w.length-1):=rfl;have b:(λc=>eN (eZ 2 (dL oN (aF (d2 jy (dL bJ (aF (dV 1) (aV))) (dC (.int 1))) (aF (dC (.int 0)) (aF (d1 pc (dC (.int 1))) (aV))))) alB c)) [↥t,↥w,.none]=.ok (if ovD t w (w.length-1)=0 then .next else .ret (↥(w.drop (ovD t w (w.length-1))))) [↥t,↥w,j]:=by generalize (if ovD t w (w.length-1)=0 then aQ.next else aQ.ret (↥(w.drop (ovD t w (w.length-1)))))=FL at i;generalize jA ((w.length-1:Nat):Int) (w.length-1)=DW at i f;generalize ((w.length-1:Nat):Int)=W1 at d f;generalize ((w.length:Nat):Int)=W0 at l d;simp![eN,eZ,l,d,m,f,i]
 have n:yad a [↥t,↥w,.none]=.ok (.ret (↥(adW t w))) [↥t,↥w,j]:=by
  show bi (λc=>eN (eZ 2 _ alB c)) (cm (dV 1)) _=_;unfold adW;rw[g];by_cases h:ovD t w (w.length-1)=0
  .rw[if_pos h]at b;rw[h];exact(gt b).trans rfl
  .rw[if_neg h]at b;unfold bi;rw[b]
 simp[o3,bF,fe,bI,cQ,n,back,gR,a6,R.bind]
theorem idx_txP{l:List Tx}{x:Tx}(h:x∈l):∃k,k<l.length/\nE (ao l) (.str x)=aa (.int k)/\l.take k++l.drop (k+1)=l.erase x:=by
 induction l with
 |nil=>cases h
 |cons y l i=>
  have g:∀b:List Tx,nE (ao b) (.str x)=((cf b).findIdx? λz=>cg z (tV x)).map λj=>PV.int (j:Nat):=λb=>by
   unfold nE;rw[yM];show Option.map (λj=>PV.int j) ((List.findIdx? (λz=>cg z (tV x)) (cf b)).bind λa=>aa (a:Int))=_;cases List.findIdx? (λz=>cg z (tV x)) (cf b) <;> rfl
  rw[g];show ∃k,k<(y::l).length/\((tV y::cf l).findIdx? λz=>cg z (tV x)).map (λj=>PV.int (j:Nat))=_/\_;rw[List.findIdx?_cons,Aw];by_cases c:y=x
  .subst c;exact⟨0,by simp,by simp,by simp⟩
  .obtain⟨k,o,f,n⟩:=i ((bw.mp h).resolve_left λz=>c z.symm);rw[g]at f;refine⟨k+1,by simp;lia,?_,?_⟩
   .rw[decide_eq_false c];obtain⟨j,m,d⟩:=tX.mp f;have:j=k:=by injection d with d;exact Int.ofNat.inj d
    subst this;rw[m];rfl
   .rw[List.take_succ_cons,A5,iB,n,List.erase_cons_tail (by simpa using c)]
theorem add1_tx(b c:List Tx)(h:b.length+c.length<=1000):mO (.tup (ao b)) (.tup (ao c))=aa (.tup (ao (b++c))):=by
 cases b with
 |nil=>rfl
 |cons x b=>
  cases c with
  |nil=>show(if(ao b).length<1000 then aa (PV.tup (.str x::ao b))else ae)=_;rw[iM,if_pos (by simp at h;lia),iW];rfl
  |cons y c=>show(if(ao (x::b)≠[]/\ao (y::c)≠[]/\(ao (x::b)).length+(ao (y::c)).length<=1000)then aa (PV.tup (ao (x::b)++ao (y::c)))else ae)=_;rw[if_pos ⟨by simp[ao],by simp[ao],by rw[iM,iM];exact h⟩,Au]
theorem without_eq{l:List Tx}{x:Tx}(h:x∈l)(m:l.length<=100):ph a [.val (.tup (ao l)),↥x]=.ok (.val (.tup (ao (l.erase x)))) [.val (.tup (ao l)),↥x]:=by
 obtain⟨k,j,g,i⟩:=idx_txP h;have d:fW (.tup (ao l)) ae (aa ((k:Nat):Int))=aa (.tup (ao (l.take k))):=by show(if HT.sIx (ao l).length 0 ae=0/\HT.sIx (ao l).length (ao l).length (aa ((k:Nat):Int))=(ao l).length then ae else aa (PV.tup (d4 (ao l) ae (aa ((k:Nat):Int)))))=_;rw[if_neg (by rintro⟨_,z⟩;rw[HT.sIx_nat,iM]at z;lia),yC];simp[ao]
 have c:fW (.tup (ao l)) (aa ((k+1:Nat):Int)) ae=aa (.tup (ao (l.drop (k+1)))):=by show(if HT.sIx (ao l).length 0 (aa ((k+1:Nat):Int))=0/\HT.sIx (ao l).length (ao l).length ae=(ao l).length then ae else aa (PV.tup (d4 (ao l) (aa ((k+1:Nat):Int)) ae)))=_;rw[if_neg (by rintro⟨z,_⟩;rw[HT.sIx_nat,iM]at z;lia),zg];simp[ao]
 have f:mO (.int k) (.int 1)=aa (.int ((k+1:Nat):Int)):=rfl;have b:=add1_tx (l.take k) (l.drop (k+1)) (by simp;lia);rw[i]at b;generalize ((k+1:Nat):Int)=K1 at c f;generalize ((k:Nat):Int)=K0 at d f g;generalize ao (l.take k)=P1 at d b;generalize ao (l.drop (k+1))=P2 at c b;generalize ao (l.erase x)=P3 at b;generalize ao l=PL at d c g;simp![ph,yaz,lG,gJ,fX,jo,g,d,c,f,b]
end
def opts(d:Nat):Tx:=if d=46 then cL else [d]
def fillS(a:List Tx)(d:Nat):List Tx:=a.flatMap λs=>(opts d).map λc=>s++[c]
end Sh
namespace Mx
open L2 Pu
def ke(z:Tx)(i:Nat):Nat:=z.getD (i % z.length) 0
def Ea(z:Tx)(w:Nat):Tx:=((cQ w z).flatten).take (z.length+w-1)
end Mx
namespace Sh
open L2 Pu Mx
section
variable{a:Ad}
def lB(t:Tx)(v:Nat):List Tx:=(cq (t.length+1-v)).map λi=>(t.drop i).take v
theorem Cg{t:Tx}{w:Nat}(m:w<=t.length+1)(o:t.length<=60):l7 a [↥t,⇑w]=.ok (.own (.lst (ao (lB t w)))) [↥t,⇑w]:=by
 have j:bJ [.str t]=aa (.int (t.length:Nat)):=rfl;have h:jy (.int (t.length:Nat)) (.int w)=aa (.int ((t.length:Int)-w)):=rfl;have f:bT (.int ((t.length:Int)-w)) (.int 1)=aa (.int ((t.length+1-w:Nat):Int)):=by show aa (PV.int ((t.length:Int)-w+1))=_;congr 2;lia
 have c:jv [.int ((t.length+1-w:Nat):Int)]=aa (dw 0 (t.length+1-w)):=vI ∅;have b:=lF (cap:=[0,1]) (dt:=dJ) (de:=(gJ fW (dV 1) (fX (dV 0)) (fX (d2 bT (dV 0) (dV 2))))) (ε:=[↥t,⇑w]) (λ_=>ai) (λx=>match x with|.int i=>.str (d4 t (aa i) (aa (i+w)))|_=>.non) (dw 0 (t.length+1-w))
  (by intro x g;obtain⟨i,_,rfl⟩:=eF.mp g;refine⟨by simp![d7,dz,c0,dJ],λ_=>?_⟩;simp![d7,dz,c0,bT,gJ,fX,fW]) []
 have l:((dw 0 (t.length+1-w)).filter (λ_=>ai)).map (λx=>match x with|.int i=>PV.str (d4 t (aa i) (aa (i+w)))|_=>.non)=ao (lB t w):=by
  rw[tZ.mpr (by simp)];unfold dw ao lB;rw[hV,hV];refine A9 λi d=>?_;have d:i<t.length+1-w:=by simpa using d
  simp only[Function.comp,Int.zero_add];rw[Fc ∅]
 rw[gb,l]at b;generalize ao (lB t w)=T at b;generalize dw 0 (t.length+1-w)=RR at c b;generalize ((t.length+1-w:Nat):Int)=n at f c;simp![l7,yaw,oD,dr,j,h,f,c,b]
theorem Ds{t:Tx}{w:Nat}(b:1<=w):lB t w=bP t w:=(nG t w b).symm
theorem ER{t:Tx}{w:Nat}(b:1<=w)(c:w<=t.length+1)(d:t.length<=60):l7 a [↥t,⇑w]=.ok (.own (.lst (ao (bP t w)))) [↥t,⇑w]:=by rw[<-Ds b];exact Cg c d
def m_(b c:Nat):List Nat:=List.range' b (c-b)
def part(t:Tx)(i j:Nat):Tx:=(t.drop i).take (j-i)
def ke(b:List Tx)(i:Nat):Tx:=b.getD i []
def G0(t:Tx)(s e g l:Nat):Tx:=t.take s++part t g l++part t e g++part t s e++t.drop l
def G8(t:Tx)(b:List Tx)(s g e:Nat):List Tx:=(m_ (g+1) b.length).flatMap λl=>if ke b e=ke b l then [G0 t s e g l] else []
def Ep(t:Tx)(b:List Tx)(s g:Nat):List Tx:=(m_ (s+1) (g+1)).flatMap λe=>G8 t b s g e
end
section
variable{a:Ad}
def Ch(t:Tx)(b:List Tx)(s:Nat):List Tx:=(m_ (s+1) b.length).flatMap λg=>if ke b s=ke b g then Ep t b s g else []
def Gk(t:Tx)(b:List Tx):List Tx:=(m_ 0 b.length).flatMap λs=>Ch t b s
def BK(t:Tx)(m w:Nat):List Tx:=(m_ 1 m).map λp=>Ea ((t.take m).drop p++(t.take m).take p) w
def E1(t:Tx)(b:List Tx)(w:Nat):List Tx:=if ke b 0=ke b (b.length-1)then BK t (b.length-1) w else []
def Db(t:Tx)(w:Nat):List Tx:=Gk t (lB t (w-1))++E1 t (lB t (w-1)) w
def CN(t:Tx)(m:Nat):List Tx:=(m_ 1 m).map λp=>part (cQ 3 (t.take m)).flatten p (p+t.length)
def il(t:Tx)(b:List Tx):List Tx:=if ke b 0=ke b (b.length-1)then CN t (b.length-1)else []
end
section
variable{v:Nat}
def oc(v:Nat)(M:List Tx)(y:Tx):Nat:=(M.map λx=>if x.take v=y then 1 else 0).sum
abbrev en(v:Nat)(t:Tx):Tx:=t.drop (t.length-v)
abbrev b2(p:Prop)[Decidable p]:Nat:=if p then 1 else 0
end
inductive WN(w:Nat):Nat->Tx->Tx->Prop
 |here (n:Nat) (t:Tx):WN w n t t
 |on {n:Nat}{t u z:Tx}:WN w n t u->z∈Db u w->WN w (n+1) t z
def Full(w:Nat)(t:Tx)(k:Nat):Prop:=∀z∈G5 t w,WN w k t z
abbrev ks(m:List (Tx×Int)):List Tx:=m.map (·.1)
def b1(p:Prop)[Decidable p]:Int:=if p then 1 else 0
def exc(a:List Tx)(y:Tx):Int:=(a.map λx=>b1 (x.dropLast=y)-b1 (x.tail=y)).sum
section
variable{a:Ad}
def f2(a:Ad):aj->R aQ:=dH 2 (dF (dr [1] (dG (dF (IC 1))) (dB (d2 (fU λi j=>decide (j<i)) (z_ 1 (dV 0)) (dC (.int 0)))) (dV 0)))
def f3:aj->R aQ:=eM (dB (d2 (fU λi j=>decide (j<i)) (dL bJ (aF (dV 2) (aV))) (dC (.int 1)))) (cm (dL gv (aF (dC (.str [116,119,111])) (aF (d2 bZ (dV 2) (dC (.int 0))) (aF (d2 bZ (dV 2) (dC (.int 1))) (aV)))))) (ff)
def f4:aj->R aQ:=eM (Cv (dB (d2 (eqT ak) (dL bJ (aF (dV 2) (aV))) (dC (.int 1)))) (dB (d2 (fU λi j=>decide (j<i)) (z_ 1 (d2 bZ (dV 2) (dC (.int 0)))) (dC (.int 1))))) (cm (dL gv (aF (dC (.str [109,111,114,101])) (aF (d2 bZ (dV 2) (dC (.int 0))) (aV))))) (ff)
theorem th_comp(t:Tx)(d b:Slot)(i:t.length<=50):gZ [2] dJ (d2 bT (dV 1) (dV 0)) (cL.map λc=>.str [c]) [] [d,b,↥t]=.ok (ao (cL.map λc=>t++[c])) [d,b,↥t]:=by
 have f:=lF (cap:=[2]) (dt:=dJ) (de:=(d2 bT (dV 1) (dV 0))) (ε:=[d,b,↥t]) (λ_=>ai) (λx=>match x with|.str [c]=>.str (t++[c])|_=>.non) (cL.map λc=>PV.str [c])
  (by intro x g;obtain⟨c,_,rfl⟩:=eF.mp g;have h:bT (.str t) (.str [c])=aa (.str (t++[c])):=uY (by simp[cA];lia);refine⟨by simp![d7,dz,c0,dJ],λ_=>?_⟩;simp![d7,dz,c0,h]) []
 rw[gb,tZ.mpr (by simp)]at f;rw[f];congr 1
theorem three_eq(b:List Tx)(u:∀t∈b,t.length<=50)(y:(fillS b 46).length<=999999):pI a [.val (.lst (ao b))]=.ok (.own (.lst (ao (fillS b 46)))) [.val (.lst (ao b))]:=by
 obtain⟨q,l,m,p,rest,f,n,rfl⟩:=Ar (i:=2) (db:=(pE 1 (dF (dr [2] (dG (dC (.str [97,98,99]))) (dJ) (d2 bT (dV 1) (dV 0))))))
  (I:=λr ε=>∃(m:Slot) (p rest:List Tx),b=p++rest/\r=ao rest/\ε=[.val (.lst (ao b)),.own (.lst (ao (fillS p 46))),m])
  (by
   rintro x r ε ⟨m,p,rest,f,o,rfl⟩;cases rest with
   |nil=>cases o
   |cons t rest=>
    have g:x::r=.str t::ao rest:=o;simp only[List.cons.injEq]at g;obtain⟨rfl,rfl⟩:=g;have h:=th_comp t (.val (.lst (ao b))) (.own (.lst (ao (fillS p 46)))) (u t (by rw[f];simp));have j:jx (.str [97,98,99])=aa (cL.map λc=>.str [c]):=rfl;have v:fillS (p++[t]) 46=fillS p 46++cL.map λc=>t++[c]:=by simp[fillS,opts]
    have d:(ao (fillS p 46)).length+(ao (cL.map λc=>t++[c])).length<=cA:=by
     rw[iM,iM];have z:(fillS p 46).length+(cL.map λc=>t++[c]).length<=(fillS b 46).length:=by rw[f];simp only[fillS,List.flatMap_append,List.flatMap_cons,cW,opts,if_true];lia
     unfold cA;lia
    refine⟨[.val (.lst (ao b)),.own (.lst (ao (fillS (p++[t]) 46))),↥t],?_,↥t,p++[t],rest,by rw[f];simp,rfl,rfl⟩;rw[v,<-Au];generalize ao (cL.map λc=>t++[c])=Y at h d;generalize ao (fillS p 46)=L at h d;generalize (cL.map λc=>PV.str [c])=A3 at h j;generalize ao b=RR at h;simp![pE,dr,dG,j,h,d])
  (ao b) [.val (.lst (ao b)),.own (.lst (ao (fillS [] 46))),.none] ⟨.none,[],b,by simp,rfl,rfl⟩
 have s:rest=[]:=by cases rest with|nil=>rfl|cons=>cases n
 subst s;rw[iW]at f;rw[<-f]at l;have j:jx (.lst (ao b))=aa (ao b):=rfl;have w:ao (fillS [] 46)=[]:=rfl;rw[w]at l;generalize ao (fillS b 46)=R1 at l;generalize ao b=R0 at l j;simp![pI,yau,eN,eZ,dG,j,l,sv]
theorem eqT_nil(b:Bool)(c:List Tx):Pu.eqT b (.lst (ao c)) (.lst [])=aa (.bl (b^^decide (c=[]))):=by show(if gw (.lst (ao c))<=8 then(eO (ao c) (ao [])).map (λk=>PV.bl (b^^k))else ae)=_;rw[if_pos (by show fJ (ao c)+1<=8;rw[xR];decide),xF];rfl
end
section
variable{a:Ad}
theorem sortSetTP_eq{k:List Tx}(h:k.length<=1000):lZ [.tup (ao k)]=aa (.lst (ao (bd (ca k)))):=by show(eQ (ao k)).bind _=_;rw[oR,hU,if_pos];have:(ca k).length<=k.length:=(GG k).length_le_of_subset λz b=>(nh _ _).mp b;lia
end
def TT:Nat->Nat
 |0=>0
 |m+1=>1+(m+1)*TT m
theorem TT_mono:∀{m n:Nat},m<=n->TT m<=TT n
 |m,0,h=>by rw[Nat.le_zero.mp h];exact aT _
 |m,n+1,h=>by
  rcases Bu h with h|h
  .have:=TT_mono (Nat.le_of_lt_succ h);show TT m<=1+(n+1)*TT n;have a:TT n<=(n+1)*TT n:=Nat.le_mul_of_pos_left _ ∅;lia
  .rw[h];exact aT _
def Kept(m:Nat)(a:List ((Tx×List Tx)×PV)):Prop:=∀p∈a,p.1.2.length<=m/\p.2=.str (LE p.1.1 p.1.2)
theorem Kept.app{m:Nat}{x y:List ((Tx×List Tx)×PV)}(c:Kept m x)(b:Kept m y):Kept m (x++y):=λp a=>(g8.mp a).elim (c p) (b p)
theorem Kept.mono{m n:Nat}{x:List ((Tx×List Tx)×PV)}(h:Kept m x)(b:m<=n):Kept n x:=λp a=>⟨bX (h p a).1 b,(h p a).2⟩
theorem valN_none{a:List ((Tx×List Tx)×PV)}{k:Tx×List Tx}(h:∀p∈a,p.1≠k):valN a k=ae:=by unfold valN;rw[List.find?_eq_none.mpr λp b=>by simpa using h p b];rfl
theorem valN_app{x y:List ((Tx×List Tx)×PV)}{k:Tx×List Tx}(h:valN x k=ae):valN (x++y) k=valN y k:=by
 unfold valN at h ⊢;rw[List.find?_append];cases e:x.find? λa=>decide (a.1=k)with
 |none=>rfl
 |some p=>rw[e]at h;cases h
theorem valN_some{a:List ((Tx×List Tx)×PV)}{k:Tx×List Tx}{m:Nat}(h:Kept m a){v:PV}(e:valN a k=aa v):v=.str (LE k.1 k.2):=by unfold valN at e;obtain⟨p,c,rfl⟩:=tX.mp e;have d:=List.mem_of_find?_eq_some c;have b:=List.find?_some c;simp only[decide_eq_true_eq]at b;rw[(h p d).2,b]
section
variable{a:Ad}
def leB(a:Ad)(rc:aj->R Slot):aj->R aQ:=(pq 3 (d2 bT (bR (bD (o3 a) (gV (dV 0) (gV (dV 4) (Pu.b_))))) (bR (bD (rc) (gV (dV 4) (gV (bR (bD (ph a) (gV (dV 1) (gV (dV 4) (Pu.b_))))) (gO 2 (Pu.b_))))))))
theorem le_step{f:aj->R Slot}{t y:Tx}{l:List Tx}(p:y∈l)(w:l.length<=9)(n:1<=y.length)(s:y.length<=4){h g:List ((Tx×List Tx)×PV)}{r:Tx}(u:r.length<=100)(j:f [↥y,.val (.tup (ao (l.erase y))),.own (.dN h)]=.ok (↥r) [↥y,.val (.tup (ao (l.erase y))),.own (.dN g)]) (b:List Tx) (v:b.length<=100) (o:Slot):leB a f ([↥t,.val (.tup (ao l)),.own (.dN h),.own (.lst (ao b)),o].set 4 (↥y))=.ok .next [↥t,.val (.tup (ao l)),.own (.dN g),.own (.lst (ao (b++[adW t y++r]))),↥y]:=by
 have m:=added_eq (a:=a) t y n ∅;have d:=without_eq (a:=a) p ∅;have x:=adW_len t y;have c:bT (.str (adW t y)) (.str r)=aa (.str (adW t y++r)):=uY (by simp[cA];lia);have i:(ao b).length<cA:=by rw[iM];unfold cA;lia
 have q:ao (b++[adW t y++r])=ao b++[.str (adW t y++r)]:=by simp[ao]
 rw[q];generalize adW t y++r=AR at c;generalize adW t y=A1 at m c;generalize ao (l.erase y)=L2 at d j;generalize ao l=L1 at d;generalize ao b=ES at i;simp![leB,m,d,j,c,i]
theorem le_loop{rc:aj->R Slot}{t:Tx}{l:List Tx}{n:Nat}(u:1<=n)(s:n<=4)(p:∀x∈l,x.length=n)(D:l.length<=9){m:Nat}(O:l.length=m+1){f:List ((Tx×List Tx)×PV)}(B:Kept 9 f)(Q:f.length+TT (m+1)<=900000)(w:∀(y:Tx) (o:List ((Tx×List Tx)×PV)),y∈l->Kept 9 o->o.length+TT m<=900000->∃more,Kept m more/\more.length<=TT m/\rc [↥y,.val (.tup (ao (l.erase y))),.own (.dN o)]=.ok (↥(LE y (l.erase y))) [↥y,.val (.tup (ao (l.erase y))),.own (.dN (o++more))]):∀(d:List Tx) (c:List Tx) (more:List ((Tx×List Tx)×PV)) (g:Slot),(∀y∈d,y∈l)->c.length+d.length<=l.length->Kept m more->more.length<=c.length*TT m -> ∃b r,Kept m b/\b.length<=(c.length+d.length)*TT m/\eT 4 (leB a rc) (ao d) [↥t,.val (.tup (ao l)),.own (.dN (f++more)),.own (.lst (ao c)),g]=.ok .next [↥t,.val (.tup (ao l)),.own (.dN (f++b)),.own (.lst (ao (c++d.map λy=>adW t y++LE y (l.erase y)))),r]
 |[],c,more,g,_,_,q,C=>⟨more,g,q,by simpa using C,by simp[eT,ao]⟩
 |y::d,c,more,g,i,W,q,C=>by
  have h:=i y (by simp);simp only[eh]at W;have G:(c.length+1)*TT m<=(m+1)*TT m:=Nat.mul_le_mul_right _ ∅;have Y:TT (m+1)=1+(m+1)*TT m:=rfl;rw[wz]at G;obtain⟨J,L,X,P⟩:=w y (f++more) h (B.app (q.mono ∅)) (by rw[cW];lia);have Z:=LE_len (n:=n) (a:=y) (ls:=l.erase y) λx N=>p x (List.mem_of_mem_erase N);have j:(LE y (l.erase y)).length<=100:=by
   have S:(l.erase y).length<=9:=by rw[t0 h];lia
   have:=wJ S s;lia
  have E:=le_step (a:=a) (t:=t) h D (by rw[p y h];exact u) (by rw[p y h];exact s) j P c ∅ g;rw[jL]at E;obtain⟨I,H,K,v,A⟩:=le_loop u s p D O B Q w d (c++[adW t y++LE y (l.erase y)]) (more++J) (↥y) (λz M=>i z (by simp[M])) (by simp;lia) (q.app L) (by rw[cW,cW,wy,wz];lia);refine⟨I,H,K,by simp only[cW,wy]at v;rw[eh,show c.length+(d.length+1)=c.length+1+d.length by lia];exact v,?_⟩;have T:ao (y::d)=.str y::ao d:=rfl;rw[T,eT,E];simp only[jL,iB,gb,lc]at A ⊢;exact A
theorem le_eq:∀(k:Nat) (t:Tx) (l:List Tx) (b:List ((Tx×List Tx)×PV)) {n:Nat},1<=n->n<=4->(∀x∈l,x.length=n)->l.length<=9->l.length<k->Kept 9 b->b.length+TT l.length<=900000 -> ∃more,Kept l.length more/\more.length<=TT l.length/\iF a k [↥t,.val (.tup (ao l)),.own (.dN b)]=.ok (↥(LE t l)) [↥t,.val (.tup (ao l)),.own (.dN (b++more))]
 |0,t,l,b,n,_,_,_,_,h,_,_=>∅
 |k+1,t,l,b,n,n1,n4,hn,h9,hk,hK,hB=>by
  have s:bJ [.tup (ao l)]=aa (.int (l.length:Nat)):=by simp[bJ,iM]
  cases g:l.length with
  |zero=>
   have:=jJ g;subst this;have e:Pu.eqT ak (.int 0) (.int 0)=aa (.bl ai):=rfl;refine⟨[],(λp c=>by cases c),by simp,?_⟩;have e2:LE t []=[]:=rfl;have L:bJ [.tup (ao ([]:List Tx))]=aa (.int 0):=rfl;rw[e2,iW];generalize ao ([]:List Tx)=T0 at L;simp![iF,yav,L,e]
  |succ m=>
   have cr:l≠[]:=by rintro rfl;simp at g
   have G:Pu.eqT ak (.int (l.length:Nat)) (.int 0)=aa (.bl ak):=by rw[vm,decide_eq_false ∅];rfl
   have i:j0 (.tup [.str t,.tup (ao l)])=aa (t,l):=by show(eQ (ao l)).map _=_;rw[oR];rfl
   have P:gv [.str t,.tup (ao l)]=aa (.tup [.str t,.tup (ao l)]):=rfl;cases j:valN b (t,l)with
   |some v=>
    have D:=valN_some hK j;subst D;refine⟨[],(λp c=>by cases c),by simp,?_⟩;rw[iW];generalize LE t l=LL at j;generalize ((l.length:Nat):Int)=NI at s G;generalize K:((t,l):Tx×List Tx)=KK at i j;generalize ao l=PL at s i P;simp![iF,yav,s,G,l8,pW,fG,i,j]
   |none=>
    rw[g]at hB;have q:=sortSetTP_eq (k:=l) ∅;obtain⟨more,u,B,Q,r⟩:=le_loop (a:=a) (rc:=iF a k) (t:=t) n1 n4 hn h9 g hK hB (λy B C eW S=>by
     have M:(l.erase y).length=m:=by rw[t0 C,g];rfl
     have:=le_eq k y (l.erase y) B n1 n4 (λx X=>hn x (List.mem_of_mem_erase X)) ∅ ∅ eW (by rw[M];exact S);rw[M]at this;exact this) (bd (ca l)) [] [] .none (λy C=>(nh l y).mp ((iH _).mem_iff.mp C)) (by
      rw[iZ,tU,(iH _).length_eq];exact zK l) (λp c=>by cases c) (by simp)
    rw[iW,gb,show ao []=[] from rfl]at r;have hT:TT (m+1)=1+(m+1)*TT m:=rfl;have Z:more.length<=(m+1)*TT m:=by refine bX Q (Nat.mul_le_mul_right _ ?_);rw[iZ,tU,(iH _).length_eq,<-g];exact zK l
    have f:valN (b++more) (t,l)=ae:=by rw[valN_app j];refine valN_none λp c z=>?_;have:=(B p c).1;rw[z,g]at this;lia
    have I:kP ((bd (ca l)).map λy=>adW t y++LE y (l.erase y))=aa (LE t l):=by obtain⟨w,Y,e,gA⟩:=LE_step (a:=t) cr;refine zI (eF.mpr ⟨w,(iH _).mem_iff.mpr ((nh l w).mpr Y),e.symm⟩) λy C=>?_;obtain⟨z,W,rfl⟩:=eF.mp C;exact gA z ((nh l z).mp ((iH _).mem_iff.mp W))
    have o:eQ (ao ((bd (ca l)).map λy=>adW t y++LE y (l.erase y)))=aa ((bd (ca l)).map λy=>adW t y++LE y (l.erase y)):=oR _;refine⟨more++[((t,l),.str (LE t l))],?_,by rw[cW,wy];lia,?_⟩
    .intro p c;rcases g8.mp c with c|c
     .exact⟨bX (B p c).1 ∅,(B p c).2⟩
     .rw[eG.mp c];exact⟨by rw[g];exact aT _,rfl⟩
    .have N:jx (.lst (ao (bd (ca l))))=aa (ao (bd (ca l))):=rfl;have O:(b++more).length<cA:=by rw[cW];unfold cA;lia
     have d:valN (b++(more++[((t,l),PV.str (LE t l))])) (t,l)=aa (.str (LE t l)):=by rw[<-jL,valN_app f];simp[valN]
     have A:(b++more)++[((t,l),PV.str (LE t l))]=b++(more++[((t,l),PV.str (LE t l))]):=jL ..;generalize b++(more++[((t,l),PV.str (LE t l))])=KF at d A;generalize b++more=K2 at r f O A;generalize LE t l=LL at I d A;generalize ((bd (ca l)).map λy=>adW t y++LE y (l.erase y))=EN at r I o;generalize ao EN=PE at r o;generalize ((l.length:Nat):Int)=NI at s G;generalize K:((t,l):Tx×List Tx)=KK at i j f d A;generalize ao (bd (ca l))=SL at r q N;generalize ao l=PL at s i P q r;have T:(λH=>eN (eZ 4 (dG (dF (dL lZ (aF (dV 1) (aV))))) (leB a (iF a k)) H)) [↥t,.val (.tup PL),.own (.dN b),.own (.lst []),.none]=.ok .next [↥t,.val (.tup PL),.own (.dN K2),.own (.lst PE),u]:=by simp![eN,eZ,dG,q,N,r]
     have E:pJ 2 (dL gv (aF (dV 0) (aF (dV 1) (aV)))) (mX 3) [↥t,.val (.tup PL),.own (.dN K2),.own (.lst PE),u]=.ok .next [↥t,.val (.tup PL),.own (.dN KF),.own (.lst PE),u]:=by simp![pJ,mX,fG,o,I,i,O,f,A]
     have J:(eM (dB (l8 ai 2 (dL gv (aF (dV 0) (aF (dV 1) (aV)))))) (bi (lY 3 (dL gs (aV))) (bi (λH=>eN (eZ 4 (dG (dF (dL lZ (aF (dV 1) (aV))))) (leB a (iF a k)) H)) (pJ 2 (dL gv (aF (dV 0) (aF (dV 1) (aV)))) (mX 3)))) (ff)) [↥t,.val (.tup PL),.own (.dN b),.none,.none]=.ok .next [↥t,.val (.tup PL),.own (.dN KF),.own (.lst PE),u]:=by
      have h1:(dB (l8 ai 2 (dL gv (aF (dV 0) (aF (dV 1) (aV)))))) [↥t,.val (.tup PL),.own (.dN b),.none,.none]=.ok ai [↥t,.val (.tup PL),.own (.dN b),.none,.none]:=by simp![l8,fG,i,j]
      have h2:(lY 3 (dL gs (aV))) [↥t,.val (.tup PL),.own (.dN b),.none,.none]=.ok .next [↥t,.val (.tup PL),.own (.dN b),.own (.lst []),.none]:=by simp![]
      unfold eM;rw[h1];simp only[R.bind_ok];exact(gt h2).trans ((gt T).trans E)
     have hd:yav a (iF a k) [↥t,.val (.tup PL),.own (.dN b),.none,.none]=.ok (.ret (↥LL)) [↥t,.val (.tup PL),.own (.dN KF),.own (.lst PE),u]:=by unfold yav;refine(gt (ε1:=[↥t,.val (.tup PL),.own (.dN b),.none,.none]) (by simp![s,G])).trans ?_;refine(gt J).trans ?_;simp![pW,fG,i,d]
     simp[iF,bF,fe,bI,cQ,hd,back,gR,a6,R.bind,lv]
theorem short_eq{w:Nat}{ls:List Tx}(g:Good cL w ls)(h:1<=w)(f:w<=4)(l:ls.Pairwise (λa b=>cU a b=ai)):sw a [.val (cp w ls)]=.ok (↥(short ls)) [.val (cp w ls)]:=by
 have i:lO a [.val (cp w ls)]=.ok (.val .non) [.val (cp w ls)]:=zX (a:=a) (g.vw h f l);have j:=g.few;have n:TT ls.length<=623530:=bX (TT_mono j) (by decide);obtain⟨more,_,_,c⟩:=le_eq (a:=a) 10 [] ls [] h f g.len j ∅ (λp m=>by cases m) (by simp;lia);have d:bZ (cp w ls) (.int 1)=aa (.tup (ao ls)):=rfl;rw[gb]at c;have e:LE [] ls=short ls:=rfl;rw[e]at c;generalize short ls=SH at c;generalize ao ls=PL at c d;generalize cp w ls=V at i d;simp![sw,yax,i,ri,rX,gN,vF,yK,d,c]
end
def hasB(n:Nat)(t:Tx)(a:List Tx):Bool:=a.all λx=>decide (a.count x<=(bP t n).count x)
theorem hasB_iff{n:Nat}{t:Tx}{ls:List Tx}:hasB n t ls=ai↔Has n t ls:=by
 unfold hasB;rw[lh];constructor
 .intro h x;by_cases a:x∈ls
  .simpa using h x a
  .rw[List.count_eq_zero.mpr a];lia
 .intro h x _;simpa using h x
section
variable{a:Ad}
theorem upTo_eq(z:Tx)(m:Nat):l5 a [↥z,⇑m]=.ok (.val (.bl (decide (1<=z.length/\z.length<=m)&&z.all cL.contains))) [↥z,⇑m]:=by
 have c:fF [.str z,.raw (.ty "str")]=aa (.bl ai):=lV rfl za;have f:=yW (a:=a) z cL;simp only[cL]at f ⊢;have d:bJ [.str z]=aa (.int (z.length:Nat)):=rfl;by_cases g:(1:Int)<=(z.length:Nat)
 .by_cases b:((z.length:Nat):Int)<=(m:Nat)
  .rw[decide_eq_true (show 1<=z.length/\z.length<=m by lia),Bool.true_and];generalize (z.all λx=>List.contains [97,98,99] x)=B at f;generalize ((m:Nat):Int)=MI at b;simp![l5,yai,c,d,g,b,f]
  .rw[decide_eq_false (show ¬(1<=z.length/\z.length<=m) by lia),Bool.false_and];generalize ((m:Nat):Int)=MI at b;simp![l5,yai,c,d,g,b]
 .rw[decide_eq_false (show ¬(1<=z.length/\z.length<=m) by lia),Bool.false_and];generalize ((m:Nat):Int)=MI;simp![l5,yai,c,d,g]
theorem around_yes{z:Tx}(f:1<=z.length)(d:z.length<=60)(b:∀c∈z,c∈cL):sQ a [↥z]=.ok (.val .non) [↥z]:=by
 have h:=upTo_eq (a:=a) z 60;have i:z.all cL.contains=ai:=by rw[lh];intro c h;simpa using b c h
 rw[i,decide_eq_true ⟨f,d⟩]at h;have g:l5 a [↥z,⇑60]=.ok (.val (.bl ai)) [↥z,⇑60]:=h;simp![sQ,yaf,g]
theorem pieces_any{t:Tx}{w:Nat}(c:1<=w)(l:w<=4)(i:t.length<=60):l7 a [↥t,⇑w]=.ok (.own (.lst (ao (bP t w)))) [↥t,⇑w]:=by
 by_cases h:w<=t.length+1
 .exact ER c h i
 .have j:bJ [.str t]=aa (.int (t.length:Nat)):=rfl;have d:jy (.int (t.length:Nat)) (.int w)=aa (.int ((t.length:Int)-w)):=rfl;have b:bT (.int ((t.length:Int)-w)) (.int 1)=aa (.int ((t.length:Int)-w+1)):=rfl;have f:jv [.int ((t.length:Int)-w+1)]=aa []:=by show(if(t.length:Int)-w+1<=1000000/\-1000000<=(t.length:Int)-w+1 then aa (dw 0 ((t.length:Int)-w+1).toNat)else ae)=_;rw[if_pos ⟨∅,∅⟩,show((t.length:Int)-w+1).toNat=0 by lia];rfl
  have g:bP t w=[]:=by rw[nG t w c,show t.length+1-w=0 by lia];rfl
  rw[g,show ao []=[] from rfl];generalize (t.length:Int)-w+1=N1 at b f;generalize (t.length:Int)-w=N0 at b d;simp![l7,yaw,oD,dr,j,d,b,f,gZ]
theorem within_eq{w:Nat}{ls:List Tx}(g:Good cL w ls)(p:1<=w)(o:w<=4)(A:ls.Pairwise (λa b=>cU a b=ai)){t:Tx}(E:1<=t.length)(h:t.length<=60)(D:∀c∈t,c∈cL):lP a [↥t,.val (cp w ls)]=.ok (.val (.bl (hasB w t ls))) [↥t,.val (cp w ls)]:=by
 have q:lO a [.val (cp w ls)]=.ok (.val .non) [.val (cp w ls)]:=zX (a:=a) (g.vw p o A);have y:=around_yes (a:=a) E h D;have n:=pieces_any (a:=a) (t:=t) p o h;have m:bZ (cp w ls) (.int 0)=aa (.int w):=rfl;have f:bZ (cp w ls) (.int 1)=aa (.tup (ao ls)):=rfl;have r:jx (.tup (ao ls))=aa (ao ls):=rfl;have d:=lF (cap:=[2,1]) (dt:=dJ) (de:=(d2 (fU λi j=>decide (j<=i)) (sO j4 (dV 1) (dV 0)) (lG j4 (d2 bZ (dV 2) (dC (.int 1))) (dV 0)))) (ε:=[↥t,.val (cp w ls),.val (.lst (ao (bP t w)))]) (λ_=>ai)
  (λx=>match x with|.str z=>.bl (decide (ls.count z<=(bP t w).count z))|_=>.non) (ao ls)
  (by intro x v;obtain⟨z,_,rfl⟩:=eF.mp v;have u:=zT (bP t w) z;have s:=zT ls z;generalize ao (bP t w)=A1 at u;generalize ao ls=B1 at s f;generalize cp w ls=V at f;refine⟨by simp![d7,dz,c0,dJ],λ_=>?_⟩;simp![d7,dz,c0,lG,sO,u,s,f]) []
 have C:((ao ls).filter (λ_=>ai)).map (λx=>match x with|.str z=>PV.bl (decide (ls.count z<=(bP t w).count z))|_=>.non)=(ls.map λz=>decide (ls.count z<=(bP t w).count z)).map .bl:=by rw[tZ.mpr (by simp)];unfold ao;rw[hV,hV];rfl
 rw[gb,C]at d;have G:(ls.map λz=>decide (ls.count z<=(bP t w).count z)).all id=hasB w t ls:=by rw[tG];rfl
 have l:=uP (ls.map λz=>decide (ls.count z<=(bP t w).count z));rw[G]at l;generalize hasB w t ls=B at l;generalize (ls.map λz=>decide (ls.count z<=(bP t w).count z)).map PV.bl=BL at d l;generalize ao (bP t w)=A1 at n d;generalize ao ls=B1 at f r d;generalize cp w ls=V at m f q d;generalize ((w:Nat):Int)=WI at m n;simp![lP,yay,y,q,m,n,dr,dG,f,r,d,l]
end
end Sh
namespace K15
open L2 Pu Mx Sh
section
variable{a:Ad}
theorem yu(d:List Int)(w:Nat)(u:w<=4)(q p o n m l:Slot):∀(g:List PV) (b:List Tx) (f:List PV),f.length+6*g.length<=400 -> ∃(ls:List Tx) (j:List PV),ls.length=g.length/\(∀x∈ls,x.length=w/\∀c∈x,c∈cL)/\gZ [0,1,2] dJ (bR (bD (oV a) (gV (dV 1) (gO 2 (gV (dV 3) (gV (dV 3) (Pu.b_))))))) g (ao b) [cu d,.own (.lst f),⇑w,q,p,o,n,m,l]=.ok (ao (b++ls)) [cu d,.own (.lst j),⇑w,q,p,o,n,m,l]
 |[],b,f,_=>⟨[],f,rfl,(λx C=>by cases C),by simp[gZ]⟩
 |x::g,b,f,h=>by
  simp only[eh]at h;obtain⟨t,j,I,H,z,J,i⟩:=Gm (a:=a) d f w w ∅ ∅ ∅;obtain⟨ls,v,B,A,s⟩:=yu d w u q p o n m l g (b++[t]) j ∅;refine⟨t::ls,v,by simp[B],λy r=>?_,?_⟩
  .rcases bw.mp r with rfl|r
   .exact⟨∅,z⟩
   .exact A y r
  .have G:ao (b++[t])=ao b++[.str t]:=by simp[ao]
   have E:b++t::ls=b++[t]++ls:=by simp
   rw[E,<-s,G];generalize ao b=AC;clear s;generalize ((w:Nat):Int)=WI at i;have D:cu d=.val (.lst (d.map .int)):=rfl;rw[D]at i ⊢;generalize d.map PV.int=NS at i;simp![gZ,d7,dz,c0,dJ,i]
def F(w:Nat)(b:List Tx)(k:Nat):List Tx:=(bE k).filter λt=>hasB w t b
theorem first_is{w:Nat}(g:1<=w){d:List Tx}(s:∀x∈d,x.length=w)(v:∀x∈d,∀c∈x,c∈cL)(o:1<=(short d).length){k:Nat}(q:∀j,1<=j->j<=k->F w d j=[]){t:Tx}{r:List Tx}(h:F w d (k+1)=t::r):t=short d/\(short d).length=k+1:=by
 have m:∀j u,u∈F w d j↔(u.length=j/\∀c∈u,c∈cL)/\Has w u d:=λj u=>by unfold F;rw[wm,ny,hasB_iff]
 have f:short d∈F w d (short d).length:=(m _ _).mpr ⟨⟨rfl,short_abc v⟩,short_has g s⟩;have p:t∈F w d (k+1):=by rw[h];simp
 obtain⟨⟨A,_⟩,i⟩:=(m _ _).mp p;have B:=ltX_le (short_least g i);have n:(short d).length=k+1:=by
  rcases Nat.lt_or_ge (short d).length (k+1)with z|z
  .rw[q _ o ∅]at f;cases f
  .lia
 refine⟨?_,n⟩;rw[n]at f;have l:(F w d (k+1)).Pairwise (λa b=>a<b):=(z5 (k+1)).filter _;rw[h]at f l;rcases bw.mp f with e|e
 .exact e.symm
 .have y:=(List.pairwise_cons.mp l).1 _ e;have:=short_least g i;unfold bo at this;rw[if_pos ∅]at this;exact absurd y (by simpa using this)
def fB(a:Ad):aj->R aQ:=(bi (dH 6 (bR (bD (pI a) (gV (dV 6) (Pu.b_))))) (bi (dH 8 (dF (dr [4] (dG (dV 6)) (dB (bR (bD (lP a) (gV (dV 0) (gV (dV 1) (Pu.b_)))))) (dV 0)))) (eM (dB (d2 (Pu.eqT ai) (dV 8) (dF (dL gs (aV))))) (cm (d2 (Pu.eqT ak) (dV 5) (d2 bZ (dV 8) (dC (.int 0))))) (ff))))
theorem Cp{x:PV}{b:List PV}:dA (x::b) 0=aa x:=by unfold dA;rw[HW (by decide) (by simp)];rfl
theorem Cr{w:Nat}{c:List Tx}(g:Good cL w c)(E:1<=w)(C:w<=4)(I:c.Pairwise (λa b=>cU a b=ai))(k:Nat)(M:k<=5)(x:PV)(j i h f o:Slot)(m:Tx):fB a [j,i,h,f,.val (cp w c),↥m,.val (.lst (ao (bE k))),.val x,o]=.ok (match F w c (k+1)with|[]=>.next|t::_=>.ret (.val (.bl (decide (m=t))))) [j,i,h,f,.val (cp w c),↥m,.val (.lst (ao (bE (k+1)))),.val x,.val (.lst (ao (F w c (k+1))))]:=by
 have A:fillS (bE k) 46=bE (k+1):=by rw[Ce];rfl
 have n:=three_eq (a:=a) (bE k) (λt q=>by rw[((ny k t).mp q).1];lia) (by rw[A,Ao];exact bX (Nat.pow_le_pow_right (by decide) (show k+1<=6 by lia)) (by decide));rw[A]at n;have l:=lF (cap:=[4]) (dt:=(dB (bR (bD (lP a) (gV (dV 0) (gV (dV 1) (Pu.b_))))))) (de:=dV 0) (ε:=[j,i,h,f,.val (cp w c),↥m,.val (.lst (ao (bE (k+1)))),.val x,o]) (λv=>match v with|.str t=>hasB w t c|_=>ak) (λv=>v) (ao (bE (k+1)))
  (by
   intro v H;obtain⟨t,q,rfl⟩:=eF.mp H;obtain⟨L,G⟩:=(ny _ _).mp q;have p:=within_eq (a:=a) g E C I (t:=t) ∅ ∅ G;dsimp only;generalize hasB w t c=B at p;generalize cp w c=V at p;generalize ao (bE (k+1))=RR;refine⟨?_,λ_=>?_⟩
   .simp![d7,dz,c0,p]
   .simp![d7,dz,c0]) []
 have J:((ao (bE (k+1))).filter (λv=>match v with|.str t=>hasB w t c|_=>ak)).map (λv=>v)=ao (F w c (k+1)):=by rw[List.map_id'];unfold ao F;rw[List.filter_map];rfl
 rw[gb,J]at l;have z:jx (.lst (ao (bE (k+1))))=aa (ao (bE (k+1))):=rfl;have d:=eqT_nil ai (F w c (k+1));unfold fB;refine(gt (ε1:=[j,i,h,f,.val (cp w c),↥m,.val (.lst (ao (bE (k+1)))),.val x,o]) (by generalize ao (bE (k+1))=R1 at n;generalize ao (bE k)=R0 at n;generalize cp w c=V;simp![n])).trans ?_;refine(gt (ε1:=[j,i,h,f,.val (cp w c),↥m,.val (.lst (ao (bE (k+1)))),.val x,.val (.lst (ao (F w c (k+1))))]) (by generalize ao (F w c (k+1))=FF at l;generalize ao (bE (k+1))=R1 at l z;generalize cp w c=V at l;simp![dr,dG,z,l])).trans ?_;generalize ao (bE (k+1))=R1;generalize cp w c=V;cases y:F w c (k+1)with
 |nil=>rw[y]at d;rw[show ao []=[] from rfl]at d ⊢;simp![d]
 |cons t r=>
  rw[y]at d;have s:bZ (.lst (ao (t::r))) (.int 0)=aa (.str t):=by show dA (.str t::ao r) 0=_;exact Cp
  have u:=ED ak m t;rw[decide_eq_false (by simp)]at d;generalize ao (t::r)=TR at s d;generalize K:decide (m=t)=D at u;simp![d,s,u,K]
theorem zQ{w:Nat}{ls:List Tx}(g:Good cL w ls)(q:1<=w)(A:w<=4)(B:ls.Pairwise (λa b=>cU a b=ai))(v:1<=(short ls).length)(p o n m:Slot):∀(d:List PV) (k:Nat) (u h:Slot),k+d.length=6->(∀j,1<=j->j<=k->F w ls j=[]) -> ∃l i f,eT 7 (fB a) d [p,o,n,m,.val (cp w ls),↥(short ls),.val (.lst (ao (bE k))),u,h]=.ok (if(short ls).length<=6 then .ret (.val (.bl ai))else .next) [p,o,n,m,.val (cp w ls),↥(short ls),l,i,f]
 |[],k,u,h,y,s=>by
  have:¬(short ls).length<=6:=λz=>by
   have D:short ls∈F w ls (short ls).length:=wm.mpr ⟨(ny _ _).mpr ⟨rfl,short_abc g.abc⟩,hasB_iff.mpr (short_has q g.len)⟩;simp only[iZ]at y;rw[s _ v ∅]at D;cases D
  rw[if_neg this];exact⟨_,_,_,rfl⟩
 |x::d,k,u,h,y,s=>by
  simp only[eh]at y;have H:=Cr (a:=a) g q A B k ∅ x p o n m h (short ls);rw[eT];show ∃l i f,(match fB a [p,o,n,m,.val (cp w ls),↥(short ls),.val (.lst (ao (bE k))),.val x,h]with
   |.ok .next c=>eT 7 (fB a) d c
   |.ok .cont c=>eT 7 (fB a) d c
   |.ok .brk c=>.ok .next c
   |r=>r)=_
  rw[H];cases C:F w ls (k+1)with
  |nil=>
   exact zQ g q A B v p o n m d (k+1) (.val x) _ ∅ λj G E=>by
    rcases Bu E with z|z
    .exact s j G ∅
    .rw[z];exact C
  |cons t r=>obtain⟨rfl,I⟩:=first_is q g.len g.abc v s C;rw[if_pos ∅];refine⟨.val (.lst (ao (bE (k+1)))),.val x,.val (.lst (ao (short ls::r))),?_⟩;dsimp only;rw[decide_eq_true rfl]
theorem Fh(b:List Int):oS a [cu b]=.ok (.val (.bl ai)) [cu b]:=by
 obtain⟨v,v0,v1,s⟩:=pX (a:=a) b [] 3 (by decide) (by simp);obtain⟨w,hw⟩:∃w:Nat,1+v=(w:Nat):=⟨(1+v).toNat,∅⟩
 obtain⟨u,u0,u1,Y⟩:=pX (a:=a) b ([]++[.int 0]) 4 (by decide) (by simp);obtain⟨m,hm⟩:∃m:Nat,1+u=(m:Nat):=⟨(1+u).toNat,∅⟩
 have C:1<=w:=∅
 have n:w<=4:=∅
 simp only[gb,iB]at s Y;have aZ:(dw 0 m).length=m:=by simp[dw]
 obtain⟨ls,d,l1,X,i⟩:=yu (a:=a) b w n (⇑m) .none .none .none .none .none (dw 0 m) [] [.int 0,.int 0] (by rw[aZ];simp;lia);rw[aZ]at l1;rw[gb,show ao []=[] from rfl]at i;have g:Good cL w (bd ls):=by have p:=iH ls;exact⟨λx K=>(X x (p.mem_iff.mp K)).1,λx K=>(X x (p.mem_iff.mp K)).2,by rw[p.length_eq];lia,by rw[p.length_eq];lia⟩
 have L:=zY ls;have I:=short_eq (a:=a) g C n L;have hh:=short_has C g.len;have hsl:=short_len g.len;have H:(short (bd ls)).length<=60:=by have hb:(bd ls).length*w<=9*4:=wJ g.few n;lia
 have W:1<=(short (bd ls)).length:=by
  have h1:=g.some;obtain⟨y,r,e⟩:∃y r,bd ls=y::r:=List.exists_cons_of_ne_nil (by intro z;rw[z]at h1;simp at h1);cases hz:short (bd ls)with
  |nil=>have:=hh y;rw[hz,e]at this;simp[bP]at this
  |cons=>simp
 obtain⟨T,S,Q,l⟩:=zQ (a:=a) g C n L W (cu b) (.own (.lst d)) (⇑w) (⇑m) [.int 1,.int 2,.int 3,.int 4,.int 5,.int 6] 0 .none .none rfl (λj j1 j2=>∅);have D:=within_eq (a:=a) g C n L W H (short_abc g.abc);rw[hasB_iff.mpr hh]at D;have J:=EM (ls:=ls) ∅;have o:r9 [.lst (ao (bd ls))]=aa (.tup (ao (bd ls))):=rfl;have c:PV.tup [.int w,.tup (ao (bd ls))]=cp w (bd ls):=rfl;have A:bT (.int 1) (.int v)=aa (.int w):=by show aa (PV.int (1+v))=_;rw[hw]
 have t:bT (.int 1) (.int u)=aa (.int m):=by show aa (PV.int (1+u))=_;rw[hm]
 have f:jv [.int m]=aa (dw 0 m):=vI ∅;have lu:pf [.int 1,.int 7]=aa [.int 1,.int 2,.int 3,.int 4,.int 5,.int 6]:=rfl;have h:bJ [.str (short (bd ls))]=aa (.int ((short (bd ls)).length:Nat)):=rfl;have e0:ao (bE 0)=[.str []]:=rfl;rw[e0]at l;obtain⟨P,O,N,q⟩:∃P O N,yao a [cu b,.none,.none,.none,.none,.none,.none,.none,.none]=.ok (.ret (.val (.bl ai))) [cu b,.own (.lst d),⇑w,⇑m,.val (cp w (bd ls)),↥(short (bd ls)),P,O,N]:=by
  refine⟨T,S,Q,?_⟩;show bi _ (bi _ (bi _ (bi _ (bi _ (bi _ (bi (λG=>eN (eZ 7 _ (fB a) G)) _)))))) _=_;generalize B:(((short (bd ls)).length:Nat):Int)=SL at h;generalize dw 0 m=RG at i f;generalize ((m:Nat):Int)=MI at t i f l ⊢;refine(gt (ε1:=[cu b,.own (.lst []),.none,.none,.none,.none,.none,.none,.none]) (by simp![])).trans ?_;generalize ao (bd ls)=PS at J o c;generalize ao ls=PL at i J;generalize cp w (bd ls)=V at c I l D ⊢;generalize ((w:Nat):Int)=WI at A i c l ⊢;generalize Z:short (bd ls)=SH at I l D h B ⊢;refine(gt (ε1:=[cu b,.own (.lst [.int 0]),⇑WI,.none,.none,.none,.none,.none,.none]) (by simp![s,A])).trans ?_;refine(gt (ε1:=[cu b,.own (.lst [.int 0,.int 0]),⇑WI,⇑MI,.none,.none,.none,.none,.none]) (by simp![Y,t])).trans ?_;refine(gt (ε1:=[cu b,.own (.lst d),⇑WI,⇑MI,.val V,.none,.none,.none,.none]) (by simp![dr,f,i,J,o,c])).trans ?_;refine(gt (ε1:=[cu b,.own (.lst d),⇑WI,⇑MI,.val V,↥SH,.none,.none,.none]) (by simp![I])).trans ?_;refine(gt (ε1:=[cu b,.own (.lst d),⇑WI,⇑MI,.val V,↥SH,.val (.lst [.str []]),.none,.none]) (by simp![])).trans ?_;have E:(λG=>eN (eZ 7 (dL pf (aF (dC (.int 1)) (aF (dC (.int 7)) (aV)))) (fB a) G)) [cu b,.own (.lst d),⇑WI,⇑MI,.val V,↥SH,.val (.lst [.str []]),.none,.none]=.ok (if SH.length<=6 then .ret (.val (.bl ai))else .next) [cu b,.own (.lst d),⇑WI,⇑MI,.val V,↥SH,T,S,Q]:=by simp![eN,eZ,lu,l]
  by_cases h6:SH.length<=6
  .rw[if_pos h6]at E;unfold bi;rw[E]
  .rw[if_neg h6]at E;have M:(6:Int)<SL:=by rw[<-B];lia
   refine(gt E).trans ?_;simp![h,M,D]
 simp[oS,bF,fe,bI,cQ,q,back,gR,a6,R.bind]
end
open L2 Pu Sh
def vU(K:au)(a:Ad):Bool:=oj K a.SlitError sh "ValueError.__new__" && (nD a).all (λx=>oj K x sh "ValueError.__new__" && subB K a.SlitError x&&zf K x&&(nD a).all (λd=>gx K (.ref x) (.ref d) == aa (x == d))&&gx K (.ref x) (.type "ValueError") == aa ai)&&ue K
section
variable{K:au}{h g:ax}{i:Str->Option ah}{a:Ad}
theorem uE(h:vU K a=ai):oj K a.SlitError sh "ValueError.__new__"=ai/\(∀x∈nD a,oj K x sh "ValueError.__new__"=ai/\subB K a.SlitError x=ai/\zf K x=ai/\(∀d∈nD a,gx K (.ref x) (.ref d)=aa (x == d))/\gx K (.ref x) (.type "ValueError")=aa ai)/\ue K=ai:=by unfold vU at h;simp only[eV,lh,beq_iff_eq,decide_eq_true_eq]at h;obtain⟨⟨j,c⟩,f⟩:=h;exact⟨j,λx b=>⟨(c x b).1.1.1.1,(c x b).1.1.1.2,(c x b).1.1.2,(c x b).1.2,(c x b).2⟩,f⟩
structure Top(K:au)(a:Ad):Prop where
 yap:cP K "_law_cell_at" uv
 yar:cP K "_law_mixed" ui
 yaq:cP K "_law_draw" u_
 yas:cP K "_law_pick" v8
 yat:cP K "_law_text" uU
 yal:cP K "is_whole_number" uG
 yam:cP K "is_width" wg
 yah:cP K "has_only" rH
 yan:cP K "is_window" vS
 yae:cP K "are_windows" rK
 yak:cP K "is_view_with" vK
 yaj:cP K "is_view" vn
 yag:cP K "check_view" wj
 yad:cP K "added_letters" uR
 yaz:cP K "without" v6
 yav:cP K "least_ending" uQ
 yax:cP K "shortest" vH
 yau:cP K "_law_three" sB
 yai:cP K "is_text_up_to" vX
 yaf:cP K "check_text_around" uj
 yaw:cP K "pieces" rV
 yay:cP K "within" rk
 yao:cP K "law" mI
 yaB:cX K bG "all"=aa ae
 yaC:cX K bG "bool"=aa ae
 yaD:cX K bG "int"=aa ae
 yaE:cX K bG "isinstance"=aa ae
 yaF:cX K bG "len"=aa ae
 yaG:cX K bG "list"=aa ae
 yaH:cX K bG "min"=aa ae
 yaI:cX K bG "range"=aa ae
 yaJ:cX K bG "set"=aa ae
 yaK:cX K bG "sorted"=aa ae
 yaL:cX K bG "str"=aa ae
 yaM:cX K bG "tuple"=aa ae
 yaP:∃t,cX K bG "LETTERS"=aa (aa (.str (tS [97,98,99]) t))
 yaQ:∃t,cX K bG "MOST_LETTERS_AROUND"=aa (aa (.int 60 t))
 yaR:∃t,cX K bG "MOST_WINDOWS"=aa (aa (.int 9 t))
 yaS:∃t,cX K bG "WIDEST"=aa (aa (.int 4 t))
 yac:cX K bG "SlitError"=aa (aa (.ref a.SlitError))
 yaa:cX K bG "NoText"=aa (aa (.ref a.NoText))
 yab:cX K bG "NoView"=aa (aa (.ref a.NoView))
 ck:vU K a=ai
 z_least_ending:iS K "least_ending"=aa (142,138)/\tD K 142 138=ai/\K.lookup 138=ae
theorem Dq(T:Top K a)(X:K.In g)(G:g.Ns bG i):cT K i g a where
 yap:=T.yap.at X G
 yar:=T.yar.at X G
 yaq:=T.yaq.at X G
 yas:=T.yas.at X G
 yat:=T.yat.at X G
 yal:=T.yal.at X G
 yam:=T.yam.at X G
 yah:=T.yah.at X G
 yan:=T.yan.at X G
 yae:=T.yae.at X G
 yak:=T.yak.at X G
 yaj:=T.yaj.at X G
 yag:=T.yag.at X G
 yad:=T.yad.at X G
 yaz:=T.yaz.at X G
 yav:=T.yav.at X G
 yax:=T.yax.at X G
 yau:=T.yau.at X G
 yai:=T.yai.at X G
 yaf:=T.yaf.at X G
 yaw:=T.yaw.at X G
 yay:=T.yay.at X G
 yao:=T.yao.at X G
 yaB:=i9 X G T.yaB
 yaC:=i9 X G T.yaC
 yaD:=i9 X G T.yaD
 yaE:=i9 X G T.yaE
 yaF:=i9 X G T.yaF
 yaG:=i9 X G T.yaG
 yaH:=i9 X G T.yaH
 yaI:=i9 X G T.yaI
 yaJ:=i9 X G T.yaJ
 yaK:=i9 X G T.yaK
 yaL:=i9 X G T.yaL
 yaM:=i9 X G T.yaM
 yaP:=T.yaP.imp λ_ e=>i6 X G e
 yaQ:=T.yaQ.imp λ_ e=>i6 X G e
 yaR:=T.yaR.imp λ_ e=>i6 X G e
 yaS:=T.yaS.imp λ_ e=>i6 X G e
 yac:=i6 X G T.yac
 yaa:=i6 X G T.yaa
 yab:=i6 X G T.yab
 yaO:=xZ X (i6 X G T.yab) ((uE T.ck).2.1 a.NoView (by simp[nD])).1
 yaN:=xZ X (i6 X G T.yaa) ((uE T.ck).2.1 a.NoText (by simp[nD])).1
 yaA:=⟨_,_,GI X G T.z_least_ending.1 T.z_least_ending.2.1⟩
theorem Ez{l:wB}{w:aC}{d:af}(X:K.In h)(G:h.Ns bG i)(b:i "law"=aa (.ref d))(T:Top K a):∃c:fM,(∀(s:am) (v:ah),BindsTo s c ⟨[v],[]⟩ [("_law_script",v)])/\∀g:ax,K.In g->g.Ns bG i->iJ l.prog w K i g (b8 l.prog w) 14 d c ["_law_script"] (bN K (oS a)):=by
 obtain⟨f,oc,u,kV,x,t,A,z,y,r,o,n,m,j⟩:=T.yao;have e:=b.symm.trans (i6 X G o);cases e;exact⟨_,λs v=>.of_eq rfl,λg p q=>Fs (Dq T p q) (zU n m j)⟩
theorem D2{l:wB}{q:aG}{j:List Str}{XP:(Str->Option ah)->ax->Prop}{p:aC->ax->Prop}{d:DefRec}{K:Params->au}(y:l.most=aa 63)(v:d.params.defaults=[])(m:d.name = "law")(o:∀(w:aC) (h:ax),p w h->(K w.params).In h/\h.get? 138=aa (PySem.W.tabObj #[])) {a:Ad} (T:∀w:aC,Top (K w.params) a):PySem.W.WalkO q j XP p l.row.toRowW d [] (λf r=>PySem.call f r) :=
 L2.JV (n:=63) (k:=14) (x:="_law_script") (K:=K) (CX:=λw=>b8 l.prog w) (sp:=λw=>bN (K w.params) (oS a)) y (by decide) v ⟨rfl,by decide,by decide⟩ (λw h Y=>⟨(o w h Y).1,λc P e=>by rw[(T w).z_least_ending.1]at e;cases e;exact⟨(T w).z_least_ending.2.1,(T w).z_least_ending.2.2,(o w h Y).2⟩⟩)
  (λw i E h B G t=>Ez B G (by rw[<-m];exact t) (T w))
  (λw H b u D _ A=>HU (Hl (uE (T w).ck).2.2 A) (Fh  u))
  (λw H s e C z=>by obtain⟨_,_,_,_,_,_,_,_,_,_,_,f⟩:=z;exact f)
theorem JP{l:wB}{q:aG}{b:List Str}{XP:(Str->Option ah)->ax->Prop}{j:aC->ax->Prop}{d:DefRec}{K:Params->au}{yac yaa yab:af}(o:l.most=aa 63)(n:d.params.defaults=[])(c:d.name = "law")(p:∀(w:aC) (h:ax),j w h->(K w.params).In h/\h.get? 138=aa (PySem.W.tabObj #[])) (T:∀w:aC,Top (K w.params) ⟨yac,yaa,yaa,yab,yaa,yaa,yaa,yaa,yaa,yaa,yaa,yaa,0,0⟩):PySem.W.WalkO q b XP j l.row.toRowW d [] (λf m=>PySem.call f m):=D2 o n c p T
end
end K15
def PySem.W.Fast.tw16848506630149394397:Nat:=0
def PySem.W.Fast.tw14125446897212468443:Nat:=0
def PySem.W.Fast.tw13904345819849462039:Nat:=0
def PySem.W.Fast.tw1545464157038281208:Nat:=0
def PySem.W.Fast.tw16350345951278437501:Nat:=0
def PySem.W.Fast.tw4803859682782618498:Nat:=0
def PySem.W.Fast.tw10834044144119001244:Nat:=0
def PySem.W.Fast.tw434141981142034537:Nat:=0
def PySem.W.Fast.tw12291169516446387259:Nat:=0
def PySem.W.Fast.tw1131588560415591849:Nat:=0
def PySem.W.Fast.tw15774116601309425723:Nat:=0
def PySem.W.Fast.tw14826999443279808017:Nat:=0
def PySem.W.Fast.tw8983752079277641033:Nat:=0
def PySem.W.Fast.tw11130103155143807710:Nat:=0
def PySem.W.Fast.tw4648958726201199324:Nat:=0
def PySem.W.Fast.tw11760224445807435321:Nat:=0
def PySem.W.Fast.tw3680475612636445107:Nat:=0
def PySem.W.Fast.tw5000663011391753302:Nat:=0
def PySem.W.Fast.tw2150580357503363178:Nat:=0
def PySem.W.Fast.tw7811116157226997595:Nat:=0
def PySem.W.Fast.tw1197835749950219347:Nat:=0
def PySem.W.Fast.tw11932435581187293909:Nat:=0
def PySem.W.Fast.tw4395056891760919045:Nat:=0
def PySem.W.Fast.tw5841808207531099328:Nat:=0
def PySem.W.Fast.tw2785617150239134393:Nat:=0
def PySem.W.Fast.tw15508856201806119900:Nat:=0
def PySem.W.Fast.tw507681147370882232:Nat:=0
def PySem.W.Fast.tw7125045842353814494:Nat:=0
def PySem.W.Fast.tw17751443572027625615:Nat:=0
def PySem.W.Fast.tw15520445259003799551:Nat:=0
def PySem.W.Fast.tw12290304978258960616:Nat:=0
def PySem.W.Fast.tw6732143718090838831:Nat:=0
def PySem.W.Fast.tw16162307359260924014:Nat:=0
def PySem.W.Fast.tw9457841891319353780:Nat:=0
def PySem.W.Fast.tw15294054324045609942:Nat:=0
def PySem.W.Fast.tw168227363506083776:Nat:=0
def PySem.W.Fast.tw6439741456214945049:Nat:=0
def PySem.W.Fast.tw6072934431463217750:Nat:=0
def PySem.W.Fast.tw2162771445200688710:Nat:=0
def PySem.W.Fast.tw4522044492195397791:Nat:=0
def PySem.W.Fast.tw8478171456952656243:Nat:=0
def PySem.W.Fast.tw9320728874148679121:Nat:=0
def PySem.W.Fast.tw6448810872631470337:Nat:=0
def PySem.W.Fast.tw17203524232642965613:Nat:=0
def PySem.W.Fast.tw647849545144268586:Nat:=0
def PySem.W.Fast.tw14434606754152948037:Nat:=0
def PySem.W.Fast.tw1673273687792429658:Nat:=0
def PySem.W.Fast.tw7293650488761194100:Nat:=0
def PySem.W.Fast.tw3480572107846418127:Nat:=0
def PySem.W.Fast.tw2690679118626967625:Nat:=0
def PySem.W.Fast.tw585845552333996182:Nat:=0
def PySem.W.Fast.tw6592033380716999882:Nat:=0
def PySem.W.Fast.tw6959439799103343490:Nat:=0
def PySem.W.Fast.tw5758731496886646333:Nat:=0
def PySem.W.Fast.tw18432064634636445262:Nat:=0
def PySem.W.Fast.tw17078589322424458752:Nat:=0
def PySem.W.Fast.tw3587613813293479696:Nat:=0
def PySem.W.Fast.tw3975100687439598190:Nat:=0
def PySem.W.Fast.tw2326469270654789938:Nat:=0
def PySem.W.Fast.tw12202369088233507611:Nat:=0
open PySem PySem.W PyProof.Rows
set_option maxRecDepth 100000 in
set_option maxHeartbeats 0 in
theorem PySem.Challenge.cw_slitview_k15_whole_no_shorter_holds : PySem.Challenge.rw_slitview_k15_whole_no_shorter.Holds := by
 w_on; o_law; k_head; (case hw=>w_witness2)
 k_fill
 refine' K15.JP (l:=PySem.Challenge.rw_slitview_k15_whole_no_shorter) rfl rfl rfl (fun w h Y=>⟨PySem.W.km_in_of Y,PySem.W.km_tabs_of Y _ (by simp)⟩) ?T
 case T =>
  intro w
  refine' { yap:=?yap,yar:=?yar,yaq:=?yaq,yas:=?yas,yat:=?yat,yal:=?yal,yam:=?yam,yah:=?yah,yan:=?yan,yae:=?yae,yak:=?yak,yaj:=?yaj,yag:=?yag,yad:=?yad,yaz:=?yaz,yav:=?yav,yax:=?yax,yau:=?yau,yai:=?yai,yaf:=?yaf,yaw:=?yaw,yay:=?yay,yao:=?yao,yaB:=?yaB,yaC:=?yaC,yaD:=?yaD,yaE:=?yaE,yaF:=?yaF,yaG:=?yaG,yaH:=?yaH,yaI:=?yaI,yaJ:=?yaJ,yaK:=?yaK,yaL:=?yaL,yaM:=?yaM,yaP:=?yaP,yaQ:=?yaQ,yaR:=?yaR,yaS:=?yaS,yac:=?yac,yaa:=?yaa,yab:=?yab,ck:=?ck,z_least_ending:=?z_least_ending }
  (case yac=>k_is)
  (case yaa=>k_is)
  (case yab=>k_is)
  (case yap=>and_intros)
  (case yar=>and_intros)
  (case yaq=>and_intros)
  (case yas=>and_intros)
  (case yat=>and_intros)
  (case yal=>and_intros)
  (case yam=>and_intros)
  (case yah=>and_intros)
  (case yan=>and_intros)
  (case yae=>and_intros)
  (case yak=>and_intros)
  (case yaj=>and_intros)
  (case yag=>and_intros)
  (case yad=>and_intros)
  (case yaz=>and_intros)
  (case yav=>and_intros)
  (case yax=>and_intros)
  (case yau=>and_intros)
  (case yai=>and_intros)
  (case yaf=>and_intros)
  (case yaw=>and_intros)
  (case yay=>and_intros)
  (case yao=>and_intros)
  (case yaB=>k_is)
  (case yaC=>k_is)
  (case yaD=>k_is)
  (case yaE=>k_is)
  (case yaF=>k_is)
  (case yaG=>k_is)
  (case yaH=>k_is)
  (case yaI=>k_is)
  (case yaJ=>k_is)
  (case yaK=>k_is)
  (case yaL=>k_is)
  (case yaM=>k_is)
  (case yaP=>refine' Pu.JJ ?e; (case e=>k_is))
  (case yaQ=>refine' Pu.JO ?e; (case e=>k_is))
  (case yaR=>refine' Pu.JO ?e; (case e=>k_is))
  (case yaS=>refine' Pu.JO ?e; (case e=>k_is))
  (case ck=>kernel_rfl)
  (case z_least_ending=>refine⟨?u1,?u2,?u3⟩; (case u1=>kernel_rfl); (case u2=>kernel_rfl); (case u3=>kernel_rfl))
